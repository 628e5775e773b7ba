/-
  Lengths of differences: plain arithmetic for the laws of package vec.
-/
import Derived.Test.YtohkacgmdboknaaVecLen
namespace Go.Proofs.Ytohkacgmdboknaa
open Go.RowKit Go.Lib

theorem lag (a b c d : Int) : (a * a + b * b) * (c * c + d * d) = (a * c + b * d) * (a * c + b * d) + (a * d - b * c) * (a * d - b * c) := by grind
theorem sq_nn (x : Int) : 0 ≤ x * x := by
  by_cases c : 0 ≤ x
  · exact Int.mul_nonneg c c
  · rw [← Int.neg_mul_neg]; exact Int.mul_nonneg (by omega) (by omega)
theorem mul_lt {x y p q : Int} (hx : 0 ≤ x) (hy : 0 ≤ y) (h1 : x < p) (h2 : y < q) : x * y < p * q := by
  have a := Int.mul_le_mul (show x ≤ p - 1 by omega) (show y ≤ q - 1 by omega) hy (show 0 ≤ p - 1 by omega)
  have e : (p - 1) * (q - 1) = p * q - p - q + 1 := by grind
  omega

theorem tri {n p q a b c d : Int} (hn : IsRoot n (lsq (a + c) (b + d))) (hp : IsRoot p (lsq a b)) (hq : IsRoot q (lsq c d)) : n ≤ p + q + 2 := by
  obtain ⟨n0, n1, _⟩ := hn
  obtain ⟨p0, _, p2⟩ := hp
  obtain ⟨q0, _, q2⟩ := hq
  have e1 : lsq (a + c) (b + d) = lsq a b + lsq c d + 2 * (a * c + b * d) := by unfold lsq; grind
  have hX : 0 ≤ lsq a b := by unfold lsq; have := sq_nn a; have := sq_nn b; omega
  have hY : 0 ≤ lsq c d := by unfold lsq; have := sq_nn c; have := sq_nn d; omega
  have hl : (a * c + b * d) * (a * c + b * d) ≤ lsq a b * lsq c d := by
    have := lag a b c d; have := sq_nn (a * d - b * c); unfold lsq; omega
  have hm := mul_lt hX hY p2 q2
  obtain ⟨t, ht⟩ : ∃ t, t = a * c + b * d := ⟨_, rfl⟩
  rw [← ht] at e1 hl
  have e2 : (p + 1) * (p + 1) * ((q + 1) * (q + 1)) = ((p + 1) * (q + 1)) * ((p + 1) * (q + 1)) := by grind
  have h0 : 0 ≤ (p + 1) * (q + 1) := Int.mul_nonneg (by omega) (by omega)
  have htt : t < (p + 1) * (q + 1) := by
    by_cases c : t < (p + 1) * (q + 1)
    · exact c
    · have := sq_le h0 (show (p + 1) * (q + 1) ≤ t by omega); omega
  have e3 : (p + q + 2) * (p + q + 2) = (p + 1) * (p + 1) + (q + 1) * (q + 1) + 2 * ((p + 1) * (q + 1)) := by grind
  by_cases c : n ≤ p + q + 2
  · exact c
  · have := sq_le (show 0 ≤ p + q + 2 by omega) (show p + q + 2 ≤ n by omega); omega

theorem len_le {n a b x y : Int} (hn : IsRoot n (lsq a b)) (hx : 0 ≤ x) (hy : 0 ≤ y) (ex : a * a = x * x) (ey : b * b = y * y) : n ≤ x + y := by
  have n1 := hn.2.1
  have e : (x + y) * (x + y) = x * x + y * y + 2 * (x * y) := by grind
  have := Int.mul_nonneg hx hy
  unfold lsq at n1
  exact (sq_le_iff hn.1 (show 0 ≤ x + y by omega)).mp (by omega)

theorem un_sq {a b n x y : Int} (hn : IsRoot n (lsq a b)) (h : 4096 ≤ n) (hx : un a n = x) (hy : un b n = y) : 4290672329 ≤ lsq x y ∧ lsq x y ≤ 4299262263 := by
  obtain ⟨⟨a1, a2⟩, b1, b2⟩ := root_ge hn
  obtain ⟨_, n1, n2⟩ := hn
  have dx := Int.mul_ediv_add_emod (a * 65536) n
  have rx0 := Int.emod_nonneg (a * 65536) (show n ≠ 0 by omega)
  have rx1 := Int.emod_lt_of_pos (a * 65536) (show 0 < n by omega)
  have dy := Int.mul_ediv_add_emod (b * 65536) n
  have ry0 := Int.emod_nonneg (b * 65536) (show n ≠ 0 by omega)
  have ry1 := Int.emod_lt_of_pos (b * 65536) (show 0 < n by omega)
  unfold un at hx hy
  rw [hx] at dx
  rw [hy] at dy
  obtain ⟨r, hr⟩ : ∃ r, r = a * 65536 % n := ⟨_, rfl⟩
  obtain ⟨s, hs⟩ : ∃ s, s = b * 65536 % n := ⟨_, rfl⟩
  rw [← hr] at dx rx0 rx1
  rw [← hs] at dy ry0 ry1
  clear hx hy hr hs
  have k : ∀ u v : Int, -n ≤ u → u ≤ n → 0 ≤ v → v < n → -(n * n) ≤ u * v ∧ u * v ≤ n * n := fun u v p q f g => by
    by_cases c : 0 ≤ u
    · have := Int.mul_le_mul q (show v ≤ n by omega) f (by omega)
      have := Int.mul_nonneg c f
      have := sq_nn n
      omega
    · have := Int.mul_le_mul (show -u ≤ n by omega) (show v ≤ n by omega) f (by omega)
      have := Int.mul_nonneg (show 0 ≤ -u by omega) f
      rw [Int.neg_mul] at *
      have := sq_nn n
      omega
  have ka := k a r a1 a2 rx0 rx1
  have kb := k b s b1 b2 ry0 ry1
  have kr := k r r (by omega) (by omega) rx0 rx1
  have ks := k s s (by omega) (by omega) ry0 ry1
  have kr0 := sq_nn r
  have ks0 := sq_nn s
  have kn : n * 4096 ≤ n * n := Int.mul_le_mul_of_nonneg_left h (by omega)
  have e : n * n * lsq x y = 4294967296 * lsq a b - 131072 * (a * r + b * s) + r * r + s * s := by
    have e1 : n * x = a * 65536 - r := by omega
    have e2 : n * y = b * 65536 - s := by omega
    have e3 : n * n * lsq x y = (n * x) * (n * x) + (n * y) * (n * y) := by unfold lsq; grind
    rw [e3, e1, e2]
    unfold lsq
    grind
  have e4 := sq_succ n
  have N0 : 0 < n * n := Int.mul_pos (by omega) (by omega)
  constructor
  · refine Int.le_of_mul_le_mul_left (a := n * n) ?_ N0
    rw [e]; omega
  · refine Int.le_of_mul_le_mul_left (a := n * n) ?_ N0
    rw [e]; omega
end Go.Proofs.Ytohkacgmdboknaa
