/-
  math/bits.Div64, where the quotient has at most 64 bits (hi is less than y): it returns the quotient and the rest.
-/
import Derived.Test.YtnmlknjjbonenaaBits
import Derived.Test.YtnmlknjjbonenaaDivArith
import Derived.Deep.QuietTactic
import Derived.BigQuiet
import Derived.RowKit3
import Derived.WalkKit
import Derived.Lib.Hide
import Derived.Deep.DeepCutAuto
import Derived.Deep.CutRange
import Derived.Deep.CutBlock
namespace Go.Proofs.Ytnmlknjjbonenaa
open Go.RowKit Go.Lib

set_option maxHeartbeats 1000000 in
theorem div64_0 (lo y : Nat) (hlo : lo < 18446744073709551616) (hy : y < 18446744073709551616) (h0 : 0 < y) (w : World) :
    Calls Try.prog 35 #[.int .u64 (0 : Int), .int .u64 lo, .int .u64 y] w fun e w' => e = .returned (.tuple #[.int .u64 ((lo / y : Nat) : Int), .int .u64 ((lo % y : Nat) : Int)]) ∧ Grown w w' := by
  have e1 : ((y : Int) == 0) = false := by simp; omega
  have e2 : ¬ (y : Int) ≤ 0 := by omega
  go_enter Try.func35, Try.ntmps35
  go_wp2
  go_quiet (fail)
  go_wp2
  go_ret2
  exact ⟨by have h1 : (lo : Int) / y < 18446744073709551616 := Int.lt_of_le_of_lt (Int.ediv_le_self _ (by omega)) (by omega)
            have h2 : 0 ≤ (lo : Int) / y := Int.ediv_nonneg (by omega) (by omega)
            simp [IntKind.wrap_u64]; omega, by repeat (first | exact Grown.refl _ | apply Grown.drew | apply Grown.alloc)⟩

theorem lead64s (y s : Nat) (w : World) (hs : s = 64 - Lib.bitLen y) (h1 : y < 18446744073709551616) :
    Calls Try.prog 39 #[.int .u64 (y : Int)] w fun e w' => e = .returned (.int .i64 (s : Int)) ∧ w = w' := by
  have hl := Lib.bitLen_le y 64 (by omega) (by omega)
  refine (lead64 y w (by omega) (by omega)).mono ?_
  rintro e w' ⟨rfl, rfl⟩
  refine ⟨?_, rfl⟩
  congr 2
  rw [Int.toNat_natCast]
  omega

/-- What holds at the head of a digit's loop: q is the guess, r the rest that belongs to it, Q the digit. -/
def Dig (u a Q : Nat) (q r : Nat) : Prop := q * a + r = u ∧ r < 4294967296 ∧ Q ≤ q

set_option maxHeartbeats 2000000 in
set_option maxRecDepth 100000 in
theorem div64_1 (hi lo y s Y l h a b l1 l0 u g1 ga1 r1 Q1 m1 n1 p1 U g2 ga2 r2 Q0 m2 n2 p2 q1 q0 R : Nat) (hy : y < 18446744073709551616) (h0 : 0 < hi) (hlt : hi < y) (hs : Hid (s = 64 - Lib.bitLen y)) (hs63 : s ≤ 63)
    (hY : IntKind.u64.wrap ((y : Int) * 2 ^ s) = (Y : Int)) (hl : IntKind.u64.wrap ((lo : Int) * 2 ^ s) = (l : Int)) (hh : IntKind.u64.wrap ((hi : Int) * 2 ^ s) = (h : Int))
    (ha : (Y : Int) / 4294967296 = (a : Int)) (hb : bits .and .u64 (Y : Int) 4294967295 = (b : Int)) (hl1 : (l : Int) / 4294967296 = (l1 : Int)) (hl0 : bits .and .u64 (l : Int) 4294967295 = (l0 : Int))
    (hw : IntKind.u64.wrap (64 - (s : Int)) = ((64 - s : Nat) : Int)) (hu : bits .or .u64 (h : Int) ((lo : Int) / 2 ^ (64 - s)) = (u : Int))
    (hg1 : (u : Int) / (a : Int) = (g1 : Int)) (hgw1 : IntKind.u64.wrap (g1 : Int) = (g1 : Int)) (hgw2 : IntKind.u64.wrap (g2 : Int) = (g2 : Int)) (hga1 : IntKind.u64.wrap ((g1 : Int) * (a : Int)) = (ga1 : Int)) (hr1 : IntKind.u64.wrap ((u : Int) - (ga1 : Int)) = (r1 : Int))
    (hm1 : IntKind.u64.wrap ((u : Int) * 4294967296) = (m1 : Int)) (hn1 : IntKind.u64.wrap ((m1 : Int) + (l1 : Int)) = (n1 : Int)) (hp1 : IntKind.u64.wrap ((Q1 : Int) * (Y : Int)) = (p1 : Int)) (hU : IntKind.u64.wrap ((n1 : Int) - (p1 : Int)) = (U : Int))
    (hg2 : (U : Int) / (a : Int) = (g2 : Int)) (hga2 : IntKind.u64.wrap ((g2 : Int) * (a : Int)) = (ga2 : Int)) (hr2 : IntKind.u64.wrap ((U : Int) - (ga2 : Int)) = (r2 : Int))
    (hm2 : IntKind.u64.wrap ((U : Int) * 4294967296) = (m2 : Int)) (hn2 : IntKind.u64.wrap ((m2 : Int) + (l0 : Int)) = (n2 : Int)) (hp2 : IntKind.u64.wrap ((Q0 : Int) * (Y : Int)) = (p2 : Int)) (hR : IntKind.u64.wrap ((n2 : Int) - (p2 : Int)) = (R : Int))
    (hq1 : IntKind.u64.wrap ((Q1 : Int) * 4294967296) = (q1 : Int)) (hq0 : IntKind.u64.wrap ((q1 : Int) + (Q0 : Int)) = (q0 : Int))
    (hd1 : Dig u a Q1 g1 r1) (hd2 : Dig U a Q0 g2 r2) (hQ1 : Hid (Q1 = (u * 4294967296 + l1) / (a * 4294967296 + b))) (hQ0 : Hid (Q0 = (U * 4294967296 + l0) / (a * 4294967296 + b)))
    (Hu1 : Hid (u < a * 4294967296 + b)) (HU1 : Hid (U < a * 4294967296 + b)) (ha1 : a < 4294967296) (hb1 : b < 4294967296) (hl11 : l1 < 4294967296) (hl01 : l0 < 4294967296)
    (ha0 : 2147483648 ≤ a) (w : World) :
    Calls Try.prog 35 #[.int .u64 hi, .int .u64 lo, .int .u64 y] w fun e w' => e = .returned (.tuple #[.int .u64 (q0 : Int), .int .u64 ((R : Int) / 2 ^ s)]) ∧ w = w' := by
  have e1 : ((y : Int) == 0) = false := by simp; omega
  have e2 : ¬ (y : Int) ≤ (hi : Int) := by omega
  have e3 : ((hi : Int) == 0) = false := by simp; omega
  have e4 : min s 64 = s := by omega
  have e5 : min (64 - s) 64 = 64 - s := by omega
  go_enter Try.func35, Try.ntmps35
  go_upto_block 0 with (go_at_call 39; refine (lead64s y s _ hs.out hy).mono ?_; rintro e w' ⟨rfl, rfl⟩)
  go_cut [15, 16] from 67 to 85 (fun s15 _ wx => s15 = .int .u64 (Q1 : Int) ∧ wx = w)
  case first =>
    go_wp2_with fail
    have HD := Lib.hid hd1
    clear hd1
    go_loopg [15, 16] g1 (fun k sq sr wr => ∃ (r : Nat) (qi ri : Int), sq = .int .u64 qi ∧ sr = .int .u64 ri ∧ Hid (qi = k ∧ ri = r ∧ Dig u a Q1 k r) ∧ wr = w)
    case atStart => exact ⟨r1, _, _, rfl, rfl, Lib.hid ⟨rfl, rfl, HD.out⟩, rfl⟩
    case round =>
      obtain ⟨r, qi, ri, rfl, rfl, Hrel, rfl⟩ := hrel
      have hu1 := Hu1.out
      obtain ⟨hqi, hri, hu', hr', hq'⟩ := Hrel.out
      obtain ⟨B, hB⟩ : ∃ B, B = gk * b := ⟨_, rfl⟩
      obtain ⟨Bi, hBi⟩ : ∃ Bi : Int, Bi = (B : Int) := ⟨_, rfl⟩
      have hB' : gk < 4294967296 → B < 18446744073709551616 := fun h => by
        have h1 : gk * b ≤ 4294967295 * b := Nat.mul_le_mul_right b (by omega)
        omega
      have hh := DivA.head u l1 a b gk r hu1 hl11 hu'
      rw [← hQ1.out, ← hB] at hh
      have k3 : gk < 4294967296 → IntKind.u64.wrap (qi * (b : Int)) = Bi := fun h => by
        have := hB' h
        rw [hBi, hB, hqi, Int.natCast_mul, IntKind.wrap_u64, ← Int.natCast_mul, ← hB]; omega
      have ho := DivA.out u l1 a b (gk - 1) (r + a) hb1 hu1
      rw [← hQ1.out] at ho
      have hs1 : gk ≠ 0 → (gk - 1) * a + (r + a) = u := fun h => by
        have e : gk * a = (gk - 1) * a + a := by rw [← Nat.succ_mul, Nat.succ_eq_add_one, Nat.sub_add_cancel (by omega)]
        omega
      have hg64 : gk ≤ u := by
        have := Nat.le_mul_of_pos_right gk (show 0 < a by omega)
        omega
      obtain ⟨M, hM⟩ : ∃ M : Int, M = 4294967296 * ri := ⟨_, rfl⟩
      obtain ⟨N, hN⟩ : ∃ N : Int, N = M + (l1 : Int) := ⟨_, rfl⟩
      have k4 : IntKind.u64.wrap (4294967296 * ri) = M := by rw [IntKind.wrap_u64]; omega
      have k5 : IntKind.u64.wrap (M + (l1 : Int)) = N := by rw [IntKind.wrap_u64]; omega
      by_cases hc : Q1 < gk
      · have hx := hh.1 hc
        obtain ⟨q', hq''⟩ : ∃ q' : Int, q' = qi - 1 := ⟨_, rfl⟩
        obtain ⟨r', hr''⟩ : ∃ r' : Int, r' = ri + (a : Int) := ⟨_, rfl⟩
        have k1 : IntKind.u64.wrap (qi - 1) = q' := by rw [IntKind.wrap_u64]; omega
        have k2 : IntKind.u64.wrap (ri + (a : Int)) = r' := by rw [IntKind.wrap_u64]; omega
        have hs2 := hs1 (by omega)
        have ho2 := ho hs2
        have HN : Hid (q' = ((gk - 1 : Nat) : Int) ∧ r' = ((r + a : Nat) : Int) ∧ (gk - 1) * a + (r + a) = u ∧ Q1 ≤ gk - 1) := Lib.hid ⟨by omega, by omega, hs2, by omega⟩
        have HM : Hid (4294967296 ≤ r' → gk - 1 = Q1) := Lib.hid fun h => by
          have := ho2 (by omega)
          omega
        have HG : Hid (gk - 1 < gk) := Lib.hid (by omega)
        by_cases c1 : 4294967296 ≤ qi
        · clear hh hx ho hs1 hM hN k3 hB' hq' hr' hc hu' hu1 hB hBi hqi hri hg64 hs2 ho2 hq'' hr'' Hrel
          by_cases c2 : 4294967296 ≤ r'
          · have HE := Lib.hid (HM.out c2)
            go_wp2
            go_meet
            case rel => exact ⟨by rw [HN.out.1, HE.out], rfl⟩
          · have HL := Lib.hid c2
            go_wp2
            go_roundg (gk - 1)
            case measure => exact HG.out
            case rel =>
              obtain ⟨n1, n2, n3, n4⟩ := HN.out
              exact ⟨_, _, _, rfl, rfl, Lib.hid ⟨n1, n2, n3, by have := HL.out; omega, n4⟩, rfl⟩
        · have k3' := k3 (by omega)
          have c3 : N < Bi := by omega
          clear hh hx ho hs1 hM hN k3 hB' hq' hr' hc hu' hu1 hB hBi hqi hri hg64 hs2 ho2 hq'' hr'' Hrel
          by_cases c2 : 4294967296 ≤ r'
          · have HE := Lib.hid (HM.out c2)
            go_wp2
            go_meet
            case rel => exact ⟨by rw [HN.out.1, HE.out], rfl⟩
          · have HL := Lib.hid c2
            go_wp2
            go_roundg (gk - 1)
            case measure => exact HG.out
            case rel =>
              obtain ⟨n1, n2, n3, n4⟩ := HN.out
              exact ⟨_, _, _, rfl, rfl, Lib.hid ⟨n1, n2, n3, by have := HL.out; omega, n4⟩, rfl⟩
      · have hx : ¬ (4294967296 ≤ gk ∨ r * 4294967296 + l1 < B) := fun h => hc (hh.2 h)
        have hgk : gk = Q1 := by omega
        have c1 : qi < 4294967296 := by omega
        have c2 : ¬ N < Bi := by omega
        have k3' := k3 (by omega)
        have HX : Hid (qi = (Q1 : Int)) := Lib.hid (by omega)
        clear hh hx ho hs1 hM hN k3 hB' hgk hq' hr' hc hu' hu1 hB hBi hqi hri hg64 Hrel
        go_wp2
        go_meet
        case rel => exact ⟨by rw [HX.out], rfl⟩
  case rest =>
    obtain ⟨rfl, rfl⟩ := hcut
    go_upto_block 2 with fail
    go_cut [18, 16] from 102 to 120 (fun s18 _ wx => s18 = .int .u64 (Q0 : Int) ∧ wx = wc)
    case first =>
      go_wp2_with fail
      have HD := Lib.hid hd2
      clear hd2
      go_loopg [18, 16] g2 (fun k sq sr wr => ∃ (r : Nat) (qi ri : Int), sq = .int .u64 qi ∧ sr = .int .u64 ri ∧ Hid (qi = k ∧ ri = r ∧ Dig U a Q0 k r) ∧ wr = wc)
      case atStart => exact ⟨r2, _, _, rfl, rfl, Lib.hid ⟨rfl, rfl, HD.out⟩, rfl⟩
      case round =>
        obtain ⟨r, qi, ri, rfl, rfl, Hrel, rfl⟩ := hrel
        have hU1 := HU1.out
        obtain ⟨hqi, hri, hu', hr', hq'⟩ := Hrel.out
        obtain ⟨B, hB⟩ : ∃ B, B = gk * b := ⟨_, rfl⟩
        obtain ⟨Bi, hBi⟩ : ∃ Bi : Int, Bi = (B : Int) := ⟨_, rfl⟩
        have hB' : gk < 4294967296 → B < 18446744073709551616 := fun h => by
          have h1 : gk * b ≤ 4294967295 * b := Nat.mul_le_mul_right b (by omega)
          omega
        have hh := DivA.head U l0 a b gk r hU1 hl01 hu'
        rw [← hQ0.out, ← hB] at hh
        have k3 : gk < 4294967296 → IntKind.u64.wrap (qi * (b : Int)) = Bi := fun h => by
          have := hB' h
          rw [hBi, hB, hqi, Int.natCast_mul, IntKind.wrap_u64, ← Int.natCast_mul, ← hB]; omega
        have ho := DivA.out U l0 a b (gk - 1) (r + a) hb1 hU1
        rw [← hQ0.out] at ho
        have hs1 : gk ≠ 0 → (gk - 1) * a + (r + a) = U := fun h => by
          have e : gk * a = (gk - 1) * a + a := by rw [← Nat.succ_mul, Nat.succ_eq_add_one, Nat.sub_add_cancel (by omega)]
          omega
        have hg64 : gk ≤ U := by
          have := Nat.le_mul_of_pos_right gk (show 0 < a by omega)
          omega
        obtain ⟨M, hM⟩ : ∃ M : Int, M = 4294967296 * ri := ⟨_, rfl⟩
        obtain ⟨N, hN⟩ : ∃ N : Int, N = M + (l0 : Int) := ⟨_, rfl⟩
        have k4 : IntKind.u64.wrap (4294967296 * ri) = M := by rw [IntKind.wrap_u64]; omega
        have k5 : IntKind.u64.wrap (M + (l0 : Int)) = N := by rw [IntKind.wrap_u64]; omega
        by_cases hc : Q0 < gk
        · have hx := hh.1 hc
          obtain ⟨q', hq''⟩ : ∃ q' : Int, q' = qi - 1 := ⟨_, rfl⟩
          obtain ⟨r', hr''⟩ : ∃ r' : Int, r' = ri + (a : Int) := ⟨_, rfl⟩
          have k1 : IntKind.u64.wrap (qi - 1) = q' := by rw [IntKind.wrap_u64]; omega
          have k2 : IntKind.u64.wrap (ri + (a : Int)) = r' := by rw [IntKind.wrap_u64]; omega
          have hs2 := hs1 (by omega)
          have ho2 := ho hs2
          have HN : Hid (q' = ((gk - 1 : Nat) : Int) ∧ r' = ((r + a : Nat) : Int) ∧ (gk - 1) * a + (r + a) = U ∧ Q0 ≤ gk - 1) := Lib.hid ⟨by omega, by omega, hs2, by omega⟩
          have HM : Hid (4294967296 ≤ r' → gk - 1 = Q0) := Lib.hid fun h => by
            have := ho2 (by omega)
            omega
          have HG : Hid (gk - 1 < gk) := Lib.hid (by omega)
          by_cases c1 : 4294967296 ≤ qi
          · clear hh hx ho hs1 hM hN k3 hB' hq' hr' hc hu' hU1 hB hBi hqi hri hg64 hs2 ho2 hq'' hr'' Hrel
            by_cases c2 : 4294967296 ≤ r'
            · have HE := Lib.hid (HM.out c2)
              go_wp2
              go_meet
              case rel => exact ⟨by rw [HN.out.1, HE.out], rfl⟩
            · have HL := Lib.hid c2
              go_wp2
              go_roundg (gk - 1)
              case measure => exact HG.out
              case rel =>
                obtain ⟨n1, n2, n3, n4⟩ := HN.out
                exact ⟨_, _, _, rfl, rfl, Lib.hid ⟨n1, n2, n3, by have := HL.out; omega, n4⟩, rfl⟩
          · have k3' := k3 (by omega)
            have c3 : N < Bi := by omega
            clear hh hx ho hs1 hM hN k3 hB' hq' hr' hc hu' hU1 hB hBi hqi hri hg64 hs2 ho2 hq'' hr'' Hrel
            by_cases c2 : 4294967296 ≤ r'
            · have HE := Lib.hid (HM.out c2)
              go_wp2
              go_meet
              case rel => exact ⟨by rw [HN.out.1, HE.out], rfl⟩
            · have HL := Lib.hid c2
              go_wp2
              go_roundg (gk - 1)
              case measure => exact HG.out
              case rel =>
                obtain ⟨n1, n2, n3, n4⟩ := HN.out
                exact ⟨_, _, _, rfl, rfl, Lib.hid ⟨n1, n2, n3, by have := HL.out; omega, n4⟩, rfl⟩
        · have hx : ¬ (4294967296 ≤ gk ∨ r * 4294967296 + l0 < B) := fun h => hc (hh.2 h)
          have hgk : gk = Q0 := by omega
          have c1 : qi < 4294967296 := by omega
          have c2 : ¬ N < Bi := by omega
          have k3' := k3 (by omega)
          have HX : Hid (qi = (Q0 : Int)) := Lib.hid (by omega)
          clear hh hx ho hs1 hM hN k3 hB' hgk hq' hr' hc hu' hU1 hB hBi hqi hri hg64 Hrel
          go_wp2
          go_meet
          case rel => exact ⟨by rw [HX.out], rfl⟩
    case rest =>
      obtain ⟨rfl, rfl⟩ := hcut
      go_wp2
      go_ret2
      exact ⟨rfl, rfl⟩

theorem or_add (hi x s : Nat) (hx : x < 2 ^ s) (hs : s ≤ 64) (h : hi * 2 ^ s < 18446744073709551616) : bits .or .u64 ((hi * 2 ^ s : Nat) : Int) (x : Int) = ((hi * 2 ^ s + x : Nat) : Int) := by
  have h1 := Nat.shiftLeft_add_eq_or_of_lt hx hi
  rw [Nat.shiftLeft_eq] at h1
  have h2 : 2 ^ s ≤ 2 ^ 64 := Nat.pow_le_pow_right (by omega) hs
  have h3 := bits_or_u64_nat (hi * 2 ^ s) x h (by omega)
  rw [← h1] at h3
  exact h3

/-- A digit's first guess and what is left belong together. -/
theorem dig_start (u d a b : Nat) (ha : 0 < a) (ha1 : a ≤ 4294967296) (hd : d < 4294967296) : Dig u a ((u * 4294967296 + d) / (a * 4294967296 + b)) (u / a) (u % a) := by
  refine ⟨?_, ?_, DivA.guess u d a b ha hd⟩
  · rw [Nat.mul_comm]; exact Nat.div_add_mod u a
  · have := Nat.mod_lt u ha
    omega

theorem wrap_le (x : Nat) (hx : x < 18446744073709551616) : IntKind.u64.wrap (x : Int) = (x : Int) := by rw [IntKind.wrap_u64]; omega
theorem wrap_mod (x : Nat) : IntKind.u64.wrap (x : Int) = ((x % 18446744073709551616 : Nat) : Int) := by rw [IntKind.wrap_u64]; omega

/-- What is left behind a digit: the words wrap, the result does not. -/
theorem left_behind (u d q Y U : Nat) (hU : U < 18446744073709551616) (h : u * 4294967296 + d = Y * q + U) :
    IntKind.u64.wrap (((((u * 4294967296) % 18446744073709551616 + d) % 18446744073709551616 : Nat) : Int) - (((q * Y) % 18446744073709551616 : Nat) : Int)) = (U : Int) := by
  rw [Nat.mul_comm Y q] at h
  obtain ⟨P, hP⟩ : ∃ P, q * Y = P := ⟨_, rfl⟩
  obtain ⟨M, hM⟩ : ∃ M, u * 4294967296 = M := ⟨_, rfl⟩
  rw [hP, hM] at h
  rw [hP, hM, IntKind.wrap_u64]
  omega

theorem sub_mod (u a : Nat) (hu : u < 18446744073709551616) : IntKind.u64.wrap ((u : Int) - ((u / a * a : Nat) : Int)) = ((u % a : Nat) : Int) := by
  have h := Nat.div_add_mod u a
  rw [Nat.mul_comm] at h
  rw [IntKind.wrap_u64]
  omega
end Go.Proofs.Ytnmlknjjbonenaa
