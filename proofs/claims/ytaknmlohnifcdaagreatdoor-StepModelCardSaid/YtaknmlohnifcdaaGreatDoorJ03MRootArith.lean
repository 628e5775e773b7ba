import Derived.Test.YtaknmlohnifcdaaGreatDoorProg
import Derived.WalkKit
import Derived.Lib.EndianBits
import Derived.Lib.Walk
import Derived.Lib.Hide
import Derived.Lib.Small
import Derived.Laws.Bits64b
import Derived.Test.YtaknmlohnifcdaaGreatDoorJ02MSeq
import Derived.Test.YtaknmlohnifcdaaGreatDoorJ00MBits
import Derived.Deep.QuietTactic
import Derived.BigQuiet
import Derived.Deep.RegionHeld3
import Derived.StillTailTactics
set_option maxHeartbeats 2000000
set_option maxRecDepth 100000
section
namespace Go.Proofs.YtaknmlohnifcdaaGreatDoor

def IsRoot (r n : Int) : Prop := 0 ≤ r ∧ r * r ≤ n ∧ n < (r + 1) * (r + 1)
theorem sq_le {a b : Int} (h0 : 0 ≤ a) (h : a ≤ b) : a * a ≤ b * b := Int.mul_le_mul h h h0 (by omega)
theorem IsRoot.iff {r n t : Int} (h : IsRoot r n) (ht : 0 ≤ t) : t * t ≤ n ↔ t ≤ r := by
 obtain ⟨h0, h1, h2⟩ := h
 constructor
 ·intro c
  by_cases d : t ≤ r
  ·exact d
  ·have := sq_le (a := r + 1) (b := t) (by omega) (by omega); omega
 ·intro c
  have := sq_le ht c
  omega
theorem IsRoot.unique {r s n : Int} (h : IsRoot r n) (g : IsRoot s n) : r = s := by
 have a := (h.iff g.1).mp g.2.1
 have b := (g.iff h.1).mp h.2.1
 omega
theorem IsRoot.mono {r s n m : Int} (h : IsRoot r n) (g : IsRoot s m) (hn : n ≤ m) : r ≤ s :=
 (g.iff h.1).mp (Int.le_trans h.2.1 hn)
theorem IsRoot.le_max {r n : Int} (h : IsRoot r n) (hn : n < 18446744073709551616) : r ≤ 4294967295 := by
 by_cases c : r ≤ 4294967295
 ·exact c
 ·have := (h.iff (t := 4294967296) (by decide)).mpr (by omega)
  omega
def rtN : Nat → Nat
 | 0 => 0
 | n + 1 => if (rtN n + 1) * (rtN n + 1) ≤ n + 1 then rtN n + 1 else rtN n

theorem rtN_is : ∀ n : Nat, rtN n * rtN n ≤ n ∧ n < (rtN n + 1) * (rtN n + 1)
 | 0 => by decide
 | n + 1 => by
   obtain ⟨a, b⟩ := rtN_is n
   rw [rtN]
   split
   ·rename_i c
    refine ⟨c, ?_⟩
    have e : (rtN n + 1 + 1) * (rtN n + 1 + 1) = (rtN n + 1) * (rtN n + 1) + 2 * (rtN n + 1) + 1 := by rw [Nat.add_mul, Nat.mul_add]; omega
    omega
   ·exact ⟨by omega, by omega⟩

def rt (n : Int) : Int := (rtN n.toNat : Int)

theorem rt_is {n : Int} (h : 0 ≤ n) : IsRoot (rt n) n := by
 obtain ⟨m, rfl⟩ := Int.eq_ofNat_of_zero_le h
 obtain ⟨a, b⟩ := rtN_is m
 have e : rt (m : Int) = (rtN m : Int) := rfl
 rw [e]
 refine ⟨by omega, ?_, ?_⟩
 ·rw [← Int.natCast_mul]; omega
 ·have : ((rtN m : Int) + 1) * ((rtN m : Int) + 1) = (((rtN m + 1) * (rtN m + 1) : Nat) : Int) := by rw [Int.natCast_mul]; rfl
  rw [this]; omega
theorem rt_eq {r n : Int} (h : IsRoot r n) : rt n = r := by
 have h0 : 0 ≤ n := by
  have := Int.mul_nonneg h.1 h.1
  have := h.2.1; omega
 exact (rt_is h0).unique h

end Go.Proofs.YtaknmlohnifcdaaGreatDoor
end
section
namespace Go.Proofs.YtaknmlohnifcdaaGreatDoor

def limP (n d : Int) : Int := if n < 0 then 0 else if d < n then d else n
def sqP (dx dy : Int) : Int := dx * dx + dy * dy
def paP (ux uy dx dy : Int) : Int := limP (ux * dx + uy * dy) (sqP dx dy)
def stP (dx n d : Int) : Int := if d = 0 then 0 else dx * n / d
theorem limP_in {n d : Int} (h : 0 ≤ d) : 0 ≤ limP n d ∧ limP n d ≤ d := by
 unfold limP
 split
 ·omega
 ·split <;> omega
theorem sqP_nn (dx dy : Int) : 0 ≤ sqP dx dy := by
 unfold sqP
 have h1 : 0 ≤ dx * dx := by rcases Int.le_total 0 dx with h | h; exact Int.mul_nonneg h h; exact Int.mul_nonneg_of_nonpos_of_nonpos h h
 have h2 : 0 ≤ dy * dy := by rcases Int.le_total 0 dy with h | h; exact Int.mul_nonneg h h; exact Int.mul_nonneg_of_nonpos_of_nonpos h h
 omega
theorem paP_in (ux uy dx dy : Int) : 0 ≤ paP ux uy dx dy ∧ paP ux uy dx dy ≤ sqP dx dy := limP_in (sqP_nn dx dy)
theorem stP_in {dx n d : Int} (h0 : 0 ≤ n) (h1 : n ≤ d) : min 0 dx ≤ stP dx n d ∧ stP dx n d ≤ max 0 dx := by
 unfold stP
 split
 ·omega
 ·have hd : 0 < d := by omega
  have e1 : dx * d / d = dx := Int.mul_ediv_cancel dx (by omega)
  have e2 : (0 : Int) * d / d = 0 := by simp
  rcases Int.le_total 0 dx with c | c
  ·have a1 : dx * n ≤ dx * d := Int.mul_le_mul_of_nonneg_left h1 c
   have a2 : 0 ≤ dx * n := Int.mul_nonneg c h0
   have b1 := Int.ediv_le_ediv hd a1
   have b2 := Int.ediv_nonneg a2 (by omega : 0 ≤ d)
   rw [e1] at b1
   omega
  ·have a1 : dx * d ≤ dx * n := Int.mul_le_mul_of_nonpos_left c h1
   have a2 : dx * n ≤ 0 := Int.mul_nonpos_of_nonpos_of_nonneg c h0
   have b1 := Int.ediv_le_ediv hd a1
   have b2 := Int.ediv_le_ediv hd (show dx * n ≤ 0 * d by omega)
   rw [e1] at b1
   rw [e2] at b2
   omega
theorem stP_zero (dx d : Int) : stP dx 0 d = 0 := by
 unfold stP
 split
 ·rfl
 ·simp
end Go.Proofs.YtaknmlohnifcdaaGreatDoor
end
section
namespace Go.Proofs.YtaknmlohnifcdaaGreatDoor

def sq2 (a b : Int) : Int := a * a + b * b
theorem sq2_neg (a b c d : Int) : sq2 (a - b) (c - d) = sq2 (b - a) (d - c) := by unfold sq2; grind
def nX (px py qx qy cx cy : Int) : Int := px + stP (qx - px) (paP (cx - px) (cy - py) (qx - px) (qy - py)) (sqP (qx - px) (qy - py))
def nY (px py qx qy cx cy : Int) : Int := py + stP (qy - py) (paP (cx - px) (cy - py) (qx - px) (qy - py)) (sqP (qx - px) (qy - py))
structure Tw where
 a : Int
 b : Int
 c : Int
 d : Int
 t : Int
def mkT (a b c d : Int) : Tw := ⟨a, b, c, d, sq2 (c - a) (d - b)⟩
def pk (u v : Tw) : Tw := if v.t < u.t then v else u
def tw0 (a b _c _d e f g h : Int) : Tw := mkT a b (nX e f g h a b) (nY e f g h a b)
def tw1 (_a _b c d e f g h : Int) : Tw := mkT c d (nX e f g h c d) (nY e f g h c d)
def tw2 (a b c d e f _g _h : Int) : Tw := mkT (nX a b c d e f) (nY a b c d e f) e f
def tw3 (a b c d _e _f g h : Int) : Tw := mkT (nX a b c d g h) (nY a b c d g h) g h
def chs (a b c d e f g h : Int) : Tw := pk (pk (pk (tw0 a b c d e f g h) (tw1 a b c d e f g h)) (tw2 a b c d e f g h)) (tw3 a b c d e f g h)
theorem pk_or (u v : Tw) : pk u v = u ∨ pk u v = v := by
 unfold pk
 split
 ·exact .inr rfl
 ·exact .inl rfl
theorem chs_or (a b c d e f g h : Int) : chs a b c d e f g h = tw0 a b c d e f g h ∨ chs a b c d e f g h = tw1 a b c d e f g h ∨ chs a b c d e f g h = tw2 a b c d e f g h ∨ chs a b c d e f g h = tw3 a b c d e f g h := by
 unfold chs
 rcases pk_or (pk (pk (tw0 a b c d e f g h) (tw1 a b c d e f g h)) (tw2 a b c d e f g h)) (tw3 a b c d e f g h) with q | q
 ·rw [q]
  rcases pk_or (pk (tw0 a b c d e f g h) (tw1 a b c d e f g h)) (tw2 a b c d e f g h) with q | q
  ·rw [q]
   rcases pk_or (tw0 a b c d e f g h) (tw1 a b c d e f g h) with q | q
   ·exact .inl q
   ·exact .inr (.inl q)
  ·exact .inr (.inr (.inl q))
 ·exact .inr (.inr (.inr q))
theorem nX_pt (p q c d : Int) : nX p q p q c d = p ∧ nY p q p q c d = q := by
 unfold nX nY stP
 rw [Int.sub_self, Int.sub_self]
 have e : sqP 0 0 = 0 := rfl
 rw [e, if_pos rfl]
 omega
end Go.Proofs.YtaknmlohnifcdaaGreatDoor
end
namespace Go.Proofs.YtaknmlohnifcdaaGreatDoor
open Go.RowKit Go.Lib
theorem or_join (x y : Int) (e : Nat) (hx0 : 0 ≤ x) (hx : x % 2 ^ e = 0) (hx1 : x < 18446744073709551616) (hy0 : 0 ≤ y) (hy : y < 2 ^ e) (hy1 : y < 18446744073709551616) : bits .or .u64 x y = x + y :=
 bits_join .u64 64 (by decide) wraps_u64 e x y hx0 hx (by omega) hy0 hy (by omega)

theorem isqrt_any (n r : Int) (hr : Hid (IsRoot r n)) (h1 : n < 18446744073709551616) (w : World) :
 Calls Tryz.prog 124 #[.int .u64 n] w fun e w' => e = .returned (.int .u64 r) ∧ w = w' := by
 go_enter Tryz.func124, Tryz.ntmps124
 go_wp2
 go_loop [3, 4, 6] (fun a m i => ∃ (e : Nat) (ai mi ki q : Int), a = .int .u64 ai ∧ m = .int .u64 mi ∧ i = .int .i64 ki ∧ 0 ≤ ki ∧ ki ≤ 32 ∧ 0 ≤ ai ∧ 0 ≤ mi ∧ Hid (ki + e = 32 ∧ mi = 2 ^ e / 2 ∧ ai = 2 ^ e * q ∧ ai ≤ r ∧ r < ai + 2 ^ e ∧ ai + 2 ^ e ≤ 4294967296)) (fun _ _ i => (32 - RowKit.intOf i).toNat)
 case atStart =>
  have := hr.out.le_max h1
  have := hr.out.1
  exact ⟨32, _, _, _, 0, rfl, rfl, rfl, by omega, by omega, by omega, by omega, Lib.hid ⟨by omega, by omega, by omega, by omega, by omega, by omega⟩⟩
 case round =>
  obtain ⟨e, ai, mi, ki, q, rfl, rfl, rfl, hk0, hk1, ha0, hm0, H⟩ := hrel
  by_cases hc : ki < 32
  ·have hrm := hr.out.le_max h1
   obtain ⟨t, ht⟩ : ∃ t, t = ai + mi := ⟨_, rfl⟩
   obtain ⟨s, hs⟩ : ∃ s, s = t * t := ⟨_, rfl⟩
   obtain ⟨m', hm'⟩ : ∃ m', m' = mi / 2 := ⟨_, rfl⟩
   obtain ⟨k', hk'⟩ : ∃ k', k' = ki + 1 := ⟨_, rfl⟩
   obtain ⟨E, rfl⟩ : ∃ E, e = E + 1 := ⟨e - 1, by have := H.out.1; omega⟩
   have hP : (2 : Int) ^ (E + 1) = 2 * 2 ^ E := by rw [Int.pow_succ]; omega
   have hPp : (1 : Int) ≤ 2 ^ E := Int.pow_pos (by decide)
   have hP31 : (2 : Int) ^ E ≤ 2147483648 := by
    have hE : E ≤ 31 := by have := H.out.1; omega
    have h2 : 2 ^ E ≤ 2 ^ 31 := Nat.pow_le_pow_right (n := 2) (by decide) hE
    have h3 : ((2 ^ E : Nat) : Int) ≤ ((2 ^ 31 : Nat) : Int) := Int.ofNat_le.mpr h2
    rw [Int.natCast_pow] at h3
    exact h3
   obtain ⟨P, hPn⟩ : ∃ P : Int, P = 2 ^ E := ⟨_, rfl⟩
   have hmi : mi = P := by have := H.out.2.1; omega
   have f1 : bits .or .u64 ai mi = t := by
    obtain ⟨x1, x2, x3, x4, x5, x6⟩ := H.out
    rw [ht]
    exact or_join ai mi (E + 1) ha0 (by rw [x3]; exact Int.mul_emod_right ..) (by omega) hm0 (by omega) (by omega)
   have ht0 : 0 ≤ t := by omega
   have ht1 : t < 4294967296 := by
    obtain ⟨x1, x2, x3, x4, x5, x6⟩ := H.out
    omega
   have hs0 : 0 ≤ s := by rw [hs]; exact Int.mul_nonneg ht0 ht0
   have hs1 : s < 18446744073709551616 := by
    have := sq_le ht0 (show t ≤ 4294967295 by omega); omega
   have hiff : Hid (s ≤ n ↔ t ≤ r) := by rw [hs]; exact Lib.hid (hr.out.iff ht0)
   have f2 : t * t = s := hs.symm
   have f3 : IntKind.u64.wrap s = s := by rw [IntKind.wrap_u64]; omega
   have f4 : mi / 2 = m' := hm'.symm
   have f5 : wrap64 (ki + 1) = k' := by unfold wrap64; omega
   have hm'0 : 0 ≤ m' := by omega
   have HH := Lib.hid (And.intro ht (And.intro hm' (And.intro hk' (And.intro hP (And.intro hPn hmi)))))
   clear ht hm' hk' hP hPn hs hmi hPp hP31 hrm
   by_cases hle : s ≤ n
   all_goals
    go_wp2
    go_round
    case rel =>
     obtain ⟨x1, x2, x3, x4, x5, x6⟩ := H.out
     obtain ⟨y1, y2, y3, y4, y5, y6⟩ := HH.out
     have y7 := hiff.out
     first
     | exact ⟨E, _, _, _, 2 * q + 1, rfl, rfl, rfl, by omega, by omega, by omega, by omega, Lib.hid ⟨by omega, by omega, by rw [y1, y6, y5, x3, y4, Int.mul_add, ← Int.mul_assoc, Int.mul_comm (2 ^ E) 2, Int.mul_one], by omega, by omega, by omega⟩⟩
     | exact ⟨E, _, _, _, 2 * q, rfl, rfl, rfl, by omega, by omega, by omega, by omega, Lib.hid ⟨by omega, by omega, by rw [x3, y4, ← Int.mul_assoc, Int.mul_comm (2 ^ E) 2], by omega, by omega, by omega⟩⟩
    case measure => have := HH.out.2.2.1; simp [RowKit.intOf]; omega
  ·go_wp2
   go_ret
   obtain ⟨x1, x2, x3, x4, x5, x6⟩ := H.out
   have e0 : e = 0 := by omega
   subst e0
   exact ⟨congrArg (fun x => Ending.returned (.int .u64 x)) (by omega), rfl⟩
theorem refisqrt_any (n r : Int) (hr : Hid (IsRoot r n)) (h1 : n < 18446744073709551616) (w : World) :
 Calls Tryz.prog 87 #[.int .u64 n] w fun e w' => e = .returned (.int .u64 r) ∧ w = w' := by
 go_enter Tryz.func87, Tryz.ntmps87
 go_wp2
 go_loop [3, 4] (fun a b => ∃ (lo hi : Int), a = .int .u64 lo ∧ b = .int .u64 hi ∧ 0 ≤ lo ∧ lo ≤ r ∧ r ≤ hi ∧ hi ≤ 4294967295) (fun a b => (RowKit.intOf b - RowKit.intOf a).toNat)
 case atStart =>
  have := hr.out.le_max h1
  have := hr.out.1
  exact ⟨_, _, rfl, rfl, by omega, by omega, by omega, by omega⟩
 case round =>
  obtain ⟨lo, hi, rfl, rfl, hl0, hlr, hrh, hh⟩ := hrel
  by_cases hc : lo < hi
  ·obtain ⟨d, hd⟩ : ∃ d, d = lo + hi + 1 := ⟨_, rfl⟩
   obtain ⟨m, hm⟩ : ∃ m, m = d / 2 := ⟨_, rfl⟩
   obtain ⟨s, hs⟩ : ∃ s, s = m * m := ⟨_, rfl⟩
   have hm0 : 1 ≤ m := by omega
   have hm1 : m ≤ 4294967295 := by omega
   have hs0 : 0 ≤ s := by rw [hs]; exact Int.mul_nonneg (by omega) (by omega)
   have hs1 : s < 18446744073709551616 := by
    have := sq_le (show 0 ≤ m by omega) hm1; omega
   have hiff : Hid (s ≤ n ↔ m ≤ r) := by rw [hs]; exact Lib.hid (hr.out.iff (by omega))
   have f1 : lo + hi + 1 = d := hd.symm
   have f2 : d / 2 = m := hm.symm
   have f3 : m * m = s := hs.symm
   have f4 : IntKind.u64.wrap s = s := by rw [IntKind.wrap_u64]; omega
   have f5 : d.tdiv 2 = m := by rw [Int.tdiv_eq_ediv_of_nonneg (by omega), f2]
   have hd0 : 0 ≤ d := by omega
   have hd1 : d < 18446744073709551616 := by omega
   have HH := Lib.hid (And.intro hd (And.intro hm hs))
   clear hd hm hs
   by_cases hle : s ≤ n
   all_goals
    go_wp2
    go_round
    case rel =>
     have y := hiff.out
     obtain ⟨z1, z2, z3⟩ := HH.out
     exact ⟨_, _, rfl, rfl, by omega, by omega, by omega, by omega⟩
    case measure =>
     obtain ⟨z1, z2, z3⟩ := HH.out
     simp [RowKit.intOf]; omega
  ·go_wp2
   go_ret
   exact ⟨congrArg (fun x => Ending.returned (.int .u64 x)) (by omega), rfl⟩
theorem grow {f : Nat} {args : Array Value} {w : World} {e0 : Ending} (h : Calls Tryz.prog f args w fun e w' => e = e0 ∧ w = w') : Calls Tryz.prog f args w fun e w' => e = e0 ∧ Grown w w' :=
 h.mono fun _ _ ⟨a, b⟩ => ⟨a, by rw [← b]; exact Grown.refl _⟩

abbrev Isq1 (n q : Int) : Prop := ∀ w, Calls Tryz.prog 124 #[.int .u64 n] w fun e w' => e = .returned (.int .u64 q) ∧ w = w'
abbrev Rsq1 (n q : Int) : Prop := ∀ w, Calls Tryz.prog 87 #[.int .u64 n] w fun e w' => e = .returned (.int .u64 q) ∧ w = w'
theorem isq1 {n r : Int} (hr : IsRoot r n) (h1 : n < 18446744073709551616) : Isq1 n r := fun w => isqrt_any n r (Lib.hid hr) h1 w
theorem rsq1 {n r : Int} (hr : IsRoot r n) (h1 : n < 18446744073709551616) : Rsq1 n r := fun w => refisqrt_any n r (Lib.hid hr) h1 w
abbrev Pro2 (a b q : Int) : Prop := ∀ w, Calls Tryz.prog 207 #[.int .i32 a, .int .i32 b] w fun e w' => e = .returned (.int .i64 q) ∧ Grown w w'
abbrev Dif2 (a b q : Int) : Prop := ∀ w, Calls Tryz.prog 150 #[.int .i32 a, .int .i32 b] w fun e w' => e = .returned (.int .i64 q) ∧ Grown w w'

theorem pro2 {a b q : Int} (ha : I32 a) (hb : I32 b) (hq : a * b = q) : Pro2 a b q := fun w => by
 have h := mul32 ha hb
 rw [hq] at h
 have hw : IntKind.i64.wrap q = q := by rw [IntKind.wrap_i64]; omega
 have hw2 : wrap64 q = q := by unfold wrap64; omega
 obtain ⟨h1, h2⟩ := ha; obtain ⟨h3, h4⟩ := hb
 refine grow ?_
 go_enter Tryz.func207, Tryz.ntmps207
 go_wp2
 go_ret
 exact ⟨rfl, rfl⟩

theorem dif2 {a b q : Int} (ha : I32 a) (hb : I32 b) (hq : b - a = q) : Dif2 a b q := fun w => by
 obtain ⟨h1, h2⟩ := ha; obtain ⟨h3, h4⟩ := hb
 rw [← hq]
 clear hq
 refine grow ?_
 go_enter Tryz.func150, Tryz.ntmps150
 go_wp2
 go_ret
 exact ⟨rfl, rfl⟩

theorem each_pro (a b c d : Int) (ha : I32 a) (hb : I32 b) (hc : I32 c) (hd : I32 d) (w : World) :
 Calls Tryz.prog 149 #[.func (.func 207) #[] #[], .agg #[.int .i32 a, .int .i32 b], .agg #[.int .i32 c, .int .i32 d]] w fun e w' => e = .returned (.tuple #[.int .i64 (a * c), .int .i64 (b * d)]) ∧ Grown w w' := by
 have C1 := Lib.hid (pro2 ha hc rfl)
 have C2 := Lib.hid (pro2 hb hd rfl)
 go_enter Tryz.func149, Tryz.ntmps149
 go_wp2
 go_region_held3 (fun w' => w'.cell? ⟨w.heap.size, 0, none⟩ = some (.int .i32 a) ∧ w'.cell? ⟨w.heap.size, 1, none⟩ = some (.int .i32 b) ∧ w'.cell? ⟨w.heap.size + 1, 0, none⟩ = some (.int .i32 c) ∧ w'.cell? ⟨w.heap.size + 1, 1, none⟩ = some (.int .i32 d) ∧ w.heap.size + 2 ≤ w'.heap.size ∧ Grown w w')
  (first | exact ⟨by go_keep, by go_keep, by go_keep, by go_keep, by simp, ((Grown.refl _).alloc _ _ |>.alloc _ _).drew⟩ | (go_split_ands; exact ⟨by rw [gc _ _ (by omega)]; assumption, by rw [gc _ _ (by omega)]; assumption, by rw [gc _ _ (by omega)]; assumption, by rw [gc _ _ (by omega)]; assumption, by omega, grown_trans (by assumption) g⟩))
  (first
    | ((with_reducible refine (C1.out _).mono ?_); rintro e w1 ⟨rfl, g⟩; obtain ⟨gc, gf, gz⟩ := gcell g)
    | ((with_reducible refine (C2.out _).mono ?_); rintro e w1 ⟨rfl, g⟩; obtain ⟨gc, gf, gz⟩ := gcell g))
 go_wp2
 go_ret2
 rename_i hh
 exact ⟨rfl, hh.2.2.2.2.2⟩

theorem each_dif (a b c d : Int) (ha : I32 a) (hb : I32 b) (hc : I32 c) (hd : I32 d) (w : World) :
 Calls Tryz.prog 149 #[.func (.func 150) #[] #[], .agg #[.int .i32 a, .int .i32 b], .agg #[.int .i32 c, .int .i32 d]] w fun e w' => e = .returned (.tuple #[.int .i64 (c - a), .int .i64 (d - b)]) ∧ Grown w w' := by
 have C1 := Lib.hid (dif2 ha hc rfl)
 have C2 := Lib.hid (dif2 hb hd rfl)
 go_enter Tryz.func149, Tryz.ntmps149
 go_wp2
 go_region_held3 (fun w' => w'.cell? ⟨w.heap.size, 0, none⟩ = some (.int .i32 a) ∧ w'.cell? ⟨w.heap.size, 1, none⟩ = some (.int .i32 b) ∧ w'.cell? ⟨w.heap.size + 1, 0, none⟩ = some (.int .i32 c) ∧ w'.cell? ⟨w.heap.size + 1, 1, none⟩ = some (.int .i32 d) ∧ w.heap.size + 2 ≤ w'.heap.size ∧ Grown w w')
  (first | exact ⟨by go_keep, by go_keep, by go_keep, by go_keep, by simp, ((Grown.refl _).alloc _ _ |>.alloc _ _).drew⟩ | (go_split_ands; exact ⟨by rw [gc _ _ (by omega)]; assumption, by rw [gc _ _ (by omega)]; assumption, by rw [gc _ _ (by omega)]; assumption, by rw [gc _ _ (by omega)]; assumption, by omega, grown_trans (by assumption) g⟩))
  (first
    | ((with_reducible refine (C1.out _).mono ?_); rintro e w1 ⟨rfl, g⟩; obtain ⟨gc, gf, gz⟩ := gcell g)
    | ((with_reducible refine (C2.out _).mono ?_); rintro e w1 ⟨rfl, g⟩; obtain ⟨gc, gf, gz⟩ := gcell g))
 go_wp2
 go_ret2
 rename_i hh
 exact ⟨rfl, hh.2.2.2.2.2⟩
theorem dot_any (a b c d : Int) (ha : I32 a) (hb : I32 b) (hc : I32 c) (hd : I32 d) (t : Int) (ht : a * c + b * d = t) (h1 : -9223372036854775808 ≤ t) (h2 : t < 9223372036854775808) (w : World) :
 Calls Tryz.prog 190 #[.agg #[.int .i32 a, .int .i32 b], .agg #[.int .i32 c, .int .i32 d]] w fun e w' => e = .returned (.int .i64 t) ∧ Grown w w' := by
 have C1 := Lib.hid (each_pro a b c d ha hb hc hd)
 have m1 := mul32 ha hc
 have m2 := mul32 hb hd
 obtain ⟨x, hx⟩ : ∃ x, x = a * c := ⟨_, rfl⟩
 obtain ⟨y, hy⟩ : ∃ y, y = b * d := ⟨_, rfl⟩
 rw [← hx, ← hy] at C1 ht
 rw [← hx] at m1
 rw [← hy] at m2
 clear hx hy
 have f1 : IntKind.i64.wrap (x + y) = t := by rw [IntKind.wrap_i64]; omega
 have f2 : wrap64 (x + y) = t := by unfold wrap64; omega
 clear m1 m2
 go_enter Tryz.func190, Tryz.ntmps190
 go_wp2_with ((with_reducible refine (C1.out _).mono ?_); rintro e w1 ⟨rfl, g1⟩)
 go_ret
 exact ⟨rfl, grown_trans (((Grown.refl _).alloc _ _).alloc _ _) g1⟩

theorem diff_any (a b c d : Int) (ha : I32 a) (hb : I32 b) (hc : I32 c) (hd : I32 d) (w : World) :
 Calls Tryz.prog 120 #[.agg #[.int .i32 a, .int .i32 b], .agg #[.int .i32 c, .int .i32 d]] w fun e w' => e = .returned (.tuple #[.int .i64 (c - a), .int .i64 (d - b)]) ∧ Grown w w' := by
 have C1 := Lib.hid (each_dif a b c d ha hb hc hd)
 go_enter Tryz.func120, Tryz.ntmps120
 go_wp2_with ((with_reducible refine (C1.out _).mono ?_); rintro e w1 ⟨rfl, g1⟩)
 go_ret2
 exact ⟨rfl, grown_trans (((Grown.refl _).alloc _ _).alloc _ _) g1⟩
def InD (d : Int) : Prop := -2181038080 ≤ d ∧ d ≤ 2181038080
def lsq (a b : Int) : Int := a * a + b * b
def un (d n : Int) : Int := d * 65536 / n

theorem sq_in {d : Int} (h : InD d) : 0 ≤ d * d ∧ d * d ≤ 4756927106410086400 := by
 obtain ⟨h1, h2⟩ := h
 by_cases c : 0 ≤ d
 ·exact ⟨Int.mul_nonneg c c, Int.mul_le_mul h2 h2 c (by decide)⟩
 ·have e : d * d = -d * -d := (Int.neg_mul_neg d d).symm
  rw [e]
  exact ⟨Int.mul_nonneg (by omega) (by omega), Int.mul_le_mul (show -d ≤ 2181038080 by omega) (show -d ≤ 2181038080 by omega) (by omega) (by decide)⟩
theorem lsq_in {a b : Int} (ha : InD a) (hb : InD b) : 0 ≤ lsq a b ∧ lsq a b ≤ 9513854212820172800 := by
 have := sq_in ha; have := sq_in hb; unfold lsq; omega

theorem lengthsq_any (a b t : Int) (ha : InD a) (hb : InD b) (ht : lsq a b = t) (w : World) :
 Calls Tryz.prog 122 #[.int .i64 a, .int .i64 b] w fun e w' => e = .returned (.int .u64 t) ∧ w = w' := by
 have m1 := sq_in ha
 have m2 := sq_in hb
 obtain ⟨h1, h2⟩ := ha; obtain ⟨h3, h4⟩ := hb
 unfold lsq at ht
 obtain ⟨x, hx⟩ : ∃ x, x = a * a := ⟨_, rfl⟩
 obtain ⟨y, hy⟩ : ∃ y, y = b * b := ⟨_, rfl⟩
 rw [← hx, ← hy] at ht
 rw [← hx] at m1
 rw [← hy] at m2
 have e1 : a * a = x := hx.symm
 have e2 : b * b = y := hy.symm
 have f1 : IntKind.i64.wrap x = x := by rw [IntKind.wrap_i64]; omega
 have f2 : IntKind.i64.wrap y = y := by rw [IntKind.wrap_i64]; omega
 have f3 : wrap64 x = x := by unfold wrap64; omega
 have f4 : wrap64 y = y := by unfold wrap64; omega
 have f5 : IntKind.u64.wrap x = x := by rw [IntKind.wrap_u64]; omega
 have f6 : IntKind.u64.wrap y = y := by rw [IntKind.wrap_u64]; omega
 have f7 : IntKind.u64.wrap (x + y) = t := by rw [IntKind.wrap_u64]; omega
 clear hx hy ht m1 m2
 go_enter Tryz.func122, Tryz.ntmps122
 go_wp2
 go_ret
 exact ⟨rfl, rfl⟩

theorem length_any (a b n : Int) (ha : InD a) (hb : InD b) (hn : Hid (IsRoot n (lsq a b))) (w : World) :
 Calls Tryz.prog 100 #[.int .i64 a, .int .i64 b] w fun e w' => e = .returned (.int .i64 n) ∧ w = w' := by
 have hl := lsq_in ha hb
 have C1 := Lib.hid (lengthsq_any a b (lsq a b) ha hb rfl)
 have C2 := Lib.hid (isq1 hn.out (by omega))
 have h1 := hn.out.le_max (by omega)
 have h0 := hn.out.1
 go_enter Tryz.func100, Tryz.ntmps100
 go_wp2_with (first
  | ((with_reducible refine (C1.out _).mono ?_); rintro e w1 ⟨rfl, rfl⟩)
  | ((with_reducible refine (C2.out _).mono ?_); rintro e w1 ⟨rfl, rfl⟩))
 go_ret
 exact ⟨rfl, rfl⟩

theorem fl_trunc (a b : Int) (hb0 : 0 < b) : (a.tmod b < 0 → a / b = a.tdiv b - 1) ∧ (0 ≤ a.tmod b → a / b = a.tdiv b) := by
 have hd := Int.mul_tdiv_add_tmod a b
 have hl := Int.tmod_lt_of_pos a hb0
 have hg : -b < a.tmod b := Int.lt_tmod_of_pos a hb0
 obtain ⟨q, hq⟩ : ∃ q, q = a.tdiv b := ⟨_, rfl⟩
 obtain ⟨r, hr⟩ : ∃ r, r = a.tmod b := ⟨_, rfl⟩
 rw [← hq, ← hr] at hd
 rw [← hr] at hl hg
 rw [← hr, ← hq]
 constructor
 ·intro c
  rw [Int.ediv_eq_iff_of_pos hb0, Int.sub_mul, Int.mul_comm q b]; omega
 ·intro c
  rw [Int.ediv_eq_iff_of_pos hb0, Int.mul_comm q b]; omega

theorem un_in {d n : Int} (hn : 0 < n) (h1 : -n ≤ d) (h2 : d ≤ n) : -65536 ≤ un d n ∧ un d n ≤ 65536 := by
 unfold un
 constructor
 ·rw [Int.le_ediv_iff_mul_le hn]; omega
 ·have := Int.ediv_le_ediv hn (show d * 65536 ≤ 65536 * n by omega)
  rwa [Int.mul_ediv_cancel _ (by omega)] at this

theorem ratio_any (d n q : Int) (hd : InD d) (hn : 0 < n) (hn1 : n < 4294967296) (h1 : -n ≤ d) (h2 : d ≤ n) (hq : un d n = q) (w : World) :
 Calls Tryz.prog 123 #[.int .i64 d, .int .i64 n] w fun e w' => e = .returned (.int .i32 q) ∧ w = w' := by
 have hu := un_in hn h1 h2
 have ht := fl_trunc (d * 65536) n hn
 have hbz : (n == 0) = false := by simp; omega
 rw [hq] at hu
 unfold un at hq
 rw [hq] at ht
 have hdd := Int.mul_tdiv_add_tmod (d * 65536) n
 have hl := Int.tmod_lt_of_pos (d * 65536) hn
 have hg : -n < (d * 65536).tmod n := Int.lt_tmod_of_pos (d * 65536) hn
 obtain ⟨k1, k2⟩ := hd
 obtain ⟨t, hT⟩ : ∃ t, t = (d * 65536).tdiv n := ⟨_, rfl⟩
 obtain ⟨r, hr⟩ : ∃ r, r = (d * 65536).tmod n := ⟨_, rfl⟩
 rw [← hT, ← hr] at ht
 rw [← hr] at hl hg
 clear hdd hq
 have r1 : -4294967296 ≤ r := by omega
 have r2 : r ≤ 4294967296 := by omega
 obtain ⟨D, hD⟩ : ∃ D, D = d * 65536 := ⟨_, rfl⟩
 rw [← hD] at hT hr
 have d1 : -142936511610880 ≤ D := by omega
 have d2 : D ≤ 142936511610880 := by omega
 have e0 : d * 65536 = D := hD.symm
 by_cases c : r < 0
 ·have e := ht.1 c
  have t1 : -65537 ≤ t := by omega
  have t2 : t ≤ 65537 := by omega
  have W1 : IntKind.i64.wrap (D.tdiv n) = t := by rw [← hT, IntKind.wrap_i64]; omega
  have W2 : IntKind.i64.wrap (D.tmod n) = r := by rw [← hr, IntKind.wrap_i64]; omega
  have W6 : D.tdiv n = t := hT.symm
  have W7 : D.tmod n = r := hr.symm
  have W3 : wrap64 (D.tdiv n) = t := by rw [← hT]; unfold wrap64; omega
  have W4 : wrap64 (D.tmod n) = r := by rw [← hr]; unfold wrap64; omega
  have W5 : IntKind.i32.wrap (t - 1) = t - 1 := by rw [IntKind.wrap_i32]; omega
  rw [e]
  clear e ht hT hr hD
  go_enter Tryz.func123, Tryz.ntmps123
  go_wp2
  go_ret
  exact ⟨rfl, rfl⟩
 ·have e := ht.2 (by omega)
  have t1 : -65537 ≤ t := by omega
  have t2 : t ≤ 65537 := by omega
  have W1 : IntKind.i64.wrap (D.tdiv n) = t := by rw [← hT, IntKind.wrap_i64]; omega
  have W2 : IntKind.i64.wrap (D.tmod n) = r := by rw [← hr, IntKind.wrap_i64]; omega
  have W6 : D.tdiv n = t := hT.symm
  have W7 : D.tmod n = r := hr.symm
  have W3 : wrap64 (D.tdiv n) = t := by rw [← hT]; unfold wrap64; omega
  have W4 : wrap64 (D.tmod n) = r := by rw [← hr]; unfold wrap64; omega
  have W5 : IntKind.i32.wrap t = t := by rw [IntKind.wrap_i32]; omega
  rw [e]
  clear e ht hT hr hD
  go_enter Tryz.func123, Tryz.ntmps123
  go_wp2
  go_ret
  exact ⟨rfl, rfl⟩

theorem root_ge {a b n : Int} (h : IsRoot n (lsq a b)) : (-n ≤ a ∧ a ≤ n) ∧ (-n ≤ b ∧ b ≤ n) := by
 have k : ∀ x y : Int, IsRoot n (x * x + y * y) → -n ≤ x ∧ x ≤ n := fun x y g => by
  have hy : 0 ≤ y * y := by
   by_cases c : 0 ≤ y
   ·exact Int.mul_nonneg c c
   ·rw [← Int.neg_mul_neg]; exact Int.mul_nonneg (by omega) (by omega)
  by_cases c : 0 ≤ x
  ·have := (g.iff c).mp (by omega); omega
  ·have := (g.iff (t := -x) (by omega)).mp (by rw [Int.neg_mul_neg]; omega); omega
 unfold lsq at h
 exact ⟨k a b h, k b a (by rw [Int.add_comm]; exact h)⟩

theorem unit_zero (a b : Int) (ha : InD a) (hb : InD b) (hn : Hid (IsRoot 0 (lsq a b))) (w : World) :
 Calls Tryz.prog 99 #[.int .i64 a, .int .i64 b] w fun e w' => e = .returned (.agg #[.int .i32 65536, .int .i32 0]) ∧ Grown w w' := by
 have C1 := Lib.hid (length_any a b 0 ha hb hn)
 go_enter Tryz.func99, Tryz.ntmps99
 go_wp2_with ((with_reducible refine (C1.out _).mono ?_); rintro e w1 ⟨rfl, rfl⟩)
 exact bodyPost_ret (v := .agg #[.int .i32 65536, .int .i32 0]) (by simp [results, Tryz.results99, go_sem]) rfl ⟨rfl, (Grown.refl _).alloc _ _⟩

theorem unit_pos (a b n x y : Int) (ha : InD a) (hb : InD b) (h0 : 0 < n) (hn : Hid (IsRoot n (lsq a b))) (hx : un a n = x) (hy : un b n = y) (w : World) :
 Calls Tryz.prog 99 #[.int .i64 a, .int .i64 b] w fun e w' => e = .returned (.agg #[.int .i32 x, .int .i32 y]) ∧ Grown w w' := by
 have C1 := Lib.hid (length_any a b n ha hb hn)
 have hl := lsq_in ha hb
 have h1 := hn.out.le_max (by omega)
 have g := root_ge hn.out
 have C2 := Lib.hid (ratio_any a n x ha h0 (by omega) g.1.1 g.1.2 hx)
 have C3 := Lib.hid (ratio_any b n y hb h0 (by omega) g.2.1 g.2.2 hy)
 have hz : (n == 0) = false := by simp; omega
 clear hx hy hl g
 go_enter Tryz.func99, Tryz.ntmps99
 go_wp2_with (first
  | ((with_reducible refine (C1.out _).mono ?_); rintro e w1 ⟨rfl, rfl⟩)
  | ((with_reducible refine (C2.out _).mono ?_); rintro e w1 ⟨rfl, rfl⟩)
  | ((with_reducible refine (C3.out _).mono ?_); rintro e w1 ⟨rfl, rfl⟩))
 exact bodyPost_ret (v := .agg #[.int .i32 x, .int .i32 y]) (by simp [results, Tryz.results99, go_sem]) rfl ⟨rfl, (Grown.refl _).alloc _ _⟩
theorem sq_abs (a : Int) : -a * -a = a * a := Int.neg_mul_neg a a

theorem reflsq_any (a b t : Int) (ha : InD a) (hb : InD b) (ht : lsq a b = t) (w : World) :
 Calls Tryz.prog 86 #[.int .i64 a, .int .i64 b] w fun e w' => e = .returned (.int .u64 t) ∧ w = w' := by
 have m1 := sq_in ha
 have m2 := sq_in hb
 obtain ⟨h1, h2⟩ := ha; obtain ⟨h3, h4⟩ := hb
 unfold lsq at ht
 have s1 := sq_abs a
 have s2 := sq_abs b
 obtain ⟨x, hx⟩ : ∃ x, x = a * a := ⟨_, rfl⟩
 obtain ⟨y, hy⟩ : ∃ y, y = b * b := ⟨_, rfl⟩
 rw [← hx, ← hy] at ht
 rw [← hx] at m1 s1
 rw [← hy] at m2 s2
 have f5 : IntKind.u64.wrap x = x := by rw [IntKind.wrap_u64]; omega
 have f6 : IntKind.u64.wrap y = y := by rw [IntKind.wrap_u64]; omega
 have f7 : IntKind.u64.wrap (x + y) = t := by rw [IntKind.wrap_u64]; omega
 clear ht m1 m2
 by_cases c1 : a < 0
 ·by_cases c2 : b < 0
  ·obtain ⟨p1, hp1⟩ : ∃ p, p = -a := ⟨_, rfl⟩
   have g1 : 0 ≤ p1 := by omega
   have k1 : p1 ≤ 2181038080 := by omega
   rw [← hp1] at s1
   have n1 : -a = p1 := hp1.symm
   have q1 : IntKind.u64.wrap p1 = p1 := by rw [IntKind.wrap_u64]; omega
   have hppp1 := hp1
   clear hp1 hppp1
   obtain ⟨p2, hp2⟩ : ∃ p, p = -b := ⟨_, rfl⟩
   have g2 : 0 ≤ p2 := by omega
   have k2 : p2 ≤ 2181038080 := by omega
   rw [← hp2] at s2
   have n2 : -b = p2 := hp2.symm
   have q2 : IntKind.u64.wrap p2 = p2 := by rw [IntKind.wrap_u64]; omega
   have hppp2 := hp2
   clear hp2 hppp2
   clear hx hy
   go_enter Tryz.func86, Tryz.ntmps86
   go_wp2
   go_ret
   exact ⟨rfl, rfl⟩
  ·obtain ⟨p1, hp1⟩ : ∃ p, p = -a := ⟨_, rfl⟩
   have g1 : 0 ≤ p1 := by omega
   have k1 : p1 ≤ 2181038080 := by omega
   rw [← hp1] at s1
   have n1 : -a = p1 := hp1.symm
   have q1 : IntKind.u64.wrap p1 = p1 := by rw [IntKind.wrap_u64]; omega
   have hppp1 := hp1
   clear hp1 hppp1
   have g2 : 0 ≤ b := by omega
   have e2 : b * b = y := hy.symm
   have q2 : IntKind.u64.wrap b = b := by rw [IntKind.wrap_u64]; omega
   clear s2
   clear hx hy
   go_enter Tryz.func86, Tryz.ntmps86
   go_wp2
   go_ret
   exact ⟨rfl, rfl⟩
 ·by_cases c2 : b < 0
  ·have g1 : 0 ≤ a := by omega
   have e1 : a * a = x := hx.symm
   have q1 : IntKind.u64.wrap a = a := by rw [IntKind.wrap_u64]; omega
   clear s1
   obtain ⟨p2, hp2⟩ : ∃ p, p = -b := ⟨_, rfl⟩
   have g2 : 0 ≤ p2 := by omega
   have k2 : p2 ≤ 2181038080 := by omega
   rw [← hp2] at s2
   have n2 : -b = p2 := hp2.symm
   have q2 : IntKind.u64.wrap p2 = p2 := by rw [IntKind.wrap_u64]; omega
   have hppp2 := hp2
   clear hp2 hppp2
   clear hx hy
   go_enter Tryz.func86, Tryz.ntmps86
   go_wp2
   go_ret
   exact ⟨rfl, rfl⟩
  ·have g1 : 0 ≤ a := by omega
   have e1 : a * a = x := hx.symm
   have q1 : IntKind.u64.wrap a = a := by rw [IntKind.wrap_u64]; omega
   clear s1
   have g2 : 0 ≤ b := by omega
   have e2 : b * b = y := hy.symm
   have q2 : IntKind.u64.wrap b = b := by rw [IntKind.wrap_u64]; omega
   clear s2
   clear hx hy
   go_enter Tryz.func86, Tryz.ntmps86
   go_wp2
   go_ret
   exact ⟨rfl, rfl⟩

theorem reflen_any (a b n : Int) (ha : InD a) (hb : InD b) (hn : Hid (IsRoot n (lsq a b))) (w : World) :
 Calls Tryz.prog 68 #[.int .i64 a, .int .i64 b] w fun e w' => e = .returned (.int .i64 n) ∧ w = w' := by
 have hl := lsq_in ha hb
 have C1 := Lib.hid (reflsq_any a b (lsq a b) ha hb rfl)
 have C2 := Lib.hid (rsq1 hn.out (by omega))
 have h1 := hn.out.le_max (by omega)
 have h0 := hn.out.1
 go_enter Tryz.func68, Tryz.ntmps68
 go_wp2_with (first
  | ((with_reducible refine (C1.out _).mono ?_); rintro e w1 ⟨rfl, rfl⟩)
  | ((with_reducible refine (C2.out _).mono ?_); rintro e w1 ⟨rfl, rfl⟩))
 go_ret
 exact ⟨rfl, rfl⟩

theorem refunit_zero (w : World) :
 Calls Tryz.prog 67 #[.int .i64 0, .int .i64 0] w fun e w' => e = .returned (.agg #[.int .i32 65536, .int .i32 0]) ∧ Grown w w' := by
 go_enter Tryz.func67, Tryz.ntmps67
 go_wp2
 exact bodyPost_ret (v := .agg #[.int .i32 65536, .int .i32 0]) (by simp [results, Tryz.results67, go_sem]) rfl ⟨rfl, (Grown.refl _).alloc _ _⟩

theorem refunit_pos (a b n x y : Int) (ha : InD a) (hb : InD b) (h0 : 0 < n) (hz : a ≠ 0 ∨ b ≠ 0) (hn : Hid (IsRoot n (lsq a b))) (hx : un a n = x) (hy : un b n = y) (w : World) :
 Calls Tryz.prog 67 #[.int .i64 a, .int .i64 b] w fun e w' => e = .returned (.agg #[.int .i32 x, .int .i32 y]) ∧ Grown w w' := by
 have C1 := Lib.hid (reflen_any a b n ha hb hn)
 have hl := lsq_in ha hb
 have h1 := hn.out.le_max (by omega)
 have g := root_ge hn.out
 have u1 := un_in h0 g.1.1 g.1.2
 have u2 := un_in h0 g.2.1 g.2.2
 rw [hx] at u1
 rw [hy] at u2
 unfold un at hx hy
 obtain ⟨k1, k2⟩ := ha; obtain ⟨k3, k4⟩ := hb
 have C2 := Lib.hid (fun w => show Calls Tryz.prog 45 #[.int .i64 (a * 65536), .int .i64 n] w fun e w' => e = .returned (.int .i64 x) ∧ w = w' from by
  rw [← hx]; exact reffl_any (a * 65536) n (ik64 _ (by omega) (by omega)) h0 (by omega) w)
 have C3 := Lib.hid (fun w => show Calls Tryz.prog 45 #[.int .i64 (b * 65536), .int .i64 n] w fun e w' => e = .returned (.int .i64 y) ∧ w = w' from by
  rw [← hy]; exact reffl_any (b * 65536) n (ik64 _ (by omega) (by omega)) h0 (by omega) w)
 clear hx hy hl g
 have f1 : IntKind.i32.wrap x = x := by rw [IntKind.wrap_i32]; omega
 have f2 : IntKind.i32.wrap y = y := by rw [IntKind.wrap_i32]; omega
 by_cases c1 : a = 0
 ·subst c1
  have c2 : (b == 0) = false := by simp; omega
  have c3 : decide (b = 0) = false := by simp; omega
  clear hz
  rw [Int.zero_mul] at C2
  go_enter Tryz.func67, Tryz.ntmps67
  go_wp2_with (first
   | ((with_reducible refine (C1.out _).mono ?_); rintro e w1 ⟨rfl, rfl⟩)
   | ((with_reducible refine (C2.out _).mono ?_); rintro e w1 ⟨rfl, rfl⟩)
   | ((with_reducible refine (C3.out _).mono ?_); rintro e w1 ⟨rfl, rfl⟩))
  exact bodyPost_ret (v := .agg #[.int .i32 x, .int .i32 y]) (by simp [results, Tryz.results67, go_sem]) rfl ⟨rfl, (Grown.refl _).alloc _ _⟩
 ·have c2 : (a == 0) = false := by simp; omega
  clear hz
  go_enter Tryz.func67, Tryz.ntmps67
  go_wp2_with (first
   | ((with_reducible refine (C1.out _).mono ?_); rintro e w1 ⟨rfl, rfl⟩)
   | ((with_reducible refine (C2.out _).mono ?_); rintro e w1 ⟨rfl, rfl⟩)
   | ((with_reducible refine (C3.out _).mono ?_); rintro e w1 ⟨rfl, rfl⟩))
  exact bodyPost_ret (v := .agg #[.int .i32 x, .int .i32 y]) (by simp [results, Tryz.results67, go_sem]) rfl ⟨rfl, (Grown.refl _).alloc _ _⟩
theorem lag (a b c d : Int) : (a * a + b * b) * (c * c + d * d) = (a * c + b * d) * (a * c + b * d) + (a * d - b * c) * (a * d - b * c) := by grind
theorem sq_nn (x : Int) : 0 ≤ x * x := by
 by_cases c : 0 ≤ x
 ·exact Int.mul_nonneg c c
 ·rw [← Int.neg_mul_neg]; exact Int.mul_nonneg (by omega) (by omega)
theorem mul_lt {x y p q : Int} (hx : 0 ≤ x) (hy : 0 ≤ y) (h1 : x < p) (h2 : y < q) : x * y < p * q := by
 have a := Int.mul_le_mul (show x ≤ p - 1 by omega) (show y ≤ q - 1 by omega) hy (show 0 ≤ p - 1 by omega)
 have e : (p - 1) * (q - 1) = p * q - p - q + 1 := by grind
 omega

theorem tri {n p q a b c d : Int} (hn : IsRoot n (lsq (a + c) (b + d))) (hp : IsRoot p (lsq a b)) (hq : IsRoot q (lsq c d)) : n ≤ p + q + 2 := by
 obtain ⟨n0, n1, _⟩ := hn
 obtain ⟨p0, _, p2⟩ := hp
 obtain ⟨q0, _, q2⟩ := hq
 have e1 : lsq (a + c) (b + d) = lsq a b + lsq c d + 2 * (a * c + b * d) := by unfold lsq; grind
 have hX : 0 ≤ lsq a b := by unfold lsq; have := sq_nn a; have := sq_nn b; omega
 have hY : 0 ≤ lsq c d := by unfold lsq; have := sq_nn c; have := sq_nn d; omega
 have hl : (a * c + b * d) * (a * c + b * d) ≤ lsq a b * lsq c d := by
  have := lag a b c d; have := sq_nn (a * d - b * c); unfold lsq; omega
 have hm := mul_lt hX hY p2 q2
 obtain ⟨t, ht⟩ : ∃ t, t = a * c + b * d := ⟨_, rfl⟩
 rw [← ht] at e1 hl
 have e2 : (p + 1) * (p + 1) * ((q + 1) * (q + 1)) = ((p + 1) * (q + 1)) * ((p + 1) * (q + 1)) := by grind
 have h0 : 0 ≤ (p + 1) * (q + 1) := Int.mul_nonneg (by omega) (by omega)
 have htt : t < (p + 1) * (q + 1) := by
  by_cases c : t < (p + 1) * (q + 1)
  ·exact c
  ·have := sq_le h0 (show (p + 1) * (q + 1) ≤ t by omega); omega
 have e3 : (p + q + 2) * (p + q + 2) = (p + 1) * (p + 1) + (q + 1) * (q + 1) + 2 * ((p + 1) * (q + 1)) := by grind
 by_cases c : n ≤ p + q + 2
 ·exact c
 ·have := sq_le (show 0 ≤ p + q + 2 by omega) (show p + q + 2 ≤ n by omega); omega
abbrev Lsq2 (a b t : Int) : Prop := ∀ w, Calls Tryz.prog 122 #[.int .i64 a, .int .i64 b] w fun e w' => e = .returned (.int .u64 t) ∧ w = w'
abbrev Len2 (a b n : Int) : Prop := ∀ w, Calls Tryz.prog 100 #[.int .i64 a, .int .i64 b] w fun e w' => e = .returned (.int .i64 n) ∧ w = w'
abbrev Uni2 (a b x y : Int) : Prop := ∀ w, Calls Tryz.prog 99 #[.int .i64 a, .int .i64 b] w fun e w' => e = .returned (.agg #[.int .i32 x, .int .i32 y]) ∧ Grown w w'
abbrev Rlsq2 (a b t : Int) : Prop := ∀ w, Calls Tryz.prog 86 #[.int .i64 a, .int .i64 b] w fun e w' => e = .returned (.int .u64 t) ∧ w = w'
abbrev Rlen2 (a b n : Int) : Prop := ∀ w, Calls Tryz.prog 68 #[.int .i64 a, .int .i64 b] w fun e w' => e = .returned (.int .i64 n) ∧ w = w'
abbrev Runi2 (a b x y : Int) : Prop := ∀ w, Calls Tryz.prog 67 #[.int .i64 a, .int .i64 b] w fun e w' => e = .returned (.agg #[.int .i32 x, .int .i32 y]) ∧ Grown w w'
abbrev Dot4 (a b c d t : Int) : Prop := ∀ w, Calls Tryz.prog 190 #[.agg #[.int .i32 a, .int .i32 b], .agg #[.int .i32 c, .int .i32 d]] w fun e w' => e = .returned (.int .i64 t) ∧ Grown w w'
abbrev Dff4 (a b c d x y : Int) : Prop := ∀ w, Calls Tryz.prog 120 #[.agg #[.int .i32 a, .int .i32 b], .agg #[.int .i32 c, .int .i32 d]] w fun e w' => e = .returned (.tuple #[.int .i64 x, .int .i64 y]) ∧ Grown w w'
theorem lsq2 {a b t : Int} (ha : InD a) (hb : InD b) (ht : lsq a b = t) : Lsq2 a b t := fun w => lengthsq_any a b t ha hb ht w
theorem len2 {a b n : Int} (ha : InD a) (hb : InD b) (hn : IsRoot n (lsq a b)) : Len2 a b n := fun w => length_any a b n ha hb (Lib.hid hn) w
theorem rlsq2 {a b t : Int} (ha : InD a) (hb : InD b) (ht : lsq a b = t) : Rlsq2 a b t := fun w => reflsq_any a b t ha hb ht w
theorem rlen2 {a b n : Int} (ha : InD a) (hb : InD b) (hn : IsRoot n (lsq a b)) : Rlen2 a b n := fun w => reflen_any a b n ha hb (Lib.hid hn) w

def ux (a n : Int) : Int := if n = 0 then 65536 else un a n
def uy (b n : Int) : Int := if n = 0 then 0 else un b n
theorem lsq_zero {a b : Int} (h : IsRoot 0 (lsq a b)) : a = 0 ∧ b = 0 := by
 have g := root_ge h
 exact ⟨by omega, by omega⟩
theorem uni2 {a b n x y : Int} (ha : InD a) (hb : InD b) (hn : IsRoot n (lsq a b)) (hx : ux a n = x) (hy : uy b n = y) : Uni2 a b x y := fun w => by
 by_cases c : n = 0
 ·subst c
  have e1 : x = 65536 := by rw [← hx]; rfl
  have e2 : y = 0 := by rw [← hy]; rfl
  rw [e1, e2]
  exact unit_zero a b ha hb (Lib.hid hn) w
 ·unfold ux at hx
  unfold uy at hy
  rw [if_neg c] at hx hy
  exact unit_pos a b n x y ha hb (by have := hn.1; omega) (Lib.hid hn) hx hy w
theorem runi2 {a b n x y : Int} (ha : InD a) (hb : InD b) (hn : IsRoot n (lsq a b)) (hx : ux a n = x) (hy : uy b n = y) : Runi2 a b x y := fun w => by
 by_cases c : n = 0
 ·subst c
  have e1 : x = 65536 := by rw [← hx]; rfl
  have e2 : y = 0 := by rw [← hy]; rfl
  obtain ⟨rfl, rfl⟩ := lsq_zero hn
  rw [e1, e2]
  exact refunit_zero w
 ·unfold ux at hx
  unfold uy at hy
  rw [if_neg c] at hx hy
  have hz : a ≠ 0 ∨ b ≠ 0 := by
   by_cases c1 : a = 0
   ·refine .inr fun c2 => c ?_
    subst c1; subst c2
    exact hn.unique ⟨by decide, by decide, by decide⟩
   ·exact .inl c1
  exact refunit_pos a b n x y ha hb (by have := hn.1; omega) hz (Lib.hid hn) hx hy w
theorem dot4 {a b c d t : Int} (ha : I32 a) (hb : I32 b) (hc : I32 c) (hd : I32 d) (ht : a * c + b * d = t) (h1 : -9223372036854775808 ≤ t) (h2 : t < 9223372036854775808) : Dot4 a b c d t := fun w => dot_any a b c d ha hb hc hd t ht h1 h2 w
theorem dff4 {a b c d x y : Int} (ha : I32 a) (hb : I32 b) (hc : I32 c) (hd : I32 d) (hx : c - a = x) (hy : d - b = y) : Dff4 a b c d x y := fun w => by rw [← hx, ← hy]; exact diff_any a b c d ha hb hc hd w
theorem ind (d : Int) (h1 : -2181038080 ≤ d := by decide) (h2 : d ≤ 2181038080 := by decide) : InD d := ⟨h1, h2⟩
end Go.Proofs.YtaknmlohnifcdaaGreatDoor
