import Derived.Test.YtaknmlohnifcdaaGreatDoorJ18MPointRef
import Derived.Test.YtaknmlohnifcdaaGreatDoorJ17MRefMul
import Derived.Test.YtaknmlohnifcdaaGreatDoorJ02MSeq
import Derived.Deep.DeepCutAuto
import Derived.Deep.QuietTactic
import Derived.BigQuiet
set_option maxHeartbeats 4000000
set_option maxRecDepth 100000
namespace Go.Proofs.YtaknmlohnifcdaaGreatDoor
open Go.RowKit Go.Lib
def amI (dp : Int) (x y : Bd) : Int := if dp ≤ 1024 ∨ x.m + y.m = 0 then 0 else (dp - 1024) * 26214 / 65536
def shI (dp : Int) (x y : Bd) (m : Int) : Int := if amI dp x y = 0 then 0 else amI dp x y * m / (x.m + y.m)
abbrev Dp (n : Int) : Prop := 1 ≤ n ∧ n ≤ 16777216
theorem am_bd {dp : Int} {x y : Bd} (h : Dp dp) : 0 ≤ amI dp x y ∧ amI dp x y < dp ∧ amI dp x y ≤ 6710476 := by
 unfold amI
 split <;> omega
theorem am_zero {dp : Int} {x y : Bd} (h : x.m + y.m = 0) : amI dp x y = 0 := by
 unfold amI
 rw [if_pos (.inr h)]
theorem div_part {n a b : Int} (hn : 0 ≤ n) (ha : 0 ≤ a) (hb : 0 ≤ b) (hab : 0 < a + b) : 0 ≤ n * a / (a + b) ∧ n * a / (a + b) + n * b / (a + b) ≤ n ∧ n - 1 ≤ n * a / (a + b) + n * b / (a + b) := by
 have e : n * a + n * b = n * (a + b) := by rw [Int.mul_add]
 have p1 := Int.mul_nonneg hn ha
 have p2 := Int.mul_nonneg hn hb
 generalize n * a = p at *
 generalize n * b = q at *
 generalize a + b = d at *
 have h1 := Int.mul_ediv_add_emod p d
 have h2 := Int.mul_ediv_add_emod q d
 have r1 := Int.emod_nonneg p (show d ≠ 0 by omega)
 have r2 := Int.emod_nonneg q (show d ≠ 0 by omega)
 have s1 := Int.emod_lt_of_pos p hab
 have s2 := Int.emod_lt_of_pos q hab
 have q0 := Int.ediv_nonneg p1 (Int.le_of_lt hab)
 generalize p / d = u at *
 generalize q / d = v at *
 have e2 : d * (u + v) = d * u + d * v := by rw [Int.mul_add]
 have e3 : n * d = d * n := Int.mul_comm _ _
 refine ⟨q0, ?_, ?_⟩
 ·have : d * (u + v) ≤ d * n := by omega
  exact Int.le_of_mul_le_mul_left this hab
 ·have h3 : d * n < d * (u + v + 2) := by
   rw [Int.mul_add d (u + v) 2]
   omega
  have := Int.lt_of_mul_lt_mul_left h3 (Int.le_of_lt hab)
  omega
theorem sh_parts {dp : Int} {x y : Bd} (h : Dp dp) (hx : Vb x) (hy : Vb y) : 0 ≤ shI dp x y x.m ∧ 0 ≤ shI dp x y y.m ∧ shI dp x y x.m + shI dp x y y.m ≤ amI dp x y ∧ amI dp x y - 1 ≤ shI dp x y x.m + shI dp x y y.m ∨ amI dp x y = 0 ∧ shI dp x y x.m = 0 ∧ shI dp x y y.m = 0 := by
 by_cases c : amI dp x y = 0
 ·right
  unfold shI
  rw [if_pos c, if_pos c]
  exact ⟨c, rfl, rfl⟩
 ·left
  have hd : 0 < x.m + y.m := by
   have := hx.m0; have := hy.m0
   have : x.m + y.m ≠ 0 := fun e => c (am_zero e)
   omega
  have p := div_part (am_bd (x := x) (y := y) h).1 hx.m0 hy.m0 hd
  have p2 := div_part (am_bd (x := x) (y := y) h).1 hy.m0 hx.m0 (by omega)
  rw [Int.add_comm y.m x.m] at p2
  unfold shI
  rw [if_neg c, if_neg c]
  exact ⟨p.1, p2.1, p.2.1, p.2.2⟩
theorem sh_bd {dp : Int} {x y : Bd} (h : Dp dp) (hx : Vb x) (hy : Vb y) : (0 ≤ shI dp x y x.m ∧ shI dp x y x.m ≤ 6710476) ∧ (0 ≤ shI dp x y y.m ∧ shI dp x y y.m ≤ 6710476) := by
 have b := am_bd (x := x) (y := y) h
 rcases sh_parts h hx hy with ⟨p1, p2, p3, p4⟩ | ⟨p1, p2, p3⟩ <;> omega
def conS (f : Ct → Int) (L : List Bd) (x : Bd) (c : Ct) : Int :=
 if c.lo = x.k then -(shI c.dp (bdK L c.lo) (bdK L c.hi) x.m * f c / 65536) else if c.hi = x.k then shI c.dp (bdK L c.lo) (bdK L c.hi) x.m * f c / 65536 else 0
def shfI (f : Ct → Int) (L : List Bd) (C : List Ct) (x : Bd) : Int := isum (C.map (conS f L x))
theorem shf_app (f : Ct → Int) (L : List Bd) (C D : List Ct) (x : Bd) : shfI f L (C ++ D) x = shfI f L C x + shfI f L D x := by
 unfold shfI
 rw [List.map_append, isum_app]
theorem shf_at {f : Ct → Int} {L : List Bd} {C : List Ct} {x : Bd} {k : Nat} {c : Ct} (h : C[k]? = some c) : shfI f L (C.take (k + 1)) x = shfI f L (C.take k) x + conS f L x c := by
 rw [List.take_add_one, h]
 show shfI f L (C.take k ++ [c]) x = _
 rw [shf_app]
 show _ + (conS f L x c + 0) = _
 omega
theorem shn_bd {s n : Int} (hs : 0 ≤ s ∧ s ≤ 6710476) (hn : Nr n) : (-439777755136 ≤ s * n ∧ s * n ≤ 439777755136) ∧ -6710476 ≤ s * n / 65536 ∧ s * n / 65536 ≤ 6710476 := by
 have b := mul_bd (a := s) (b := n) (A := 6710476) (B := 65536) ⟨by omega, hs.2⟩ ⟨hn.1, hn.2⟩
 have e : (6710476 : Int) * 65536 = 439777755136 := by decide
 rw [e] at b
 omega
structure RsC (L : List Bd) (c : Ct) : Prop extends RgC L c where
 dp : Dp c.dp
theorem conS_at {f : Ct → Int} {L : List Bd} {x a b : Bd} {c : Ct} (ha : look L c.lo = some a) (hb : look L c.hi = some b) :
 conS f L x c = if c.lo = x.k then -(shI c.dp a b x.m * f c / 65536) else if c.hi = x.k then shI c.dp a b x.m * f c / 65536 else 0 := by
 unfold conS
 rw [bdK_eq ha, bdK_eq hb]
theorem own_share {L : List Bd} (hA : ∀ x ∈ L, look L x.k = some x) (hv : ∀ x ∈ L, Vb x) {x : Bd} (hx : x ∈ L) {c : Ct} (h : RsC L c) (hk : c.lo = x.k ∨ c.hi = x.k) :
 0 ≤ shI c.dp (bdK L c.lo) (bdK L c.hi) x.m ∧ shI c.dp (bdK L c.lo) (bdK L c.hi) x.m ≤ 6710476 := by
 obtain ⟨a, ha⟩ := Option.isSome_iff_exists.1 h.lo
 obtain ⟨b, hb⟩ := Option.isSome_iff_exists.1 h.hi
 rw [bdK_eq ha, bdK_eq hb]
 have s := sh_bd h.dp (hv a (look_some ha).1) (hv b (look_some hb).1)
 have hl := hA x hx
 rcases hk with e | e
 ·rw [e, hl] at ha
  injection ha with ha
  rw [ha]
  exact s.1
 ·rw [e, hl] at hb
  injection hb with hb
  rw [hb]
  exact s.2
theorem conS_bd {f : Ct → Int} {L : List Bd} (hA : ∀ x ∈ L, look L x.k = some x) (hv : ∀ x ∈ L, Vb x) {x : Bd} (hx : x ∈ L) {c : Ct} (h : RsC L c) (hf : Nr (f c)) : -6710476 ≤ conS f L x c ∧ conS f L x c ≤ 6710476 := by
 unfold conS
 split
 ·rename_i e
  have := (shn_bd (own_share hA hv hx h (.inl e)) hf).2
  omega
 ·split
  ·rename_i e
   have := (shn_bd (own_share hA hv hx h (.inr e)) hf).2
   omega
  ·omega
theorem shf_bd {f : Ct → Int} {L : List Bd} (hA : ∀ x ∈ L, look L x.k = some x) (hv : ∀ x ∈ L, Vb x) {x : Bd} (hx : x ∈ L) {C : List Ct} (hC : ∀ c ∈ C, RsC L c) (hf : ∀ c ∈ C, Nr (f c)) (hl : C.length ≤ 1000) : -6710476000 ≤ shfI f L C x ∧ shfI f L C x ≤ 6710476000 := by
 have b := isum_bd (B := 6710476) (by decide) (l := C.map (conS f L x)) (fun a ha => by
  obtain ⟨c, hc, rfl⟩ := List.mem_map.1 ha
  exact conS_bd hA hv hx (hC c hc) (hf c hc))
 rw [List.length_map] at b
 unfold shfI
 omega
abbrev Sh := Int × Int
def shv (s : Sh) : List Value := [.int .i64 s.1, .int .i64 s.2]
theorem shv_len (s : Sh) : (shv s).length = 2 := rfl
theorem shv_one (s : Sh) : ∀ u ∈ shv s, u.oneCell' = true := by
 intro u hu
 simp only [shv, List.mem_cons, List.not_mem_nil, or_false] at hu
 rcases hu with rfl | rfl <;> rfl
def shfB (L : List Bd) (C : List Ct) (x : Bd) : Sh := (shfI (·.nx) L C x, shfI (·.ny) L C x)
def shfL (L : List Bd) (C : List Ct) : List Sh := L.map (shfB L C)
def limW (n : Int) : Int := max (-1073741824) (min n 1073741824)
theorem limW_bd (n : Int) : -1073741824 ≤ limW n ∧ limW n ≤ 1073741824 := by unfold limW; omega
def plB (x : Bd) (a b : Int) : Bd := ⟨x.k, x.r, x.ax, x.ay, x.m, x.o, a, b, x.vx, x.vy⟩
def grvY (x : Bd) : Int := x.vy - 1024
def grvB (x : Bd) : Bd := if 0 < x.m then velB x x.vx (limJ (grvY x)) else x
def grvC (x : Bd) : Bool := decide (0 < x.m) && decide (limJ (grvY x) ≠ grvY x)
def mtX (x : Bd) (s : Sh) : Int := x.px + s.1 + x.vx / 64
def mtY (x : Bd) (s : Sh) : Int := x.py + s.2 + x.vy / 64
def mtB (x : Bd) (s : Sh) : Bd := plB x (limW (mtX x s)) (limW (mtY x s))
def mtC (x : Bd) (s : Sh) : Bool := decide (limW (mtX x s) ≠ mtX x s) || decide (limW (mtY x s) ≠ mtY x s)
abbrev Si (n : Int) : Prop := -4611686018427387904 ≤ n ∧ n ≤ 4611686018427387904
abbrev Sin (s : Sh) : Prop := Si s.1 ∧ Si s.2
structure Pb (x : Bd) : Prop where
 px0 : -1073741824 ≤ x.px
 px1 : x.px ≤ 1073741824
 py0 : -1073741824 ≤ x.py
 py1 : x.py ≤ 1073741824
theorem chk_six {r ax ay m o px py vx vy : Int} (h : chk r ax ay m o px py vx vy = 0) : (4096 ≤ r ∧ r ≤ 4194304) ∧ ((-4194304 ≤ ax ∧ ax ≤ 4194304) ∧ (-4194304 ≤ ay ∧ ay ≤ 4194304)) ∧ (0 ≤ m ∧ m ≤ 1048576) ∧ (0 ≤ o ∧ o ≤ 65536) ∧ ((-1073741824 ≤ px ∧ px ≤ 1073741824) ∧ (-1073741824 ≤ py ∧ py ≤ 1073741824)) ∧ ((-16777216 ≤ vx ∧ vx ≤ 16777216) ∧ (-16777216 ≤ vy ∧ vy ≤ 16777216)) := by
 unfold chk at h
 repeat' split at h
 all_goals first
  | exact absurd h (by decide)
  | (rename_i a1 a2 a3 a4 a5 a6; exact ⟨a1, a2, a3, a4, a5, a6⟩)
theorem chk_mk {r ax ay m o px py vx vy : Int} (h : (4096 ≤ r ∧ r ≤ 4194304) ∧ ((-4194304 ≤ ax ∧ ax ≤ 4194304) ∧ (-4194304 ≤ ay ∧ ay ≤ 4194304)) ∧ (0 ≤ m ∧ m ≤ 1048576) ∧ (0 ≤ o ∧ o ≤ 65536) ∧ ((-1073741824 ≤ px ∧ px ≤ 1073741824) ∧ (-1073741824 ≤ py ∧ py ≤ 1073741824)) ∧ ((-16777216 ≤ vx ∧ vx ≤ 16777216) ∧ (-16777216 ≤ vy ∧ vy ≤ 16777216))) : chk r ax ay m o px py vx vy = 0 := by
 obtain ⟨h1, h2, h3, h4, h5, h6⟩ := h
 unfold chk
 rw [if_pos h1, if_pos h2, if_pos h3, if_pos h4, if_pos h5, if_pos h6]
theorem pb_of {x : Bd} (h : okI x) : Pb x := by
 obtain ⟨_, _, _, _, h5, _⟩ := chk_six h
 exact ⟨h5.1.1, h5.1.2, h5.2.1, h5.2.2⟩
theorem ok_vel {x : Bd} {a b : Int} (h : okI x) (ha : -16777216 ≤ a ∧ a ≤ 16777216) (hb : -16777216 ≤ b ∧ b ≤ 16777216) : okI (velB x a b) := by
 obtain ⟨h1, h2, h3, h4, h5, _⟩ := chk_six h
 exact chk_mk ⟨h1, h2, h3, h4, h5, ha, hb⟩
theorem ok_pl {x : Bd} {a b : Int} (h : okI x) (ha : -1073741824 ≤ a ∧ a ≤ 1073741824) (hb : -1073741824 ≤ b ∧ b ≤ 1073741824) : okI (plB x a b) := by
 obtain ⟨h1, h2, h3, h4, _, h6⟩ := chk_six h
 exact chk_mk ⟨h1, h2, h3, h4, ⟨ha, hb⟩, h6⟩
theorem ok_grv {x : Bd} (h : okI x) : okI (grvB x) := by
 unfold grvB
 split
 ·obtain ⟨_, _, _, _, _, h6⟩ := chk_six h
  exact ok_vel h h6.1 (limJ_bd _)
 ·exact h
theorem ok_mv {x : Bd} (s : Sh) (h : okI x) : okI (mtB x s) := ok_pl h (limW_bd _) (limW_bd _)
theorem grvY_bd {x : Bd} (h : Vb x) : -16778240 ≤ grvY x ∧ grvY x ≤ 16776192 := by
 have := h.vy0; have := h.vy1
 unfold grvY
 omega
theorem mtX_bd {x : Bd} {s : Sh} (h : Vb x) (p : Pb x) (hs : Sin s) : -9223372036854775808 ≤ mtX x s ∧ mtX x s ≤ 9223372036854775807 ∧ -9223372036854775808 ≤ x.px + s.1 ∧ x.px + s.1 ≤ 9223372036854775807 ∧ -262144 ≤ x.vx / 64 ∧ x.vx / 64 ≤ 262144 := by
 have := h.vx0; have := h.vx1; have := p.px0; have := p.px1; have := hs.1.1; have := hs.1.2
 unfold mtX
 omega
theorem mtY_bd {x : Bd} {s : Sh} (h : Vb x) (p : Pb x) (hs : Sin s) : -9223372036854775808 ≤ mtY x s ∧ mtY x s ≤ 9223372036854775807 ∧ -9223372036854775808 ≤ x.py + s.2 ∧ x.py + s.2 ≤ 9223372036854775807 ∧ -262144 ≤ x.vy / 64 ∧ x.vy / 64 ≤ 262144 := by
 have := h.vy0; have := h.vy1; have := p.py0; have := p.py1; have := hs.2.1; have := hs.2.2
 unfold mtY
 omega
def mtL (L : List Bd) (S : List Sh) : List Bd := List.zipWith mtB L S
def mtA (L : List Bd) (S : List Sh) : List Bool := List.zipWith mtC L S
theorem mtL_len {L : List Bd} {S : List Sh} (h : S.length = L.length) : (mtL L S).length = L.length := by
 unfold mtL
 rw [List.length_zipWith, h, Nat.min_self]
theorem mtL_at {L : List Bd} {S : List Sh} {k : Nat} {x : Bd} {s : Sh} (hx : L[k]? = some x) (hs : S[k]? = some s) : (mtL L S)[k]? = some (mtB x s) := by
 unfold mtL
 rw [List.getElem?_zipWith, hx, hs]
theorem mtA_at {L : List Bd} {S : List Sh} {k : Nat} {x : Bd} {s : Sh} (hx : L[k]? = some x) (hs : S[k]? = some s) : (mtA L S)[k]? = some (mtC x s) := by
 unfold mtA
 rw [List.getElem?_zipWith, hx, hs]
theorem mtA_len {L : List Bd} {S : List Sh} (h : S.length = L.length) : (mtA L S).length = L.length := by
 unfold mtA
 rw [List.length_zipWith, h, Nat.min_self]
theorem mtL_mem {L : List Bd} {S : List Sh} {y : Bd} (h : y ∈ mtL L S) : ∃ x s, x ∈ L ∧ s ∈ S ∧ y = mtB x s := by
 obtain ⟨k, hk⟩ := List.mem_iff_getElem?.1 h
 unfold mtL at hk
 rw [List.getElem?_zipWith] at hk
 cases hx : L[k]? with
 | none => rw [hx] at hk; simp at hk
 | some x =>
   cases hs : S[k]? with
   | none => rw [hx, hs] at hk; simp at hk
   | some s =>
     rw [hx, hs] at hk
     injection hk with hk
     exact ⟨x, s, List.mem_of_getElem? hx, List.mem_of_getElem? hs, hk.symm⟩
theorem takeB {A : List Bool} {k : Nat} {z : Bool} (h : A[k]? = some z) : (A.take (k + 1)).any id = ((A.take k).any id || z) := by
 rw [List.take_add_one, h]
 simp
abbrev KRc (x y : Bd) (a b c d : Int) : Prop := ∀ w, Calls Tryz.prog 65 #[.agg #[.int .u32 x.k, .int .i32 x.r, .int .i32 x.ax, .int .i32 x.ay, .int .i32 x.m, .int .i32 x.o, .int .i32 x.px, .int .i32 x.py, .int .i32 x.vx, .int .i32 x.vy], .agg #[.int .u32 y.k, .int .i32 y.r, .int .i32 y.ax, .int .i32 y.ay, .int .i32 y.m, .int .i32 y.o, .int .i32 y.px, .int .i32 y.py, .int .i32 y.vx, .int .i32 y.vy]] w fun e w' => e = .returned (.agg #[.int .i32 a, .int .i32 b, .int .i32 c, .int .i32 d]) ∧ Kep w.heap.size w w'
abbrev KRo (x y : Bd) (v : Ct) (z : Bool) : Prop := ∀ w, Calls Tryz.prog 42 #[.agg #[.int .u32 x.k, .int .i32 x.r, .int .i32 x.ax, .int .i32 x.ay, .int .i32 x.m, .int .i32 x.o, .int .i32 x.px, .int .i32 x.py, .int .i32 x.vx, .int .i32 x.vy], .agg #[.int .u32 y.k, .int .i32 y.r, .int .i32 y.ax, .int .i32 y.ay, .int .i32 y.m, .int .i32 y.o, .int .i32 y.px, .int .i32 y.py, .int .i32 y.vx, .int .i32 y.vy]] w fun e w' => e = .returned (.tuple #[.agg #[.int .u32 v.lo, .int .u32 v.hi, .int .i32 v.nx, .int .i32 v.ny, .int .i32 v.dp], .bool z]) ∧ Kep w.heap.size w w'
theorem wrp {n q : Int} (h : n = q) (h1 : -2147483648 ≤ n) (h2 : n < 2147483648) : wrap32 n = q := by
 rw [← h]
 unfold wrap32
 omega
theorem krc {x y : Bd} {a b c d t : Int} (hx : okC x) (hy : okC y) (hc : cc x y = ⟨a, b, c, d, t⟩) : KRc x y a b c d := fun w => by
 have h1 := okC_lim hx
 have h2 := okC_lim hy
 have hs := cc_sg hx hy
 have C5 := rch hs
 obtain ⟨e0, he0⟩ : ∃ z, z = x.px - x.ax := ⟨_, rfl⟩
 obtain ⟨e1, he1⟩ : ∃ z, z = x.py - x.ay := ⟨_, rfl⟩
 obtain ⟨e2, he2⟩ : ∃ z, z = x.px + x.ax := ⟨_, rfl⟩
 obtain ⟨e3, he3⟩ : ∃ z, z = x.py + x.ay := ⟨_, rfl⟩
 obtain ⟨e4, he4⟩ : ∃ z, z = y.px - y.ax := ⟨_, rfl⟩
 obtain ⟨e5, he5⟩ : ∃ z, z = y.py - y.ay := ⟨_, rfl⟩
 obtain ⟨e6, he6⟩ : ∃ z, z = y.px + y.ax := ⟨_, rfl⟩
 obtain ⟨e7, he7⟩ : ∃ z, z = y.py + y.ay := ⟨_, rfl⟩
 have C1 : Hid (∀ w, Calls Tryz.prog 84 #[.agg #[.int .u32 x.k, .int .i32 x.r, .int .i32 x.ax, .int .i32 x.ay, .int .i32 x.m, .int .i32 x.o, .int .i32 x.px, .int .i32 x.py, .int .i32 x.vx, .int .i32 x.vy]] w fun e w' => e = .returned (.agg #[.int .i32 e0, .int .i32 e1]) ∧ Kep w.heap.size w w') := Lib.hid (fun w => kep_calls (fst x.k x.r x.ax x.ay x.m x.o x.px x.py x.vx x.vy e0 e1 (wrp he0.symm (by omega) (by omega)) (wrp he1.symm (by omega) (by omega)) w))
 have C2 : Hid (∀ w, Calls Tryz.prog 85 #[.agg #[.int .u32 x.k, .int .i32 x.r, .int .i32 x.ax, .int .i32 x.ay, .int .i32 x.m, .int .i32 x.o, .int .i32 x.px, .int .i32 x.py, .int .i32 x.vx, .int .i32 x.vy]] w fun e w' => e = .returned (.agg #[.int .i32 e2, .int .i32 e3]) ∧ Kep w.heap.size w w') := Lib.hid (fun w => kep_calls (snd x.k x.r x.ax x.ay x.m x.o x.px x.py x.vx x.vy e2 e3 (wrp he2.symm (by omega) (by omega)) (wrp he3.symm (by omega) (by omega)) w))
 have C3 : Hid (∀ w, Calls Tryz.prog 84 #[.agg #[.int .u32 y.k, .int .i32 y.r, .int .i32 y.ax, .int .i32 y.ay, .int .i32 y.m, .int .i32 y.o, .int .i32 y.px, .int .i32 y.py, .int .i32 y.vx, .int .i32 y.vy]] w fun e w' => e = .returned (.agg #[.int .i32 e4, .int .i32 e5]) ∧ Kep w.heap.size w w') := Lib.hid (fun w => kep_calls (fst y.k y.r y.ax y.ay y.m y.o y.px y.py y.vx y.vy e4 e5 (wrp he4.symm (by omega) (by omega)) (wrp he5.symm (by omega) (by omega)) w))
 have C4 : Hid (∀ w, Calls Tryz.prog 85 #[.agg #[.int .u32 y.k, .int .i32 y.r, .int .i32 y.ax, .int .i32 y.ay, .int .i32 y.m, .int .i32 y.o, .int .i32 y.px, .int .i32 y.py, .int .i32 y.vx, .int .i32 y.vy]] w fun e w' => e = .returned (.agg #[.int .i32 e6, .int .i32 e7]) ∧ Kep w.heap.size w w') := Lib.hid (fun w => kep_calls (snd y.k y.r y.ax y.ay y.m y.o y.px y.py y.vx y.vy e6 e7 (wrp he6.symm (by omega) (by omega)) (wrp he7.symm (by omega) (by omega)) w))
 unfold cc at hc
 rw [hc] at C5
 rw [← he0, ← he1, ← he2, ← he3, ← he4, ← he5, ← he6, ← he7] at C5
 replace C5 : Hid (∀ w, Calls Tryz.prog 83 #[.agg #[.int .i32 e0, .int .i32 e1], .agg #[.int .i32 e2, .int .i32 e3], .agg #[.int .i32 e4, .int .i32 e5], .agg #[.int .i32 e6, .int .i32 e7]] w fun e w' => e = .returned (.agg #[.int .i32 a, .int .i32 b, .int .i32 c, .int .i32 d]) ∧ Kep w.heap.size w w') := Lib.hid C5
 clear h1 h2 hs hc he0 he1 he2 he3 he4 he5 he6 he7 hx hy
 go_enter Tryz.func65, Tryz.ntmps65
 go_wp2_with fail
 generalize hW : World.alloc (World.alloc (World.alloc w _) _) _ = W1
 have x0 : W1.cell? ⟨w.heap.size, 0, none⟩ = some (.int .u32 x.k) := by
  rw [← hW]
  (repeat (first | rw [World.cell?_drew] | rw [World.cell?_alloc_past _ _ _ (by first | (simp; done) | (simp; omega))])); rw [World.cell?_alloc_at _ _ _ _ (by simp)]; rfl
 have x1 : W1.cell? ⟨w.heap.size, 1, none⟩ = some (.int .i32 x.r) := by
  rw [← hW]
  (repeat (first | rw [World.cell?_drew] | rw [World.cell?_alloc_past _ _ _ (by first | (simp; done) | (simp; omega))])); rw [World.cell?_alloc_at _ _ _ _ (by simp)]; rfl
 have x2 : W1.cell? ⟨w.heap.size, 2, none⟩ = some (.int .i32 x.ax) := by
  rw [← hW]
  (repeat (first | rw [World.cell?_drew] | rw [World.cell?_alloc_past _ _ _ (by first | (simp; done) | (simp; omega))])); rw [World.cell?_alloc_at _ _ _ _ (by simp)]; rfl
 have x3 : W1.cell? ⟨w.heap.size, 3, none⟩ = some (.int .i32 x.ay) := by
  rw [← hW]
  (repeat (first | rw [World.cell?_drew] | rw [World.cell?_alloc_past _ _ _ (by first | (simp; done) | (simp; omega))])); rw [World.cell?_alloc_at _ _ _ _ (by simp)]; rfl
 have x4 : W1.cell? ⟨w.heap.size, 4, none⟩ = some (.int .i32 x.m) := by
  rw [← hW]
  (repeat (first | rw [World.cell?_drew] | rw [World.cell?_alloc_past _ _ _ (by first | (simp; done) | (simp; omega))])); rw [World.cell?_alloc_at _ _ _ _ (by simp)]; rfl
 have x5 : W1.cell? ⟨w.heap.size, 5, none⟩ = some (.int .i32 x.o) := by
  rw [← hW]
  (repeat (first | rw [World.cell?_drew] | rw [World.cell?_alloc_past _ _ _ (by first | (simp; done) | (simp; omega))])); rw [World.cell?_alloc_at _ _ _ _ (by simp)]; rfl
 have x6 : W1.cell? ⟨w.heap.size, 6, none⟩ = some (.int .i32 x.px) := by
  rw [← hW]
  (repeat (first | rw [World.cell?_drew] | rw [World.cell?_alloc_past _ _ _ (by first | (simp; done) | (simp; omega))])); rw [World.cell?_alloc_at _ _ _ _ (by simp)]; rfl
 have x7 : W1.cell? ⟨w.heap.size, 7, none⟩ = some (.int .i32 x.py) := by
  rw [← hW]
  (repeat (first | rw [World.cell?_drew] | rw [World.cell?_alloc_past _ _ _ (by first | (simp; done) | (simp; omega))])); rw [World.cell?_alloc_at _ _ _ _ (by simp)]; rfl
 have x8 : W1.cell? ⟨w.heap.size, 8, none⟩ = some (.int .i32 x.vx) := by
  rw [← hW]
  (repeat (first | rw [World.cell?_drew] | rw [World.cell?_alloc_past _ _ _ (by first | (simp; done) | (simp; omega))])); rw [World.cell?_alloc_at _ _ _ _ (by simp)]; rfl
 have x9 : W1.cell? ⟨w.heap.size, 9, none⟩ = some (.int .i32 x.vy) := by
  rw [← hW]
  (repeat (first | rw [World.cell?_drew] | rw [World.cell?_alloc_past _ _ _ (by first | (simp; done) | (simp; omega))])); rw [World.cell?_alloc_at _ _ _ _ (by simp)]; rfl
 have y0 : W1.cell? ⟨w.heap.size + 1, 0, none⟩ = some (.int .u32 y.k) := by
  rw [← hW]
  (repeat (first | rw [World.cell?_drew] | rw [World.cell?_alloc_past _ _ _ (by first | (simp; done) | (simp; omega))])); rw [World.cell?_alloc_at _ _ _ _ (by simp)]; rfl
 have y1 : W1.cell? ⟨w.heap.size + 1, 1, none⟩ = some (.int .i32 y.r) := by
  rw [← hW]
  (repeat (first | rw [World.cell?_drew] | rw [World.cell?_alloc_past _ _ _ (by first | (simp; done) | (simp; omega))])); rw [World.cell?_alloc_at _ _ _ _ (by simp)]; rfl
 have y2 : W1.cell? ⟨w.heap.size + 1, 2, none⟩ = some (.int .i32 y.ax) := by
  rw [← hW]
  (repeat (first | rw [World.cell?_drew] | rw [World.cell?_alloc_past _ _ _ (by first | (simp; done) | (simp; omega))])); rw [World.cell?_alloc_at _ _ _ _ (by simp)]; rfl
 have y3 : W1.cell? ⟨w.heap.size + 1, 3, none⟩ = some (.int .i32 y.ay) := by
  rw [← hW]
  (repeat (first | rw [World.cell?_drew] | rw [World.cell?_alloc_past _ _ _ (by first | (simp; done) | (simp; omega))])); rw [World.cell?_alloc_at _ _ _ _ (by simp)]; rfl
 have y4 : W1.cell? ⟨w.heap.size + 1, 4, none⟩ = some (.int .i32 y.m) := by
  rw [← hW]
  (repeat (first | rw [World.cell?_drew] | rw [World.cell?_alloc_past _ _ _ (by first | (simp; done) | (simp; omega))])); rw [World.cell?_alloc_at _ _ _ _ (by simp)]; rfl
 have y5 : W1.cell? ⟨w.heap.size + 1, 5, none⟩ = some (.int .i32 y.o) := by
  rw [← hW]
  (repeat (first | rw [World.cell?_drew] | rw [World.cell?_alloc_past _ _ _ (by first | (simp; done) | (simp; omega))])); rw [World.cell?_alloc_at _ _ _ _ (by simp)]; rfl
 have y6 : W1.cell? ⟨w.heap.size + 1, 6, none⟩ = some (.int .i32 y.px) := by
  rw [← hW]
  (repeat (first | rw [World.cell?_drew] | rw [World.cell?_alloc_past _ _ _ (by first | (simp; done) | (simp; omega))])); rw [World.cell?_alloc_at _ _ _ _ (by simp)]; rfl
 have y7 : W1.cell? ⟨w.heap.size + 1, 7, none⟩ = some (.int .i32 y.py) := by
  rw [← hW]
  (repeat (first | rw [World.cell?_drew] | rw [World.cell?_alloc_past _ _ _ (by first | (simp; done) | (simp; omega))])); rw [World.cell?_alloc_at _ _ _ _ (by simp)]; rfl
 have y8 : W1.cell? ⟨w.heap.size + 1, 8, none⟩ = some (.int .i32 y.vx) := by
  rw [← hW]
  (repeat (first | rw [World.cell?_drew] | rw [World.cell?_alloc_past _ _ _ (by first | (simp; done) | (simp; omega))])); rw [World.cell?_alloc_at _ _ _ _ (by simp)]; rfl
 have y9 : W1.cell? ⟨w.heap.size + 1, 9, none⟩ = some (.int .i32 y.vy) := by
  rw [← hW]
  (repeat (first | rw [World.cell?_drew] | rw [World.cell?_alloc_past _ _ _ (by first | (simp; done) | (simp; omega))])); rw [World.cell?_alloc_at _ _ _ _ (by simp)]; rfl
 have sr0 : (W1.cell? ⟨w.heap.size + 1 + 1, 0, none⟩).isSome = true := by
  rw [← hW]
  (repeat (first | rw [World.cell?_drew] | rw [World.cell?_alloc_past _ _ _ (by first | (simp; done) | (simp; omega))])); rw [World.cell?_alloc_at _ _ _ _ (by simp)]; rfl
 have sr1 : (W1.cell? ⟨w.heap.size + 1 + 1, 1, none⟩).isSome = true := by
  rw [← hW]
  (repeat (first | rw [World.cell?_drew] | rw [World.cell?_alloc_past _ _ _ (by first | (simp; done) | (simp; omega))])); rw [World.cell?_alloc_at _ _ _ _ (by simp)]; rfl
 have sr2 : (W1.cell? ⟨w.heap.size + 1 + 1, 2, none⟩).isSome = true := by
  rw [← hW]
  (repeat (first | rw [World.cell?_drew] | rw [World.cell?_alloc_past _ _ _ (by first | (simp; done) | (simp; omega))])); rw [World.cell?_alloc_at _ _ _ _ (by simp)]; rfl
 have sr3 : (W1.cell? ⟨w.heap.size + 1 + 1, 3, none⟩).isSome = true := by
  rw [← hW]
  (repeat (first | rw [World.cell?_drew] | rw [World.cell?_alloc_past _ _ _ (by first | (simp; done) | (simp; omega))])); rw [World.cell?_alloc_at _ _ _ _ (by simp)]; rfl
 have fr0 : W1.frozen? ⟨w.heap.size + 1 + 1, 0, none⟩ = false := by
  rw [← hW]
  (repeat (first | rw [World.frozen?_drew] | rw [World.frozen?_alloc_past _ _ _ (by first | (simp; done) | (simp; omega))])); rw [World.frozen?_alloc_at _ _ _ _ (by simp)]
 have fr1 : W1.frozen? ⟨w.heap.size + 1 + 1, 1, none⟩ = false := by
  rw [← hW]
  (repeat (first | rw [World.frozen?_drew] | rw [World.frozen?_alloc_past _ _ _ (by first | (simp; done) | (simp; omega))])); rw [World.frozen?_alloc_at _ _ _ _ (by simp)]
 have fr2 : W1.frozen? ⟨w.heap.size + 1 + 1, 2, none⟩ = false := by
  rw [← hW]
  (repeat (first | rw [World.frozen?_drew] | rw [World.frozen?_alloc_past _ _ _ (by first | (simp; done) | (simp; omega))])); rw [World.frozen?_alloc_at _ _ _ _ (by simp)]
 have fr3 : W1.frozen? ⟨w.heap.size + 1 + 1, 3, none⟩ = false := by
  rw [← hW]
  (repeat (first | rw [World.frozen?_drew] | rw [World.frozen?_alloc_past _ _ _ (by first | (simp; done) | (simp; omega))])); rw [World.frozen?_alloc_at _ _ _ _ (by simp)]
 have gg : Kep w.heap.size w W1 := by rw [← hW]; exact (kep_more (kep_more (kep_more (Kep.refl _ _) _) _) _)
 clear hW
 refine wp_region_noPanic ?_
 refine wp_region_held_drew (S := (fun w' => w'.cell? ⟨w.heap.size, 0, none⟩ = some (.int .u32 x.k) ∧ w'.cell? ⟨w.heap.size, 1, none⟩ = some (.int .i32 x.r) ∧ w'.cell? ⟨w.heap.size, 2, none⟩ = some (.int .i32 x.ax) ∧ w'.cell? ⟨w.heap.size, 3, none⟩ = some (.int .i32 x.ay) ∧ w'.cell? ⟨w.heap.size, 4, none⟩ = some (.int .i32 x.m) ∧ w'.cell? ⟨w.heap.size, 5, none⟩ = some (.int .i32 x.o) ∧ w'.cell? ⟨w.heap.size, 6, none⟩ = some (.int .i32 x.px) ∧ w'.cell? ⟨w.heap.size, 7, none⟩ = some (.int .i32 x.py) ∧ w'.cell? ⟨w.heap.size, 8, none⟩ = some (.int .i32 x.vx) ∧ w'.cell? ⟨w.heap.size, 9, none⟩ = some (.int .i32 x.vy) ∧ w'.cell? ⟨w.heap.size + 1, 0, none⟩ = some (.int .u32 y.k) ∧ w'.cell? ⟨w.heap.size + 1, 1, none⟩ = some (.int .i32 y.r) ∧ w'.cell? ⟨w.heap.size + 1, 2, none⟩ = some (.int .i32 y.ax) ∧ w'.cell? ⟨w.heap.size + 1, 3, none⟩ = some (.int .i32 y.ay) ∧ w'.cell? ⟨w.heap.size + 1, 4, none⟩ = some (.int .i32 y.m) ∧ w'.cell? ⟨w.heap.size + 1, 5, none⟩ = some (.int .i32 y.o) ∧ w'.cell? ⟨w.heap.size + 1, 6, none⟩ = some (.int .i32 y.px) ∧ w'.cell? ⟨w.heap.size + 1, 7, none⟩ = some (.int .i32 y.py) ∧ w'.cell? ⟨w.heap.size + 1, 8, none⟩ = some (.int .i32 y.vx) ∧ w'.cell? ⟨w.heap.size + 1, 9, none⟩ = some (.int .i32 y.vy) ∧ (w'.cell? ⟨w.heap.size + 1 + 1, 0, none⟩).isSome = true ∧ (w'.cell? ⟨w.heap.size + 1 + 1, 1, none⟩).isSome = true ∧ (w'.cell? ⟨w.heap.size + 1 + 1, 2, none⟩).isSome = true ∧ (w'.cell? ⟨w.heap.size + 1 + 1, 3, none⟩).isSome = true ∧ w'.frozen? ⟨w.heap.size + 1 + 1, 0, none⟩ = false ∧ w'.frozen? ⟨w.heap.size + 1 + 1, 1, none⟩ = false ∧ w'.frozen? ⟨w.heap.size + 1 + 1, 2, none⟩ = false ∧ w'.frozen? ⟨w.heap.size + 1 + 1, 3, none⟩ = false ∧ Kep w.heap.size w w')) (by kernel_rfl) (⟨by rw [World.cell?_drew]; exact x0, by rw [World.cell?_drew]; exact x1, by rw [World.cell?_drew]; exact x2, by rw [World.cell?_drew]; exact x3, by rw [World.cell?_drew]; exact x4, by rw [World.cell?_drew]; exact x5, by rw [World.cell?_drew]; exact x6, by rw [World.cell?_drew]; exact x7, by rw [World.cell?_drew]; exact x8, by rw [World.cell?_drew]; exact x9, by rw [World.cell?_drew]; exact y0, by rw [World.cell?_drew]; exact y1, by rw [World.cell?_drew]; exact y2, by rw [World.cell?_drew]; exact y3, by rw [World.cell?_drew]; exact y4, by rw [World.cell?_drew]; exact y5, by rw [World.cell?_drew]; exact y6, by rw [World.cell?_drew]; exact y7, by rw [World.cell?_drew]; exact y8, by rw [World.cell?_drew]; exact y9, by rw [World.cell?_drew]; exact sr0, by rw [World.cell?_drew]; exact sr1, by rw [World.cell?_drew]; exact sr2, by rw [World.cell?_drew]; exact sr3, by rw [World.frozen?_drew]; exact fr0, by rw [World.frozen?_drew]; exact fr1, by rw [World.frozen?_drew]; exact fr2, by rw [World.frozen?_drew]; exact fr3, kep_drew gg⟩) (fun hH => ?_)
 refine sT 0 hH ?_
 refine sT 2 hH ?_
 refine sT 4 hH ?_
 refine sN 6 hH ?_
 refine sC 1 (fun K hK => ?_)
 go_simp
 (with_reducible refine (C1.out _).mono ?_); rintro e v1_1 ⟨rfl, g⟩
 refine hK.out _ _ (by (try dsimp only); (go_split_ands; and_intros <;> first | exact g.all (by assumption) | exact kep_next (by assumption) g | exact kep_some g (by assumption) | exact kep_froz g (by assumption) (by assumption))) (fun hH2 => ?_)
 clear hK K hH; have hH := hH2; clear hH2
 try simp only [Act.put, List.setIfInBounds_toArray, List.set_cons_zero, List.set_cons_succ]
 refine sC 3 (fun K hK => ?_)
 go_simp
 (with_reducible refine (C2.out _).mono ?_); rintro e v1_3 ⟨rfl, g⟩
 refine hK.out _ _ (by (try dsimp only); (go_split_ands; and_intros <;> first | exact g.all (by assumption) | exact kep_next (by assumption) g | exact kep_some g (by assumption) | exact kep_froz g (by assumption) (by assumption))) (fun hH2 => ?_)
 clear hK K hH; have hH := hH2; clear hH2
 try simp only [Act.put, List.setIfInBounds_toArray, List.set_cons_zero, List.set_cons_succ]
 refine sC 5 (fun K hK => ?_)
 go_simp
 (with_reducible refine (C3.out _).mono ?_); rintro e v1_5 ⟨rfl, g⟩
 refine hK.out _ _ (by (try dsimp only); (go_split_ands; and_intros <;> first | exact g.all (by assumption) | exact kep_next (by assumption) g | exact kep_some g (by assumption) | exact kep_froz g (by assumption) (by assumption))) (fun hH2 => ?_)
 clear hK K hH; have hH := hH2; clear hH2
 try simp only [Act.put, List.setIfInBounds_toArray, List.set_cons_zero, List.set_cons_succ]
 refine sC 7 (fun K hK => ?_)
 go_simp
 (with_reducible refine (C4.out _).mono ?_); rintro e v1_7 ⟨rfl, g⟩
 refine hK.out _ _ (by (try dsimp only); (go_split_ands; and_intros <;> first | exact g.all (by assumption) | exact kep_next (by assumption) g | exact kep_some g (by assumption) | exact kep_froz g (by assumption) (by assumption))) (fun hH2 => ?_)
 clear hK K hH; have hH := hH2; clear hH2
 try simp only [Act.put, List.setIfInBounds_toArray, List.set_cons_zero, List.set_cons_succ]
 refine sC 8 (fun K hK => ?_)
 go_simp
 (with_reducible refine (C5.out _).mono ?_); rintro e v1_8 ⟨rfl, g⟩
 refine hK.out _ _ (by (try dsimp only); (go_split_ands; and_intros <;> first | exact g.all (by assumption) | exact kep_next (by assumption) g | exact kep_some g (by assumption) | exact kep_froz g (by assumption) (by assumption))) (fun hH2 => ?_)
 clear hK K hH; have hH := hH2; clear hH2
 try simp only [Act.put, List.setIfInBounds_toArray, List.set_cons_zero, List.set_cons_succ]
 obtain ⟨x0, x1, x2, x3, x4, x5, x6, x7, x8, x9, y0, y1, y2, y3, y4, y5, y6, y7, y8, y9, sr0, sr1, sr2, sr3, fr0, fr1, fr2, fr3, gg⟩ := id hH
 refine sC 9 (fun K hK => ?_)
 obtain ⟨qr0, eqr0⟩ := Option.isSome_iff_exists.1 sr0
 obtain ⟨qr1, eqr1⟩ := Option.isSome_iff_exists.1 sr1
 obtain ⟨qr2, eqr2⟩ := Option.isSome_iff_exists.1 sr2
 obtain ⟨qr3, eqr3⟩ := Option.isSome_iff_exists.1 sr3
 have br0 := eqr0
 have br1 := eqr1
 have br2 := eqr2
 have br3 := eqr3
 go_simp
 refine hK.out _ _ (by (try dsimp only); and_intros <;> repeat (first | with_reducible assumption | with_reducible refine sset_far ?_ (by first | (simp; done) | (simp; omega)) | with_reducible refine sset_some _ _ _ ?_ | with_reducible refine sset_froz ?_ | with_reducible refine kep_set ?_ (by first | (simp; done) | (simp; omega)) _)) (fun hH2 => ?_)
 clear hK K hH x0 x1 x2 x3 x4 x5 x6 x7 x8 x9 y0 y1 y2 y3 y4 y5 y6 y7 y8 y9 sr0 sr1 sr2 sr3 fr0 fr1 fr2 fr3 gg eqr0 eqr1 eqr2 eqr3; have hH := hH2; clear hH2
 try simp only [Act.put, List.setIfInBounds_toArray, List.set_cons_zero, List.set_cons_succ]
 refine sE ?_
 clear x0 x1 x2 x3 x4 x5 x6 x7 x8 x9 y0 y1 y2 y3 y4 y5 y6 y7 y8 y9 sr0 sr1 sr2 sr3 fr0 fr1 fr2 fr3 gg
 obtain ⟨x0, x1, x2, x3, x4, x5, x6, x7, x8, x9, y0, y1, y2, y3, y4, y5, y6, y7, y8, y9, sr0, sr1, sr2, sr3, fr0, fr1, fr2, fr3, gg⟩ := hH
 go_wp2_with fail
 exact bodyPost_ret (v := .agg #[.int .i32 a, .int .i32 b, .int .i32 c, .int .i32 d]) (by simp [results, Tryz.results65, go_sem, br0, br1, br2, br3]) rfl ⟨rfl, gg⟩
instance (x : Bd) : Decidable (okC x) := by unfold okC; infer_instance
theorem kro_lt {x y : Bd} (hx : okC x) (hy : okC y) (hk : x.k < y.k) : KRo x y (conV x y) (tchB x y) := fun w => by
 obtain ⟨⟨a, b, c, d, t⟩, hcc⟩ : ∃ z, z = cc x y := ⟨_, rfl⟩
 have C1 := Lib.hid (krc hx hy hcc.symm)
 have hg := cc_good hx hy
 have hi := cc_ind hx hy
 have hn := cln_is hx hy
 have hnb := cln_bd hx hy
 have hR := csm_bd hx hy
 have hti := tch_iff hx hy
 unfold cdx cdy at hi hn
 rw [← hcc] at hg hi hn
 dsimp only at hi hn
 have C2 : Hid (RD2 a b c d t) := Lib.hid hg.rd
 have g1 := hg.a
 have g2 := hg.b
 have g3 := hg.c
 have g4 := hg.d
 dsimp only at g1 g2 g3 g4
 have ht : (cc x y).t = t := by rw [← hcc]
 have l1 := okC_lim hx
 have l2 := okC_lim hy
 obtain ⟨dx, hdx⟩ : ∃ z, z = c - a := ⟨_, rfl⟩
 obtain ⟨dy, hdy⟩ : ∃ z, z = d - b := ⟨_, rfl⟩
 obtain ⟨n, hnn⟩ : ∃ z, z = cln x y := ⟨_, rfl⟩
 obtain ⟨S, hS⟩ : ∃ z, z = csm x y := ⟨_, rfl⟩
 rw [← hdx, ← hdy] at hi hn
 rw [← hnn] at hn hnb hti
 rw [← hS] at hR hti
 have hS2 : x.r + y.r = S := hS.symm
 have q0 : decide (y.k < x.k) = false := decide_eq_false (by omega)
 have hSS : 67108864 ≤ S * S ∧ S * S ≤ 70368744177664 := ⟨Int.mul_le_mul hR.1 hR.1 (by decide) (by omega), Int.mul_le_mul hR.2 hR.2 (by omega) (by decide)⟩
 have htd : tchB x y = decide (t < S * S) := by unfold tchB; rw [ht, ← hS]
 obtain ⟨SS, hSS2⟩ : ∃ z, z = S * S := ⟨_, rfl⟩
 rw [← hSS2] at hSS htd
 have w1 : IntKind.i64.wrap x.r = x.r := by rw [IntKind.wrap_i64]; unfold Cin at *; omega
 have w2 : IntKind.i64.wrap y.r = y.r := by rw [IntKind.wrap_i64]; unfold Cin at *; omega
 have w3 : IntKind.i64.wrap (x.r + y.r) = S := by rw [IntKind.wrap_i64]; unfold Cin at *; omega
 have w5 : IntKind.i64.wrap a = a := by rw [IntKind.wrap_i64]; unfold Cin at *; omega
 have w6 : IntKind.i64.wrap b = b := by rw [IntKind.wrap_i64]; unfold Cin at *; omega
 have w7 : IntKind.i64.wrap c = c := by rw [IntKind.wrap_i64]; unfold Cin at *; omega
 have w8 : IntKind.i64.wrap d = d := by rw [IntKind.wrap_i64]; unfold Cin at *; omega
 have w9 : IntKind.i64.wrap (c - a) = dx := by rw [IntKind.wrap_i64]; unfold Cin at *; omega
 have w10 : IntKind.i64.wrap (d - b) = dy := by rw [IntKind.wrap_i64]; unfold Cin at *; omega
 have u1 : IntKind.u64.wrap S = S := by rw [IntKind.wrap_u64]; omega
 have u2 : IntKind.u64.wrap (S * S) = SS := by rw [← hSS2, IntKind.wrap_u64]; omega
 by_cases hz : tchB x y = true
 ·have hlt := hti.1 hz
  have q1 : decide (SS ≤ t) = false := decide_eq_false (by rw [htd] at hz; have := of_decide_eq_true hz; omega)
  obtain ⟨p, hp⟩ : ∃ z, z = ux dx n := ⟨_, rfl⟩
  obtain ⟨q, hq⟩ : ∃ z, z = uy dy n := ⟨_, rfl⟩
  have C3 : Hid (∀ w, Calls Tryz.prog 67 #[.int .i64 dx, .int .i64 dy] w fun e w' => e = .returned (.agg #[.int .i32 p, .int .i32 q]) ∧ Kep w.heap.size w w') := Lib.hid (fun w => kep_calls (runi2 hi.1 hi.2 hn hp.symm hq.symm w))
  have C4 := Lib.hid (rlen2 hi.1 hi.2 hn)
  obtain ⟨dp, hdp⟩ : ∃ z, z = S - n := ⟨_, rfl⟩
  have w11 : IntKind.i64.wrap (S - n) = dp := by rw [← hdp, IntKind.wrap_i64]; omega
  have w12 : IntKind.i32.wrap dp = dp := by rw [IntKind.wrap_i32]; omega
  have hv : conV x y = ⟨x.k, y.k, p, q, dp⟩ := by
   unfold conV conC
   rw [if_pos hz, hdp, hp, hq, hnn, hS, hdx, hdy]
   unfold cdx cdy
   rw [← hcc]
  rw [hv, hz]
  dsimp only
  clear hz hv hp hq hdp hti hlt hi hn hnb hR hSS hSS2 htd hdx hdy hnn hS hS2 l1 l2 ht g1 g2 g3 g4 hg hcc hk hx hy
  go_enter Tryz.func42, Tryz.ntmps42
  go_wp2_with (first
   | ((with_reducible refine (C1.out _).mono ?_); rintro e w1 ⟨rfl, g1⟩
      have zQ := zK g1 (b := w.heap.size) (vs := [.int .u32 x.k, .int .i32 x.r, .int .i32 x.ax, .int .i32 x.ay, .int .i32 x.m, .int .i32 x.o, .int .i32 x.px, .int .i32 x.py, .int .i32 x.vx, .int .i32 x.vy])
      have x0 := zI zQ 0
      have x1 := zI zQ 1
      have x2 := zI zQ 2
      have x3 := zI zQ 3
      have x4 := zI zQ 4
      have x5 := zI zQ 5
      have x6 := zI zQ 6
      have x7 := zI zQ 7
      have x8 := zI zQ 8
      have x9 := zI zQ 9
      clear zQ
      have zQ := zK g1 (b := w.heap.size + 1) (vs := [.int .u32 y.k, .int .i32 y.r, .int .i32 y.ax, .int .i32 y.ay, .int .i32 y.m, .int .i32 y.o, .int .i32 y.px, .int .i32 y.py, .int .i32 y.vx, .int .i32 y.vy])
      have y0 := zI zQ 0
      have y1 := zI zQ 1
      have y2 := zI zQ 2
      have y3 := zI zQ 3
      have y4 := zI zQ 4
      have y5 := zI zQ 5
      have y6 := zI zQ 6
      have y7 := zI zQ 7
      have y8 := zI zQ 8
      have y9 := zI zQ 9
      clear zQ
      have gg := kep_next (kep_more (kep_more (kep_more (Kep.refl _ _) _) _) _) g1
      have sr0 := kep_some g1 (a := ⟨w.heap.size + 1 + 1, 0, none⟩) (by (repeat (first | rw [World.cell?_drew] | rw [World.cell?_alloc_past _ _ _ (by first | (simp; done) | (simp; omega))])); rw [World.cell?_alloc_at _ _ _ _ (by simp)]; rfl)
      have sr1 := kep_some g1 (a := ⟨w.heap.size + 1 + 1, 1, none⟩) (by (repeat (first | rw [World.cell?_drew] | rw [World.cell?_alloc_past _ _ _ (by first | (simp; done) | (simp; omega))])); rw [World.cell?_alloc_at _ _ _ _ (by simp)]; rfl)
      have sr2 := kep_some g1 (a := ⟨w.heap.size + 1 + 1, 2, none⟩) (by (repeat (first | rw [World.cell?_drew] | rw [World.cell?_alloc_past _ _ _ (by first | (simp; done) | (simp; omega))])); rw [World.cell?_alloc_at _ _ _ _ (by simp)]; rfl)
      have sr3 := kep_some g1 (a := ⟨w.heap.size + 1 + 1, 3, none⟩) (by (repeat (first | rw [World.cell?_drew] | rw [World.cell?_alloc_past _ _ _ (by first | (simp; done) | (simp; omega))])); rw [World.cell?_alloc_at _ _ _ _ (by simp)]; rfl)
      have sr4 := kep_some g1 (a := ⟨w.heap.size + 1 + 1, 4, none⟩) (by (repeat (first | rw [World.cell?_drew] | rw [World.cell?_alloc_past _ _ _ (by first | (simp; done) | (simp; omega))])); rw [World.cell?_alloc_at _ _ _ _ (by simp)]; rfl)
      have fr0 := kep_froz g1 (a := ⟨w.heap.size + 1 + 1, 0, none⟩) (by (repeat (first | rw [World.cell?_drew] | rw [World.cell?_alloc_past _ _ _ (by first | (simp; done) | (simp; omega))])); rw [World.cell?_alloc_at _ _ _ _ (by simp)]; rfl) (by (repeat (first | rw [World.frozen?_drew] | rw [World.frozen?_alloc_past _ _ _ (by first | (simp; done) | (simp; omega))])); rw [World.frozen?_alloc_at _ _ _ _ (by simp)])
      have fr1 := kep_froz g1 (a := ⟨w.heap.size + 1 + 1, 1, none⟩) (by (repeat (first | rw [World.cell?_drew] | rw [World.cell?_alloc_past _ _ _ (by first | (simp; done) | (simp; omega))])); rw [World.cell?_alloc_at _ _ _ _ (by simp)]; rfl) (by (repeat (first | rw [World.frozen?_drew] | rw [World.frozen?_alloc_past _ _ _ (by first | (simp; done) | (simp; omega))])); rw [World.frozen?_alloc_at _ _ _ _ (by simp)])
      have fr2 := kep_froz g1 (a := ⟨w.heap.size + 1 + 1, 2, none⟩) (by (repeat (first | rw [World.cell?_drew] | rw [World.cell?_alloc_past _ _ _ (by first | (simp; done) | (simp; omega))])); rw [World.cell?_alloc_at _ _ _ _ (by simp)]; rfl) (by (repeat (first | rw [World.frozen?_drew] | rw [World.frozen?_alloc_past _ _ _ (by first | (simp; done) | (simp; omega))])); rw [World.frozen?_alloc_at _ _ _ _ (by simp)])
      have fr3 := kep_froz g1 (a := ⟨w.heap.size + 1 + 1, 3, none⟩) (by (repeat (first | rw [World.cell?_drew] | rw [World.cell?_alloc_past _ _ _ (by first | (simp; done) | (simp; omega))])); rw [World.cell?_alloc_at _ _ _ _ (by simp)]; rfl) (by (repeat (first | rw [World.frozen?_drew] | rw [World.frozen?_alloc_past _ _ _ (by first | (simp; done) | (simp; omega))])); rw [World.frozen?_alloc_at _ _ _ _ (by simp)])
      have fr4 := kep_froz g1 (a := ⟨w.heap.size + 1 + 1, 4, none⟩) (by (repeat (first | rw [World.cell?_drew] | rw [World.cell?_alloc_past _ _ _ (by first | (simp; done) | (simp; omega))])); rw [World.cell?_alloc_at _ _ _ _ (by simp)]; rfl) (by (repeat (first | rw [World.frozen?_drew] | rw [World.frozen?_alloc_past _ _ _ (by first | (simp; done) | (simp; omega))])); rw [World.frozen?_alloc_at _ _ _ _ (by simp)])
      have zr_w1 : w.heap.size + 1 + 1 < w1.heap.size := by have := g1.size; simp at this; omega
      have zx_w1 : w.heap.size < w1.heap.size := World.block_lt_of_cell? _ _ x0
      have zy_w1 : w.heap.size + 1 < w1.heap.size := World.block_lt_of_cell? _ _ y0)
   | ((with_reducible refine (C2.out _).mono ?_); rintro e w2 ⟨rfl, g2⟩
      replace fr0 := kep_froz g2 (kep_some (kep_more (Kep.refl _ _) _) sr0) (kep_froz (kep_more (Kep.refl _ _) _) sr0 fr0)
      replace sr0 := kep_some g2 (kep_some (kep_more (Kep.refl _ _) _) sr0)
      replace fr1 := kep_froz g2 (kep_some (kep_more (Kep.refl _ _) _) sr1) (kep_froz (kep_more (Kep.refl _ _) _) sr1 fr1)
      replace sr1 := kep_some g2 (kep_some (kep_more (Kep.refl _ _) _) sr1)
      replace fr2 := kep_froz g2 (kep_some (kep_more (Kep.refl _ _) _) sr2) (kep_froz (kep_more (Kep.refl _ _) _) sr2 fr2)
      replace sr2 := kep_some g2 (kep_some (kep_more (Kep.refl _ _) _) sr2)
      replace fr3 := kep_froz g2 (kep_some (kep_more (Kep.refl _ _) _) sr3) (kep_froz (kep_more (Kep.refl _ _) _) sr3 fr3)
      replace sr3 := kep_some g2 (kep_some (kep_more (Kep.refl _ _) _) sr3)
      replace fr4 := kep_froz g2 (kep_some (kep_more (Kep.refl _ _) _) sr4) (kep_froz (kep_more (Kep.refl _ _) _) sr4 fr4)
      replace sr4 := kep_some g2 (kep_some (kep_more (Kep.refl _ _) _) sr4)
      replace x0 := g2.all (Kep.all (kep_more (Kep.refl _ _) _) x0)
      replace x1 := g2.all (Kep.all (kep_more (Kep.refl _ _) _) x1)
      replace x2 := g2.all (Kep.all (kep_more (Kep.refl _ _) _) x2)
      replace x3 := g2.all (Kep.all (kep_more (Kep.refl _ _) _) x3)
      replace x4 := g2.all (Kep.all (kep_more (Kep.refl _ _) _) x4)
      replace x5 := g2.all (Kep.all (kep_more (Kep.refl _ _) _) x5)
      replace x6 := g2.all (Kep.all (kep_more (Kep.refl _ _) _) x6)
      replace x7 := g2.all (Kep.all (kep_more (Kep.refl _ _) _) x7)
      replace x8 := g2.all (Kep.all (kep_more (Kep.refl _ _) _) x8)
      replace x9 := g2.all (Kep.all (kep_more (Kep.refl _ _) _) x9)
      replace y0 := g2.all (Kep.all (kep_more (Kep.refl _ _) _) y0)
      replace y1 := g2.all (Kep.all (kep_more (Kep.refl _ _) _) y1)
      replace y2 := g2.all (Kep.all (kep_more (Kep.refl _ _) _) y2)
      replace y3 := g2.all (Kep.all (kep_more (Kep.refl _ _) _) y3)
      replace y4 := g2.all (Kep.all (kep_more (Kep.refl _ _) _) y4)
      replace y5 := g2.all (Kep.all (kep_more (Kep.refl _ _) _) y5)
      replace y6 := g2.all (Kep.all (kep_more (Kep.refl _ _) _) y6)
      replace y7 := g2.all (Kep.all (kep_more (Kep.refl _ _) _) y7)
      replace y8 := g2.all (Kep.all (kep_more (Kep.refl _ _) _) y8)
      replace y9 := g2.all (Kep.all (kep_more (Kep.refl _ _) _) y9)
      have zQ := zK g2 (b := w1.heap.size) (vs := [.int .i32 a, .int .i32 b, .int .i32 c, .int .i32 d])
      have s0 := zI zQ 0
      have s1 := zI zQ 1
      have s2 := zI zQ 2
      have s3 := zI zQ 3
      clear zQ
      replace gg := kep_next (kep_more gg _) g2
      have zx_w2 : w.heap.size < w2.heap.size := World.block_lt_of_cell? _ _ x0
      have zy_w2 : w.heap.size + 1 < w2.heap.size := World.block_lt_of_cell? _ _ y0
      have zs_w2 : w1.heap.size < w2.heap.size := World.block_lt_of_cell? _ _ s0))
  refine wp_region_noPanic ?_
  refine wp_region_held_drew (S := (fun w' => w'.cell? ⟨w.heap.size, 0, none⟩ = some (.int .u32 x.k) ∧ w'.cell? ⟨w.heap.size, 1, none⟩ = some (.int .i32 x.r) ∧ w'.cell? ⟨w.heap.size, 2, none⟩ = some (.int .i32 x.ax) ∧ w'.cell? ⟨w.heap.size, 3, none⟩ = some (.int .i32 x.ay) ∧ w'.cell? ⟨w.heap.size, 4, none⟩ = some (.int .i32 x.m) ∧ w'.cell? ⟨w.heap.size, 5, none⟩ = some (.int .i32 x.o) ∧ w'.cell? ⟨w.heap.size, 6, none⟩ = some (.int .i32 x.px) ∧ w'.cell? ⟨w.heap.size, 7, none⟩ = some (.int .i32 x.py) ∧ w'.cell? ⟨w.heap.size, 8, none⟩ = some (.int .i32 x.vx) ∧ w'.cell? ⟨w.heap.size, 9, none⟩ = some (.int .i32 x.vy) ∧ w'.cell? ⟨w.heap.size + 1, 0, none⟩ = some (.int .u32 y.k) ∧ w'.cell? ⟨w.heap.size + 1, 1, none⟩ = some (.int .i32 y.r) ∧ w'.cell? ⟨w.heap.size + 1, 2, none⟩ = some (.int .i32 y.ax) ∧ w'.cell? ⟨w.heap.size + 1, 3, none⟩ = some (.int .i32 y.ay) ∧ w'.cell? ⟨w.heap.size + 1, 4, none⟩ = some (.int .i32 y.m) ∧ w'.cell? ⟨w.heap.size + 1, 5, none⟩ = some (.int .i32 y.o) ∧ w'.cell? ⟨w.heap.size + 1, 6, none⟩ = some (.int .i32 y.px) ∧ w'.cell? ⟨w.heap.size + 1, 7, none⟩ = some (.int .i32 y.py) ∧ w'.cell? ⟨w.heap.size + 1, 8, none⟩ = some (.int .i32 y.vx) ∧ w'.cell? ⟨w.heap.size + 1, 9, none⟩ = some (.int .i32 y.vy) ∧ w'.cell? ⟨w1.heap.size, 0, none⟩ = some (.int .i32 a) ∧ w'.cell? ⟨w1.heap.size, 1, none⟩ = some (.int .i32 b) ∧ w'.cell? ⟨w1.heap.size, 2, none⟩ = some (.int .i32 c) ∧ w'.cell? ⟨w1.heap.size, 3, none⟩ = some (.int .i32 d) ∧ (w'.cell? ⟨w.heap.size + 1 + 1, 0, none⟩).isSome = true ∧ (w'.cell? ⟨w.heap.size + 1 + 1, 1, none⟩).isSome = true ∧ (w'.cell? ⟨w.heap.size + 1 + 1, 2, none⟩).isSome = true ∧ (w'.cell? ⟨w.heap.size + 1 + 1, 3, none⟩).isSome = true ∧ (w'.cell? ⟨w.heap.size + 1 + 1, 4, none⟩).isSome = true ∧ w'.frozen? ⟨w.heap.size + 1 + 1, 0, none⟩ = false ∧ w'.frozen? ⟨w.heap.size + 1 + 1, 1, none⟩ = false ∧ w'.frozen? ⟨w.heap.size + 1 + 1, 2, none⟩ = false ∧ w'.frozen? ⟨w.heap.size + 1 + 1, 3, none⟩ = false ∧ w'.frozen? ⟨w.heap.size + 1 + 1, 4, none⟩ = false ∧ Kep w.heap.size w w')) (by kernel_rfl) (⟨by rw [World.cell?_drew]; exact x0, by rw [World.cell?_drew]; exact x1, by rw [World.cell?_drew]; exact x2, by rw [World.cell?_drew]; exact x3, by rw [World.cell?_drew]; exact x4, by rw [World.cell?_drew]; exact x5, by rw [World.cell?_drew]; exact x6, by rw [World.cell?_drew]; exact x7, by rw [World.cell?_drew]; exact x8, by rw [World.cell?_drew]; exact x9, by rw [World.cell?_drew]; exact y0, by rw [World.cell?_drew]; exact y1, by rw [World.cell?_drew]; exact y2, by rw [World.cell?_drew]; exact y3, by rw [World.cell?_drew]; exact y4, by rw [World.cell?_drew]; exact y5, by rw [World.cell?_drew]; exact y6, by rw [World.cell?_drew]; exact y7, by rw [World.cell?_drew]; exact y8, by rw [World.cell?_drew]; exact y9, by rw [World.cell?_drew]; exact s0, by rw [World.cell?_drew]; exact s1, by rw [World.cell?_drew]; exact s2, by rw [World.cell?_drew]; exact s3, by rw [World.cell?_drew]; exact sr0, by rw [World.cell?_drew]; exact sr1, by rw [World.cell?_drew]; exact sr2, by rw [World.cell?_drew]; exact sr3, by rw [World.cell?_drew]; exact sr4, by rw [World.frozen?_drew]; exact fr0, by rw [World.frozen?_drew]; exact fr1, by rw [World.frozen?_drew]; exact fr2, by rw [World.frozen?_drew]; exact fr3, by rw [World.frozen?_drew]; exact fr4, kep_drew gg⟩) (fun hH => ?_)
  refine sT 0 hH ?_
  refine sT 1 hH ?_
  refine sT 2 hH ?_
  refine sN 3 hH ?_
  refine sT 4 hH ?_
  refine sT 5 hH ?_
  refine sT 6 hH ?_
  refine sN 8 hH ?_
  refine sT 9 hH ?_
  refine sN 10 hH ?_
  refine sC 7 (fun K hK => ?_)
  go_simp
  (with_reducible refine (C3.out _).mono ?_); rintro e v9_7 ⟨rfl, g⟩
  refine hK.out _ _ (by (try dsimp only); (go_split_ands; and_intros <;> first | exact g.all (by assumption) | exact kep_next (by assumption) g | exact kep_some g (by assumption) | exact kep_froz g (by assumption) (by assumption))) (fun hH2 => ?_)
  clear hK K hH; have hH := hH2; clear hH2
  try simp only [Act.put, List.setIfInBounds_toArray, List.set_cons_zero, List.set_cons_succ]
  refine sC 11 (fun K hK => ?_)
  go_simp
  (with_reducible refine (C4.out _).mono ?_); rintro e v9_11 ⟨rfl, rfl⟩
  refine hK.out _ _ hH (fun hH2 => ?_)
  clear hK K hH; have hH := hH2; clear hH2
  refine sT 12 hH ?_
  refine sT 13 hH ?_
  refine sN 14 hH ?_
  obtain ⟨x0, x1, x2, x3, x4, x5, x6, x7, x8, x9, y0, y1, y2, y3, y4, y5, y6, y7, y8, y9, s0, s1, s2, s3, sr0, sr1, sr2, sr3, sr4, fr0, fr1, fr2, fr3, fr4, gg⟩ := id hH
  refine sC 15 (fun K hK => ?_)
  obtain ⟨qr0, eqr0⟩ := Option.isSome_iff_exists.1 sr0
  obtain ⟨qr1, eqr1⟩ := Option.isSome_iff_exists.1 sr1
  obtain ⟨qr2, eqr2⟩ := Option.isSome_iff_exists.1 sr2
  obtain ⟨qr3, eqr3⟩ := Option.isSome_iff_exists.1 sr3
  obtain ⟨qr4, eqr4⟩ := Option.isSome_iff_exists.1 sr4
  have br0 := eqr0
  have br1 := eqr1
  have br2 := eqr2
  have br3 := eqr3
  have br4 := eqr4
  go_simp
  refine hK.out _ _ (by (try dsimp only); and_intros <;> repeat (first | with_reducible assumption | with_reducible refine sset_far ?_ (by first | (simp; done) | (simp; omega)) | with_reducible refine sset_some _ _ _ ?_ | with_reducible refine sset_froz ?_ | with_reducible refine kep_set ?_ (by first | (simp; done) | (simp; omega)) _)) (fun hH2 => ?_)
  clear hK K hH x0 x1 x2 x3 x4 x5 x6 x7 x8 x9 y0 y1 y2 y3 y4 y5 y6 y7 y8 y9 s0 s1 s2 s3 sr0 sr1 sr2 sr3 sr4 fr0 fr1 fr2 fr3 fr4 gg eqr0 eqr1 eqr2 eqr3 eqr4; have hH := hH2; clear hH2
  refine sN 16 hH ?_
  refine sE ?_
  clear x0 x1 x2 x3 x4 x5 x6 x7 x8 x9 y0 y1 y2 y3 y4 y5 y6 y7 y8 y9 s0 s1 s2 s3 sr0 sr1 sr2 sr3 sr4 fr0 fr1 fr2 fr3 fr4 gg
  obtain ⟨x0, x1, x2, x3, x4, x5, x6, x7, x8, x9, y0, y1, y2, y3, y4, y5, y6, y7, y8, y9, s0, s1, s2, s3, sr0, sr1, sr2, sr3, sr4, fr0, fr1, fr2, fr3, fr4, gg⟩ := hH
  go_wp2_with fail
  exact bodyPost_ret (v := .tuple #[.agg #[.int .u32 x.k, .int .u32 y.k, .int .i32 p, .int .i32 q, .int .i32 dp], .bool true]) (by simp [results, Tryz.results42, go_sem, br0, br1, br2, br3, br4]) rfl ⟨rfl, gg⟩
 ·have hz2 : tchB x y = false := by simpa using hz
  have q1 : decide (SS ≤ t) = true := decide_eq_true (by rw [htd] at hz2; have := of_decide_eq_false hz2; omega)
  have hv : conV x y = ⟨0, 0, 0, 0, 0⟩ := by unfold conV; rw [if_neg hz]
  rw [hv, hz2]
  dsimp only
  clear hz hz2 hv hti hi hn hnb hR hSS hSS2 htd hdx hdy hnn hS hS2 l1 l2 ht g1 g2 g3 g4 hg hcc hk hx hy
  go_enter Tryz.func42, Tryz.ntmps42
  go_wp2_with (first
   | ((with_reducible refine (C1.out _).mono ?_); rintro e w1 ⟨rfl, g1⟩
      have zQ := zK g1 (b := w.heap.size) (vs := [.int .u32 x.k, .int .i32 x.r, .int .i32 x.ax, .int .i32 x.ay, .int .i32 x.m, .int .i32 x.o, .int .i32 x.px, .int .i32 x.py, .int .i32 x.vx, .int .i32 x.vy])
      have x0 := zI zQ 0
      have x1 := zI zQ 1
      have x2 := zI zQ 2
      have x3 := zI zQ 3
      have x4 := zI zQ 4
      have x5 := zI zQ 5
      have x6 := zI zQ 6
      have x7 := zI zQ 7
      have x8 := zI zQ 8
      have x9 := zI zQ 9
      clear zQ
      have zQ := zK g1 (b := w.heap.size + 1) (vs := [.int .u32 y.k, .int .i32 y.r, .int .i32 y.ax, .int .i32 y.ay, .int .i32 y.m, .int .i32 y.o, .int .i32 y.px, .int .i32 y.py, .int .i32 y.vx, .int .i32 y.vy])
      have y0 := zI zQ 0
      have y1 := zI zQ 1
      have y2 := zI zQ 2
      have y3 := zI zQ 3
      have y4 := zI zQ 4
      have y5 := zI zQ 5
      have y6 := zI zQ 6
      have y7 := zI zQ 7
      have y8 := zI zQ 8
      have y9 := zI zQ 9
      clear zQ
      have zQ := zK g1 (b := w.heap.size + 1 + 1) (vs := [.int .u32 0, .int .u32 0, .int .i32 0, .int .i32 0, .int .i32 0])
      have r0 := zI zQ 0
      have r1 := zI zQ 1
      have r2 := zI zQ 2
      have r3 := zI zQ 3
      have r4 := zI zQ 4
      clear zQ
      have gg := kep_next (kep_more (kep_more (kep_more (Kep.refl _ _) _) _) _) g1
      have sr0 := kep_some g1 (a := ⟨w.heap.size + 1 + 1, 0, none⟩) (by (repeat (first | rw [World.cell?_drew] | rw [World.cell?_alloc_past _ _ _ (by first | (simp; done) | (simp; omega))])); rw [World.cell?_alloc_at _ _ _ _ (by simp)]; rfl)
      have sr1 := kep_some g1 (a := ⟨w.heap.size + 1 + 1, 1, none⟩) (by (repeat (first | rw [World.cell?_drew] | rw [World.cell?_alloc_past _ _ _ (by first | (simp; done) | (simp; omega))])); rw [World.cell?_alloc_at _ _ _ _ (by simp)]; rfl)
      have sr2 := kep_some g1 (a := ⟨w.heap.size + 1 + 1, 2, none⟩) (by (repeat (first | rw [World.cell?_drew] | rw [World.cell?_alloc_past _ _ _ (by first | (simp; done) | (simp; omega))])); rw [World.cell?_alloc_at _ _ _ _ (by simp)]; rfl)
      have sr3 := kep_some g1 (a := ⟨w.heap.size + 1 + 1, 3, none⟩) (by (repeat (first | rw [World.cell?_drew] | rw [World.cell?_alloc_past _ _ _ (by first | (simp; done) | (simp; omega))])); rw [World.cell?_alloc_at _ _ _ _ (by simp)]; rfl)
      have sr4 := kep_some g1 (a := ⟨w.heap.size + 1 + 1, 4, none⟩) (by (repeat (first | rw [World.cell?_drew] | rw [World.cell?_alloc_past _ _ _ (by first | (simp; done) | (simp; omega))])); rw [World.cell?_alloc_at _ _ _ _ (by simp)]; rfl)
      have fr0 := kep_froz g1 (a := ⟨w.heap.size + 1 + 1, 0, none⟩) (by (repeat (first | rw [World.cell?_drew] | rw [World.cell?_alloc_past _ _ _ (by first | (simp; done) | (simp; omega))])); rw [World.cell?_alloc_at _ _ _ _ (by simp)]; rfl) (by (repeat (first | rw [World.frozen?_drew] | rw [World.frozen?_alloc_past _ _ _ (by first | (simp; done) | (simp; omega))])); rw [World.frozen?_alloc_at _ _ _ _ (by simp)])
      have fr1 := kep_froz g1 (a := ⟨w.heap.size + 1 + 1, 1, none⟩) (by (repeat (first | rw [World.cell?_drew] | rw [World.cell?_alloc_past _ _ _ (by first | (simp; done) | (simp; omega))])); rw [World.cell?_alloc_at _ _ _ _ (by simp)]; rfl) (by (repeat (first | rw [World.frozen?_drew] | rw [World.frozen?_alloc_past _ _ _ (by first | (simp; done) | (simp; omega))])); rw [World.frozen?_alloc_at _ _ _ _ (by simp)])
      have fr2 := kep_froz g1 (a := ⟨w.heap.size + 1 + 1, 2, none⟩) (by (repeat (first | rw [World.cell?_drew] | rw [World.cell?_alloc_past _ _ _ (by first | (simp; done) | (simp; omega))])); rw [World.cell?_alloc_at _ _ _ _ (by simp)]; rfl) (by (repeat (first | rw [World.frozen?_drew] | rw [World.frozen?_alloc_past _ _ _ (by first | (simp; done) | (simp; omega))])); rw [World.frozen?_alloc_at _ _ _ _ (by simp)])
      have fr3 := kep_froz g1 (a := ⟨w.heap.size + 1 + 1, 3, none⟩) (by (repeat (first | rw [World.cell?_drew] | rw [World.cell?_alloc_past _ _ _ (by first | (simp; done) | (simp; omega))])); rw [World.cell?_alloc_at _ _ _ _ (by simp)]; rfl) (by (repeat (first | rw [World.frozen?_drew] | rw [World.frozen?_alloc_past _ _ _ (by first | (simp; done) | (simp; omega))])); rw [World.frozen?_alloc_at _ _ _ _ (by simp)])
      have fr4 := kep_froz g1 (a := ⟨w.heap.size + 1 + 1, 4, none⟩) (by (repeat (first | rw [World.cell?_drew] | rw [World.cell?_alloc_past _ _ _ (by first | (simp; done) | (simp; omega))])); rw [World.cell?_alloc_at _ _ _ _ (by simp)]; rfl) (by (repeat (first | rw [World.frozen?_drew] | rw [World.frozen?_alloc_past _ _ _ (by first | (simp; done) | (simp; omega))])); rw [World.frozen?_alloc_at _ _ _ _ (by simp)])
      have zx_w1 : w.heap.size < w1.heap.size := World.block_lt_of_cell? _ _ x0
      have zy_w1 : w.heap.size + 1 < w1.heap.size := World.block_lt_of_cell? _ _ y0
      have zr_w1 : w.heap.size + 1 + 1 < w1.heap.size := World.block_lt_of_cell? _ _ r0)
   | ((with_reducible refine (C2.out _).mono ?_); rintro e w2 ⟨rfl, g2⟩
      replace fr0 := kep_froz g2 (kep_some (kep_more (Kep.refl _ _) _) sr0) (kep_froz (kep_more (Kep.refl _ _) _) sr0 fr0)
      replace sr0 := kep_some g2 (kep_some (kep_more (Kep.refl _ _) _) sr0)
      replace fr1 := kep_froz g2 (kep_some (kep_more (Kep.refl _ _) _) sr1) (kep_froz (kep_more (Kep.refl _ _) _) sr1 fr1)
      replace sr1 := kep_some g2 (kep_some (kep_more (Kep.refl _ _) _) sr1)
      replace fr2 := kep_froz g2 (kep_some (kep_more (Kep.refl _ _) _) sr2) (kep_froz (kep_more (Kep.refl _ _) _) sr2 fr2)
      replace sr2 := kep_some g2 (kep_some (kep_more (Kep.refl _ _) _) sr2)
      replace fr3 := kep_froz g2 (kep_some (kep_more (Kep.refl _ _) _) sr3) (kep_froz (kep_more (Kep.refl _ _) _) sr3 fr3)
      replace sr3 := kep_some g2 (kep_some (kep_more (Kep.refl _ _) _) sr3)
      replace fr4 := kep_froz g2 (kep_some (kep_more (Kep.refl _ _) _) sr4) (kep_froz (kep_more (Kep.refl _ _) _) sr4 fr4)
      replace sr4 := kep_some g2 (kep_some (kep_more (Kep.refl _ _) _) sr4)
      replace x0 := g2.all (Kep.all (kep_more (Kep.refl _ _) _) x0)
      replace x1 := g2.all (Kep.all (kep_more (Kep.refl _ _) _) x1)
      replace x2 := g2.all (Kep.all (kep_more (Kep.refl _ _) _) x2)
      replace x3 := g2.all (Kep.all (kep_more (Kep.refl _ _) _) x3)
      replace x4 := g2.all (Kep.all (kep_more (Kep.refl _ _) _) x4)
      replace x5 := g2.all (Kep.all (kep_more (Kep.refl _ _) _) x5)
      replace x6 := g2.all (Kep.all (kep_more (Kep.refl _ _) _) x6)
      replace x7 := g2.all (Kep.all (kep_more (Kep.refl _ _) _) x7)
      replace x8 := g2.all (Kep.all (kep_more (Kep.refl _ _) _) x8)
      replace x9 := g2.all (Kep.all (kep_more (Kep.refl _ _) _) x9)
      replace y0 := g2.all (Kep.all (kep_more (Kep.refl _ _) _) y0)
      replace y1 := g2.all (Kep.all (kep_more (Kep.refl _ _) _) y1)
      replace y2 := g2.all (Kep.all (kep_more (Kep.refl _ _) _) y2)
      replace y3 := g2.all (Kep.all (kep_more (Kep.refl _ _) _) y3)
      replace y4 := g2.all (Kep.all (kep_more (Kep.refl _ _) _) y4)
      replace y5 := g2.all (Kep.all (kep_more (Kep.refl _ _) _) y5)
      replace y6 := g2.all (Kep.all (kep_more (Kep.refl _ _) _) y6)
      replace y7 := g2.all (Kep.all (kep_more (Kep.refl _ _) _) y7)
      replace y8 := g2.all (Kep.all (kep_more (Kep.refl _ _) _) y8)
      replace y9 := g2.all (Kep.all (kep_more (Kep.refl _ _) _) y9)
      replace r0 := g2.all (Kep.all (kep_more (Kep.refl _ _) _) r0)
      replace r1 := g2.all (Kep.all (kep_more (Kep.refl _ _) _) r1)
      replace r2 := g2.all (Kep.all (kep_more (Kep.refl _ _) _) r2)
      replace r3 := g2.all (Kep.all (kep_more (Kep.refl _ _) _) r3)
      replace r4 := g2.all (Kep.all (kep_more (Kep.refl _ _) _) r4)
      have zQ := zK g2 (b := w1.heap.size) (vs := [.int .i32 a, .int .i32 b, .int .i32 c, .int .i32 d])
      have s0 := zI zQ 0
      have s1 := zI zQ 1
      have s2 := zI zQ 2
      have s3 := zI zQ 3
      clear zQ
      replace gg := kep_next (kep_more gg _) g2
      have zx_w2 : w.heap.size < w2.heap.size := World.block_lt_of_cell? _ _ x0
      have zy_w2 : w.heap.size + 1 < w2.heap.size := World.block_lt_of_cell? _ _ y0
      have zr_w2 : w.heap.size + 1 + 1 < w2.heap.size := World.block_lt_of_cell? _ _ r0
      have zs_w2 : w1.heap.size < w2.heap.size := World.block_lt_of_cell? _ _ s0))
  exact bodyPost_ret (v := .tuple #[.agg #[.int .u32 0, .int .u32 0, .int .i32 0, .int .i32 0, .int .i32 0], .bool false]) (by simp [results, Tryz.results42, go_sem, r0, r1, r2, r3, r4]) rfl ⟨rfl, by repeat first | exact gg | with_reducible refine kep_set ?_ (by first | (simp; done) | (simp; omega)) _⟩
end Go.Proofs.YtaknmlohnifcdaaGreatDoor
