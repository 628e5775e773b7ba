import Derived.Test.YtaknmlohnifcdaaGreatDoorJ00MBits
import Derived.Test.YtaknmlohnifcdaaGreatDoorJ02MSeq
import Derived.Test.YtaknmlohnifcdaaGreatDoorJ01MBodies
import Derived.Deep.QuietTactic
import Derived.BigQuiet
import Derived.Deep.DeepCutAuto
import Derived.StillTailTactics
section
namespace Go.Proofs.YtaknmlohnifcdaaGreatDoor

structure Strict {α : Type} (lt : α → α → Bool) : Prop where
 irr : ∀ a, lt a a = false
 trans : ∀ {a b c}, lt a b = true → lt b c = true → lt a c = true
 tri : ∀ a b, lt a b = false → lt b a = false → a = b
def SortS {α : Type} (lt : α → α → Bool) (l : List α) : Prop := l.Pairwise fun a b => lt a b = true
def dropOne {α : Type} [DecidableEq α] (p : α) : List α → List α
 | [] => []
 | x :: r => if x = p then r else x :: r
def putS {α : Type} [DecidableEq α] (lt : α → α → Bool) (l : List α) (p : α) : List α := l.takeWhile (fun x => lt x p) ++ p :: dropOne p (l.dropWhile fun x => lt x p)
section
variable {α : Type} [DecidableEq α] {lt : α → α → Bool}
theorem putS_nil (p : α) : putS lt [] p = [p] := rfl
theorem putS_cons (x : α) (l : List α) (p : α) : putS lt (x :: l) p = if lt x p = true then x :: putS lt l p else p :: dropOne p (x :: l) := by
 unfold putS
 by_cases h : lt x p = true
 ·rw [if_pos h, List.takeWhile_cons_of_pos (by simpa using h), List.dropWhile_cons_of_pos (by simpa using h)]; rfl
 ·rw [if_neg h, List.takeWhile_cons_of_neg (by simpa using h), List.dropWhile_cons_of_neg (by simpa using h)]; rfl
theorem dropOne_cons (p x : α) (r : List α) : dropOne p (x :: r) = if x = p then r else x :: r := rfl
theorem dropOne_sub (p : α) (l : List α) : (dropOne p l).Sublist l := by
 cases l with
 | nil => exact List.Sublist.refl _
 | cons x r =>
   rw [dropOne_cons]
   split
   ·exact List.sublist_cons_self _ _
   ·exact List.Sublist.refl _
theorem SortS.lt_all (H : Strict lt) {x p : α} {l : List α} (h : SortS lt (x :: l)) (hx : lt x p = false) : ∀ y ∈ dropOne p (x :: l), lt p y = true := by
 have h1 := List.pairwise_cons.1 h
 intro y hy
 rw [dropOne_cons] at hy
 split at hy
 ·rename_i e
  subst e
  exact h1.1 y hy
 ·rename_i e
  have hp : lt p x = true := by
   cases q : lt p x
   ·exact absurd (H.tri _ _ hx q) e
   ·rfl
  rcases List.mem_cons.1 hy with rfl | hy
  ·exact hp
  ·exact H.trans hp (h1.1 y hy)
theorem putS_mem (H : Strict lt) : ∀ {l : List α} {p x : α}, SortS lt l → (x ∈ putS lt l p ↔ x = p ∨ x ∈ l)
 | [], p, x, _ => by simp [putS_nil]
 | y :: l, p, x, h => by
   have h1 := List.pairwise_cons.1 h
   rw [putS_cons]
   split
   ·rw [List.mem_cons, putS_mem H h1.2, List.mem_cons]
    constructor
    ·rintro (a | a | a)
     ·exact .inr (.inl a)
     ·exact .inl a
     ·exact .inr (.inr a)
    ·rintro (a | a | a)
     ·exact .inr (.inl a)
     ·exact .inl a
     ·exact .inr (.inr a)
   ·rw [dropOne_cons]
    split
    ·rename_i e
     subst e
     simp
    ·simp
theorem putS_sort (H : Strict lt) : ∀ {l : List α} {p : α}, SortS lt l → SortS lt (putS lt l p)
 | [], p, _ => by rw [putS_nil]; exact List.pairwise_singleton _ _
 | y :: l, p, h => by
   have h1 := List.pairwise_cons.1 h
   rw [putS_cons]
   split
   ·rename_i hy
    refine List.pairwise_cons.2 ⟨fun z hz => ?_, putS_sort H h1.2⟩
    rcases (putS_mem H h1.2).1 hz with rfl | hz
    ·exact hy
    ·exact h1.1 z hz
   ·rename_i hy
    exact List.pairwise_cons.2 ⟨SortS.lt_all H h (by simpa using hy), List.Pairwise.sublist (dropOne_sub _ _) h⟩
omit [DecidableEq α] in
theorem SortS.ext (H : Strict lt) : ∀ {a b : List α}, SortS lt a → SortS lt b → (∀ x, x ∈ a ↔ x ∈ b) → a = b
 | [], [], _, _, _ => rfl
 | [], y :: b, _, _, h => absurd ((h y).2 (by simp)) (by simp)
 | x :: a, [], _, _, h => absurd ((h x).1 (by simp)) (by simp)
 | x :: a, y :: b, ha, hb, h => by
   have a1 := List.pairwise_cons.1 ha
   have b1 := List.pairwise_cons.1 hb
   have no : ∀ u v : α, lt u v = true → lt v u = true → False := fun u v h1 h2 => by
    have := H.trans h1 h2
    rw [H.irr] at this
    cases this
   have e : x = y := by
    rcases List.mem_cons.1 ((h x).1 (by simp)) with e | e
    ·exact e
    ·rcases List.mem_cons.1 ((h y).2 (by simp)) with q | q
     ·exact q.symm
     ·exact (no x y (a1.1 y q) (b1.1 x e)).elim
   subst e
   rw [SortS.ext H a1.2 b1.2 fun z => ?_]
   have hz := h z
   rw [List.mem_cons, List.mem_cons] at hz
   have out : ∀ {l : List α}, (∀ z ∈ l, lt x z = true) → z ∈ l → z ≠ x := fun hl hm e => by
    have := hl z hm
    rw [e, H.irr] at this
    cases this
   constructor
   ·intro hm
    rcases hz.1 (.inr hm) with q | q
    ·exact absurd q (out a1.1 hm)
    ·exact q
   ·intro hm
    rcases hz.2 (.inr hm) with q | q
    ·exact absurd q (out b1.1 hm)
    ·exact q
theorem fold_put (H : Strict lt) {β : Type} (f : β → α) (t : β → Bool) : ∀ (L : List β) (acc : List α), SortS lt acc →
 SortS lt (L.foldl (fun acc y => if t y = true then putS lt acc (f y) else acc) acc) ∧ ∀ x, x ∈ L.foldl (fun acc y => if t y = true then putS lt acc (f y) else acc) acc ↔ x ∈ acc ∨ ∃ y ∈ L, t y = true ∧ x = f y
 | [], acc, h => ⟨h, fun x => by simp⟩
 | y :: L, acc, h => by
   rw [List.foldl_cons]
   by_cases c : t y = true
   ·rw [if_pos c]
    obtain ⟨i1, i2⟩ := fold_put H f t L (putS lt acc (f y)) (putS_sort H h)
    refine ⟨i1, fun x => ?_⟩
    rw [i2, putS_mem H h]
    constructor
    ·rintro ((rfl | a) | ⟨z, hz, hc, rfl⟩)
     ·exact .inr ⟨y, by simp, c, rfl⟩
     ·exact .inl a
     ·exact .inr ⟨z, by simp [hz], hc, rfl⟩
    ·rintro (a | ⟨z, hz, hc, rfl⟩)
     ·exact .inl (.inr a)
     ·rcases List.mem_cons.1 hz with rfl | hz
      ·exact .inl (.inl rfl)
      ·exact .inr ⟨z, hz, hc, rfl⟩
   ·rw [if_neg c]
    obtain ⟨i1, i2⟩ := fold_put H f t L acc h
    refine ⟨i1, fun x => ?_⟩
    rw [i2]
    constructor
    ·rintro (a | ⟨z, hz, hc, rfl⟩)
     ·exact .inl a
     ·exact .inr ⟨z, by simp [hz], hc, rfl⟩
    ·rintro (a | ⟨z, hz, hc, rfl⟩)
     ·exact .inl a
     ·rcases List.mem_cons.1 hz with rfl | hz
      ·exact absurd hc c
      ·exact .inr ⟨z, hz, hc, rfl⟩
end
def kless (a b : Int) : Bool := decide (a < b)
def pless (p q : Int × Int) : Bool := decide (p.1 < q.1 ∨ p.1 = q.1 ∧ p.2 < q.2)
theorem kless_strict : Strict kless := ⟨fun a => decide_eq_false (by omega), fun {a b c} h1 h2 => by
 have h1 := of_decide_eq_true h1
 have h2 := of_decide_eq_true h2
 exact decide_eq_true (by omega), fun a b h1 h2 => by
 have h1 := of_decide_eq_false h1
 have h2 := of_decide_eq_false h2
 omega⟩
theorem pless_strict : Strict pless := ⟨fun a => decide_eq_false (by omega), fun {a b c} h1 h2 => by
 have h1 := of_decide_eq_true h1
 have h2 := of_decide_eq_true h2
 exact decide_eq_true (by omega), fun a b h1 h2 => by
 have h1 := of_decide_eq_false h1
 have h2 := of_decide_eq_false h2
 exact Prod.ext (by omega) (by omega)⟩
end Go.Proofs.YtaknmlohnifcdaaGreatDoor
end
namespace Go.Proofs.YtaknmlohnifcdaaGreatDoor
open Go.RowKit Go.Lib
structure Vb (x : Bd) : Prop where
 m0 : 0 ≤ x.m
 m1 : x.m ≤ 1048576
 o0 : 0 ≤ x.o
 o1 : x.o ≤ 65536
 vx0 : -16777216 ≤ x.vx
 vx1 : x.vx ≤ 16777216
 vy0 : -16777216 ≤ x.vy
 vy1 : x.vy ≤ 16777216
theorem vb_of {x : Bd} (h : chk x.r x.ax x.ay x.m x.o x.px x.py x.vx x.vy = 0) : Vb x := by
 unfold chk at h
 split at h
 ·split at h
  ·split at h
   ·split at h
    ·split at h
     ·split at h
      ·rename_i a1 a2 a3 a4 a5 a6
       exact ⟨by omega, by omega, by omega, by omega, by omega, by omega, by omega, by omega⟩
      ·exact absurd h (by decide)
     ·exact absurd h (by decide)
    ·exact absurd h (by decide)
   ·exact absurd h (by decide)
  ·exact absurd h (by decide)
 ·exact absurd h (by decide)
abbrev Nr (n : Int) : Prop := -65536 ≤ n ∧ n ≤ 65536
def spI (nx ny : Int) (x y : Bd) : Int := (y.vx - x.vx) * nx + (y.vy - x.vy) * ny
def apI (nx ny : Int) (x y : Bd) : Int := spI nx ny x y / 65536
def bnI (x y : Bd) : Int := max x.o y.o
def stI (nx ny : Int) (x y : Bd) : Int := if 0 ≤ apI nx ny x y ∨ x.m + y.m = 0 then 0 else -(apI nx ny x y) * (65536 + bnI x y) / (x.m + y.m)
def chI (j i n : Int) : Int := j * i / 65536 * n / 65536
theorem mul_bd {a b A B : Int} (ha : -A ≤ a ∧ a ≤ A) (hb : -B ≤ b ∧ b ≤ B) : -(A * B) ≤ a * b ∧ a * b ≤ A * B := by
 have hA : 0 ≤ A := by omega
 have hB : 0 ≤ B := by omega
 have key : ∀ c : Int, 0 ≤ c → c ≤ A → -(A * B) ≤ c * b ∧ c * b ≤ A * B := fun c h0 h1 => by
  have p1 := Int.mul_le_mul_of_nonneg_left hb.2 h0
  have p2 := Int.mul_le_mul_of_nonneg_left hb.1 h0
  have p3 := Int.mul_le_mul_of_nonneg_right h1 hB
  rw [Int.mul_neg] at p2
  omega
 rcases Int.le_total 0 a with c | c
 ·exact key a c ha.2
 ·have := key (-a) (by omega) (by omega)
  rw [Int.neg_mul] at this
  omega
theorem sp_bd {nx ny : Int} {x y : Bd} (hx : Vb x) (hy : Vb y) (h1 : Nr nx) (h2 : Nr ny) : (-2199023255552 ≤ (y.vx - x.vx) * nx ∧ (y.vx - x.vx) * nx ≤ 2199023255552) ∧ (-2199023255552 ≤ (y.vy - x.vy) * ny ∧ (y.vy - x.vy) * ny ≤ 2199023255552) := by
 have a1 : -33554432 ≤ y.vx - x.vx ∧ y.vx - x.vx ≤ 33554432 := by have := hx.vx0; have := hx.vx1; have := hy.vx0; have := hy.vx1; omega
 have a2 : -33554432 ≤ y.vy - x.vy ∧ y.vy - x.vy ≤ 33554432 := by have := hx.vy0; have := hx.vy1; have := hy.vy0; have := hy.vy1; omega
 have b1 := mul_bd a1 h1
 have b2 := mul_bd a2 h2
 omega
theorem ap_bd {nx ny : Int} {x y : Bd} (hx : Vb x) (hy : Vb y) (h1 : Nr nx) (h2 : Nr ny) : -67108864 ≤ apI nx ny x y ∧ apI nx ny x y ≤ 67108864 := by
 have h := sp_bd hx hy h1 h2
 unfold apI spI
 omega
theorem bn_bd {x y : Bd} (hx : Vb x) (hy : Vb y) : 0 ≤ bnI x y ∧ bnI x y ≤ 65536 := by
 have := hx.o0; have := hx.o1; have := hy.o0; have := hy.o1
 unfold bnI
 omega
theorem num_bd {nx ny : Int} {x y : Bd} (hx : Vb x) (hy : Vb y) (h1 : Nr nx) (h2 : Nr ny) (hv : apI nx ny x y < 0) : 0 ≤ -(apI nx ny x y) * (65536 + bnI x y) ∧ -(apI nx ny x y) * (65536 + bnI x y) ≤ 8796093022208 := by
 have a := ap_bd hx hy h1 h2
 have b := bn_bd hx hy
 have p := mul_bd (a := -(apI nx ny x y)) (b := 65536 + bnI x y) (A := 67108864) (B := 131072) (by omega) (by omega)
 refine ⟨Int.mul_nonneg (by omega) (by omega), by omega⟩
theorem st_bd {nx ny : Int} {x y : Bd} (hx : Vb x) (hy : Vb y) (h1 : Nr nx) (h2 : Nr ny) : 0 ≤ stI nx ny x y ∧ stI nx ny x y ≤ 8796093022208 := by
 unfold stI
 split
 ·omega
 ·rename_i h
  have hn := num_bd hx hy h1 h2 (by omega)
  have hm : 1 ≤ x.m + y.m := by have := hx.m0; have := hy.m0; omega
  generalize -(apI nx ny x y) * (65536 + bnI x y) = N at *
  generalize x.m + y.m = M at *
  refine ⟨Int.ediv_nonneg hn.1 (by omega), ?_⟩
  have := Int.ediv_le_self M hn.1
  omega
theorem k_bd {j i : Int} (hj : 0 ≤ j ∧ j ≤ 8796093022208) (hi : 0 ≤ i ∧ i ≤ 1048576) : 0 ≤ j * i ∧ j * i ≤ 9223372036854775808 ∧ 0 ≤ j * i / 65536 ∧ j * i / 65536 ≤ 140737488355328 := by
 have p0 := Int.mul_nonneg hj.1 hi.1
 have p1 := Int.mul_le_mul hj.2 hi.2 hi.1 (by decide)
 omega
theorem ch_bd {k n : Int} (hk : 0 ≤ k ∧ k ≤ 140737488355328) (hn : Nr n) : -140737488355328 ≤ k * n / 65536 ∧ k * n / 65536 ≤ 140737488355328 := by
 have p := mul_bd (a := k) (b := n) (A := 140737488355328) (B := 65536) (by omega) hn
 omega
theorem rv_i64 {v : Int} (h1 : -9223372036854775808 ≤ v) (h2 : v < 9223372036854775808) : rv v = v := if_pos ⟨h1, h2⟩
theorem msv_16 {a b : Int} (h1 : -9223372036854775808 ≤ a * b / 65536) (h2 : a * b / 65536 < 9223372036854775808) : msv a b 16 = a * b / 65536 := by
 have e : msv a b 16 = rv (a * b / 65536) := rfl
 rw [e, rv_i64 h1 h2]
abbrev BEm (xa ya za ta : Int) (z : Bool) : Prop := ∀ w, Calls Tryz.prog 91 #[.agg #[.int .i32 xa, .int .i32 ya, .int .i32 za, .int .i32 ta]] w fun e w' => e = .returned (.bool z) ∧ Grown w w'
abbrev BOv (xa ya za ta xb yb zb tb : Int) (z : Bool) : Prop := ∀ w, Calls Tryz.prog 74 #[.agg #[.int .i32 xa, .int .i32 ya, .int .i32 za, .int .i32 ta], .agg #[.int .i32 xb, .int .i32 yb, .int .i32 zb, .int .i32 tb]] w fun e w' => e = .returned (.bool z) ∧ Grown w w'
abbrev BOf (k r ax ay m o px py vx vy x y z t : Int) : Prop := ∀ w, Calls Tryz.prog 90 #[.agg #[.int .u32 k, .int .i32 r, .int .i32 ax, .int .i32 ay, .int .i32 m, .int .i32 o, .int .i32 px, .int .i32 py, .int .i32 vx, .int .i32 vy]] w fun e w' => e = .returned (.agg #[.int .i32 x, .int .i32 y, .int .i32 z, .int .i32 t]) ∧ Grown w w'
abbrev REm (xa ya za ta : Int) (z : Bool) : Prop := ∀ w, Calls Tryz.prog 47 #[.agg #[.int .i32 xa, .int .i32 ya, .int .i32 za, .int .i32 ta]] w fun e w' => e = .returned (.bool z) ∧ Grown w w'
theorem rem (xa ya za ta : Int) (z : Bool) (hz : empB xa ya za ta = z) : REm xa ya za ta z := fun w => by
 by_cases g0 : za < xa
 ·obtain rfl : true = z := by rw [← hz]; unfold empB; exact (decide_eq_true (by omega)).symm
  clear hz
  go_enter Tryz.func47, Tryz.ntmps47
  go_wp2
  go_ret
  exact ⟨rfl, (Grown.refl _).alloc _ _⟩
 by_cases g1 : ta < ya
 ·obtain rfl : true = z := by rw [← hz]; unfold empB; exact (decide_eq_true (by omega)).symm
  clear hz
  go_enter Tryz.func47, Tryz.ntmps47
  go_wp2
  go_ret
  exact ⟨rfl, (Grown.refl _).alloc _ _⟩
 obtain rfl : false = z := by rw [← hz]; unfold empB; exact (decide_eq_false (by omega)).symm
 clear hz
 go_enter Tryz.func47, Tryz.ntmps47
 go_wp2
 go_ret
 exact ⟨rfl, (Grown.refl _).alloc _ _⟩
end Go.Proofs.YtaknmlohnifcdaaGreatDoor
section
namespace Go.Proofs.YtaknmlohnifcdaaGreatDoor

def rowC (c r : Int) (n : Nat) : List (Int × Int) := (List.range n).map fun (i : Nat) => (c + (i : Int), r)
def allC (c r : Int) (n m : Nat) : List (Int × Int) := (List.range m).flatMap fun (j : Nat) => rowC c (r + (j : Int)) n
theorem rowC_zero (c r : Int) : rowC c r 0 = [] := rfl
theorem rowC_succ (c r : Int) (n : Nat) : rowC c r (n + 1) = rowC c r n ++ [(c + (n : Int), r)] := by simp [rowC, List.range_succ]
theorem allC_succ (c r : Int) (n m : Nat) : allC c r n (m + 1) = allC c r n m ++ rowC c (r + (m : Int)) n := by simp [allC, List.range_succ]
theorem rowC_len (c r : Int) (n : Nat) : (rowC c r n).length = n := by simp [rowC]
theorem allC_len (c r : Int) (n : Nat) : ∀ m : Nat, (allC c r n m).length = m * n
 | 0 => by simp [allC]
 | m + 1 => by rw [allC_succ, List.length_append, rowC_len, allC_len c r n m, Nat.succ_mul]
theorem rowC_mem {c r x y : Int} {n : Nat} : (x, y) ∈ rowC c r n ↔ (c ≤ x ∧ x < c + (n : Int)) ∧ y = r := by
 simp only [rowC, List.mem_map, List.mem_range, Prod.mk.injEq]
 constructor
 ·rintro ⟨i, h, h1, h2⟩
  exact ⟨by omega, h2.symm⟩
 ·rintro ⟨⟨h1, h2⟩, h3⟩
  exact ⟨(x - c).toNat, by omega, by omega, h3.symm⟩
theorem allC_mem {c r x y : Int} {n m : Nat} : (x, y) ∈ allC c r n m ↔ (c ≤ x ∧ x < c + (n : Int)) ∧ (r ≤ y ∧ y < r + (m : Int)) := by
 simp only [allC, List.mem_flatMap, List.mem_range, rowC_mem]
 constructor
 ·rintro ⟨j, h, h1, h2⟩
  exact ⟨h1, by omega⟩
 ·rintro ⟨h1, h2, h3⟩
  exact ⟨(y - r).toNat, by omega, h1, by omega⟩
def colN (n : Int) : Int := n / 4194304
theorem colN_in {n : Int} (h : -2147483648 ≤ n ∧ n < 2147483648) : -512 ≤ colN n ∧ colN n ≤ 511 := by unfold colN; omega
theorem colN_le {a b : Int} (h : a ≤ b) : colN a ≤ colN b := by unfold colN; omega
end Go.Proofs.YtaknmlohnifcdaaGreatDoor
end
namespace Go.Proofs.YtaknmlohnifcdaaGreatDoor
open Go.RowKit Go.Lib
def bktN (x y : Int) : Int := (((x % 4294967296 * 73856093 % 4294967296).toNat ^^^ (y % 4294967296 * 19349663 % 4294967296).toNat : Nat) : Int) % 1024
theorem to_nat32 (n : Int) : ∃ a : Nat, n % 4294967296 = (a : Int) ∧ a < 4294967296 := ⟨(n % 4294967296).toNat, by omega, by omega⟩
def cv (c : Int × Int) : List Value := [.int .i32 c.1, .int .i32 c.2]
theorem cv_len (c : Int × Int) : (cv c).length = 2 := rfl
theorem cv_one (c : Int × Int) : ∀ u ∈ cv c, u.oneCell' = true := by
 intro u hu
 simp only [cv, List.mem_cons, List.not_mem_nil, or_false] at hu
 rcases hu with rfl | rfl <;> rfl
structure Ent where
 k : Int
 a : Int
 b : Int
 c : Int
 d : Int
def ev (e : Ent) : List Value := [.int .u32 e.k, .int .i32 e.a, .int .i32 e.b, .int .i32 e.c, .int .i32 e.d]
def iv (n : Int) : List Value := [.int .i64 n]
theorem iv_len (n : Int) : (iv n).length = 1 := rfl
def kv (n : Int) : List Value := [.int .u32 n]
theorem kv_len (n : Int) : (kv n).length = 1 := rfl
theorem kv_one (n : Int) : ∀ u ∈ kv n, u.oneCell' = true := by
 intro u hu
 simp only [kv, List.mem_cons, List.not_mem_nil, or_false] at hu
 subst hu
 rfl
def pv (p : Int × Int) : List Value := [.int .u32 p.1, .int .u32 p.2]
theorem pv_len (p : Int × Int) : (pv p).length = 2 := rfl
theorem pv_one (p : Int × Int) : ∀ u ∈ pv p, u.oneCell' = true := by
 intro u hu
 simp only [pv, List.mem_cons, List.not_mem_nil, or_false] at hu
 rcases hu with rfl | rfl <;> rfl
def ncB (a c : Int) : Nat := (colN c - colN a + 1).toNat
def cellsB (a b c d : Int) : List (Int × Int) := if empB a b c d = true then [] else allC (colN a) (colN b) (ncB a c) (ncB b d)
def bksB (a b c d : Int) : List Int := (cellsB a b c d).map fun x => bktN x.1 x.2
def bksE (e : Ent) : List Int := bksB e.a e.b e.c e.d
def comE (x y : Ent) : Bool := (bksE x).any fun n => (bksE y).contains n
def candT (x y : Ent) : Bool := decide (x.k < y.k) && comE x y
def candL (L : List Ent) : List (Int × Int) := L.foldl (fun acc x => L.foldl (fun acc y => if candT x y = true then putS pless acc (x.k, y.k) else acc) acc) []
def atL (L : List Ent) (n : Int) : List Int := L.foldl (fun acc x => if (bksE x).contains n = true then putS kless acc x.k else acc) []
theorem atL_spec (L : List Ent) (n : Int) : SortS kless (atL L n) ∧ ∀ x, x ∈ atL L n ↔ ∃ e ∈ L, (bksE e).contains n = true ∧ x = e.k := by
 obtain ⟨h1, h2⟩ := fold_put kless_strict (fun e : Ent => e.k) (fun e => (bksE e).contains n) L [] List.Pairwise.nil
 exact ⟨h1, fun x => by unfold atL; rw [h2]; simp⟩
theorem candL_go (M : List Ent) : ∀ (L : List Ent) (acc : List (Int × Int)), SortS pless acc →
 SortS pless (L.foldl (fun acc x => M.foldl (fun acc y => if candT x y = true then putS pless acc (x.k, y.k) else acc) acc) acc) ∧
 ∀ p, p ∈ L.foldl (fun acc x => M.foldl (fun acc y => if candT x y = true then putS pless acc (x.k, y.k) else acc) acc) acc ↔ p ∈ acc ∨ ∃ x ∈ L, ∃ y ∈ M, candT x y = true ∧ p = (x.k, y.k)
 | [], acc, h => ⟨h, fun p => by simp⟩
 | x :: L, acc, h => by
   rw [List.foldl_cons]
   obtain ⟨i1, i2⟩ := fold_put pless_strict (fun y : Ent => (x.k, y.k)) (fun y => candT x y) M acc h
   obtain ⟨j1, j2⟩ := candL_go M L _ i1
   refine ⟨j1, fun p => ?_⟩
   rw [j2, i2]
   constructor
   ·rintro ((a | ⟨y, hy, hc, rfl⟩) | ⟨z, hz, y, hy, hc, rfl⟩)
    ·exact .inl a
    ·exact .inr ⟨x, by simp, y, hy, hc, rfl⟩
    ·exact .inr ⟨z, by simp [hz], y, hy, hc, rfl⟩
   ·rintro (a | ⟨z, hz, y, hy, hc, rfl⟩)
    ·exact .inl (.inl a)
    ·rcases List.mem_cons.1 hz with rfl | hz
     ·exact .inl (.inr ⟨y, hy, hc, rfl⟩)
     ·exact .inr ⟨z, hz, y, hy, hc, rfl⟩
theorem candL_spec (L : List Ent) : SortS pless (candL L) ∧ ∀ p, p ∈ candL L ↔ ∃ x ∈ L, ∃ y ∈ L, candT x y = true ∧ p = (x.k, y.k) := by
 obtain ⟨h1, h2⟩ := candL_go L L [] List.Pairwise.nil
 exact ⟨h1, fun p => by unfold candL; rw [h2]; simp⟩
theorem dropOne_len {α : Type} [DecidableEq α] (p : α) (l : List α) : (dropOne p l).length ≤ l.length := (dropOne_sub p l).length_le
theorem putS_len {α : Type} [DecidableEq α] (lt : α → α → Bool) (l : List α) (p : α) : (putS lt l p).length ≤ l.length + 1 := by
 unfold putS
 have h1 := dropOne_len p (l.dropWhile fun x => lt x p)
 have h2 := congrArg List.length (List.takeWhile_append_dropWhile (p := fun x => lt x p) (l := l))
 rw [List.length_append] at h2
 rw [List.length_append, List.length_cons]
 omega
def stepA (n : Int) (acc : List Int) (x : Ent) : List Int := if (bksE x).contains n = true then putS kless acc x.k else acc
def accA (L : List Ent) (n : Int) (a : Nat) : List Int := (L.take a).foldl (stepA n) []
theorem accA_succ {L : List Ent} {n : Int} {x : Ent} {a : Nat} (h : L[a]? = some x) : accA L n (a + 1) = stepA n (accA L n a) x := by
 unfold accA
 rw [List.take_add_one, h, List.foldl_append]
 rfl
theorem accA_all {L : List Ent} {n : Int} {a : Nat} (h : L.length ≤ a) : accA L n a = atL L n := by
 unfold accA atL
 rw [List.take_of_length_le h]
 rfl
theorem accA_len (L : List Ent) (n : Int) : ∀ a : Nat, a ≤ L.length → (accA L n a).length ≤ a
 | 0, _ => by simp [accA]
 | a + 1, h => by
   have hx : L[a]? = some (L[a]'(by omega)) := List.getElem?_eq_getElem _
   rw [accA_succ hx]
   have h2 := accA_len L n a (by omega)
   unfold stepA
   split
   ·have := putS_len kless (accA L n a) (L[a]'(by omega)).k
    omega
   ·omega
theorem own_base {w : World} {B B' : Nat} {t : TypeId} {size n : Nat} {v : Value} {xs : List Value} (h : w.ownsRow B t size v n xs) (hb : B' ≤ B) : w.ownsRow B' t size v n xs := by
 refine ⟨h.1, ?_⟩
 rcases h.2 with q | ⟨g, cap, cur, e, hg, r⟩
 ·exact .inl q
 ·exact .inr ⟨g, cap, cur, e, Nat.le_trans hb hg, r⟩
theorem info_int : (Tryz.prog.info? 3).map (fun i => (i.zero, i.size, i.bytes)) = some (some (.int .i64 0), 1, 8) := by kernel_rfl
theorem info_pair : (Tryz.prog.info? 75).map (fun i => (i.zero, i.size, i.bytes)) = some (some (.agg #[.int .u32 0, .int .u32 0]), 2, 8) := by kernel_rfl
theorem take_while {α : Type} {t : α → Bool} : ∀ {L : List α} {k : Nat}, (∀ x ∈ L.take k, t x = true) → (∀ x, L[k]? = some x → t x = false) → L.takeWhile t = L.take k ∧ L.dropWhile t = L.drop k
 | [], k, _, _ => by simp
 | x :: L, 0, _, h => by
   have := h x rfl
   rw [List.takeWhile_cons_of_neg (by simp [this]), List.dropWhile_cons_of_neg (by simp [this])]
   simp
 | x :: L, k + 1, h1, h2 => by
   have hx := h1 x (by simp)
   obtain ⟨i1, i2⟩ := take_while (L := L) (k := k) (fun y hy => h1 y (by simp [hy])) (fun y hy => h2 y (by simpa using hy))
   rw [List.takeWhile_cons_of_pos hx, List.dropWhile_cons_of_pos hx, i1, i2]
   simp
end Go.Proofs.YtaknmlohnifcdaaGreatDoor
