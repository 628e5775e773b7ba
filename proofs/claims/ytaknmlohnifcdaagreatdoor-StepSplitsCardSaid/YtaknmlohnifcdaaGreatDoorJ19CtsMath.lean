import Derived.Test.YtaknmlohnifcdaaGreatDoorJ04PointRef
import Derived.Test.YtaknmlohnifcdaaGreatDoorJ18ViewMath
import Derived.Test.YtaknmlohnifcdaaGreatDoorJ02Seq
import Derived.Test.YtaknmlohnifcdaaGreatDoorJ01Bodies
import Derived.Deep.DeepCutAuto
import Derived.Deep.QuietTactic
import Derived.BigQuiet
import Derived.Test.YtaknmlohnifcdaaGreatDoorJ00Bits
import Derived.Test.YtaknmlohnifcdaaGreatDoorJ06StorePut
import Derived.Test.YtaknmlohnifcdaaGreatDoorRows
import Derived.WalkKit
import Derived.ProofKit
import Derived.OpenShut
import Derived.ChangeSame
import Derived.Lib.SmallJoins
import Derived.Deep.Slices

/-! J19CtsMath: CtsMath, JacRef1, JacRef3, JacRef4, CtSlice, JacCon, CorCon, StpMath, StpCon. -/

section
/-
  Package contacts: the contacts of a view as a list (no program).
-/
namespace Go.Proofs.YtaknmlohnifcdaaGreatDoor
open Go.RowKit Go.Lib

/-- The contacts of one body with those behind it. -/
def conO (x : Bd) (l : List Bd) : List Ct := (l.filter (tchB x)).map (conC x)
def consL : List Bd → List Ct
  | [] => []
  | x :: l => conO x l ++ consL l
def ctv (c : Ct) : List Value := [.int .u32 c.lo, .int .u32 c.hi, .int .i32 c.nx, .int .i32 c.ny, .int .i32 c.dp]
theorem ctv_len (c : Ct) : (ctv c).length = 5 := rfl
theorem conO_cons (x y : Bd) (l : List Bd) : conO x (y :: l) = if tchB x y = true then conC x y :: conO x l else conO x l := by
  unfold conO
  by_cases c : tchB x y = true
  · rw [if_pos c, List.filter_cons_of_pos c, List.map_cons]
  · rw [if_neg c, List.filter_cons_of_neg c]
theorem conO_len (x : Bd) (l : List Bd) : (conO x l).length ≤ l.length := by
  unfold conO
  rw [List.length_map]
  exact List.length_filter_le _ _
theorem cons_len : ∀ (L : List Bd), 2 * (consL L).length ≤ L.length * (L.length - 1)
  | [] => by simp [consL]
  | x :: l => by
    have h1 := cons_len l
    have h2 := conO_len x l
    have e : (consL (x :: l)).length = (conO x l).length + (consL l).length := by simp [consL]
    rw [e, List.length_cons, Nat.add_sub_cancel]
    generalize (conO x l).length = a at *
    generalize (consL l).length = b at *
    generalize l.length = n at *
    cases n with
    | zero => simp at h1 h2 ⊢; omega
    | succ n =>
      rw [Nat.add_sub_cancel] at h1
      have e2 : (n + 1 + 1) * (n + 1) = (n + 1) * n + 2 * (n + 1) := by
        rw [Nat.mul_comm (n + 1 + 1), ← Nat.mul_comm (n + 1) 2, ← Nat.mul_add]
      omega
theorem cons_max {L : List Bd} (h : L.length ≤ 40) : (consL L).length ≤ 780 := by
  have h1 := cons_len L
  have h2 := Nat.mul_le_mul h (show L.length - 1 ≤ 39 by omega)
  omega
theorem cons_mem : ∀ {L : List Bd}, Asc L → ∀ c : Ct, c ∈ consL L ↔ ∃ x ∈ L, ∃ y ∈ L, x.k < y.k ∧ tchB x y = true ∧ c = conC x y
  | [], _, p => by simp [consL]
  | a :: l, h, p => by
    simp only [consL, List.mem_append, cons_mem h.2]
    constructor
    · rintro (hp | ⟨x, hx, y, hy, h1, h2, rfl⟩)
      · unfold conO at hp
        obtain ⟨y, hy, rfl⟩ := List.mem_map.1 hp
        rw [List.mem_filter] at hy
        exact ⟨a, by simp, y, by simp [hy.1], h.1 y hy.1, hy.2, rfl⟩
      · exact ⟨x, by simp [hx], y, by simp [hy], h1, h2, rfl⟩
    · rintro ⟨x, hx, y, hy, h1, h2, rfl⟩
      rcases List.mem_cons.1 hx with e | hx2
      · rcases List.mem_cons.1 hy with e2 | hy2
        · rw [e, e2] at h1; omega
        · rw [e] at h2 ⊢
          exact .inl (by unfold conO; exact List.mem_map.2 ⟨y, List.mem_filter.2 ⟨hy2, h2⟩, rfl⟩)
      · rcases List.mem_cons.1 hy with e2 | hy2
        · have := h.1 x hx2; rw [e2] at h1; omega
        · exact .inr ⟨x, hx2, y, hy2, h1, h2, rfl⟩
/-- Without a body: the contacts in which it does not occur. -/
theorem conO_gone (a : Bd) (key : Int) (ha : a.k ≠ key) : ∀ l : List Bd, conO a (l.filter fun y => decide (y.k ≠ key)) = (conO a l).filter fun c => decide (c.lo ≠ key ∧ c.hi ≠ key)
  | [] => rfl
  | y :: l => by
    have ih := conO_gone a key ha l
    by_cases c : y.k = key
    · rw [List.filter_cons_of_neg (by simp [c]), ih, conO_cons]
      by_cases t : tchB a y = true
      · rw [if_pos t, List.filter_cons_of_neg]
        intro q
        exact (of_decide_eq_true q).2 c
      · rw [if_neg t]
    · rw [List.filter_cons_of_pos (p := fun y : Bd => decide (y.k ≠ key)) (decide_eq_true c), conO_cons, conO_cons, ih]
      by_cases t : tchB a y = true
      · rw [if_pos t, if_pos t, List.filter_cons_of_pos]
        exact decide_eq_true ⟨ha, c⟩
      · rw [if_neg t, if_neg t]
theorem conO_all (a : Bd) (l : List Bd) : (conO a l).filter (fun c => decide (c.lo ≠ a.k ∧ c.hi ≠ a.k)) = [] := by
  rw [List.filter_eq_nil_iff]
  intro c hc q
  unfold conO at hc
  obtain ⟨y, _, rfl⟩ := List.mem_map.1 hc
  exact (of_decide_eq_true q).1 rfl
theorem cons_drop (key : Int) : ∀ L : List Bd, consL (L.filter fun y => decide (y.k ≠ key)) = (consL L).filter fun c => decide (c.lo ≠ key ∧ c.hi ≠ key)
  | [] => rfl
  | a :: l => by
    show _ = (conO a l ++ consL l).filter _
    rw [List.filter_append, ← cons_drop key l]
    by_cases c : a.k = key
    · subst c
      rw [List.filter_cons_of_neg (by simp), conO_all, List.nil_append]
    · rw [List.filter_cons_of_pos (p := fun y : Bd => decide (y.k ≠ key)) (decide_eq_true c)]
      show conO a _ ++ consL _ = _
      rw [conO_gone a key c]
theorem cons_gone {L : List Bd} (h : Asc L) {k : Nat} {x : Bd} (hx : L[k]? = some x) : consL (L.take k ++ L.drop (k + 1)) = (consL L).filter fun c => decide (c.lo ≠ x.k ∧ c.hi ≠ x.k) := by
  rw [gone_at h hx]
  exact cons_drop x.k L
theorem tch_mv (dx dy : Int) (x y : Bd) : tchB (mvB dx dy x) (mvB dx dy y) = tchB x y ∧ (tchB x y = true → conC (mvB dx dy x) (mvB dx dy y) = conC x y) := by
  have h := con_mv (x := x) (y := y) (x' := mvB dx dy x) (y' := mvB dx dy y) (v := dx) (u := dy) ⟨rfl, rfl, rfl, rfl⟩ ⟨rfl, rfl, rfl, rfl⟩ rfl rfl rfl rfl
  refine ⟨h.1, fun t => ?_⟩
  have e := h.2.1
  unfold conV at e
  rw [if_pos t, if_pos (h.1.trans t)] at e
  exact e
theorem conO_mv (dx dy : Int) (x : Bd) : ∀ l : List Bd, conO (mvB dx dy x) (l.map (mvB dx dy)) = conO x l
  | [] => rfl
  | y :: l => by
    rw [List.map_cons, conO_cons, conO_cons, (tch_mv dx dy x y).1, conO_mv dx dy x l]
    by_cases t : tchB x y = true
    · rw [if_pos t, if_pos t, (tch_mv dx dy x y).2 t]
    · rw [if_neg t, if_neg t]
theorem cons_mv (dx dy : Int) : ∀ L : List Bd, consL (L.map (mvB dx dy)) = consL L
  | [] => rfl
  | x :: l => by
    show conO (mvB dx dy x) (l.map (mvB dx dy)) ++ consL (l.map (mvB dx dy)) = _
    rw [conO_mv, cons_mv dx dy l]
    rfl
/-- Bodies that touch are among the pairs. -/
theorem tch_ov {x y : Bd} (hx : okC x) (hy : okC y) (h : tchB x y = true) : ovP x y = true := by
  have b := tch_box hx hy h
  have l1 := okC_lim hx
  have l2 := okC_lim hy
  unfold exC eyC at b
  unfold ovP ovA ovlB exB eyB
  exact decide_eq_true (by omega)
/-- Filtering the pairs by touch gives the contacts. -/
theorem conO_pr {x : Bd} (hx : okC x) : ∀ {l : List Bd}, (∀ y ∈ l, okC y) → conO x l = ((l.filter (ovP x)).filter (tchB x)).map (conC x)
  | [], _ => rfl
  | y :: l, h => by
    have ih := conO_pr hx (l := l) (fun z hz => h z (by simp [hz]))
    rw [conO_cons, ih]
    by_cases t : tchB x y = true
    · have o := tch_ov hx (h y (by simp)) t
      rw [if_pos t, List.filter_cons_of_pos o, List.filter_cons_of_pos t, List.map_cons]
    · rw [if_neg t]
      by_cases o : ovP x y = true
      · rw [List.filter_cons_of_pos o, List.filter_cons_of_neg t]
      · rw [List.filter_cons_of_neg o]
end Go.Proofs.YtaknmlohnifcdaaGreatDoor
end

section
/-
  Package jacobi: the reference's Numbers and Right.
-/
namespace Go.Proofs.YtaknmlohnifcdaaGreatDoor
open Go.RowKit Go.Lib

def nv (n : Int) : List Value := [.int .i64 n]
theorem nv_len (n : Int) : (nv n).length = 1 := rfl
end Go.Proofs.YtaknmlohnifcdaaGreatDoor
end

section
/-
  Package jacobi: the reference's Sums and Round.
-/
namespace Go.Proofs.YtaknmlohnifcdaaGreatDoor
open Go.RowKit Go.Lib

theorem info_i64 : (Tryz.prog.info? 2).map (fun i => (i.zero, i.size, i.bytes)) = some (some (.int .i64 0), 1, 8) := by kernel_rfl
end Go.Proofs.YtaknmlohnifcdaaGreatDoor
end

section
/-
  Package jacobi: the reference's Solve.
-/
namespace Go.Proofs.YtaknmlohnifcdaaGreatDoor
open Go.RowKit Go.Lib

theorem asc_mapK {g : Bd → Bd} (hg : ∀ x, (g x).k = x.k) : ∀ {L : List Bd}, Asc L → Asc (L.map g)
  | [], _ => trivial
  | x :: l, h => ⟨fun y hy => by
      obtain ⟨z, hz, rfl⟩ := List.mem_map.1 hy
      rw [hg, hg]
      exact h.1 z hz, asc_mapK hg h.2⟩
end Go.Proofs.YtaknmlohnifcdaaGreatDoor
end

section
/-
  Contacts as arguments: a slice of them opened as a list (with its length at most its capacity).
-/
namespace Go.Proofs.YtaknmlohnifcdaaGreatDoor
open Go.ChangeShapes Go.WideShapes Go.ChangeAt Go.RowKit Go.Joins Go.Deep

theorem KepC.same {W W' : World} (h : Kep W.heap.size W W') {p : MemPlace} (hp : p.block < W.heap.size) : W.sameAt W' p := by
  cases p with
  | cell b o => exact World.cell?_of_block (w := W) (h.block b hp)
  | map b => exact h.block b hp
theorem KepC.trod {H : Type} {enc : TypeId × Value → H} {P : Program} {t : TypeId} (hl : laidOutB P = true) (hr : P.readableRec t = true) (hrow : t < P.types.size) {W W' : World} {v : Value} {d : DataW H} {ps : List MemPlace}
    (h : DataW.Trod enc P W 0 (fun _ => true) true t v d ps) (hb : Kep W.heap.size W W') (hlt : ∀ x ∈ ps, x.block < W.heap.size) :
    DataW.Trod enc P W' 0 (fun b => decide (b < W.heap.size)) true t v d ps :=
  WideElems.Trod_stays hl hr hrow h (fun x hx => KepC.same hb (hlt x hx)) (fun x hx => by simpa using hlt x hx)
end Go.Proofs.YtaknmlohnifcdaaGreatDoor
end

section
/-
  Package jacobi: what the laws ask of the program.
-/
namespace Go.Proofs.YtaknmlohnifcdaaGreatDoor
open Go.RowKit Go.Lib

/-- What P17 asks of a view and its contacts. -/
structure JArg (L : List Bd) (C : List Ct) : Prop where
  vw : Vw L
  few : C.length ≤ 1000
  rg : ∀ c ∈ C, RgC L c
theorem JArg.vb {L : List Bd} {C : List Ct} (h : JArg L C) : ∀ x ∈ L, Vb x := fun x hx => vb_of (h.vw.ok x hx)
/-- A result of the call's own: its block is new, and can be written. -/
def NewZ (w : World) (v : Value) (w' : World) : Prop := ∀ g, v.ownBlock = some g → w.heap.size ≤ g ∧ ∀ o, w'.frozen? ⟨g, o, none⟩ = false
abbrev JSums : Prop := ∀ v L l C w, Lst w v L → Sq ctv 5 w l C → JArg L C → Calls Tryz.prog 78 #[v, l] w fun e w' => ∃ v1 v2, e = .returned (.tuple #[v1, v2]) ∧ (Sq nv 1 w' v1 (L.map (sumJ (·.nx) L C)) ∧ Sq nv 1 w' v2 (L.map (sumJ (·.ny) L C))) ∧ Kep w.heap.size w w'
abbrev JSlv : Prop := ∀ v L l C w, Lst w v L → Sq ctv 5 w l C → JArg L C → Calls Tryz.prog 39 #[v, l] w fun e w' => ∃ v', e = .returned (.tuple #[v', .bool (slvN C L 4).2]) ∧ (Lst w' v' (slvN C L 4).1 ∧ NewZ w v' w') ∧ Kep w.heap.size w w'
end Go.Proofs.YtaknmlohnifcdaaGreatDoor
end

section
/-
  Package correct: what the laws ask of the program.
-/
namespace Go.Proofs.YtaknmlohnifcdaaGreatDoor
open Go.RowKit Go.Lib

abbrev CAm (lo hi nx ny dp : Int) (x y : Bd) (t : Int) : Prop := ∀ w, Calls Tryz.prog 82 #[.agg #[.int .u32 lo, .int .u32 hi, .int .i32 nx, .int .i32 ny, .int .i32 dp], .agg #[.int .u32 x.k, .int .i32 x.r, .int .i32 x.ax, .int .i32 x.ay, .int .i32 x.m, .int .i32 x.o, .int .i32 x.px, .int .i32 x.py, .int .i32 x.vx, .int .i32 x.vy], .agg #[.int .u32 y.k, .int .i32 y.r, .int .i32 y.ax, .int .i32 y.ay, .int .i32 y.m, .int .i32 y.o, .int .i32 y.px, .int .i32 y.py, .int .i32 y.vx, .int .i32 y.vy]] w fun e w' => e = .returned (.int .i64 t) ∧ Kep w.heap.size w w'
abbrev CSh (lo hi nx ny dp : Int) (x y : Bd) (z : Bool) (t : Int) : Prop := ∀ w, Calls Tryz.prog 64 #[.agg #[.int .u32 lo, .int .u32 hi, .int .i32 nx, .int .i32 ny, .int .i32 dp], .agg #[.int .u32 x.k, .int .i32 x.r, .int .i32 x.ax, .int .i32 x.ay, .int .i32 x.m, .int .i32 x.o, .int .i32 x.px, .int .i32 x.py, .int .i32 x.vx, .int .i32 x.vy], .agg #[.int .u32 y.k, .int .i32 y.r, .int .i32 y.ax, .int .i32 y.ay, .int .i32 y.m, .int .i32 y.o, .int .i32 y.px, .int .i32 y.py, .int .i32 y.vx, .int .i32 y.vy], .bool z] w fun e w' => e = .returned (.int .i64 t) ∧ Kep w.heap.size w w'
/-- What P18 asks of a view and its contacts. -/
structure SArg (L : List Bd) (C : List Ct) : Prop where
  vw : Vw L
  few : C.length ≤ 1000
  rg : ∀ c ∈ C, RsC L c
theorem SArg.vb {L : List Bd} {C : List Ct} (h : SArg L C) : ∀ x ∈ L, Vb x := fun x hx => vb_of (h.vw.ok x hx)
abbrev CSf : Prop := ∀ v L l C w, Lst w v L → Sq ctv 5 w l C → SArg L C → Calls Tryz.prog 41 #[v, l] w fun e w' => ∃ v', e = .returned v' ∧ (Sq shv 2 w' v' (shfL L C) ∧ Rmy v') ∧ Kep w.heap.size w w'
end Go.Proofs.YtaknmlohnifcdaaGreatDoor
end

section
/-
  Package step: a step of a view as a list (no program).
-/
namespace Go.Proofs.YtaknmlohnifcdaaGreatDoor
open Go.RowKit Go.Lib

/-- Gravity, solving and motion of a view, and whether a limit was reached. -/
def stpG (L : List Bd) : List Bd := L.map grvB
def stpV (L : List Bd) : List Bd := (slvN (consL L) (stpG L) 4).1
def stpS (L : List Bd) : List Sh := shfL L (consL L)
def stpL (L : List Bd) : List Bd := mtL (stpV L) (stpS L)
def stpC (L : List Bd) : Bool := L.any grvC || (slvN (consL L) (stpG L) 4).2 || (mtA (stpV L) (stpS L)).any id
/-- A free body behind a step. -/
def frB (x : Bd) : Bd := mtB (grvB x) (0, 0)
/-- Several steps: the view, the contacts, and whether a limit was reached. -/
def stpN (L : List Bd) : Nat → List Bd
  | 0 => L
  | n + 1 => stpL (stpN L n)
def ctN (L : List Bd) : Nat → Nat
  | 0 => 0
  | n + 1 => ctN L n + (consL (stpN L n)).length
def clN (L : List Bd) : Nat → Bool
  | 0 => false
  | n + 1 => clN L n || stpC (stpN L n)
theorem stpN_add (L : List Bd) (a : Nat) : ∀ b, stpN L (a + b) = stpN (stpN L a) b
  | 0 => rfl
  | b + 1 => by
    show stpL (stpN L (a + b)) = stpL (stpN (stpN L a) b)
    rw [stpN_add L a b]
theorem ctN_add (L : List Bd) (a : Nat) : ∀ b, ctN L (a + b) = ctN L a + ctN (stpN L a) b
  | 0 => rfl
  | b + 1 => by
    show ctN L (a + b) + (consL (stpN L (a + b))).length = ctN L a + (ctN (stpN L a) b + (consL (stpN (stpN L a) b)).length)
    rw [ctN_add L a b, stpN_add, Nat.add_assoc]
theorem clN_add (L : List Bd) (a : Nat) : ∀ b, clN L (a + b) = (clN L a || clN (stpN L a) b)
  | 0 => (Bool.or_false _).symm
  | b + 1 => by
    show (clN L (a + b) || stpC (stpN L (a + b))) = (clN L a || (clN (stpN L a) b || stpC (stpN (stpN L a) b)))
    rw [clN_add L a b, stpN_add, Bool.or_assoc]
/-- Lists with the same keys. -/
theorem asc_keys : ∀ {A B : List Bd}, A.map (·.k) = B.map (·.k) → Asc A → Asc B
  | [], [], _, _ => trivial
  | [], _ :: _, e, _ => by simp at e
  | _ :: _, [], e, _ => by simp at e
  | x :: a, y :: b, e, h => by
    simp only [List.map_cons, List.cons.injEq] at e
    refine ⟨fun z hz => ?_, asc_keys e.2 h.2⟩
    have q : z.k ∈ a.map (·.k) := by rw [e.2]; exact List.mem_map.2 ⟨z, hz, rfl⟩
    obtain ⟨u, hu, e2⟩ := List.mem_map.1 q
    have := h.1 u hu
    omega
theorem vw_keys {A B : List Bd} (h : Vw A) (e : A.map (·.k) = B.map (·.k)) (ok : ∀ x ∈ B, okI x) : Vw B := by
  refine ⟨asc_keys e h.asc, ok, fun x hx => ?_, ?_⟩
  · have q : x.k ∈ A.map (·.k) := by rw [e]; exact List.mem_map.2 ⟨x, hx, rfl⟩
    obtain ⟨u, hu, e2⟩ := List.mem_map.1 q
    have := h.key u hu
    rwa [e2] at this
  · have := congrArg List.length e
    rw [List.length_map, List.length_map] at this
    have := h.len
    omega
theorem grvB_k (x : Bd) : (grvB x).k = x.k := by unfold grvB; split <;> rfl
theorem keysG (L : List Bd) : L.map (·.k) = (stpG L).map (·.k) := by
  unfold stpG
  rw [List.map_map]
  exact List.map_congr_left fun x _ => (grvB_k x).symm
theorem slv_keys (C : List Ct) (L : List Bd) : ∀ n, L.map (·.k) = (slvN C L n).1.map (·.k)
  | 0 => rfl
  | n + 1 => by
    rw [slv_keys C L n]
    show _ = (rndL (slvN C L n).1 C).map _
    unfold rndL
    rw [List.map_map]
    rfl
theorem slv_ok {C : List Ct} {L : List Bd} (h : ∀ x ∈ L, okI x) : ∀ n, ∀ y ∈ (slvN C L n).1, okI y
  | 0, y, hy => h y hy
  | n + 1, y, hy => by
    have hy : y ∈ rndL (slvN C L n).1 C := hy
    unfold rndL at hy
    obtain ⟨x, hx, rfl⟩ := List.mem_map.1 hy
    exact ok_vel (slv_ok h n x hx) (limJ_bd _) (limJ_bd _)
theorem vw_G {L : List Bd} (h : Vw L) : Vw (stpG L) := vw_keys h (keysG L) fun y hy => by
  unfold stpG at hy
  obtain ⟨x, hx, rfl⟩ := List.mem_map.1 hy
  exact ok_grv (h.ok x hx)
theorem vw_V {L : List Bd} (h : Vw L) : Vw (stpV L) := vw_keys (vw_G h) (slv_keys _ _ 4) (slv_ok (vw_G h).ok 4)
theorem lenV (L : List Bd) : (stpV L).length = L.length := by unfold stpV stpG; rw [slv_len, List.length_map]
theorem lenS (L : List Bd) : (stpS L).length = (stpV L).length := by rw [lenV]; unfold stpS shfL; rw [List.length_map]
theorem mtL_keys : ∀ {V : List Bd} {S : List Sh}, S.length = V.length → V.map (·.k) = (mtL V S).map (·.k)
  | [], _, _ => rfl
  | _ :: _, [], h => by simp at h
  | x :: V, s :: S, h => by
    show x.k :: V.map (·.k) = x.k :: (mtL V S).map (·.k)
    rw [mtL_keys (V := V) (S := S) (by simpa using h)]
theorem vw_stp {L : List Bd} (h : Vw L) : Vw (stpL L) := vw_keys (vw_V h) (mtL_keys (lenS L)) fun y hy => by
  obtain ⟨x, s, hx, _, rfl⟩ := mtL_mem hy
  exact ok_mv s ((vw_V h).ok x hx)
theorem vw_N {L : List Bd} (h : Vw L) : ∀ n, Vw (stpN L n)
  | 0 => h
  | n + 1 => vw_stp (vw_N h n)
/-- The contacts of a view are as the parts of a step ask. -/
theorem con_nr {x y : Bd} (hx : okC x) (hy : okC y) : Nr (conC x y).nx ∧ Nr (conC x y).ny := by
  have hr := cln_is hx hy
  unfold conC ux uy
  dsimp only
  by_cases c : cln x y = 0
  · rw [if_pos c, if_pos c]
    exact ⟨⟨by decide, by decide⟩, by decide, by decide⟩
  · rw [if_neg c, if_neg c]
    have p := cln_bd hx hy
    obtain ⟨b1, b2⟩ := root_ge hr
    exact ⟨un_in (by omega) b1.1 b1.2, un_in (by omega) b2.1 b2.2⟩
theorem rsc_cons {L : List Bd} (h : Vw L) : ∀ c ∈ consL L, RsC L c := fun c hc => by
  obtain ⟨x, hx, y, hy, hk, ht, rfl⟩ := (cons_mem h.asc c).1 hc
  have ox : okC x := h.ok x hx
  have oy : okC y := h.ok y hy
  have lx := look_mem h.asc.once hx
  have ly := look_mem h.asc.once hy
  have n := con_nr ox oy
  have t := (tch_iff ox oy).1 ht
  have s := csm_bd ox oy
  have l := cln_bd ox oy
  exact ⟨⟨hk, by rw [show (conC x y).lo = x.k from rfl, lx]; rfl, by rw [show (conC x y).hi = y.k from rfl, ly]; rfl, n.1, n.2⟩, by show 1 ≤ csm x y - cln x y; omega, by show csm x y - cln x y ≤ 16777216; omega⟩
theorem few_cons {L : List Bd} (h : Vw L) : (consL L).length ≤ 1000 := Nat.le_trans (cons_max h.len) (by decide)
theorem rgc_map {g : Bd → Bd} (hg : ∀ x, (g x).k = x.k) {L : List Bd} {c : Ct} (h : RgC L c) : RgC (L.map g) c :=
  ⟨h.lt, by rw [look_map hg, Option.isSome_map]; exact h.lo, by rw [look_map hg, Option.isSome_map]; exact h.hi, h.nx, h.ny⟩
theorem jarg_stp {L : List Bd} (h : Vw L) : JArg (stpG L) (consL L) := ⟨vw_G h, few_cons h, fun c hc => rgc_map grvB_k (rsc_cons h c hc).toRgC⟩
end Go.Proofs.YtaknmlohnifcdaaGreatDoor
end

section
/-
  Package step: what the laws ask of the program.
-/
namespace Go.Proofs.YtaknmlohnifcdaaGreatDoor
open Go.RowKit Go.Lib

abbrev TSt : Prop := ∀ v L w, Fac w → Lst w v L → Vw L → Calls Tryz.prog 10 #[v] w fun e w' => ∃ v' n, e = .returned (.tuple #[v', .agg #[.int .i64 n, .int .i64 ((consL L).length : Int), .bool (stpC L)]]) ∧ (Lst w' v' (stpL L) ∧ ((consL L).length : Int) ≤ n ∧ 2 * n ≤ (L.length : Int) * ((L.length : Int) - 1) ∧ Rmy v') ∧ Kep w.heap.size w w'
abbrev TSs : Prop := ∀ v L n w, Fac w → Lst w v L → Vw L → n ≤ 1000 → Calls Tryz.prog 13 #[v, .int .i64 n] w fun e w' => ∃ v' t, e = .returned (.tuple #[v', .agg #[.int .i64 t, .int .i64 (ctN L n.toNat : Int), .bool (clN L n.toNat)]]) ∧ (Lst w' v' (stpN L n.toNat) ∧ (ctN L n.toNat : Int) ≤ t ∧ t ≤ 780 * (n.toNat : Int)) ∧ Kep w.heap.size w w'
abbrev TFr (x : Bd) : Prop := ∀ w, Calls Tryz.prog 17 #[.agg #[.int .u32 x.k, .int .i32 x.r, .int .i32 x.ax, .int .i32 x.ay, .int .i32 x.m, .int .i32 x.o, .int .i32 x.px, .int .i32 x.py, .int .i32 x.vx, .int .i32 x.vy]] w fun e w' => e = .returned (.agg #[.int .u32 (frB x).k, .int .i32 (frB x).r, .int .i32 (frB x).ax, .int .i32 (frB x).ay, .int .i32 (frB x).m, .int .i32 (frB x).o, .int .i32 (frB x).px, .int .i32 (frB x).py, .int .i32 (frB x).vx, .int .i32 (frB x).vy]) ∧ Kep w.heap.size w w'
/-- What the laws ask of the program. -/
structure TOps : Prop where
  stp : TSt
  sts : TSs
  fre : ∀ {x : Bd}, okI x → (Lit.int .u32 x.k).wf = true → TFr x
abbrev TAwake : Prop := ∀ w, Fac w → Calls Tryz.prog 9 #[] w fun e w' => e = .returned (.bool true) ∧ Kep w.heap.size w w'
theorem tests_max {n t : Int} (h0 : 0 ≤ n) (h : n ≤ 40) (k : 2 * t ≤ n * (n - 1)) : t ≤ 780 := by
  have e : n * (n - 1) ≤ 40 * 39 := by
    rcases Int.lt_or_le n 1 with q | q
    · obtain rfl : n = 0 := by omega
      decide
    · exact Int.mul_le_mul h (by omega) (by omega) (by omega)
  omega
end Go.Proofs.YtaknmlohnifcdaaGreatDoor
end
