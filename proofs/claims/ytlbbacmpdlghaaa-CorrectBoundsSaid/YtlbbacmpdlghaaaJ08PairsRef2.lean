import Derived.Test.YtlbbacmpdlghaaaJ07ViewMath
import Derived.Test.YtlbbacmpdlghaaaJ05GridMath
import Derived.Deep.QuietTactic
import Derived.BigQuiet
import Derived.Deep.DeepCutAuto
import Derived.Test.YtlbbacmpdlghaaaJ01FxRef
import Derived.Test.YtlbbacmpdlghaaaJ03StorePut

/-! J08PairsRef2: PairsRef2, PairsCon, VwKit. -/

section
/-
  Package pairs: the reference's Within, Lonely, View.
-/
namespace Go.Proofs.Ytlbbacmpdlghaaa
open Go.RowKit Go.Lib

theorem with_at {L : List Bd} {k : Nat} {x : Bd} {a b c d : Int} (h : L[k]? = some x) : withL (L.drop k) a b c d = if ovA x a b c d = true then x.k :: withL (L.drop (k + 1)) a b c d else withL (L.drop (k + 1)) a b c d := by
  rw [drop_at h]
  unfold withL
  by_cases q : ovA x a b c d = true
  · rw [if_pos q, List.filter_cons_of_pos (p := fun x => ovA x a b c d) q, List.map_cons]
  · rw [if_neg q, List.filter_cons_of_neg (p := fun x => ovA x a b c d) q]
theorem with_len (L : List Bd) (a b c d : Int) : (withL L a b c d).length ≤ L.length := by
  unfold withL
  rw [List.length_map]
  exact List.length_filter_le _ _
/-- A body is alone among L. -/
def lonT (x y : Bd) : Bool := decide (y.k = x.k) || !ovP x y
theorem lon_all {L : List Bd} {x : Bd} {key : Int} (h : look L key = some x) : lonB L key = L.all (lonT x) := by
  have e := (look_some h).2
  unfold lonB
  rw [h]
  subst e
  rfl
theorem all_take {t : Bd → Bool} {L : List Bd} {k : Nat} {y : Bd} (h : L[k]? = some y) : (L.take (k + 1)).all t = ((L.take k).all t && t y) := by
  rw [List.take_add_one, h]
  simp
/-- The bodies that are a view of at most 40 bodies. -/
def viwB (L : List Bd) : Bool := decide (L.length ≤ 40) && decide (sortE L = 0)
abbrev RVw (L : List Bd) : Prop := ∀ v w, Lst w v L → Calls Try.prog 8 #[v] w fun e w' => ∃ v', e = .returned (.tuple #[v', .bool (viwB L)]) ∧ (Lst w' v' (if L.length ≤ 40 then sortL L else []) ∧ New w v' w') ∧ Kep w.heap.size w w'
set_option maxRecDepth 100000 in
set_option maxHeartbeats 2000000 in
theorem rvw (L : List Bd) : RVw L := fun v w h => by
  obtain ⟨base, cap, rfl⟩ := h.shape
  have HL0 := Lib.hid h
  by_cases hl : L.length ≤ 40
  · have FS := Lib.hid (fun w h => rsort_any (.slice base L.length cap) L w h (by omega))
    have hg : decide ((40 : Int) < (L.length : Int)) = false := decide_eq_false (by omega)
    obtain ⟨z, hz⟩ : ∃ z, decide (sortE L = 0) = z := ⟨_, rfl⟩
    have ez : (sortE L == 0) = z := by rw [← hz]; rfl
    have e1 : viwB L = z := by unfold viwB; rw [decide_eq_true hl, hz]; rfl
    rw [e1, if_pos hl]
    have HS : Hid (sortE L == 0) = Hid (sortE L == 0) := rfl
    clear hz e1 HS h
    generalize sortE L = se at *
    go_enter Try.func8, Try.ntmps8
    go_wp2_with (first
      | ((with_reducible refine (FS.out _ HL0.out).mono ?_); rintro e w1 ⟨v1, rfl, ⟨l1, n1⟩, g1⟩))
    go_ret2
    exact ⟨_, rfl, ⟨l1, n1⟩, g1⟩
  · have hg : decide ((40 : Int) < (L.length : Int)) = true := decide_eq_true (by omega)
    have e1 : viwB L = false := by unfold viwB; rw [decide_eq_false hl]; rfl
    rw [e1, if_neg hl]
    clear h
    go_enter Try.func8, Try.ntmps8
    go_wp2_with fail
    go_ret2
    exact ⟨_, rfl, ⟨.inl ⟨rfl, none, 0, rfl⟩, new_nil _ _⟩, Kep.refl _ _⟩
end Go.Proofs.Ytlbbacmpdlghaaa
end

section
/-
  Package pairs: what the laws ask of the program.
-/
namespace Go.Proofs.Ytlbbacmpdlghaaa
open Go.RowKit Go.Lib

abbrev InI (n : Int) : Prop := -2147483648 ≤ n ∧ n < 2147483648
/-- A view of at most 40 bodies. -/
structure Vw (L : List Bd) : Prop where
  asc : Asc L
  ok : ∀ x ∈ L, chkB x = 0
  key : ∀ x ∈ L, (Lit.int .u32 x.k).wf = true
  len : L.length ≤ 40
theorem vw_of {L : List Bd} (h : viwB L = true) (f : ∀ x ∈ L, Fits x) : L.length ≤ 40 ∧ sortE L = 0 ∧ Vw (sortL L) := by
  unfold viwB at h
  rw [Bool.and_eq_true] at h
  have h1 := of_decide_eq_true h.1
  have h2 := of_decide_eq_true h.2
  have h3 := sortL_asc L
  refine ⟨h1, h2, h3.1, ?_, fun x hx => (sortL_fits f x hx).1, by have := h3.2; omega⟩
  exact (eachE_zero.1 (sorted_each h2)).2
/-- A list of keys reads as KLst. -/
theorem kv_klst {w : World} {v : Value} {K : List Int} (h : Sq kv 1 w v K) : KLst w v K := by
  obtain ⟨base, cap, rfl, hc⟩ := h
  cases K with
  | nil => exact .inl ⟨rfl, base, cap, rfl⟩
  | cons x K =>
    obtain ⟨g, off, rfl, _⟩ := hc 0 x rfl
    refine .inr ⟨g, off, cap, rfl, fun k y hy => ?_⟩
    obtain ⟨g', off', e, hi⟩ := hc k y hy
    injection e with e
    injection e with e1 e2
    subst e1 e2
    have := hi 0 _ rfl
    rw [Nat.mul_one] at this
    exact this
end Go.Proofs.Ytlbbacmpdlghaaa
end

section
/-
  Views moved, and without a body; slices of them (no program).
-/
namespace Go.Proofs.Ytlbbacmpdlghaaa
open Go.RowKit Go.Lib

/-- The bodies moved stayK in the world. -/
def stayK (dx dy : Int) (x : Bd) : Prop := (-1073741824 ≤ x.px + dx ∧ x.px + dx ≤ 1073741824) ∧ (-1073741824 ≤ x.py + dy ∧ x.py + dy ≤ 1073741824)
theorem vw_mvK {L : List Bd} (h : Vw L) {dx dy : Int} (hs : ∀ x ∈ L, stayK dx dy x) : Vw (L.map (mvB dx dy)) := by
  refine ⟨asc_mv dx dy h.asc, fun x hx => ?_, fun x hx => ?_, by rw [List.length_map]; exact h.len⟩
  · obtain ⟨y, hy, rfl⟩ := List.mem_map.1 hx
    exact chk_mv (h.ok y hy) (hs y hy).1 (hs y hy).2
  · obtain ⟨y, hy, rfl⟩ := List.mem_map.1 hx
    exact h.key y hy
theorem vals_lenK (x : Bd) : (vals x).length = 10 := rfl
theorem vals_oneK (x : Bd) : ∀ u ∈ vals x, u.oneCell' = true := one_cell x
theorem sq_takeK {α : Type} {f : α → List Value} {n : Nat} {w : World} {L : List α} {g off len k c : Nat} (hl : L.length = len) (hk : k ≤ len) (hc : ∀ (k : Nat) (x : α), L[k]? = some x → ∃ g' off', (some ⟨g, off, none⟩ : Option Addr) = some ⟨g', off', none⟩ ∧ ∀ (i : Nat) (u : Value), (f x)[i]? = some u → w.cell? ⟨g', off' + k * n + i, none⟩ = some u) :
    Sq f n w (.slice (some ⟨g, off, none⟩) k c) (L.take k) := by
  refine ⟨_, c, by rw [List.length_take, hl, Nat.min_eq_left hk], fun j x hx => ?_⟩
  have hx' : L[j]? = some x := by
    rw [List.getElem?_take] at hx
    split at hx
    · exact hx
    · cases hx
  obtain ⟨g', off', e, hi⟩ := hc j x hx'
  exact ⟨g', off', e, hi⟩
theorem lst_sqK {w : World} {v : Value} {L : List Bd} (h : Lst w v L) : Sq vals 10 w v L := by
  obtain ⟨base, cap, rfl⟩ := h.shape
  refine ⟨base, cap, rfl, fun k x hx => ?_⟩
  obtain ⟨g, off, rfl, q⟩ := h.at_ hx
  refine ⟨g, off, rfl, fun i u hu => ?_⟩
  have hi : i < 10 := by have := (List.getElem?_eq_some_iff.1 hu).1; exact this
  rw [q i hi]
  exact hu
theorem vw_goneK {L : List Bd} (h : Vw L) {k : Nat} {x : Bd} (hx : L[k]? = some x) : Vw (L.take k ++ L.drop (k + 1)) := by
  rw [gone_at h.asc hx]
  refine ⟨asc_filter _ h.asc, fun y hy => h.ok y (List.mem_filter.1 hy).1, fun y hy => h.key y (List.mem_filter.1 hy).1, ?_⟩
  have := List.length_filter_le (fun y : Bd => decide (y.k ≠ x.k)) L
  have := h.len
  omega
end Go.Proofs.Ytlbbacmpdlghaaa
end
