/-
  Package grid: the pairs of a lesser key, bucket by bucket; the map of pairs that were found.
-/
import Derived.Test.YtnmnbogjnjbopaaDoorGridKeyz
import Derived.DeepKeys4
namespace Go.Proofs.YtnmnbogjnjbopaaDoor
open Go.RowKit Go.Lib Go.Maps

/-! Keys that are pairs. -/

theorem laidOutP : laidOutB Tryd.prog = true := by kernel_rfl
theorem rowP : (44 : TypeId) < Tryd.prog.types.size := of_decide_eq_true (by kernel_rfl)
set_option maxRecDepth 100000 in
theorem wideP : (match Tryd.prog.underlying 44 with | some (.array _ _) | some (.struct _) => true | _ => false) = true := by rw [Tryd.underlying44]
set_option maxRecDepth 100000 in
theorem lawP : Keyed Tryd.prog 44 := Keyed.of_law (deep_law_laid laidOutP (m := 2) (by omega) rowP (by kernel_rfl) wideP)
def aggP (p : Int × Int) : Value := .agg #[.int .u32 p.1, .int .u32 p.2]
def klP (p : Int × Int) : Lit := .string (keyBytes [.int .u32 p.1, .int .u32 p.2])
abbrev WfP (p : Int × Int) : Prop := (Lit.int .u32 p.1).wf = true ∧ (Lit.int .u32 p.2).wf = true
theorem kt_pair : Tryd.prog.keyType 44 = true := by kernel_rfl
theorem cells_pair : Tryd.prog.cellsOf 44 = 2 := by kernel_rfl
theorem cells_key : Tryd.prog.cellsOf 42 = 1 := by kernel_rfl
theorem succ_of_lt {a n : Nat} (h : a < n) : ∃ m, n = m + 1 := ⟨n - 1, by omega⟩
set_option maxRecDepth 100000 in
theorem keyOfP {p : Int × Int} (h : WfP p) : keyOf Tryd.prog 44 (aggP p) = some (klP p) := by
  obtain ⟨p0, p1⟩ := p
  obtain ⟨h0, h1⟩ := h
  dsimp only at h0 h1
  obtain ⟨m, hm⟩ : ∃ m, Tryd.prog.types.size = m + 1 := succ_of_lt (a := 44) rowP
  unfold keyOf aggP klP
  rw [hm]
  simp [Tryd.underlying44, kt_pair, Value.formed, cells_pair, Program.keyLits, Value.cells, cells_key, Tryd.underlying42, h0, h1]
theorem klP_inj {p q : Int × Int} (hp : WfP p) (hq : WfP q) (h : klP p = klP q) : p = q := by
  have e := lawP.inj (keyOfP hp) (h ▸ keyOfP hq)
  unfold aggP at e
  simp at e
  exact Prod.ext e.1 e.2
theorem klP_lit (p : Int × Int) : WideAt.IsKeyLit (klP p) := trivial

theorem lt_of_asc {K : List Int} (hs : SortS kless K) {i j : Nat} {x y : Int} (hx : K[i]? = some x) (hy : K[j]? = some y) (h : i < j) : x < y := by
  obtain ⟨l1, e1⟩ := List.getElem?_eq_some_iff.1 hx
  obtain ⟨l2, e2⟩ := List.getElem?_eq_some_iff.1 hy
  have := of_decide_eq_true (List.pairwise_iff_getElem.1 hs _ _ l1 l2 h)
  rw [e1, e2] at this
  exact this
theorem inj_asc {K : List Int} (hs : SortS kless K) {i j : Nat} {x : Int} (hx : K[i]? = some x) (hy : K[j]? = some x) : i = j := by
  by_cases a : i < j
  · have := lt_of_asc hs hx hy a; omega
  · by_cases b : j < i
    · have := lt_of_asc hs hy hx b; omega
    · omega
/-- The keys of an ascending list behind one of them. -/
def abv (K : List Int) (x : Int) : List Int := K.drop (lessN K x + 1)
theorem lessN_at {K : List Int} {x : Int} (hs : SortS kless K) (hx : x ∈ K) : K[lessN K x]? = some x := by
  have h1 : lessN K x < K.length := by
    by_cases c : lessN K x < K.length
    · exact c
    · exact absurd hx (lessN_out hs (by omega))
  have h2 : K[lessN K x]? = some K[lessN K x] := List.getElem?_eq_getElem h1
  rw [h2, (lessN_in hs h2).2 hx]
theorem mem_abv {K : List Int} {x y : Int} (hs : SortS kless K) (hx : x ∈ K) : y ∈ abv K x ↔ y ∈ K ∧ x < y := by
  have h0 := lessN_at hs hx
  unfold abv
  constructor
  · intro h
    obtain ⟨j, hj⟩ := List.getElem?_of_mem h
    rw [List.getElem?_drop] at hj
    exact ⟨List.mem_of_getElem? hj, lt_of_asc hs h0 hj (by omega)⟩
  · rintro ⟨h1, h2⟩
    obtain ⟨j, hj⟩ := List.getElem?_of_mem h1
    have : lessN K x < j := by
      by_cases c : j < lessN K x
      · have := lt_of_asc hs hj h0 c
        omega
      · by_cases d : j = lessN K x
        · subst d
          rw [h0] at hj
          injection hj with hj
          omega
        · omega
    refine List.mem_of_getElem? (i := j - (lessN K x + 1)) ?_
    rw [List.getElem?_drop, show lessN K x + 1 + (j - (lessN K x + 1)) = j by omega]
    exact hj
theorem abv_asc {K : List Int} (x : Int) (hs : SortS kless K) : SortS kless (abv K x) := List.Pairwise.sublist (List.drop_sublist _ _) hs
/-- What was visited ahead of key j of bucket i of x's buckets. -/
def visX (Kf : Nat → List Int) (zs : List Int) (x : Int) (i : Nat) (A : List Int) : List (Int × Int) := ((zs.take i).flatMap fun t => (abv (Kf t.toNat) x).map fun y => (x, y)) ++ A.map fun y => (x, y)
theorem visX_next (Kf : Nat → List Int) (zs : List Int) (x : Int) (i : Nat) {B : List Int} {j : Nat} {y : Int} (h : B[j]? = some y) : visX Kf zs x i (B.take (j + 1)) = visX Kf zs x i (B.take j) ++ [(x, y)] := by
  unfold visX
  rw [List.take_add_one, h, List.map_append, ← List.append_assoc]
  rfl
theorem visX_row (Kf : Nat → List Int) (zs : List Int) (x : Int) {i : Nat} {t : Int} (h : zs[i]? = some t) : visX Kf zs x i (abv (Kf t.toNat) x) = visX Kf zs x (i + 1) [] := by
  unfold visX
  rw [List.take_add_one, h]
  simp
theorem visX_in (Kf : Nat → List Int) (zs : List Int) (x : Int) (i : Nat) (A : List Int) (p : Int × Int) : p ∈ visX Kf zs x i A ↔ p.1 = x ∧ ((∃ t ∈ zs.take i, p.2 ∈ abv (Kf t.toNat) x) ∨ p.2 ∈ A) := by
  unfold visX
  rw [List.mem_append, List.mem_flatMap, List.mem_map]
  constructor
  · rintro (⟨t, ht, h⟩ | ⟨y, hy, rfl⟩)
    · obtain ⟨y, hy, rfl⟩ := List.mem_map.1 h
      exact ⟨rfl, .inl ⟨t, ht, hy⟩⟩
    · exact ⟨rfl, .inr hy⟩
  · rintro ⟨e, h⟩
    obtain ⟨a, b⟩ := p
    dsimp only at e h
    subst e
    rcases h with ⟨t, ht, hb⟩ | hb
    · exact .inl ⟨t, ht, List.mem_map.2 ⟨b, hb, rfl⟩⟩
    · exact .inr ⟨b, hb, rfl⟩
theorem visX_mem (Kf : Nat → List Int) (zs : List Int) (x : Int) (p : Int × Int) : p ∈ visX Kf zs x zs.length [] ↔ p.1 = x ∧ ∃ t ∈ zs, p.2 ∈ abv (Kf t.toNat) x := by
  rw [visX_in, List.take_length]
  simp
theorem visX_fresh {Kf : Nat → List Int} {x y : Int} {zs : List Int} {B : List Int} {j : Nat} (hB : SortS kless B) (h : B[j]? = some y) : ¬ (x, y) ∈ visX Kf zs x 0 (B.take j) := by
  rw [visX_in]
  rintro ⟨_, h1 | q⟩
  · obtain ⟨t, ht, _⟩ := h1
    simp at ht
  · obtain ⟨k, hk⟩ := List.getElem?_of_mem q
    have hl := (List.getElem?_eq_some_iff.1 hk).1
    rw [List.length_take] at hl
    rw [List.getElem?_take_of_lt (by omega)] at hk
    have := inj_asc hB hk h
    omega
/-- The pairs appended for a key so far, and the map of those found; z: the key is in several buckets. -/
structure Found (z : Bool) (V M : List (Int × Int)) (D : DataW Unit) : Prop where
  nodup : M.Nodup
  mem : ∀ p, p ∈ M ↔ p ∈ V
  has : ∀ p, WfP p → (Maps.has D (klP p) = true ↔ p ∈ V ∧ z = true)
  val : ∀ p, WfP p → Maps.has D (klP p) = true → ∀ y, D.atKey (klP p) y = .lit (.bool true)
theorem found_nil (z : Bool) : Found z [] [] (.map []) := ⟨List.nodup_nil, fun p => by simp, fun p _ => by simp [Maps.has], fun p _ h => by simp [Maps.has] at h⟩
theorem Found.skip {z : Bool} {V M : List (Int × Int)} {D : DataW Unit} (h : Found z V M D) {p : Int × Int} (hp : p ∈ V) : Found z (V ++ [p]) M D := by
  have e : ∀ q, q ∈ V ++ [p] ↔ q ∈ V := fun q => by
    rw [List.mem_append, List.mem_singleton]
    exact ⟨fun a => a.elim id (fun a => a ▸ hp), .inl⟩
  exact ⟨h.nodup, fun q => by rw [h.mem, e], fun q hq => by rw [h.has q hq, e], h.val⟩
theorem nodup_snoc {l : List (Int × Int)} {p : Int × Int} (h : l.Nodup) (hp : ¬ p ∈ l) : (l ++ [p]).Nodup := by
  rw [List.nodup_append]
  exact ⟨h, by simp, fun a ha b hb e => by simp at hb; subst hb; exact hp (e ▸ ha)⟩
theorem Found.plain {V M : List (Int × Int)} {D : DataW Unit} (h : Found false V M D) {p : Int × Int} (hp : ¬ p ∈ V) : Found false (V ++ [p]) (M ++ [p]) D :=
  ⟨nodup_snoc h.nodup (fun q => hp ((h.mem p).1 q)), fun q => by rw [List.mem_append, List.mem_append, h.mem], fun q hq => by rw [h.has q hq]; simp, h.val⟩
theorem Found.put {V M : List (Int × Int)} {D : DataW Unit} (h : Found true V M D) (hD : IsMap D) {p : Int × Int} (hw : WfP p) (hp : ¬ p ∈ V) : Found true (V ++ [p]) (M ++ [p]) (D.put (klP p) (.lit (.bool true))) := by
  refine ⟨nodup_snoc h.nodup (fun q => hp ((h.mem p).1 q)), fun q => by rw [List.mem_append, List.mem_append, h.mem], fun q hq => ?_, fun q hq hh z => ?_⟩
  · by_cases c : q = p
    · subst c
      rw [has_put_same hD (klP_lit _)]
      simp
    · rw [has_put_other (fun e => c (klP_inj hq hw e)), h.has q hq, List.mem_append, List.mem_singleton]
      exact ⟨fun a => ⟨.inl a.1, a.2⟩, fun a => ⟨a.1.elim id (fun e => absurd e c), a.2⟩⟩
  · by_cases c : q = p
    · subst c
      rw [atKey_put_same hD (klP_lit _)]
    · rw [has_put_other (fun e => c (klP_inj hq hw e))] at hh
      rw [atKey_put_other (fun e => c (klP_inj hq hw e))]
      exact h.val q hq hh z
/-- Which pairs are candidates. -/
theorem cand_mem (L : List Ent) (p : Int × Int) : p ∈ candL L ↔ ∃ t : Nat, t < 1024 ∧ p.1 ∈ atL L (t : Int) ∧ p.2 ∈ atL L (t : Int) ∧ p.1 < p.2 := by
  rw [(candL_spec L).2]
  constructor
  · rintro ⟨e, he, f, hf, hc, rfl⟩
    unfold candT comE at hc
    rw [Bool.and_eq_true, List.any_eq_true] at hc
    obtain ⟨h1, n, hn, h2⟩ := hc
    have hb : ∃ t : Nat, n = (t : Int) ∧ t < 1024 := by
      unfold bksE bksB at hn
      obtain ⟨x, _, rfl⟩ := List.mem_map.1 hn
      have := bkt_in x.1 x.2
      exact ⟨(bktN x.1 x.2).toNat, by omega, by omega⟩
    obtain ⟨t, rfl, ht⟩ := hb
    exact ⟨t, ht, ((atL_spec L (t : Int)).2 _).2 ⟨e, he, List.contains_iff_mem.2 hn, rfl⟩, ((atL_spec L (t : Int)).2 _).2 ⟨f, hf, h2, rfl⟩, of_decide_eq_true h1⟩
  · rintro ⟨t, ht, q1, q2, q3⟩
    obtain ⟨e, he, b1, e1⟩ := ((atL_spec L (t : Int)).2 _).1 q1
    obtain ⟨f, hf, b2, e2⟩ := ((atL_spec L (t : Int)).2 _).1 q2
    refine ⟨e, he, f, hf, ?_, Prod.ext e1 e2⟩
    unfold candT comE
    rw [Bool.and_eq_true, List.any_eq_true]
    exact ⟨decide_eq_true (by rw [← e1, ← e2]; exact q3), (t : Int), List.contains_iff_mem.1 b1, b2⟩
/-- The candidates with a lesser key x. -/
def rowL (R : List (Int × Int)) (x : Int) : List (Int × Int) := R.filter fun p => decide (p.1 = x)
theorem rowL_mem (R : List (Int × Int)) (x : Int) (p : Int × Int) : p ∈ rowL R x ↔ p ∈ R ∧ p.1 = x := by
  unfold rowL
  rw [List.mem_filter, decide_eq_true_eq]
theorem rows_all {R : List (Int × Int)} {K : List Int} (hR : SortS pless R) (hK : SortS kless K) (h : ∀ p ∈ R, p.1 ∈ K) : K.flatMap (rowL R) = R := by
  refine SortS.ext pless_strict ?_ hR fun p => ?_
  · refine List.pairwise_flatMap.2 ⟨fun x _ => List.Pairwise.sublist (List.filter_sublist) hR, hK.imp ?_⟩
    intro x y hxy p hp q hq
    have e1 := ((rowL_mem R x p).1 hp).2
    have e2 := ((rowL_mem R y q).1 hq).2
    have := of_decide_eq_true hxy
    unfold pless
    refine decide_eq_true ?_
    omega
  · rw [List.mem_flatMap]
    constructor
    · rintro ⟨x, _, hp⟩
      exact ((rowL_mem R x p).1 hp).1
    · intro hp
      exact ⟨p.1, h p hp, (rowL_mem R p.1 p).2 ⟨hp, rfl⟩⟩
theorem row_done {R M m : List (Int × Int)} {x : Int} (hR : SortS pless R) (hM : M.Nodup) (hmem : ∀ p, p ∈ M ↔ p ∈ R ∧ p.1 = x) (hp : M.Perm m) (hs : m.Pairwise fun p q => ¬ q.2 < p.2) : m = rowL R x := by
  refine SortS.ext pless_strict ?_ (List.Pairwise.sublist (List.filter_sublist) hR) fun p => by rw [← hp.mem_iff, hmem, rowL_mem]
  have hnd : m.Nodup := hp.nodup_iff.1 hM
  refine List.pairwise_iff_getElem.2 fun i j hi hj hij => ?_
  have h1 := List.pairwise_iff_getElem.1 hs i j hi hj hij
  have h2 := List.pairwise_iff_getElem.1 hnd i j hi hj hij
  have e1 := ((hmem _).1 (hp.mem_iff.2 (List.getElem_mem hi))).2
  have e2 := ((hmem _).1 (hp.mem_iff.2 (List.getElem_mem hj))).2
  unfold pless
  refine decide_eq_true ?_
  by_cases c : m[i].2 = m[j].2
  · exact absurd (Prod.ext (e1.trans e2.symm) c) h2
  · omega
end Go.Proofs.YtnmnbogjnjbopaaDoor
