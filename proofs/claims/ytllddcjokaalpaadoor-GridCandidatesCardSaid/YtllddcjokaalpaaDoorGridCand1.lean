/-
  Package grid: the pairs of a bucket's keys one after another; which of them come again; the map of pairs that were found.
-/
import Derived.Test.YtllddcjokaalpaaDoorGridSev
import Derived.DeepKeys4
namespace Go.Proofs.YtllddcjokaalpaaDoor
open Go.RowKit Go.Lib Go.Maps

/-! Keys that are pairs. -/

theorem laidOutP : laidOutB Tryd.prog = true := by kernel_rfl
theorem rowP : (44 : TypeId) < Tryd.prog.types.size := of_decide_eq_true (by kernel_rfl)
set_option maxRecDepth 100000 in
theorem wideP : (match Tryd.prog.underlying 44 with | some (.array _ _) | some (.struct _) => true | _ => false) = true := by rw [Tryd.underlying44]
set_option maxRecDepth 100000 in
theorem lawP : Keyed Tryd.prog 44 := Keyed.of_law (deep_law_laid laidOutP (m := 2) (by omega) rowP (by kernel_rfl) wideP)
def aggP (p : Int × Int) : Value := .agg #[.int .u32 p.1, .int .u32 p.2]
def klP (p : Int × Int) : Lit := .string (keyBytes [.int .u32 p.1, .int .u32 p.2])
abbrev WfP (p : Int × Int) : Prop := (Lit.int .u32 p.1).wf = true ∧ (Lit.int .u32 p.2).wf = true
theorem kt_pair : Tryd.prog.keyType 44 = true := by kernel_rfl
theorem cells_pair : Tryd.prog.cellsOf 44 = 2 := by kernel_rfl
theorem cells_key : Tryd.prog.cellsOf 42 = 1 := by kernel_rfl
theorem succ_of_lt {a n : Nat} (h : a < n) : ∃ m, n = m + 1 := ⟨n - 1, by omega⟩
set_option maxRecDepth 100000 in
theorem keyOfP {p : Int × Int} (h : WfP p) : keyOf Tryd.prog 44 (aggP p) = some (klP p) := by
  obtain ⟨p0, p1⟩ := p
  obtain ⟨h0, h1⟩ := h
  dsimp only at h0 h1
  obtain ⟨m, hm⟩ : ∃ m, Tryd.prog.types.size = m + 1 := succ_of_lt (a := 44) rowP
  unfold keyOf aggP klP
  rw [hm]
  simp [Tryd.underlying44, kt_pair, Value.formed, cells_pair, Program.keyLits, Value.cells, cells_key, Tryd.underlying42, h0, h1]
theorem klP_inj {p q : Int × Int} (hp : WfP p) (hq : WfP q) (h : klP p = klP q) : p = q := by
  have e := lawP.inj (keyOfP hp) (h ▸ keyOfP hq)
  unfold aggP at e
  simp at e
  exact Prod.ext e.1 e.2
theorem klP_lit (p : Int × Int) : WideAt.IsKeyLit (klP p) := trivial

/-! The pairs of one bucket. -/
def rowP' (K : List Int) (i : Nat) : List (Int × Int) := match K[i]? with
  | some x => (K.drop (i + 1)).map fun y => (x, y)
  | none => []
theorem rowP_at {K : List Int} {i : Nat} {x : Int} (h : K[i]? = some x) : rowP' K i = (K.drop (i + 1)).map fun y => (x, y) := by unfold rowP'; rw [h]
theorem rowP_len {K : List Int} (i : Nat) : (rowP' K i).length ≤ K.length := by
  unfold rowP'
  split
  · simp
  · simp
def prsN (K : List Int) (i : Nat) : List (Int × Int) := (List.range i).flatMap (rowP' K)
theorem prsN_succ (K : List Int) (i : Nat) : prsN K (i + 1) = prsN K i ++ rowP' K i := by
  unfold prsN
  rw [List.range_succ, List.flatMap_append]
  simp
theorem prsN_len (K : List Int) : ∀ i, (prsN K i).length ≤ i * K.length
  | 0 => by simp [prsN]
  | i + 1 => by
    have := prsN_len K i
    have := rowP_len (K := K) i
    rw [prsN_succ, List.length_append, Nat.succ_mul]
    omega
def allP (Kf : Nat → List Int) (t : Nat) : List (Int × Int) := (List.range t).flatMap fun j => prsN (Kf j) (Kf j).length
theorem allP_succ (Kf : Nat → List Int) (t : Nat) : allP Kf (t + 1) = allP Kf t ++ prsN (Kf t) (Kf t).length := by
  unfold allP
  rw [List.range_succ, List.flatMap_append]
  simp
theorem allP_len {Kf : Nat → List Int} (h : ∀ j, (Kf j).length ≤ 100) : ∀ t, (allP Kf t).length ≤ t * 10000
  | 0 => by simp [allP]
  | t + 1 => by
    have h1 := allP_len h t
    have h2 := prsN_len (Kf t) (Kf t).length
    have h3 := Nat.mul_le_mul (h t) (h t)
    rw [allP_succ, List.length_append, Nat.succ_mul]
    omega
theorem mem_row {K : List Int} {i : Nat} {p : Int × Int} : p ∈ rowP' K i ↔ ∃ j, i < j ∧ K[i]? = some p.1 ∧ K[j]? = some p.2 := by
  unfold rowP'
  cases h : K[i]? with
  | none => simp
  | some x =>
    obtain ⟨a, b⟩ := p
    simp only [List.mem_map, Prod.mk.injEq]
    constructor
    · rintro ⟨y, hy, rfl, rfl⟩
      obtain ⟨j, hj⟩ := List.getElem?_of_mem hy
      rw [List.getElem?_drop] at hj
      exact ⟨i + 1 + j, by omega, rfl, hj⟩
    · rintro ⟨j, hj, e, hy⟩
      injection e with e
      refine ⟨b, List.mem_of_getElem? (i := j - (i + 1)) ?_, e, rfl⟩
      rw [List.getElem?_drop, show i + 1 + (j - (i + 1)) = j by omega]
      exact hy
theorem mem_prsN {K : List Int} {n : Nat} {p : Int × Int} : p ∈ prsN K n ↔ ∃ i, i < n ∧ p ∈ rowP' K i := by
  unfold prsN
  simp
theorem mem_allP {Kf : Nat → List Int} {n : Nat} {p : Int × Int} : p ∈ allP Kf n ↔ ∃ t, t < n ∧ p ∈ prsN (Kf t) (Kf t).length := by
  unfold allP
  simp
theorem lt_of_asc {K : List Int} (hs : SortS kless K) {i j : Nat} {x y : Int} (hx : K[i]? = some x) (hy : K[j]? = some y) (h : i < j) : x < y := by
  obtain ⟨l1, e1⟩ := List.getElem?_eq_some_iff.1 hx
  obtain ⟨l2, e2⟩ := List.getElem?_eq_some_iff.1 hy
  have := of_decide_eq_true (List.pairwise_iff_getElem.1 hs _ _ l1 l2 h)
  rw [e1, e2] at this
  exact this
theorem inj_asc {K : List Int} (hs : SortS kless K) {i j : Nat} {x : Int} (hx : K[i]? = some x) (hy : K[j]? = some x) : i = j := by
  by_cases a : i < j
  · have := lt_of_asc hs hx hy a; omega
  · by_cases b : j < i
    · have := lt_of_asc hs hy hx b; omega
    · omega
theorem mem_prs {K : List Int} (hs : SortS kless K) {p : Int × Int} : p ∈ prsN K K.length ↔ p.1 ∈ K ∧ p.2 ∈ K ∧ p.1 < p.2 := by
  rw [mem_prsN]
  constructor
  · rintro ⟨i, _, h⟩
    obtain ⟨j, hj, h1, h2⟩ := mem_row.1 h
    exact ⟨List.mem_of_getElem? h1, List.mem_of_getElem? h2, lt_of_asc hs h1 h2 hj⟩
  · rintro ⟨h1, h2, h3⟩
    obtain ⟨i, hi⟩ := List.getElem?_of_mem h1
    obtain ⟨j, hj⟩ := List.getElem?_of_mem h2
    refine ⟨i, (List.getElem?_eq_some_iff.1 hi).1, mem_row.2 ⟨j, ?_, hi, hj⟩⟩
    by_cases a : i < j
    · exact a
    · by_cases b : i = j
      · subst b
        rw [hi] at hj
        injection hj with hj
        omega
      · have := lt_of_asc hs hj hi (by omega); omega
/-- A key is in more than one bucket. -/
def sevb (Kf : Nat → List Int) (k : Int) : Bool := decide (2 ≤ (flatV Kf 1024).count k)
theorem count_flat (Kf : Nat → List Int) (k : Int) : ∀ {n a : Nat}, a < n → k ∈ Kf a → 1 ≤ (flatV Kf n).count k
  | n + 1, a, ha, h => by
    rw [flatV_succ, List.count_append]
    by_cases c : a < n
    · have := count_flat Kf k c h; omega
    · obtain rfl : a = n := by omega
      have := List.count_pos_iff.2 h
      omega
theorem count_two (Kf : Nat → List Int) (k : Int) : ∀ {n a b : Nat}, a < b → b < n → k ∈ Kf a → k ∈ Kf b → 2 ≤ (flatV Kf n).count k
  | n + 1, a, b, hab, hb, ha, hbk => by
    rw [flatV_succ, List.count_append]
    by_cases c : b < n
    · have := count_two Kf k hab c ha hbk; omega
    · obtain rfl : b = n := by omega
      have h1 := List.count_pos_iff.2 hbk
      have h2 := count_flat Kf k hab ha
      omega
/-- What was visited ahead of pair j of row i of bucket t. -/
def visV (Kf : Nat → List Int) (t i j : Nat) : List (Int × Int) := allP Kf t ++ prsN (Kf t) i ++ (rowP' (Kf t) i).take j
theorem vis_again {Kf : Nat → List Int} (hs : ∀ j, SortS kless (Kf j)) {t i j : Nat} (ht : t < 1024) {x y : Int} (hx : (Kf t)[i]? = some x) (hy : (Kf t)[i + 1 + j]? = some y) (h : (x, y) ∈ visV Kf t i j) : sevb Kf x = true ∧ sevb Kf y = true := by
  unfold visV at h
  rcases List.mem_append.1 h with h | h
  · rcases List.mem_append.1 h with h | h
    · obtain ⟨a, ha, h⟩ := mem_allP.1 h
      obtain ⟨h1, h2, _⟩ := (mem_prs (hs a)).1 h
      exact ⟨decide_eq_true (count_two Kf x ha ht h1 (List.mem_of_getElem? hx)), decide_eq_true (count_two Kf y ha ht h2 (List.mem_of_getElem? hy))⟩
    · obtain ⟨a, ha, h⟩ := mem_prsN.1 h
      obtain ⟨b, _, h1, _⟩ := mem_row.1 h
      have := inj_asc (hs t) h1 hx
      omega
  · obtain ⟨b, hb⟩ := List.getElem?_of_mem h
    have hl := (List.getElem?_eq_some_iff.1 hb).1
    rw [List.length_take] at hl
    rw [List.getElem?_take_of_lt (by omega), rowP_at hx, List.getElem?_map, List.getElem?_drop] at hb
    obtain ⟨z, hz, e⟩ := Option.map_eq_some_iff.1 hb
    injection e with _ e
    subst e
    have := inj_asc (hs t) hz hy
    omega
theorem vis_next {Kf : Nat → List Int} {t i j : Nat} {x y : Int} (hx : (Kf t)[i]? = some x) (hy : (Kf t)[i + 1 + j]? = some y) : visV Kf t i (j + 1) = visV Kf t i j ++ [(x, y)] := by
  unfold visV
  rw [List.take_add_one, rowP_at hx, List.getElem?_map, List.getElem?_drop, hy, ← List.append_assoc]
  rfl
theorem vis_row {Kf : Nat → List Int} {t i j : Nat} {x : Int} (hx : (Kf t)[i]? = some x) (h : (Kf t).length - (i + 1) ≤ j) : visV Kf t i j = visV Kf t (i + 1) 0 := by
  unfold visV
  rw [prsN_succ, List.take_zero, List.append_nil, List.take_of_length_le (by rw [rowP_at hx]; simpa using h), List.append_assoc]
theorem vis_bucket (Kf : Nat → List Int) (t i : Nat) (h : (Kf t).length = i) : visV Kf t i 0 = visV Kf (t + 1) 0 0 := by
  subst h
  unfold visV
  rw [List.take_zero, List.append_nil, List.take_zero, List.append_nil, allP_succ]
  simp [prsN]
theorem vis_zero (Kf : Nat → List Int) (t : Nat) : visV Kf t 0 0 = allP Kf t := by
  unfold visV
  simp [prsN]
theorem vis_len {Kf : Nat → List Int} (h : ∀ j, (Kf j).length ≤ 100) {t i j : Nat} (ht : t < 1024) (hi : i ≤ (Kf t).length) : (visV Kf t i j).length ≤ 10300000 := by
  have h1 := allP_len h t
  have h2 := prsN_len (Kf t) i
  have h3 := Nat.mul_le_mul (Nat.le_trans hi (h t)) (h t)
  have h4 := rowP_len (K := Kf t) i
  have h5 := h t
  unfold visV
  rw [List.length_append, List.length_append, List.length_take]
  omega
/-- The pairs handed back so far, and the map of those found. -/
structure Found (Kf : Nat → List Int) (V l : List (Int × Int)) (D : DataW Unit) : Prop where
  nodup : l.Nodup
  mem : ∀ p, p ∈ l ↔ p ∈ V
  has : ∀ p, WfP p → (Maps.has D (klP p) = true ↔ p ∈ V ∧ sevb Kf p.1 = true ∧ sevb Kf p.2 = true)
  val : ∀ p, WfP p → Maps.has D (klP p) = true → ∀ z, D.atKey (klP p) z = .lit (.bool true)
theorem found_nil (Kf : Nat → List Int) : Found Kf [] [] (.map []) := ⟨List.nodup_nil, fun p => by simp, fun p _ => by simp [Maps.has], fun p _ h => by simp [Maps.has] at h⟩
theorem Found.skip {Kf : Nat → List Int} {V l : List (Int × Int)} {D : DataW Unit} (h : Found Kf V l D) {p : Int × Int} (hp : p ∈ V) : Found Kf (V ++ [p]) l D := by
  have e : ∀ q, q ∈ V ++ [p] ↔ q ∈ V := fun q => by
    rw [List.mem_append, List.mem_singleton]
    exact ⟨fun a => a.elim id (fun a => a ▸ hp), .inl⟩
  exact ⟨h.nodup, fun q => by rw [h.mem, e], fun q hq => by rw [h.has q hq, e], h.val⟩
theorem nodup_snoc {l : List (Int × Int)} {p : Int × Int} (h : l.Nodup) (hp : ¬ p ∈ l) : (l ++ [p]).Nodup := by
  rw [List.nodup_append]
  exact ⟨h, by simp, fun a ha b hb e => by simp at hb; subst hb; exact hp (e ▸ ha)⟩
theorem Found.plain {Kf : Nat → List Int} {V l : List (Int × Int)} {D : DataW Unit} (h : Found Kf V l D) {p : Int × Int} (hp : ¬ p ∈ V) (hn : ¬ (sevb Kf p.1 = true ∧ sevb Kf p.2 = true)) : Found Kf (V ++ [p]) (l ++ [p]) D := by
  refine ⟨nodup_snoc h.nodup (fun q => hp ((h.mem p).1 q)), fun q => by rw [List.mem_append, List.mem_append, h.mem], fun q hq => ?_, h.val⟩
  rw [h.has q hq, List.mem_append, List.mem_singleton]
  constructor
  · exact fun a => ⟨.inl a.1, a.2⟩
  · rintro ⟨a | rfl, b⟩
    · exact ⟨a, b⟩
    · exact absurd b hn
theorem Found.put {Kf : Nat → List Int} {V l : List (Int × Int)} {D : DataW Unit} (h : Found Kf V l D) (hD : IsMap D) {p : Int × Int} (hw : WfP p) (hp : ¬ p ∈ V) (hn : sevb Kf p.1 = true ∧ sevb Kf p.2 = true) : Found Kf (V ++ [p]) (l ++ [p]) (D.put (klP p) (.lit (.bool true))) := by
  refine ⟨nodup_snoc h.nodup (fun q => hp ((h.mem p).1 q)), fun q => by rw [List.mem_append, List.mem_append, h.mem], fun q hq => ?_, fun q hq hh z => ?_⟩
  · by_cases c : q = p
    · subst c
      rw [has_put_same hD (klP_lit _)]
      simp [hn]
    · rw [has_put_other (fun e => c (klP_inj hq hw e)), h.has q hq, List.mem_append, List.mem_singleton]
      exact ⟨fun a => ⟨.inl a.1, a.2⟩, fun a => ⟨a.1.elim id (fun e => absurd e c), a.2⟩⟩
  · by_cases c : q = p
    · subst c
      rw [atKey_put_same hD (klP_lit _)]
    · rw [has_put_other (fun e => c (klP_inj hq hw e))] at hh
      rw [atKey_put_other (fun e => c (klP_inj hq hw e))]
      exact h.val q hq hh z
/-- All pairs of all buckets, put in order, are the candidates. -/
theorem cand_all {L : List Ent} {l m : List (Int × Int)} {D : DataW Unit} (h : Found (fun (j : Nat) => atL L (j : Int)) (allP (fun (j : Nat) => atL L (j : Int)) 1024) l D) (hp : l.Perm m) (hm : m.Pairwise fun x y => pless y x = false) : m = candL L := by
  have hnd : m.Nodup := hp.nodup_iff.1 h.nodup
  have hs : SortS pless m := by
    have h2 := List.pairwise_and_iff.2 ⟨hm, hnd⟩
    refine h2.imp fun {a b} q => ?_
    cases c : pless a b with
    | true => rfl
    | false => exact absurd (pless_strict.tri _ _ c q.1) q.2
  obtain ⟨c1, c2⟩ := candL_spec L
  refine SortS.ext pless_strict hs c1 fun p => ?_
  rw [← hp.mem_iff, h.mem, c2, mem_allP]
  constructor
  · rintro ⟨t, ht, q⟩
    obtain ⟨q1, q2, q3⟩ := (mem_prs (atL_spec L (t : Int)).1).1 q
    obtain ⟨e, he, b1, e1⟩ := ((atL_spec L (t : Int)).2 _).1 q1
    obtain ⟨f, hf, b2, e2⟩ := ((atL_spec L (t : Int)).2 _).1 q2
    refine ⟨e, he, f, hf, ?_, Prod.ext e1 e2⟩
    unfold candT comE
    rw [Bool.and_eq_true, List.any_eq_true]
    exact ⟨decide_eq_true (by rw [← e1, ← e2]; exact q3), (t : Int), List.contains_iff_mem.1 b1, b2⟩
  · rintro ⟨e, he, f, hf, hc, rfl⟩
    unfold candT comE at hc
    rw [Bool.and_eq_true, List.any_eq_true] at hc
    obtain ⟨h1, n, hn, h2⟩ := hc
    have hb : ∃ t : Nat, n = (t : Int) ∧ t < 1024 := by
      unfold bksE bksB at hn
      obtain ⟨x, _, rfl⟩ := List.mem_map.1 hn
      have := bkt_in x.1 x.2
      exact ⟨(bktN x.1 x.2).toNat, by omega, by omega⟩
    obtain ⟨t, rfl, ht⟩ := hb
    exact ⟨t, ht, (mem_prs (atL_spec L (t : Int)).1).2 ⟨((atL_spec L (t : Int)).2 _).2 ⟨e, he, List.contains_iff_mem.2 hn, rfl⟩, ((atL_spec L (t : Int)).2 _).2 ⟨f, hf, h2, rfl⟩, of_decide_eq_true h1⟩⟩
end Go.Proofs.YtllddcjokaalpaaDoor
