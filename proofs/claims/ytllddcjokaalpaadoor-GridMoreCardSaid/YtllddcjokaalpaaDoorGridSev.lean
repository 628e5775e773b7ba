/-
  Package grid: several: which keys are in more than one bucket; the whole array of buckets as a value.
-/
import Derived.Test.YtllddcjokaalpaaDoorGridAt
import Derived.Maps.OwnSet
import Derived.Carry
namespace Go.Proofs.YtllddcjokaalpaaDoor
open Go.RowKit Go.Lib Go.Maps

theorem plainElem_bool_inv {H : Type} {P : Program} {e : TypeId} (he : P.underlying e = some .bool) {v : Value} {z : DataW H × List MemPlace} (h : plainElem P e v = some z) : ∃ x, v = .bool x ∧ z = (.lit (.bool x), []) := by
  unfold plainElem at h
  rw [he] at h
  cases v <;> simp at h
  subst h
  exact ⟨_, rfl, rfl⟩
theorem law32 : Keyed Tryd.prog 42 := int_keyed Tryd.underlying42
theorem zeroB (w : World) : (zeroValue 4).run Tryd.prog w = .ok (.bool false) w := by kernel_rfl
theorem kl32 (a : Int) : WideAt.IsKeyLit (.int .u32 a) := trivial
theorem kn32 {a b : Int} (h : a ≠ b) : (Lit.int .u32 a) ≠ (Lit.int .u32 b) := fun e => h (by injection e)
abbrev OwnM (w : World) (k : TypeId) (b n : Nat) (D : DataW Unit) : Prop := w.ownsMap Tryd.prog k (plainElem Tryd.prog 4) b n D
/-- What a look-up in a map of bools gives. -/
theorem look_ok_bool {w : World} {k t : TypeId} {b n : Nat} {D : DataW Unit} (K : Keyed Tryd.prog k) (ht : Tryd.prog.underlying t = some (.map k 4)) (h : OwnM w k b n D) {key : Value} {kl : Lit} (hkey : keyOf Tryd.prog k key = some kl) :
    ∃ c, (Instr.lookup t (.map (some b)) key true).run Tryd.prog w = .ok (.tuple #[.bool c, .bool (Maps.has D kl)]) w ∧ D.atKey kl (.lit (.bool false)) = .lit (.bool c) := by
  obtain ⟨v, ps, hrun, hv⟩ := h.look_ok K ht (zeroB w) (plainElem_bool Tryd.underlying4 false) hkey
  obtain ⟨c, rfl, hc⟩ := plainElem_bool_inv Tryd.underlying4 hv
  exact ⟨c, hrun, congrArg (fun z => z.1) hc⟩
theorem look_bool {w : World} {k t : TypeId} {b n : Nat} {D : DataW Unit} (K : Keyed Tryd.prog k) (ht : Tryd.prog.underlying t = some (.map k 4)) (h : OwnM w k b n D) {key : Value} {kl : Lit} (hkey : keyOf Tryd.prog k key = some kl) :
    ∃ c, (Instr.lookup t (.map (some b)) key false).run Tryd.prog w = .ok (.bool c) w ∧ D.atKey kl (.lit (.bool false)) = .lit (.bool c) := by
  obtain ⟨v, ps, hrun, hv⟩ := h.lookup K ht (zeroB w) (plainElem_bool Tryd.underlying4 false) hkey
  obtain ⟨c, rfl, hc⟩ := plainElem_bool_inv Tryd.underlying4 hv
  exact ⟨c, hrun, congrArg (fun z => z.1) hc⟩
/-- The map holds the keys of V, each with whether it comes more than once. -/
structure Sev (D : DataW Unit) (V : List Int) : Prop where
  has : ∀ k, Maps.has D (.int .u32 k) = V.contains k
  val : ∀ k, k ∈ V → ∀ z, D.atKey (.int .u32 k) z = .lit (.bool (decide (2 ≤ V.count k)))
theorem sev_nil : Sev (.map []) [] := ⟨fun k => by simp [Maps.has], fun k h => by simp at h⟩
theorem Sev.step {D : DataW Unit} {V : List Int} (h : Sev D V) (hD : IsMap D) (k : Int) : Sev (D.put (.int .u32 k) (.lit (.bool (Maps.has D (.int .u32 k))))) (V ++ [k]) := by
  refine ⟨fun q => ?_, fun q hq z => ?_⟩
  · by_cases c : q = k
    · subst c
      rw [has_put_same hD (kl32 _)]
      simp
    · rw [has_put_other (kn32 c), h.has]
      rw [Bool.eq_iff_iff]
      simp
      exact fun e => absurd e c
  · by_cases c : q = k
    · subst c
      rw [atKey_put_same hD (kl32 _), h.has, List.count_append, List.count_singleton_self]
      congr 2
      rw [Bool.eq_iff_iff]
      simp only [List.contains_iff_mem, decide_eq_true_eq]
      rw [← List.count_pos_iff]
      omega
    · have hq2 : q ∈ V := by
        rcases List.mem_append.1 hq with e | e
        · exact e
        · simp at e; exact absurd e c
      rw [atKey_put_other (kn32 c), h.val q hq2, List.count_append, List.count_singleton]
      rw [if_neg (by simpa using fun e : k = q => c e.symm), Nat.add_zero]
/-- The keys of the first t buckets, one after another. -/
def flatV (Kf : Nat → List Int) (t : Nat) : List Int := (List.range t).flatMap Kf
theorem flatV_succ (Kf : Nat → List Int) (t : Nat) : flatV Kf (t + 1) = flatV Kf t ++ Kf t := by
  unfold flatV
  rw [List.range_succ, List.flatMap_append]
  simp
theorem flatV_len {Kf : Nat → List Int} (h : ∀ j, (Kf j).length ≤ 1000) : ∀ t, (flatV Kf t).length ≤ t * 1000
  | 0 => by simp [flatV]
  | t + 1 => by
    have := flatV_len h t
    have := h t
    rw [flatV_succ, List.length_append, Nat.succ_mul]
    omega
/-- The array of buckets as a value. -/
def arrV (vf : Nat → Value) : Array Value := ((List.range 1024).map vf).toArray
theorem arr_load {w : World} {g : Nat} {vf : Nat → Value} (h : ∀ j, j < 1024 → w.cell? ⟨g, j, none⟩ = some (vf j)) : (loadVar 28 ⟨g, 0, none⟩).run Tryd.prog w = .ok (.agg (arrV vf)) w := by
  have e := run_loadCells_list (P := Tryd.prog) w ⟨g, 0, none⟩ ((List.range 1024).map vf) (fun j v hv => by
    rw [List.getElem?_map] at hv
    obtain ⟨i, hi, e⟩ := Option.map_eq_some_iff.1 hv
    have := List.getElem?_eq_some_iff.1 hi
    obtain ⟨hl, e2⟩ := this
    rw [List.getElem_range] at e2
    subst e2
    rw [add_off, Nat.zero_add, ← e]
    exact h j (by simpa using hl))
  rw [List.length_map, List.length_range] at e
  unfold loadVar
  simp only [Sem.run_bind, Tryd.isAgg28, Result.andThen, Tryd.sizeOf28, if_true, e, Sem.run_pure]
  rfl
theorem arr_at (vf : Nat → Value) {t : Nat} (ht : t < 1024) (w : World) : (Instr.index 28 (.agg (arrV vf)) (.int .i64 (t : Int))).run Tryd.prog w = .ok (vf t) w := by
  have h1 : (arrV vf)[t]? = some (vf t) := by
    unfold arrV
    rw [List.getElem?_toArray, List.getElem?_map, List.getElem?_range ht]
    rfl
  have h2 : (0 : Int) ≤ (t : Int) := Int.natCast_nonneg _
  unfold Instr.index
  simp [asIntOf, run_underlying Tryd.underlying28, Tryd.sizeOf27, h1, h2, part, Tryd.isAgg27]
  exact fun h => absurd h (by omega)
/-- A load of a whole array, for the walk. -/
theorem wpList_load_run {P : Program} (w : World) {ops : Array Oper} {rest : List Oper} {o : Oper} {a : Act} {Q : Exit → Act → World → Prop} (hg : o.guard = none) (p : Operand) (t : TypeId) (ho : o.op = .load t p) (ad : Addr) (hp : a.eval p = .pointer (some ad)) (v : Value) (hr : (loadVar t ad).run P w = .ok v w)
    (h : wpList P ops Q rest (a.put o.dst v) w) : wpList P ops Q (o :: rest) a w := by
  refine wpList_plain hg fun K hK => ?_
  unfold Oper.wp
  simp [execOp, ho, hp, Instr.loadAt, Instr.sureAddr, Result.andThen, hr]
  exact hK _ _ h
theorem own_map {w : World} {B size n b m : Nat} {e k : TypeId} {v : Value} {xs : List Value} {R : Value → Option (DataW Unit × List MemPlace)} {D : DataW Unit} (h : w.ownsRow B e size v n xs) (hm : w.ownsMap Tryd.prog k R b m D) : some b ≠ v.ownBlock := fun q => by
  obtain ⟨es, clock, hb, _⟩ := hm
  rcases h.2 with ⟨rfl, _⟩ | ⟨g, cap, cur, rfl, _, hg, _⟩
  · cases q
  · injection q with q
    have q : b = g := q
    subst q
    rw [hb] at hg
    cases hg
theorem map_kep {w w' : World} {k : TypeId} {R : Value → Option (DataW Unit × List MemPlace)} {b n : Nat} {D : DataW Unit} (h : w.ownsMap Tryd.prog k R b n D) (g : Kep w.heap.size w w') : w'.ownsMap Tryd.prog k R b n D := by
  have hlt := h.lt
  obtain ⟨es, clock, hb, F, hs, hD⟩ := h
  exact ⟨es, clock, (g.block b hlt).trans hb, F, hs, hD⟩
theorem wf_key {K : List Int} (h : ∀ x ∈ K, (Lit.int .u32 x).wf = true) {i : Nat} {x : Int} (hx : K[i]? = some x) : (Lit.int .u32 x).wf = true := h x (List.mem_of_getElem? hx)
/-- What several hands back. -/
def SevR (w w' : World) (Kf : Nat → List Int) (v : Value) : Prop := ∃ mb m D, v = .map (some mb) ∧ OwnM w' 42 mb m D ∧ Sev D (flatV Kf 1024) ∧ w.heap.size ≤ mb
set_option maxRecDepth 100000 in
set_option maxHeartbeats 4000000 in
theorem gsev (g : Nat) (S : Nat → Prop) (n : Int) (vf : Nat → Value) (Kf : Nat → List Int) (w : World) (h : GM w g S n vf Kf) (hk : ∀ j, (Kf j).length ≤ 1000) (hwf : ∀ j, ∀ x ∈ Kf j, (Lit.int .u32 x).wf = true) :
    Calls Tryd.prog 24 #[.pointer (some ⟨g, 0, none⟩)] w fun en w' => ∃ v, en = .returned v ∧ SevR w w' Kf v ∧ Kep w.heap.size w w' := by
  have HG := Lib.hid h
  have HL := Lib.hid (flatV_len hk)
  have HK := Lib.hid hk
  have HWF := Lib.hid hwf
  have AL := Lib.hid (arr_load (g := g) (w := w.alloc (.map #[] 0)) (h.kep (kep_more (Kep.refl _ _) _)).c)
  have AX := Lib.hid (fun (t : Nat) (ht : t < 1024) W => arr_at vf ht W)
  clear h hk hwf
  have hmm := @run_makeMap Tryd.prog
  generalize arrV vf = A at *
  go_enter Tryd.func24, Tryd.ntmps24
  go_wp2_with (refine wpList_load_run _ rfl _ 28 rfl _ rfl _ AL.out ?_)
  clear hmm AL
  go_loopw [15] (fun x wr => ∃ t : Nat, t ≤ 1024 ∧ x = .int .i64 t ∧ Hid (Kep w.heap.size w wr ∧ ∃ m D, m ≤ (flatV Kf t).length ∧ OwnM wr 42 w.heap.size m D ∧ Sev D (flatV Kf t))) (fun x _ => 1024 - (RowKit.intOf x).toNat)
  case atStart => exact ⟨0, by omega, rfl, Lib.hid ⟨kep_more (Kep.refl _ _) _, 0, _, Nat.zero_le _, World.ownsMap_made _ _ _ _, sev_nil⟩⟩
  case round =>
    obtain ⟨t, ht, rfl, HR⟩ := hrel
    by_cases hlt : t < 1024
    · have hq := own_sq kv_len (HG.out.own t hlt)
      obtain ⟨base, cap, hv⟩ := hq.shape
      rw [hv] at hq
      have HQ := Lib.hid hq
      have ix : ∀ W, (Instr.index 28 (.agg A) (.int .i64 (t : Int))).run Tryd.prog W = .ok (.slice base (Kf t).length cap) W := fun W => by rw [← hv]; exact AX.out t hlt W
      have hlen := HK.out t
      have HW := Lib.hid (HWF.out t)
      have HFT : Hid (flatV Kf (t + 1) = flatV Kf t ++ Kf t) := Lib.hid (flatV_succ Kf t)
      have HLT := Lib.hid (HL.out t)
      clear hq hv
      generalize Kf t = K at *
      generalize flatV Kf t = V at *
      generalize hn : K.length = nk at *
      have HN := Lib.hid hn
      clear hn
      have i1 : (t : Int) < 1024 := by omega
      go_wp2
      go_loopw [20] (fun x wr => ∃ i : Nat, i ≤ nk ∧ x = .int .i64 i ∧ Hid (Kep w.heap.size w wr ∧ ∃ m D, m ≤ (V ++ K.take i).length ∧ OwnM wr 42 w.heap.size m D ∧ Sev D (V ++ K.take i))) (fun x _ => nk - (RowKit.intOf x).toNat)
      case atStart => exact ⟨0, by omega, rfl, by rw [List.take_zero, List.append_nil]; exact HR⟩
      case round =>
        obtain ⟨i, hi, rfl, HR2⟩ := hrel
        by_cases hlt2 : i < nk
        · have hx : K[i]? = some (K[i]'(by rw [HN.out]; exact hlt2)) := List.getElem?_eq_getElem _
          generalize K[i]'(by rw [HN.out]; exact hlt2) = x at hx
          obtain ⟨hK, m, D, hm, hown, hS⟩ := HR2.out
          obtain ⟨gk, off, rfl, y0⟩ := ksq_at HQ.out hx
          have y1 := hK.holds (World.block_lt_of_cell? _ _ y0) y0
          have hkey := keyOf_int_mk (P := Tryd.prog) Tryd.underlying42 (wf_key HW.out hx)
          obtain ⟨c, hrun, _⟩ := look_ok_bool law32 Tryd.underlying58 hown hkey
          have hst := hS.step hown.isMap x
          have hts : V ++ K.take (i + 1) = V ++ K.take i ++ [x] := by rw [List.take_add_one, hx, List.append_assoc]; rfl
          rw [← hts] at hst
          have hml : m < 10000000 := by
            have := HLT.out
            have := HN.out
            rw [List.length_append, List.length_take] at hm
            omega
          have hm2 : m + 1 ≤ (V ++ K.take (i + 1)).length := by rw [hts, List.length_append]; simp; simp at hm; omega
          generalize Maps.has D (.int .u32 x) = z at *
          have HK1 := Lib.hid hK
          have HO := Lib.hid hown
          have HST := Lib.hid hst
          have HM2 := Lib.hid hm2
          have HKEY := Lib.hid hkey
          clear hK hm hown hS hst hts hm2 hx y0 HR HR2 hkey
          have i0 : (0 : Int) ≤ (i : Int) := Int.natCast_nonneg _
          have i2 : (i : Int) < (nk : Int) := by omega
          go_wp2_with (at_mapUpdate; refine wpList_mapUpdate_own _ rfl _ _ _ 58 rfl 42 4 law32 Tryd.underlying58 (plainElem Tryd.prog 4) w.heap.size m D (by rfl) HO.out (by unfold maxLen; omega) _ _ (.int .u32 x) (by rfl) (by rfl) HKEY.out (.lit (.bool z)) [] (plainElem_bool Tryd.underlying4 z) ?_; intro w4 h4 g4; have H4 := Lib.hid h4; have G4 := Lib.hid g4; clear h4 g4)
          go_roundw
          case rel => exact ⟨i + 1, by omega, by first | rfl | go_num, Lib.hid ⟨HK1.out.row G4.out HK1.out.size (fun k e => by injection e with e; omega), m + 1, _, HM2.out, H4.out, HST.out⟩⟩
          case measure => simp [RowKit.intOf]; omega
        · have i2 : ¬ (i : Int) < (nk : Int) := by omega
          obtain rfl : i = nk := by omega
          rw [List.take_of_length_le (Nat.le_of_eq HN.out), ← HFT.out] at HR2
          clear HR
          go_wp2
          go_roundw
          case rel => exact ⟨t + 1, by omega, by first | rfl | go_num, HR2⟩
          case measure => simp [RowKit.intOf]; omega
    · have i2 : ¬ (t : Int) < 1024 := by omega
      obtain rfl : t = 1024 := by omega
      obtain ⟨hK, m, D, hm, hown, hS⟩ := HR.out
      clear HR hm
      have HK1 := Lib.hid hK
      have HO := Lib.hid hown
      have HS := Lib.hid hS
      clear hK hown hS
      go_wp2
      go_ret
      exact ⟨_, rfl, ⟨_, m, D, rfl, HO.out, HS.out, Nat.le_refl _⟩, HK1.out⟩
end Go.Proofs.YtllddcjokaalpaaDoor
