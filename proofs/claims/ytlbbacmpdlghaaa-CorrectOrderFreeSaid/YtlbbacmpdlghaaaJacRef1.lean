/-
  Package jacobi: the reference's Numbers and Right.
-/
import Derived.Test.YtlbbacmpdlghaaaJ06JacMath
import Derived.Test.YtlbbacmpdlghaaaCtsMath
import Derived.Test.YtlbbacmpdlghaaaJ05GridMath
import Derived.Test.YtlbbacmpdlghaaaJ00Bits
import Derived.Deep.DeepCutAuto
import Derived.Deep.QuietTactic
import Derived.BigQuiet
namespace Go.Proofs.Ytlbbacmpdlghaaa
open Go.RowKit Go.Lib

def nv (n : Int) : List Value := [.int .i64 n]
theorem nv_len (n : Int) : (nv n).length = 1 := rfl
theorem nv_one (n : Int) : ∀ u ∈ nv n, u.oneCell' = true := by
  intro u hu
  simp only [nv, List.mem_cons, List.not_mem_nil, or_false] at hu
  subst hu
  rfl
/-- What P17 asks of a contact, and of contacts. -/
def rgcB (L : List Bd) (c : Ct) : Bool := decide (c.lo < c.hi) && decide (0 ≤ place L c.lo 0) && decide (0 ≤ place L c.hi 0) && decide (Nr c.nx) && decide (Nr c.ny)
def rgtJ (L : List Bd) (C : List Ct) : Bool := decide (C.length ≤ 100) && C.all (rgcB L)
theorem place_isJ {L : List Bd} {k : Int} : 0 ≤ place L k 0 ↔ (look L k).isSome = true := by
  cases h : look L k with
  | none =>
    rw [(place_eq L k 0).1 h]
    simp
  | some x =>
    obtain ⟨j, hj, _⟩ := (place_eq L k 0).2 x h
    rw [hj]
    simp
theorem rgcB_iff {L : List Bd} {c : Ct} : rgcB L c = true ↔ RgC L c := by
  unfold rgcB
  rw [Bool.and_eq_true, Bool.and_eq_true, Bool.and_eq_true, Bool.and_eq_true, decide_eq_true_iff, decide_eq_true_iff, decide_eq_true_iff, decide_eq_true_iff, decide_eq_true_iff, place_isJ, place_isJ]
  constructor
  · rintro ⟨⟨⟨⟨h1, h2⟩, h3⟩, h4⟩, h5⟩
    exact ⟨h1, h2, h3, h4, h5⟩
  · rintro ⟨h1, h2, h3, h4, h5⟩
    exact ⟨⟨⟨⟨h1, h2⟩, h3⟩, h4⟩, h5⟩
theorem rgtJ_iff {L : List Bd} {C : List Ct} : rgtJ L C = true ↔ C.length ≤ 100 ∧ ∀ c ∈ C, RgC L c := by
  unfold rgtJ
  rw [Bool.and_eq_true, decide_eq_true_iff, List.all_eq_true]
  constructor
  · rintro ⟨h1, h2⟩
    exact ⟨h1, fun c hc => rgcB_iff.1 (h2 c hc)⟩
  · rintro ⟨h1, h2⟩
    exact ⟨h1, fun c hc => rgcB_iff.2 (h2 c hc)⟩
theorem all_takeC {t : Ct → Bool} {C : List Ct} {k : Nat} {y : Ct} (h : C[k]? = some y) : (C.take (k + 1)).all t = ((C.take k).all t && t y) := by
  rw [List.take_add_one, h]
  simp
abbrev RRj (L : List Bd) (C : List Ct) (z : Bool) : Prop := ∀ v l w, Lst w v L → Sq ctv 5 w l C → Calls Try.prog 23 #[v, l] w fun e w' => e = .returned (.bool z) ∧ Kep w.heap.size w w'
set_option maxRecDepth 100000 in
set_option maxHeartbeats 2000000 in
theorem rrj_many (L : List Bd) (C : List Ct) (hm : 100 < C.length) : RRj L C false := fun v l w h hl => by
  obtain ⟨bc, cc, rfl, _⟩ := hl
  have k1 : decide ((100 : Int) < (C.length : Int)) = true := decide_eq_true (by omega)
  clear h hm
  go_enter Try.func23, Try.ntmps23
  go_wp2_with fail
  go_ret
  exact ⟨rfl, Kep.refl _ _⟩
set_option maxRecDepth 100000 in
set_option maxHeartbeats 8000000 in
theorem rrj_few (L : List Bd) (hmL : L.length ≤ 1000000) (C : List Ct) (hm : C.length ≤ 100) : RRj L C (C.all (rgcB L)) := fun v l w h hl => by
  have HL := Lib.hid h
  obtain ⟨bc, cc, rfl, hc⟩ := hl
  have HC := Lib.hid hc
  have FD := Lib.hid (fun key w h => find_any v L key w h (by omega))
  obtain ⟨ba, ca, rfl⟩ := h.shape
  clear h hc
  have k1 : decide ((100 : Int) < (C.length : Int)) = false := decide_eq_false (by omega)
  generalize hnc : C.length = nc at *
  have HN := Lib.hid hnc
  clear hnc
  go_enter Try.func23, Try.ntmps23
  go_wp2_with fail
  go_loopw [5] (fun i wr => ∃ k : Nat, k ≤ nc ∧ i = .int .i64 k ∧ Hid ((C.take k).all (rgcB L) = true ∧ Kep w.heap.size w wr)) (fun i _ => nc - (RowKit.intOf i).toNat)
  case atStart => exact ⟨0, by omega, rfl, Lib.hid ⟨by simp, Kep.refl _ _⟩⟩
  case round =>
    obtain ⟨k, hk, rfl, HP⟩ := hrel
    by_cases hlt : k < nc
    · have hb : C[k]? = some (C[k]'(by rw [HN.out]; exact hlt)) := List.getElem?_eq_getElem _
      generalize C[k]'(by rw [HN.out]; exact hlt) = c at hb
      obtain ⟨gc, oc, rfl, q⟩ := HC.out k c hb
      have gg := HP.out.2
      have t0 : wr.cell? ⟨gc, oc + k * 5, none⟩ = some (.int .u32 c.lo) := gg.all (q 0 _ rfl)
      have t1 : wr.cell? ⟨gc, oc + k * 5 + 1, none⟩ = some (.int .u32 c.hi) := gg.all (q 1 _ rfl)
      have t2 : wr.cell? ⟨gc, oc + k * 5 + 2, none⟩ = some (.int .i32 c.nx) := gg.all (q 2 _ rfl)
      have t3 : wr.cell? ⟨gc, oc + k * 5 + 3, none⟩ = some (.int .i32 c.ny) := gg.all (q 3 _ rfl)
      have t4 : wr.cell? ⟨gc, oc + k * 5 + 4, none⟩ = some (.int .i32 c.dp) := gg.all (q 4 _ rfl)
      have HB := Lib.hid (all_takeC (t := rgcB L) hb)
      have HTK := Lib.hid HP.out.1
      have HMEM := Lib.hid (List.mem_of_getElem? hb)
      have LD := Lib.hid ((HL.out.kep gg).kep (kep_more (Kep.refl _ _) (.cells #[.int .u32 c.lo, .int .u32 c.hi, .int .i32 c.nx, .int .i32 c.ny, .int .i32 c.dp] 37)))
      have HG := Lib.hid (kep_more gg (.cells #[.int .u32 c.lo, .int .u32 c.hi, .int .i32 c.nx, .int .i32 c.ny, .int .i32 c.dp] 37))
      obtain ⟨pa, hpa⟩ : ∃ pa, pa = place L c.lo 0 := ⟨_, rfl⟩
      obtain ⟨pb, hpb⟩ : ∃ pb, pb = place L c.hi 0 := ⟨_, rfl⟩
      have FA := Lib.hid (fun w h => (show Calls Try.prog 11 #[.slice ba L.length ca, .int .u32 c.lo] w fun e w' => e = .returned (.int .i64 pa) ∧ w = w' by rw [hpa]; exact FD.out c.lo w h))
      have FB := Lib.hid (fun w h => (show Calls Try.prog 11 #[.slice ba L.length ca, .int .u32 c.hi] w fun e w' => e = .returned (.int .i64 pb) ∧ w = w' by rw [hpb]; exact FD.out c.hi w h))
      have HR : Hid (rgcB L c = (decide (c.lo < c.hi) && decide (0 ≤ pa) && decide (0 ≤ pb) && decide (Nr c.nx) && decide (Nr c.ny))) := Lib.hid (by rw [hpa, hpb]; rfl)
      clear hb q HP gg hpa hpb
      by_cases hok : c.lo < c.hi ∧ 0 ≤ pa ∧ 0 ≤ pb ∧ Nr c.nx ∧ Nr c.ny
      · have HNX : Hid ((C.take (k + 1)).all (rgcB L) = true) := Lib.hid (by
          rw [HB.out, HTK.out, HR.out, decide_eq_true hok.1, decide_eq_true hok.2.1, decide_eq_true hok.2.2.1, decide_eq_true hok.2.2.2.1, decide_eq_true hok.2.2.2.2]
          rfl)
        obtain ⟨h0, h1, h2, h3, h4⟩ := hok
        have d0 : decide (c.hi ≤ c.lo) = false := decide_eq_false (by omega)
        have d1 : decide (pa < 0) = false := decide_eq_false (by omega)
        have d2 : decide (pb < 0) = false := decide_eq_false (by omega)
        have d3 : decide (c.nx < -65536) = false := decide_eq_false (by omega)
        have d4 : decide (65536 < c.nx) = false := decide_eq_false (by omega)
        have d5 : decide (c.ny < -65536) = false := decide_eq_false (by omega)
        have d6 : decide (65536 < c.ny) = false := decide_eq_false (by omega)
        clear h0 h1 h2 h3 h4
        go_wp2_with (first | ((with_reducible refine (FA.out _ LD.out).mono ?_); rintro e w4 ⟨rfl, rfl⟩) | ((with_reducible refine (FB.out _ LD.out).mono ?_); rintro e w4 ⟨rfl, rfl⟩))
        go_roundw
        case rel => exact ⟨k + 1, by omega, by go_num, Lib.hid ⟨HNX.out, HG.out⟩⟩
        case measure => simp [RowKit.intOf]; omega
      · have HAF : Hid (C.all (rgcB L) = false) := Lib.hid (by
          rw [List.all_eq_false]
          refine ⟨c, HMEM.out, ?_⟩
          rw [HR.out]
          intro e
          simp only [Bool.and_eq_true, decide_eq_true_eq] at e
          exact hok ⟨e.1.1.1.1, e.1.1.1.2, e.1.1.2, e.1.2, e.2⟩)
        by_cases e0 : c.hi ≤ c.lo
        · have d0 : decide (c.hi ≤ c.lo) = true := decide_eq_true (by omega)
          clear hok
          go_wp2_with (first | ((with_reducible refine (FA.out _ LD.out).mono ?_); rintro e w4 ⟨rfl, rfl⟩) | ((with_reducible refine (FB.out _ LD.out).mono ?_); rintro e w4 ⟨rfl, rfl⟩))
          go_ret
          exact ⟨by rw [HAF.out]; rfl, HG.out⟩
        by_cases e1 : pa < 0
        · have d0 : decide (c.hi ≤ c.lo) = false := decide_eq_false (by omega)
          have d1 : decide (pa < 0) = true := decide_eq_true (by omega)
          clear hok
          go_wp2_with (first | ((with_reducible refine (FA.out _ LD.out).mono ?_); rintro e w4 ⟨rfl, rfl⟩) | ((with_reducible refine (FB.out _ LD.out).mono ?_); rintro e w4 ⟨rfl, rfl⟩))
          go_ret
          exact ⟨by rw [HAF.out]; rfl, HG.out⟩
        by_cases e2 : pb < 0
        · have d0 : decide (c.hi ≤ c.lo) = false := decide_eq_false (by omega)
          have d1 : decide (pa < 0) = false := decide_eq_false (by omega)
          have d2 : decide (pb < 0) = true := decide_eq_true (by omega)
          clear hok
          go_wp2_with (first | ((with_reducible refine (FA.out _ LD.out).mono ?_); rintro e w4 ⟨rfl, rfl⟩) | ((with_reducible refine (FB.out _ LD.out).mono ?_); rintro e w4 ⟨rfl, rfl⟩))
          go_ret
          exact ⟨by rw [HAF.out]; rfl, HG.out⟩
        by_cases e3 : c.nx < -65536
        · have d0 : decide (c.hi ≤ c.lo) = false := decide_eq_false (by omega)
          have d1 : decide (pa < 0) = false := decide_eq_false (by omega)
          have d2 : decide (pb < 0) = false := decide_eq_false (by omega)
          have d3 : decide (c.nx < -65536) = true := decide_eq_true (by omega)
          clear hok
          go_wp2_with (first | ((with_reducible refine (FA.out _ LD.out).mono ?_); rintro e w4 ⟨rfl, rfl⟩) | ((with_reducible refine (FB.out _ LD.out).mono ?_); rintro e w4 ⟨rfl, rfl⟩))
          go_ret
          exact ⟨by rw [HAF.out]; rfl, HG.out⟩
        by_cases e4 : 65536 < c.nx
        · have d0 : decide (c.hi ≤ c.lo) = false := decide_eq_false (by omega)
          have d1 : decide (pa < 0) = false := decide_eq_false (by omega)
          have d2 : decide (pb < 0) = false := decide_eq_false (by omega)
          have d3 : decide (c.nx < -65536) = false := decide_eq_false (by omega)
          have d4 : decide (65536 < c.nx) = true := decide_eq_true (by omega)
          clear hok
          go_wp2_with (first | ((with_reducible refine (FA.out _ LD.out).mono ?_); rintro e w4 ⟨rfl, rfl⟩) | ((with_reducible refine (FB.out _ LD.out).mono ?_); rintro e w4 ⟨rfl, rfl⟩))
          go_ret
          exact ⟨by rw [HAF.out]; rfl, HG.out⟩
        by_cases e5 : c.ny < -65536
        · have d0 : decide (c.hi ≤ c.lo) = false := decide_eq_false (by omega)
          have d1 : decide (pa < 0) = false := decide_eq_false (by omega)
          have d2 : decide (pb < 0) = false := decide_eq_false (by omega)
          have d3 : decide (c.nx < -65536) = false := decide_eq_false (by omega)
          have d4 : decide (65536 < c.nx) = false := decide_eq_false (by omega)
          have d5 : decide (c.ny < -65536) = true := decide_eq_true (by omega)
          clear hok
          go_wp2_with (first | ((with_reducible refine (FA.out _ LD.out).mono ?_); rintro e w4 ⟨rfl, rfl⟩) | ((with_reducible refine (FB.out _ LD.out).mono ?_); rintro e w4 ⟨rfl, rfl⟩))
          go_ret
          exact ⟨by rw [HAF.out]; rfl, HG.out⟩
        by_cases e6 : 65536 < c.ny
        · have d0 : decide (c.hi ≤ c.lo) = false := decide_eq_false (by omega)
          have d1 : decide (pa < 0) = false := decide_eq_false (by omega)
          have d2 : decide (pb < 0) = false := decide_eq_false (by omega)
          have d3 : decide (c.nx < -65536) = false := decide_eq_false (by omega)
          have d4 : decide (65536 < c.nx) = false := decide_eq_false (by omega)
          have d5 : decide (c.ny < -65536) = false := decide_eq_false (by omega)
          have d6 : decide (65536 < c.ny) = true := decide_eq_true (by omega)
          clear hok
          go_wp2_with (first | ((with_reducible refine (FA.out _ LD.out).mono ?_); rintro e w4 ⟨rfl, rfl⟩) | ((with_reducible refine (FB.out _ LD.out).mono ?_); rintro e w4 ⟨rfl, rfl⟩))
          go_ret
          exact ⟨by rw [HAF.out]; rfl, HG.out⟩
        · exact absurd ⟨by omega, by omega, by omega, ⟨by omega, by omega⟩, by omega, by omega⟩ hok
    · obtain rfl : k = nc := by omega
      have h1 := HP.out.1
      have gg := HP.out.2
      rw [List.take_of_length_le (by rw [HN.out]; omega)] at h1
      have H1 := Lib.hid h1
      clear h1
      go_wp2_with fail
      go_ret
      exact ⟨by rw [H1.out]; rfl, gg⟩
theorem rrj (L : List Bd) (hmL : L.length ≤ 1000000) (C : List Ct) : RRj L C (rgtJ L C) := by
  unfold rgtJ
  by_cases hm : C.length ≤ 100
  · rw [decide_eq_true hm, Bool.true_and]
    exact rrj_few L hmL C hm
  · rw [decide_eq_false hm, Bool.false_and]
    exact rrj_many L C (by omega)
end Go.Proofs.Ytlbbacmpdlghaaa
