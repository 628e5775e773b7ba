/-
  Package contacts: its functions.
-/
import Derived.Test.YtangalkbjochjaaGreatDoorCtsOps1
import Derived.Deep.DeepCutAuto
import Derived.Laws.MakeOwn
import Derived.Deep.QuietTactic
import Derived.BigQuiet
import Derived.StillTailTactics
namespace Go.Proofs.YtangalkbjochjaaGreatDoor
open Go.RowKit Go.Lib Go.Maps

set_option maxRecDepth 100000 in
set_option maxHeartbeats 4000000 in
theorem ceach {L : List Bd} (V : Vw L) {v : Value} {w1 w : World} (hv : Sq pv 2 w1 v (pairsL L)) {cb mb n : Nat} {D : DataW Unit} {lv : Value} (h : CI w1 w cb mb n D lv []) (hM : BodM D L) :
    Calls Tryz.prog 23 #[v, .func (.func 24) #[.pointer (some ⟨cb, 0, none⟩)] #[]] w fun e w' => e = .returned (.tuple #[]) ∧ ∃ lv', CI w1 w' cb mb n D lv' (consL L) := by
  have hlen := pairs_max V.len
  have HALL := Lib.hid (conP_all V.asc (fun x hx => okc_of V x hx))
  have HCE : Hid (∀ p ∈ pairsL L, ∃ x ∈ L, ∃ y ∈ L, x.k < y.k ∧ p = (x.k, y.k)) := Lib.hid fun p hp => by
    obtain ⟨x, hx, y, hy, h1, _, h2⟩ := (pairs_mem V.asc p).1 hp
    exact ⟨x, hx, y, hy, h1, h2⟩
  have HL := Lib.hid (conP_len L)
  obtain ⟨base, cap, rfl, hc⟩ := hv
  have HC := Lib.hid hc
  have HV := Lib.hid V
  have HM := Lib.hid hM
  have H0 := Lib.hid h
  clear hc V hM h
  generalize pairsL L = C at *
  generalize hl : C.length = nc at *
  have HN := Lib.hid hl
  clear hl
  go_enter Tryz.func23, Tryz.ntmps23
  go_wp2_with fail
  go_loopw [8] (fun i wr => ∃ j : Nat, j ≤ nc ∧ i = .int .i64 j ∧ Hid (∃ lv, CI w1 wr cb mb n D lv ((C.take j).flatMap (conP L)))) (fun i _ => nc - (RowKit.intOf i).toNat)
  case atStart => exact ⟨0, by omega, rfl, Lib.hid ⟨lv, by rw [List.take_zero]; exact H0.out⟩⟩
  case round =>
    obtain ⟨j, hj, rfl, HP⟩ := hrel
    by_cases hlt : j < nc
    · have hb : C[j]? = some (C[j]'(by rw [HN.out]; exact hlt)) := List.getElem?_eq_getElem _
      generalize C[j]'(by rw [HN.out]; exact hlt) = p at hb
      obtain ⟨x, hx, y, hy, hxy, rfl⟩ := HCE.out p (List.mem_of_getElem? hb)
      obtain ⟨gl, off, rfl, qx⟩ := HC.out j _ hb
      obtain ⟨lw, hci⟩ := HP.out
      have s0 : wr.cell? ⟨gl, off + j * 2, none⟩ = some (.int .u32 x.k) := hci.kep.all (qx 0 _ rfl)
      have s1 : wr.cell? ⟨gl, off + j * 2 + 1, none⟩ = some (.int .u32 y.k) := hci.kep.all (qx 1 _ rfl)
      have hml := HL.out (C.take j)
      rw [List.length_take] at hml
      have HST := Lib.hid (conP_snoc (L := L) hb)
      have CA : Hid (Calls Tryz.prog 24 #[.pointer (some ⟨cb, 0, none⟩), .agg #[.int .u32 x.k, .int .u32 y.k]] (wr.alloc (.cells #[.int .u32 x.k, .int .u32 y.k] 31)) fun e w' => e = .returned (.tuple #[]) ∧ Hid (∃ lv', CI w1 w' cb mb n D lv' ((C.take (j + 1)).flatMap (conP L)))) := Lib.hid (by
        refine (cadd HV.out hx hy hxy (hci.on (kep_more (Kep.refl _ _) _)) HM.out (by omega)).mono ?_
        rintro e w' ⟨he, lv', h'⟩
        exact ⟨he, Lib.hid ⟨lv', by rw [HST.out]; exact h'⟩⟩)
      clear hb qx hci hx hy hxy hml HP HST
      have i0 : (0 : Int) ≤ (j : Int) := Int.natCast_nonneg _
      have i1 : (j : Int) < (nc : Int) := by omega
      go_wp2_with ((with_reducible refine (CA.out).mono ?_); rintro e w4 ⟨rfl, F4⟩)
      go_roundw
      case rel => exact ⟨j + 1, by omega, by first | rfl | go_num, F4⟩
      case measure => simp [RowKit.intOf]; omega
    · have i2 : ¬ (j : Int) < (nc : Int) := by omega
      obtain rfl : j = nc := by omega
      have HQ := Lib.hid HP.out
      clear HP
      go_wp2_with fail
      go_end0
      obtain ⟨lw, hci⟩ := HQ.out
      rw [List.take_of_length_le (Nat.le_of_eq HN.out), HALL.out] at hci
      exact ⟨rfl, lw, hci⟩
set_option maxRecDepth 100000 in
set_option maxHeartbeats 4000000 in
theorem cwith : CWith := fun v L key w h hm => by
  obtain ⟨base, cap, rfl, hc⟩ := h
  have HC := Lib.hid hc
  have HPM := Lib.hid (withC_len L key)
  clear hc
  generalize hl : L.length = len at *
  have HN := Lib.hid hl
  clear hl
  go_enter Tryz.func14, Tryz.ntmps14
  go_wp2_with fail
  go_loopw [5, 10] (fun out i wr => ∃ k : Nat, k ≤ len ∧ i = .int .i64 k ∧ Hid (∃ P, P ++ withC (L.drop k) key = withC L key ∧ wr.ownsRow w.heap.size 35 5 out P.length (P.flatMap ctv) ∧ Kep w.heap.size w wr)) (fun _ i _ => len - (RowKit.intOf i).toNat)
  case atStart => exact ⟨0, by omega, rfl, Lib.hid ⟨[], by simp, World.ownsRow_nil _ _ _ _, Kep.refl _ _⟩⟩
  case round =>
    obtain ⟨k, hk, rfl, HP⟩ := hrel
    by_cases hlt : k < len
    · have hb : L[k]? = some (L[k]'(by rw [HN.out]; exact hlt)) := List.getElem?_eq_getElem _
      generalize L[k]'(by rw [HN.out]; exact hlt) = x at hb
      obtain ⟨gl, off, rfl, qx⟩ := HC.out k x hb
      obtain ⟨P, hp, ho, gg⟩ := HP.out
      rw [withC_at hb] at hp
      have HOA := Lib.hid (ho.alloc (.cells #[.int .u32 x.lo, .int .u32 x.hi, .int .i32 x.nx, .int .i32 x.ny, .int .i32 x.dp] 35))
      have HGA := Lib.hid (kep_more gg (.cells #[.int .u32 x.lo, .int .u32 x.hi, .int .i32 x.nx, .int .i32 x.ny, .int .i32 x.dp] 35))
      have hpl : P.length ≤ len := by have := HPM.out; rw [← hp, List.length_append] at this; omega
      have i0 : (0 : Int) ≤ (k : Int) := Int.natCast_nonneg _
      have i1 : (k : Int) < (len : Int) := by omega
      have s0 : wr.cell? ⟨gl, off + k * 5, none⟩ = some (.int .u32 x.lo) := gg.all (qx 0 _ rfl)
      have s1 : wr.cell? ⟨gl, off + k * 5 + 1, none⟩ = some (.int .u32 x.hi) := gg.all (qx 1 _ rfl)
      have s2 : wr.cell? ⟨gl, off + k * 5 + 2, none⟩ = some (.int .i32 x.nx) := gg.all (qx 2 _ rfl)
      have s3 : wr.cell? ⟨gl, off + k * 5 + 3, none⟩ = some (.int .i32 x.ny) := gg.all (qx 3 _ rfl)
      have s4 : wr.cell? ⟨gl, off + k * 5 + 4, none⟩ = some (.int .i32 x.dp) := gg.all (qx 4 _ rfl)
      clear hb qx HP ho gg
      by_cases c : x.lo = key ∨ x.hi = key
      · rw [if_pos c] at hp
        have HPE := Lib.hid hp
        clear hp
        by_cases c0 : x.lo = key
        · have d0 : (x.lo == key) = true := beq_iff_eq.2 c0
          clear c c0
          go_wp2_with (first
            | (at_builtin; refine wpList_app ctv 5 ctv_len ctv_one rfl _ _ 23 rfl 35 _ 20 Tryz.underlying23 info_con rfl (by decide) w.heap.size _ _ P x rfl HOA.out _ (by first | rfl | simp) rfl _ rfl (by unfold maxLen; omega) (by omega) HGA.out.size ?_; intro v3 w3 o3 k3))
          have HM : Hid (∃ P, P ++ withC (L.drop (k + 1)) key = withC L key ∧ w3.ownsRow w.heap.size 35 5 v3 P.length (P.flatMap ctv) ∧ Kep w.heap.size w w3) := Lib.hid ⟨P ++ [x], by have := HPE.out; simpa using this, o3, HGA.out.trans k3⟩
          clear o3 k3
          go_roundw
          case rel => exact ⟨k + 1, by omega, by go_num, HM⟩
          case measure => simp [RowKit.intOf]; omega
        · have c1 : x.hi = key := by omega
          have d0 : (x.lo == key) = false := beq_eq_false_iff_ne.2 c0
          have d1 : (x.hi == key) = true := beq_iff_eq.2 c1
          clear c c0 c1
          go_wp2_with (first
            | (at_builtin; refine wpList_app ctv 5 ctv_len ctv_one rfl _ _ 23 rfl 35 _ 20 Tryz.underlying23 info_con rfl (by decide) w.heap.size _ _ P x rfl HOA.out _ (by first | rfl | simp) rfl _ rfl (by unfold maxLen; omega) (by omega) HGA.out.size ?_; intro v3 w3 o3 k3))
          have HM : Hid (∃ P, P ++ withC (L.drop (k + 1)) key = withC L key ∧ w3.ownsRow w.heap.size 35 5 v3 P.length (P.flatMap ctv) ∧ Kep w.heap.size w w3) := Lib.hid ⟨P ++ [x], by have := HPE.out; simpa using this, o3, HGA.out.trans k3⟩
          clear o3 k3
          go_roundw
          case rel => exact ⟨k + 1, by omega, by go_num, HM⟩
          case measure => simp [RowKit.intOf]; omega
      · rw [if_neg c] at hp
        have HPE := Lib.hid hp
        have d0 : (x.lo == key) = false := beq_eq_false_iff_ne.2 (by omega)
        have d1 : (x.hi == key) = false := beq_eq_false_iff_ne.2 (by omega)
        clear hp
        clear c
        go_wp2_with fail
        go_roundw
        case rel => exact ⟨k + 1, by omega, by go_num, Lib.hid ⟨P, by have := HPE.out; simpa using this, HOA.out, HGA.out⟩⟩
        case measure => simp [RowKit.intOf]; omega
    · have i2 : ¬ (k : Int) < (len : Int) := by omega
      obtain rfl : k = len := by omega
      go_wp2_with fail
      go_ret
      obtain ⟨P, h1, h2, h3⟩ := HP.out
      rw [List.drop_of_length_le (by rw [HN.out]; omega)] at h1
      rw [show P = withC L key by rw [← h1]; simp [withC]] at h2
      exact ⟨_, rfl, own_sq ctv_len h2, h3⟩
theorem fold_zero {L : List Ct} {c : Ct} (h : L[0]? = some c) : (L.take 1).foldl dpk c = c := by
  rw [List.take_add_one, List.take_zero, h]
  exact dpk_self c
set_option maxRecDepth 100000 in
set_option maxHeartbeats 4000000 in
theorem cdeep : CDeep := fun v L w h hr hm => by
  obtain ⟨base, cap, rfl, hc⟩ := h
  have hle := hr _ _ _ rfl
  clear hr
  have HC := Lib.hid hc
  clear hc
  cases L with
  | nil =>
    go_enter Tryz.func11, Tryz.ntmps11
    simp only [List.length_nil] at *
    go_wp2_with fail
    refine bodyPost_ret (v := .tuple #[.agg #[.int .u32 0, .int .u32 0, .int .i32 0, .int .i32 0, .int .i32 0], .bool false]) (by simp [results, Tryz.results11, go_sem]) rfl ⟨rfl, ?_⟩
    exact kep_more (Kep.refl _ _) _
  | cons c0 l0 =>
    obtain ⟨L, hL⟩ : ∃ L, L = c0 :: l0 := ⟨_, rfl⟩
    rw [← hL] at hm hle HC ⊢
    have h0 : L[0]? = some c0 := by rw [hL]; rfl
    have hpos : 0 < L.length := by rw [hL]; simp
    have HD := Lib.hid (deep_eq h0)
    have HF0 := Lib.hid (fold_zero h0)
    obtain ⟨g, off, rfl, q0⟩ := HC.out 0 c0 h0
    have HCK : Hid (∀ (k : Nat) (x : Ct), L[k]? = some x → ∀ (i : Nat) (u : Value), (ctv x)[i]? = some u → w.cell? ⟨g, off + k * 5 + i, none⟩ = some u) := Lib.hid fun k x hx => by
      obtain ⟨g', off', e, h⟩ := HC.out k x hx
      injection e with e
      injection e with e1 e2
      subst e1 e2
      exact h
    clear HC hL
    generalize hl : L.length = len at *
    have HN := Lib.hid hl
    clear hl
    have r0 : w.cell? ⟨g, off, none⟩ = some (.int .u32 c0.lo) := by have := q0 0 _ rfl; simpa using this
    have r1 : w.cell? ⟨g, off + 1, none⟩ = some (.int .u32 c0.hi) := by have := q0 1 _ rfl; simpa using this
    have r2 : w.cell? ⟨g, off + 2, none⟩ = some (.int .i32 c0.nx) := by have := q0 2 _ rfl; simpa using this
    have r3 : w.cell? ⟨g, off + 3, none⟩ = some (.int .i32 c0.ny) := by have := q0 3 _ rfl; simpa using this
    have r4 : w.cell? ⟨g, off + 4, none⟩ = some (.int .i32 c0.dp) := by have := q0 4 _ rfl; simpa using this
    have hg0 : g < w.heap.size := World.block_lt_of_cell? _ _ r0
    clear q0 h0
    have n0 : ¬ ((len : Int) = 0) := by omega
    have n1 : (0 : Int) < (len : Int) := by omega
    have n2 : (1 : Int) ≤ (len : Int) := by omega
    go_enter Tryz.func11, Tryz.ntmps11
    go_upto_region 4 with fail
    generalize hW : (w.alloc (.cells #[.int .u32 0, .int .u32 0, .int .i32 0, .int .i32 0, .int .i32 0] 35)).alloc (.cells #[.int .u32 c0.lo, .int .u32 c0.hi, .int .i32 c0.nx, .int .i32 c0.ny, .int .i32 c0.dp] 35) = W2
    have HB : Hid (ZC W2 w.heap.size [.int .u32 0, .int .u32 0, .int .i32 0, .int .i32 0, .int .i32 0] ∧ ZC W2 (w.heap.size + 1) [.int .u32 c0.lo, .int .u32 c0.hi, .int .i32 c0.nx, .int .i32 c0.ny, .int .i32 c0.dp] ∧ Kep w.heap.size w W2) := Lib.hid (by
      rw [← hW]
      exact ⟨(zc_new _ _ _).more _, zc_new' _ _ _ (by simp), kep_more (kep_more (Kep.refl _ _) _) _⟩)
    clear hW r0 r1 r2 r3 r4
    by_cases hcap : cap = 1
    · subst hcap
      obtain rfl : len = 1 := by omega
      have t0 : W2.cell? ⟨w.heap.size + 1, 0, none⟩ = some (.int .u32 c0.lo) := HB.out.2.1.i (i := 0) rfl
      have t1 : W2.cell? ⟨w.heap.size + 1, 1, none⟩ = some (.int .u32 c0.hi) := HB.out.2.1.i (i := 1) rfl
      have t2 : W2.cell? ⟨w.heap.size + 1, 2, none⟩ = some (.int .i32 c0.nx) := HB.out.2.1.i (i := 2) rfl
      have t3 : W2.cell? ⟨w.heap.size + 1, 3, none⟩ = some (.int .i32 c0.ny) := HB.out.2.1.i (i := 3) rfl
      have t4 : W2.cell? ⟨w.heap.size + 1, 4, none⟩ = some (.int .i32 c0.dp) := HB.out.2.1.i (i := 4) rfl
      have s0 : W2.cell? ⟨w.heap.size, 0, none⟩ = some (.int .u32 0) := HB.out.1.i (i := 0) rfl
      have s1 : W2.cell? ⟨w.heap.size, 1, none⟩ = some (.int .u32 0) := HB.out.1.i (i := 1) rfl
      have s2 : W2.cell? ⟨w.heap.size, 2, none⟩ = some (.int .i32 0) := HB.out.1.i (i := 2) rfl
      have s3 : W2.cell? ⟨w.heap.size, 3, none⟩ = some (.int .i32 0) := HB.out.1.i (i := 3) rfl
      have s4 : W2.cell? ⟨w.heap.size, 4, none⟩ = some (.int .i32 0) := HB.out.1.i (i := 4) rfl
      have u0 : W2.frozen? ⟨w.heap.size, 0, none⟩ = false := HB.out.1.frz 0
      have u1 : W2.frozen? ⟨w.heap.size, 1, none⟩ = false := HB.out.1.frz 1
      have u2 : W2.frozen? ⟨w.heap.size, 2, none⟩ = false := HB.out.1.frz 2
      have u3 : W2.frozen? ⟨w.heap.size, 3, none⟩ = false := HB.out.1.frz 3
      have u4 : W2.frozen? ⟨w.heap.size, 4, none⟩ = false := HB.out.1.frz 4
      have hsz0 := HB.out.2.1.lt
      have HE := Lib.hid (show c0 = deepC L by rw [HD.out]; have e := HF0.out; rw [List.take_of_length_le (by rw [HN.out]; omega)] at e; exact e.symm)
      go_wp2_with fail
      refine wp_loop_rounds 1 ?_
      rw [rounds_succ]
      go_wp2_with fail
      have HS := HB.out.1.set [.int .u32 c0.lo, .int .u32 c0.hi, .int .i32 c0.nx, .int .i32 c0.ny, .int .i32 c0.dp] (by simp)
      have HK := Lib.hid (kep_setAll (b := w.heap.size) (by omega) [.int .u32 c0.lo, .int .u32 c0.hi, .int .i32 c0.nx, .int .i32 c0.ny, .int .i32 c0.dp] 0 HB.out.2.2)
      simp only [setAll, Nat.zero_add, Nat.reduceAdd] at HS HK
      have hs0 := HS.i (i := 0) rfl
      have hs1 := HS.i (i := 1) rfl
      have hs2 := HS.i (i := 2) rfl
      have hs3 := HS.i (i := 3) rfl
      have hs4 := HS.i (i := 4) rfl
      refine bodyPost_ret (v := .tuple #[.agg #[.int .u32 c0.lo, .int .u32 c0.hi, .int .i32 c0.nx, .int .i32 c0.ny, .int .i32 c0.dp], .bool true]) (by simp [results, Tryz.results11, go_sem, hs0, hs1, hs2, hs3, hs4]) rfl ⟨?_, HK.out⟩
      first | (rw [← HE.out]; done) | (rw [← HE.out, decide_eq_true hpos])
    go_wp2_with fail
    go_loopw [17] (fun i wr => ∃ j : Nat, j + 1 ≤ len ∧ i = .int .i64 j ∧ Hid (∃ d : Ct, d = (L.take (j + 1)).foldl dpk c0 ∧ ZC wr w.heap.size [.int .u32 0, .int .u32 0, .int .i32 0, .int .i32 0, .int .i32 0] ∧ ZC wr (w.heap.size + 1) [.int .u32 d.lo, .int .u32 d.hi, .int .i32 d.nx, .int .i32 d.ny, .int .i32 d.dp] ∧ Kep w.heap.size w wr)) (fun i _ => len - (RowKit.intOf i).toNat)
    case atStart => exact ⟨0, by omega, rfl, Lib.hid ⟨c0, HF0.out.symm, HB.out.1, HB.out.2.1, HB.out.2.2⟩⟩
    case round =>
      obtain ⟨j, hj, rfl, HP⟩ := hrel
      obtain ⟨d, hd, zr, zd, gg⟩ := HP.out
      have HDD := Lib.hid hd
      have HZR := Lib.hid zr
      have HZD := Lib.hid zd
      have HG := Lib.hid gg
      have hsz := zd.lt
      clear HP hd zr
      by_cases hlt : j + 1 < len
      · have hb : L[j + 1]? = some (L[j + 1]'(by rw [HN.out]; exact hlt)) := List.getElem?_eq_getElem _
        generalize L[j + 1]'(by rw [HN.out]; exact hlt) = x at hb
        have HST := Lib.hid (fold_at (c := c0) hb)
        rw [← HDD.out] at HST
        have qx := HCK.out (j + 1) x hb
        have i0 : (0 : Int) ≤ (j : Int) := Int.natCast_nonneg _
        have i1 : (j : Int) < (len : Int) - 1 := by omega
        have s0 : wr.cell? ⟨g, off + 5 + j * 5, none⟩ = some (.int .u32 x.lo) := by have := gg.all (qx 0 _ rfl); rw [show off + (j + 1) * 5 + 0 = off + 5 + j * 5 by omega] at this; exact this
        have s1 : wr.cell? ⟨g, off + 5 + j * 5 + 1, none⟩ = some (.int .u32 x.hi) := by have := gg.all (qx 1 _ rfl); rw [show off + (j + 1) * 5 + 1 = off + 5 + j * 5 + 1 by omega] at this; exact this
        have s2 : wr.cell? ⟨g, off + 5 + j * 5 + 2, none⟩ = some (.int .i32 x.nx) := by have := gg.all (qx 2 _ rfl); rw [show off + (j + 1) * 5 + 2 = off + 5 + j * 5 + 2 by omega] at this; exact this
        have s3 : wr.cell? ⟨g, off + 5 + j * 5 + 3, none⟩ = some (.int .i32 x.ny) := by have := gg.all (qx 3 _ rfl); rw [show off + (j + 1) * 5 + 3 = off + 5 + j * 5 + 3 by omega] at this; exact this
        have s4 : wr.cell? ⟨g, off + 5 + j * 5 + 4, none⟩ = some (.int .i32 x.dp) := by have := gg.all (qx 4 _ rfl); rw [show off + (j + 1) * 5 + 4 = off + 5 + j * 5 + 4 by omega] at this; exact this
        have t0 : wr.cell? ⟨w.heap.size + 1, 0, none⟩ = some (.int .u32 d.lo) := zd.i (i := 0) rfl
        have t1 : wr.cell? ⟨w.heap.size + 1, 1, none⟩ = some (.int .u32 d.hi) := zd.i (i := 1) rfl
        have t2 : wr.cell? ⟨w.heap.size + 1, 2, none⟩ = some (.int .i32 d.nx) := zd.i (i := 2) rfl
        have t3 : wr.cell? ⟨w.heap.size + 1, 3, none⟩ = some (.int .i32 d.ny) := zd.i (i := 3) rfl
        have t4 : wr.cell? ⟨w.heap.size + 1, 4, none⟩ = some (.int .i32 d.dp) := zd.i (i := 4) rfl
        have u0 : wr.frozen? ⟨w.heap.size + 1, 0, none⟩ = false := zd.frz 0
        have u1 : wr.frozen? ⟨w.heap.size + 1, 1, none⟩ = false := zd.frz 1
        have u2 : wr.frozen? ⟨w.heap.size + 1, 2, none⟩ = false := zd.frz 2
        have u3 : wr.frozen? ⟨w.heap.size + 1, 3, none⟩ = false := zd.frz 3
        have u4 : wr.frozen? ⟨w.heap.size + 1, 4, none⟩ = false := zd.frz 4
        clear hb qx zd gg
        by_cases c : d.dp < x.dp
        · have hk : Hid (dpk d x = x) := Lib.hid (by unfold dpk; rw [if_pos c])
          have c2 : decide (x.dp > d.dp) = true := decide_eq_true c
          go_wp2_with fail
          have HS := Lib.hid ((HZD.out.set [.int .u32 x.lo, .int .u32 x.hi, .int .i32 x.nx, .int .i32 x.ny, .int .i32 x.dp] (by simp)).more (.cells #[.int .u32 x.lo, .int .u32 x.hi, .int .i32 x.nx, .int .i32 x.ny, .int .i32 x.dp] 35))
          have HR := Lib.hid ((HZR.out.far (b := w.heap.size + 1) (by omega) [.int .u32 x.lo, .int .u32 x.hi, .int .i32 x.nx, .int .i32 x.ny, .int .i32 x.dp]).more (.cells #[.int .u32 x.lo, .int .u32 x.hi, .int .i32 x.nx, .int .i32 x.ny, .int .i32 x.dp] 35))
          have HK := Lib.hid (kep_more (kep_setAll (b := w.heap.size + 1) (by omega) [.int .u32 x.lo, .int .u32 x.hi, .int .i32 x.nx, .int .i32 x.ny, .int .i32 x.dp] 0 HG.out) (.cells #[.int .u32 x.lo, .int .u32 x.hi, .int .i32 x.nx, .int .i32 x.ny, .int .i32 x.dp] 35))
          simp only [setAll, Nat.zero_add, Nat.reduceAdd] at HS HR HK
          go_roundw
          case rel => exact ⟨j + 1, by omega, by go_num, Lib.hid ⟨x, by rw [HST.out, hk.out], HR.out, HS.out, HK.out⟩⟩
          case measure => simp [RowKit.intOf]; omega
        · have hk : Hid (dpk d x = d) := Lib.hid (by unfold dpk; rw [if_neg c])
          have c2 : decide (x.dp > d.dp) = false := decide_eq_false c
          go_wp2_with fail
          go_roundw
          case rel => exact ⟨j + 1, by omega, by go_num, Lib.hid ⟨d, by rw [HST.out, hk.out], HZR.out.more _, HZD.out.more _, kep_more HG.out _⟩⟩
          case measure => simp [RowKit.intOf]; omega
      · have i2 : ¬ (j : Int) < (len : Int) - 1 := by omega
        have t0 : wr.cell? ⟨w.heap.size + 1, 0, none⟩ = some (.int .u32 d.lo) := HZD.out.i (i := 0) rfl
        have t1 : wr.cell? ⟨w.heap.size + 1, 1, none⟩ = some (.int .u32 d.hi) := HZD.out.i (i := 1) rfl
        have t2 : wr.cell? ⟨w.heap.size + 1, 2, none⟩ = some (.int .i32 d.nx) := HZD.out.i (i := 2) rfl
        have t3 : wr.cell? ⟨w.heap.size + 1, 3, none⟩ = some (.int .i32 d.ny) := HZD.out.i (i := 3) rfl
        have t4 : wr.cell? ⟨w.heap.size + 1, 4, none⟩ = some (.int .i32 d.dp) := HZD.out.i (i := 4) rfl
        have s0 : wr.cell? ⟨w.heap.size, 0, none⟩ = some (.int .u32 0) := HZR.out.i (i := 0) rfl
        have s1 : wr.cell? ⟨w.heap.size, 1, none⟩ = some (.int .u32 0) := HZR.out.i (i := 1) rfl
        have s2 : wr.cell? ⟨w.heap.size, 2, none⟩ = some (.int .i32 0) := HZR.out.i (i := 2) rfl
        have s3 : wr.cell? ⟨w.heap.size, 3, none⟩ = some (.int .i32 0) := HZR.out.i (i := 3) rfl
        have s4 : wr.cell? ⟨w.heap.size, 4, none⟩ = some (.int .i32 0) := HZR.out.i (i := 4) rfl
        have u0 : wr.frozen? ⟨w.heap.size, 0, none⟩ = false := HZR.out.frz 0
        have u1 : wr.frozen? ⟨w.heap.size, 1, none⟩ = false := HZR.out.frz 1
        have u2 : wr.frozen? ⟨w.heap.size, 2, none⟩ = false := HZR.out.frz 2
        have u3 : wr.frozen? ⟨w.heap.size, 3, none⟩ = false := HZR.out.frz 3
        have u4 : wr.frozen? ⟨w.heap.size, 4, none⟩ = false := HZR.out.frz 4
        have hsz0 := HZD.out.lt
        have HE := Lib.hid (show d = deepC L by rw [HDD.out, HD.out, List.take_of_length_le (by rw [HN.out]; omega)])
        clear zd gg
        go_wp2_with fail
        have HS := HZR.out.set [.int .u32 d.lo, .int .u32 d.hi, .int .i32 d.nx, .int .i32 d.ny, .int .i32 d.dp] (by simp)
        have HK := Lib.hid (kep_setAll (b := w.heap.size) (by omega) [.int .u32 d.lo, .int .u32 d.hi, .int .i32 d.nx, .int .i32 d.ny, .int .i32 d.dp] 0 HG.out)
        simp only [setAll, Nat.zero_add, Nat.reduceAdd] at HS HK
        have hs0 := HS.i (i := 0) rfl
        have hs1 := HS.i (i := 1) rfl
        have hs2 := HS.i (i := 2) rfl
        have hs3 := HS.i (i := 3) rfl
        have hs4 := HS.i (i := 4) rfl
        refine bodyPost_ret (v := .tuple #[.agg #[.int .u32 d.lo, .int .u32 d.hi, .int .i32 d.nx, .int .i32 d.ny, .int .i32 d.dp], .bool true]) (by simp [results, Tryz.results11, go_sem, hs0, hs1, hs2, hs3, hs4]) rfl ⟨?_, HK.out⟩
        first | (rw [← HE.out]; done) | (rw [← HE.out, decide_eq_true hpos])
end Go.Proofs.YtangalkbjochjaaGreatDoor
