/-
  Package contacts: the reference.
-/
import Derived.Test.YtangalkbjochjaaGreatDoorCtsMath
import Derived.Test.YtangalkbjochjaaGreatDoorConRef
import Derived.Test.YtangalkbjochjaaGreatDoorJ15PairsRef1
import Derived.Test.YtangalkbjochjaaGreatDoorJ03Fac
import Derived.Deep.DeepCutAuto
import Derived.Deep.QuietTactic
import Derived.BigQuiet
namespace Go.Proofs.YtangalkbjochjaaGreatDoor
open Go.RowKit Go.Lib

theorem info_con : (Tryz.prog.info? 35).map (fun i => (i.zero, i.size, i.bytes)) = some (some (.agg #[.int .u32 0, .int .u32 0, .int .i32 0, .int .i32 0, .int .i32 0]), 5, 20) := by kernel_rfl
theorem lowB_lt {x y : Bd} (h : x.k < y.k) : lowB x y = x ∧ higB x y = y := by
  unfold lowB higB
  rw [if_neg (by omega), if_neg (by omega)]
  exact ⟨rfl, rfl⟩
abbrev RKa (L : List Bd) : Prop := ∀ v w, Lst w v L → Calls Tryz.prog 13 #[v] w fun e w' => ∃ v', e = .returned v' ∧ Sq ctv 5 w' v' (consL L) ∧ Kep w.heap.size w w'
abbrev RKw (L : List Ct) (key : Int) : Prop := ∀ v w, Sq ctv 5 w v L → Calls Tryz.prog 15 #[v, .int .u32 key] w fun e w' => ∃ v', e = .returned v' ∧ Sq ctv 5 w' v' (withC L key) ∧ Kep w.heap.size w w'
theorem ct_ncmp (l h p q d : Int) (w : World) : (binOp .neq 35 (.agg #[.int .u32 l, .int .u32 h, .int .i32 p, .int .i32 q, .int .i32 d]) (.agg #[.int .u32 l, .int .u32 h, .int .i32 p, .int .i32 q, .int .i32 d])).run Tryz.prog w = .ok (.bool false) w := by simp [go_sem]
set_option maxRecDepth 100000 in
set_option maxHeartbeats 2000000 in
theorem rks (L : List Ct) (hm : L.length ≤ 1000000000) (va vb : Value) (w : World) (h1 : Sq ctv 5 w va L) (h2 : Sq ctv 5 w vb L) : Calls Tryz.prog 12 #[va, vb] w fun e w' => e = .returned (.bool true) ∧ Kep w.heap.size w w' := by
  obtain ⟨b1, c1, rfl, H1⟩ := h1
  obtain ⟨b2, c2, rfl, H2⟩ := h2
  have G1 := Lib.hid H1
  have G2 := Lib.hid H2
  clear H1 H2
  generalize hn : L.length = n at *
  have HN := Lib.hid hn
  clear hn
  go_enter Tryz.func12, Tryz.ntmps12
  go_wp2_with fail
  go_loopw [5] (fun i wr => ∃ k : Nat, k ≤ n ∧ i = .int .i64 k ∧ ∃ j, wr = w.drewN j) (fun i _ => n - (RowKit.intOf i).toNat)
  case atStart => exact ⟨0, by omega, rfl, 0, rfl⟩
  case round =>
    obtain ⟨k, hk, rfl, j, rfl⟩ := hrel
    by_cases hlt : k < n
    · have hb : L[k]? = some (L[k]'(by rw [HN.out]; exact hlt)) := List.getElem?_eq_getElem _
      generalize L[k]'(by rw [HN.out]; exact hlt) = x at hb
      obtain ⟨g1, o1, rfl, q1⟩ := G1.out k x hb
      obtain ⟨g2, o2, rfl, q2⟩ := G2.out k x hb
      have f0 : w.cell? ⟨g1, o1 + k * 5, none⟩ = some (.int .u32 x.lo) := q1 0 _ rfl
      have f1 : w.cell? ⟨g1, o1 + k * 5 + 1, none⟩ = some (.int .u32 x.hi) := q1 1 _ rfl
      have f2 : w.cell? ⟨g1, o1 + k * 5 + 2, none⟩ = some (.int .i32 x.nx) := q1 2 _ rfl
      have f3 : w.cell? ⟨g1, o1 + k * 5 + 3, none⟩ = some (.int .i32 x.ny) := q1 3 _ rfl
      have f4 : w.cell? ⟨g1, o1 + k * 5 + 4, none⟩ = some (.int .i32 x.dp) := q1 4 _ rfl
      have h0 : w.cell? ⟨g2, o2 + k * 5, none⟩ = some (.int .u32 x.lo) := q2 0 _ rfl
      have h1 : w.cell? ⟨g2, o2 + k * 5 + 1, none⟩ = some (.int .u32 x.hi) := q2 1 _ rfl
      have h2 : w.cell? ⟨g2, o2 + k * 5 + 2, none⟩ = some (.int .i32 x.nx) := q2 2 _ rfl
      have h3 : w.cell? ⟨g2, o2 + k * 5 + 3, none⟩ = some (.int .i32 x.ny) := q2 3 _ rfl
      have h4 : w.cell? ⟨g2, o2 + k * 5 + 4, none⟩ = some (.int .i32 x.dp) := q2 4 _ rfl
      have v1 := fun w => ct_ncmp x.lo x.hi x.nx x.ny x.dp w
      clear hb q1 q2
      go_wp2_with fail
      go_quiet (fail)
      go_wp2_with fail
      go_roundw
      case rel => exact ⟨k + 1, by omega, by go_num, _, rfl⟩
      case measure => simp [RowKit.intOf]; omega
    · go_wp2_with fail
      go_ret
      exact ⟨rfl, kep_drewN (Kep.refl _ _) _⟩
theorem withC_at {L : List Ct} {k : Nat} {c : Ct} {key : Int} (h : L[k]? = some c) : withC (L.drop k) key = if c.lo = key ∨ c.hi = key then c :: withC (L.drop (k + 1)) key else withC (L.drop (k + 1)) key := by
  obtain ⟨hk, e⟩ := List.getElem?_eq_some_iff.1 h
  rw [List.drop_eq_getElem_cons hk, e]
  unfold withC
  by_cases q : c.lo = key ∨ c.hi = key
  · rw [if_pos q, List.filter_cons_of_pos (p := fun c : Ct => decide (c.lo = key ∨ c.hi = key)) (decide_eq_true q)]
  · rw [if_neg q, List.filter_cons_of_neg (p := fun c : Ct => decide (c.lo = key ∨ c.hi = key)) (fun e => q (of_decide_eq_true e))]
theorem withC_len (L : List Ct) (key : Int) : (withC L key).length ≤ L.length := List.length_filter_le _ _
set_option maxRecDepth 100000 in
set_option maxHeartbeats 4000000 in
theorem rkw (L : List Ct) (hm : L.length ≤ 1000000) (key : Int) : RKw L key := fun v w h => by
  obtain ⟨base, cap, rfl, hc⟩ := h
  have HC := Lib.hid hc
  have HPM := Lib.hid (withC_len L key)
  clear hc
  generalize hl : L.length = len at *
  have HN := Lib.hid hl
  clear hl
  go_enter Tryz.func15, Tryz.ntmps15
  go_wp2_with fail
  go_loopw [5, 6] (fun out i wr => ∃ k : Nat, k ≤ len ∧ i = .int .i64 k ∧ Hid (∃ P, P ++ withC (L.drop k) key = withC L key ∧ wr.ownsRow w.heap.size 35 5 out P.length (P.flatMap ctv) ∧ Kep w.heap.size w wr)) (fun _ i _ => len - (RowKit.intOf i).toNat)
  case atStart => exact ⟨0, by omega, rfl, Lib.hid ⟨[], by simp, World.ownsRow_nil _ _ _ _, Kep.refl _ _⟩⟩
  case round =>
    obtain ⟨k, hk, rfl, HP⟩ := hrel
    by_cases hlt : k < len
    · have hb : L[k]? = some (L[k]'(by rw [HN.out]; exact hlt)) := List.getElem?_eq_getElem _
      generalize L[k]'(by rw [HN.out]; exact hlt) = x at hb
      obtain ⟨gl, off, rfl, qx⟩ := HC.out k x hb
      obtain ⟨P, hp, ho, gg⟩ := HP.out
      rw [withC_at hb] at hp
      have HO := Lib.hid ho
      have hpl : P.length ≤ len := by have := HPM.out; rw [← hp, List.length_append] at this; omega
      have s0 : wr.cell? ⟨gl, off + k * 5, none⟩ = some (.int .u32 x.lo) := gg.all (qx 0 _ rfl)
      have s1 : wr.cell? ⟨gl, off + k * 5 + 1, none⟩ = some (.int .u32 x.hi) := gg.all (qx 1 _ rfl)
      have s2 : wr.cell? ⟨gl, off + k * 5 + 2, none⟩ = some (.int .i32 x.nx) := gg.all (qx 2 _ rfl)
      have s3 : wr.cell? ⟨gl, off + k * 5 + 3, none⟩ = some (.int .i32 x.ny) := gg.all (qx 3 _ rfl)
      have s4 : wr.cell? ⟨gl, off + k * 5 + 4, none⟩ = some (.int .i32 x.dp) := gg.all (qx 4 _ rfl)
      clear hb qx HP ho
      by_cases c : x.lo = key ∨ x.hi = key
      · rw [if_pos c] at hp
        have HPE := Lib.hid hp
        clear hp
        by_cases c0 : x.lo = key
        · have d0 : (x.lo == key) = true := beq_iff_eq.2 c0
          clear c c0
          go_wp2_with (first
            | (at_builtin; refine wpList_app ctv 5 ctv_len ctv_one rfl _ _ 23 rfl 35 _ 20 Tryz.underlying23 info_con rfl (by decide) w.heap.size _ _ P x rfl HO.out _ (by first | rfl | simp) rfl _ rfl (by unfold maxLen; omega) (by omega) gg.size ?_; intro v3 w3 o3 k3))
          have HM : Hid (∃ P, P ++ withC (L.drop (k + 1)) key = withC L key ∧ w3.ownsRow w.heap.size 35 5 v3 P.length (P.flatMap ctv) ∧ Kep w.heap.size w w3) := Lib.hid ⟨P ++ [x], by have := HPE.out; simpa using this, o3, gg.trans k3⟩
          clear o3 k3
          go_roundw
          case rel => exact ⟨k + 1, by omega, by go_num, HM⟩
          case measure => simp [RowKit.intOf]; omega
        · have d0 : (x.lo == key) = false := beq_eq_false_iff_ne.2 c0
          have d1 : (x.hi == key) = true := beq_iff_eq.2 (by omega)
          clear c c0
          go_wp2_with (first
            | (at_builtin; refine wpList_app ctv 5 ctv_len ctv_one rfl _ _ 23 rfl 35 _ 20 Tryz.underlying23 info_con rfl (by decide) w.heap.size _ _ P x rfl HO.out _ (by first | rfl | simp) rfl _ rfl (by unfold maxLen; omega) (by omega) gg.size ?_; intro v3 w3 o3 k3))
          have HM : Hid (∃ P, P ++ withC (L.drop (k + 1)) key = withC L key ∧ w3.ownsRow w.heap.size 35 5 v3 P.length (P.flatMap ctv) ∧ Kep w.heap.size w w3) := Lib.hid ⟨P ++ [x], by have := HPE.out; simpa using this, o3, gg.trans k3⟩
          clear o3 k3
          go_roundw
          case rel => exact ⟨k + 1, by omega, by go_num, HM⟩
          case measure => simp [RowKit.intOf]; omega
      · rw [if_neg c] at hp
        have HPE := Lib.hid hp
        have d0 : (x.lo == key) = false := beq_eq_false_iff_ne.2 (by omega)
        have d1 : (x.hi == key) = false := beq_eq_false_iff_ne.2 (by omega)
        clear hp c
        go_wp2_with fail
        go_roundw
        case rel => exact ⟨k + 1, by omega, by go_num, Lib.hid ⟨P, by have := HPE.out; simpa using this, HO.out, gg⟩⟩
        case measure => simp [RowKit.intOf]; omega
    · obtain rfl : k = len := by omega
      go_wp2_with fail
      go_ret
      obtain ⟨P, h1, h2, h3⟩ := HP.out
      rw [List.drop_of_length_le (by rw [HN.out]; omega)] at h1
      rw [show P = withC L key by rw [← h1]; simp [withC]] at h2
      exact ⟨_, rfl, own_sq ctv_len h2, h3⟩
set_option maxRecDepth 100000 in
set_option maxHeartbeats 8000000 in
theorem rka (L : List Bd) (hm : L.length ≤ 40) (hA : Asc L) (HV : Hid (∀ x ∈ L, okC x)) : RKa L := fun v w h => by
  obtain ⟨base, cap, rfl⟩ := h.shape
  have HC := Lib.hid (fun (k : Nat) (x : Bd) (hx : L[k]? = some x) => h.at_ hx)
  have HPM := Lib.hid (cons_max hm)
  have HA := Lib.hid hA
  clear h hA
  generalize hl : L.length = len at *
  have HN := Lib.hid hl
  clear hl
  go_enter Tryz.func13, Tryz.ntmps13
  go_wp2_with fail
  go_loopw [3, 4] (fun out i wr => ∃ k : Nat, k ≤ len ∧ i = .int .i64 k ∧ Hid (∃ P, P ++ consL (L.drop k) = consL L ∧ wr.ownsRow w.heap.size 35 5 out P.length (P.flatMap ctv) ∧ Kep w.heap.size w wr)) (fun _ i _ => len - (RowKit.intOf i).toNat)
  case atStart => exact ⟨0, by omega, rfl, Lib.hid ⟨[], by simp, World.ownsRow_nil _ _ _ _, Kep.refl _ _⟩⟩
  case round =>
    obtain ⟨k, hk, rfl, HP⟩ := hrel
    by_cases hlt : k < len
    · have hb : L[k]? = some (L[k]'(by rw [HN.out]; exact hlt)) := List.getElem?_eq_getElem _
      generalize L[k]'(by rw [HN.out]; exact hlt) = x at hb
      obtain ⟨gl, off, rfl, qx⟩ := HC.out k x hb
      have HQX := Lib.hid qx
      have HX := Lib.hid hb
      clear hb qx
      go_wp2_with fail
      go_loopw [3, 5] (fun out j wr => ∃ l : Nat, k < l ∧ l ≤ len ∧ j = .int .i64 l ∧ Hid (∃ P, P ++ (conO x (L.drop l) ++ consL (L.drop (k + 1))) = consL L ∧ wr.ownsRow w.heap.size 35 5 out P.length (P.flatMap ctv) ∧ Kep w.heap.size w wr)) (fun _ j _ => len - (RowKit.intOf j).toNat)
      case atStart => exact ⟨k + 1, by omega, by omega, by go_num, Lib.hid (by
        obtain ⟨P, h1, h2, h3⟩ := HP.out
        exact ⟨P, by rw [← cons_at HX.out]; exact h1, h2, h3⟩)⟩
      case round =>
        obtain ⟨l, hkl, hl, rfl, HR⟩ := hrel
        by_cases hlt2 : l < len
        · have hb : L[l]? = some (L[l]'(by rw [HN.out]; exact hlt2)) := List.getElem?_eq_getElem _
          generalize L[l]'(by rw [HN.out]; exact hlt2) = y at hb
          obtain ⟨_, _, e0, qy⟩ := HC.out l y hb
          injection e0 with e0
          injection e0 with e1 e2
          subst e1 e2
          have HQY := Lib.hid qy
          have RO := Lib.hid (kro_lt (HV.out x (List.mem_of_getElem? HX.out)) (HV.out y (List.mem_of_getElem? hb)) (asc_lt HA.out HX.out hb hkl))
          have HCV : Hid (tchB x y = true → conV x y = conC x y) := Lib.hid (fun t => by unfold conV; rw [if_pos t])
          obtain ⟨P, hp, ho, gg⟩ := HR.out
          rw [conO_at hb] at hp
          generalize hz : tchB x y = z at *
          generalize hv : conV x y = v at *
          have HO := Lib.hid ho
          have HPE := Lib.hid hp
          have hpl : P.length ≤ 780 := by have := HPM.out; rw [← hp, List.length_append] at this; omega
          have hgl : gl < w.heap.size := World.block_lt_of_cell? _ _ (HQX.out 0 (by decide))
          have hgw := gg.size
          have HG := Lib.hid gg
          clear hb qy hz hv HR hp ho
          have s0 : wr.cell? ⟨gl, off + k * 10, none⟩ = some (.int .u32 x.k) := HG.out.all (HQX.out 0 (by decide))
          have s1 : wr.cell? ⟨gl, off + k * 10 + 1, none⟩ = some (.int .i32 x.r) := HG.out.all (HQX.out 1 (by decide))
          have s2 : wr.cell? ⟨gl, off + k * 10 + 2, none⟩ = some (.int .i32 x.ax) := HG.out.all (HQX.out 2 (by decide))
          have s3 : wr.cell? ⟨gl, off + k * 10 + 3, none⟩ = some (.int .i32 x.ay) := HG.out.all (HQX.out 3 (by decide))
          have s4 : wr.cell? ⟨gl, off + k * 10 + 4, none⟩ = some (.int .i32 x.m) := HG.out.all (HQX.out 4 (by decide))
          have s5 : wr.cell? ⟨gl, off + k * 10 + 5, none⟩ = some (.int .i32 x.o) := HG.out.all (HQX.out 5 (by decide))
          have s6 : wr.cell? ⟨gl, off + k * 10 + 6, none⟩ = some (.int .i32 x.px) := HG.out.all (HQX.out 6 (by decide))
          have s7 : wr.cell? ⟨gl, off + k * 10 + 7, none⟩ = some (.int .i32 x.py) := HG.out.all (HQX.out 7 (by decide))
          have s8 : wr.cell? ⟨gl, off + k * 10 + 8, none⟩ = some (.int .i32 x.vx) := HG.out.all (HQX.out 8 (by decide))
          have s9 : wr.cell? ⟨gl, off + k * 10 + 9, none⟩ = some (.int .i32 x.vy) := HG.out.all (HQX.out 9 (by decide))
          have t0 : wr.cell? ⟨gl, off + l * 10, none⟩ = some (.int .u32 y.k) := HG.out.all (HQY.out 0 (by decide))
          have t1 : wr.cell? ⟨gl, off + l * 10 + 1, none⟩ = some (.int .i32 y.r) := HG.out.all (HQY.out 1 (by decide))
          have t2 : wr.cell? ⟨gl, off + l * 10 + 2, none⟩ = some (.int .i32 y.ax) := HG.out.all (HQY.out 2 (by decide))
          have t3 : wr.cell? ⟨gl, off + l * 10 + 3, none⟩ = some (.int .i32 y.ay) := HG.out.all (HQY.out 3 (by decide))
          have t4 : wr.cell? ⟨gl, off + l * 10 + 4, none⟩ = some (.int .i32 y.m) := HG.out.all (HQY.out 4 (by decide))
          have t5 : wr.cell? ⟨gl, off + l * 10 + 5, none⟩ = some (.int .i32 y.o) := HG.out.all (HQY.out 5 (by decide))
          have t6 : wr.cell? ⟨gl, off + l * 10 + 6, none⟩ = some (.int .i32 y.px) := HG.out.all (HQY.out 6 (by decide))
          have t7 : wr.cell? ⟨gl, off + l * 10 + 7, none⟩ = some (.int .i32 y.py) := HG.out.all (HQY.out 7 (by decide))
          have t8 : wr.cell? ⟨gl, off + l * 10 + 8, none⟩ = some (.int .i32 y.vx) := HG.out.all (HQY.out 8 (by decide))
          have t9 : wr.cell? ⟨gl, off + l * 10 + 9, none⟩ = some (.int .i32 y.vy) := HG.out.all (HQY.out 9 (by decide))
          clear gg
          have gg : Kep wr.heap.size wr wr := Kep.refl _ _
          go_wp2_with fail
          go_cut [6, 7] (fun s6 s7 wx => ∃ b, s6 = .pointer (some ⟨b, 0, none⟩) ∧ s7 = .bool z ∧ ZC wx b [.int .u32 v.lo, .int .u32 v.hi, .int .i32 v.nx, .int .i32 v.ny, .int .i32 v.dp] ∧ Kep wr.heap.size wr wx)
          case first =>
            refine wp_region_noPanic ?_
            refine wp_region_held_drew (S := (fun w' => w'.cell? ⟨gl, off + k * 10, none⟩ = some (.int .u32 x.k) ∧ w'.cell? ⟨gl, off + k * 10 + 1, none⟩ = some (.int .i32 x.r) ∧ w'.cell? ⟨gl, off + k * 10 + 2, none⟩ = some (.int .i32 x.ax) ∧ w'.cell? ⟨gl, off + k * 10 + 3, none⟩ = some (.int .i32 x.ay) ∧ w'.cell? ⟨gl, off + k * 10 + 4, none⟩ = some (.int .i32 x.m) ∧ w'.cell? ⟨gl, off + k * 10 + 5, none⟩ = some (.int .i32 x.o) ∧ w'.cell? ⟨gl, off + k * 10 + 6, none⟩ = some (.int .i32 x.px) ∧ w'.cell? ⟨gl, off + k * 10 + 7, none⟩ = some (.int .i32 x.py) ∧ w'.cell? ⟨gl, off + k * 10 + 8, none⟩ = some (.int .i32 x.vx) ∧ w'.cell? ⟨gl, off + k * 10 + 9, none⟩ = some (.int .i32 x.vy) ∧ w'.cell? ⟨gl, off + l * 10, none⟩ = some (.int .u32 y.k) ∧ w'.cell? ⟨gl, off + l * 10 + 1, none⟩ = some (.int .i32 y.r) ∧ w'.cell? ⟨gl, off + l * 10 + 2, none⟩ = some (.int .i32 y.ax) ∧ w'.cell? ⟨gl, off + l * 10 + 3, none⟩ = some (.int .i32 y.ay) ∧ w'.cell? ⟨gl, off + l * 10 + 4, none⟩ = some (.int .i32 y.m) ∧ w'.cell? ⟨gl, off + l * 10 + 5, none⟩ = some (.int .i32 y.o) ∧ w'.cell? ⟨gl, off + l * 10 + 6, none⟩ = some (.int .i32 y.px) ∧ w'.cell? ⟨gl, off + l * 10 + 7, none⟩ = some (.int .i32 y.py) ∧ w'.cell? ⟨gl, off + l * 10 + 8, none⟩ = some (.int .i32 y.vx) ∧ w'.cell? ⟨gl, off + l * 10 + 9, none⟩ = some (.int .i32 y.vy) ∧ Kep wr.heap.size wr w')) (by kernel_rfl) (⟨by rw [World.cell?_drew]; exact s0, by rw [World.cell?_drew]; exact s1, by rw [World.cell?_drew]; exact s2, by rw [World.cell?_drew]; exact s3, by rw [World.cell?_drew]; exact s4, by rw [World.cell?_drew]; exact s5, by rw [World.cell?_drew]; exact s6, by rw [World.cell?_drew]; exact s7, by rw [World.cell?_drew]; exact s8, by rw [World.cell?_drew]; exact s9, by rw [World.cell?_drew]; exact t0, by rw [World.cell?_drew]; exact t1, by rw [World.cell?_drew]; exact t2, by rw [World.cell?_drew]; exact t3, by rw [World.cell?_drew]; exact t4, by rw [World.cell?_drew]; exact t5, by rw [World.cell?_drew]; exact t6, by rw [World.cell?_drew]; exact t7, by rw [World.cell?_drew]; exact t8, by rw [World.cell?_drew]; exact t9, kep_drew gg⟩) (fun hH => ?_)
            refine rtk 0 (oi := ⟨some 23, .move (.tmp 0), _, _, _, none⟩) (v := ?_) rfl ?_ hH ?_
            rotate_left
            · (intro w hSw; (try dsimp only at hSw); go_simp; (try with_reducible rfl))
            refine rtk 1 (oi := ⟨some 24, .move (.tmp 4), _, _, _, none⟩) (v := ?_) rfl ?_ hH ?_
            rotate_left
            · (intro w hSw; (try dsimp only at hSw); go_simp; (try with_reducible rfl))
            refine rtk 2 (oi := ⟨some 25, .indexAddr 22 (.tmp 23) (.tmp 24), _, _, _, none⟩) (v := ?_) rfl ?_ hH ?_
            rotate_left
            · (intro w hSw; (try dsimp only at hSw); go_simp; (try with_reducible rfl))
            refine rtk 3 (oi := ⟨some 26, .load 46 (.tmp 25), _, _, _, none⟩) (v := ?_) rfl ?_ hH ?_
            rotate_left
            · (intro w hSw; (try dsimp only at hSw); go_simp; (try with_reducible rfl))
            refine rtk 4 (oi := ⟨some 27, .move (.tmp 0), _, _, _, none⟩) (v := ?_) rfl ?_ hH ?_
            rotate_left
            · (intro w hSw; (try dsimp only at hSw); go_simp; (try with_reducible rfl))
            refine rtk 5 (oi := ⟨some 28, .move (.tmp 5), _, _, _, none⟩) (v := ?_) rfl ?_ hH ?_
            rotate_left
            · (intro w hSw; (try dsimp only at hSw); go_simp; (try with_reducible rfl))
            refine rtk 6 (oi := ⟨some 29, .indexAddr 22 (.tmp 27) (.tmp 28), _, _, _, none⟩) (v := ?_) rfl ?_ hH ?_
            rotate_left
            · (intro w hSw; (try dsimp only at hSw); go_simp; (try with_reducible rfl))
            refine rtk 7 (oi := ⟨some 30, .load 46 (.tmp 29), _, _, _, none⟩) (v := ?_) rfl ?_ hH ?_
            rotate_left
            · (intro w hSw; (try dsimp only at hSw); go_simp; (try with_reducible rfl))
            try simp only [Act.put, List.setIfInBounds_toArray, List.set_cons_zero, List.set_cons_succ]
            refine wpAnyH_ready (rs := [8, 12]) (by kernel_rfl) (by simp) ?_
            refine AllReadyH.cons (o := ⟨some 31, .call { callee := .value (.func 18), args := #[.tmp 26, .tmp 30], argTypes := #[46, 46] }, _, _, _, none⟩) rfl (fun K hK => ?_) (AllReadyH.cons (o := ⟨some 6, .alloc 35, _, _, _, none⟩) rfl (fun K hK => ?_) AllReadyH.nil)
            ·
              go_simp
              (with_reducible refine (RO.out _).mono ?_); rintro e v8_1 ⟨rfl, g⟩
              refine hK.out _ _ (by (try dsimp only); (go_split_ands; exact ⟨Kep.all g (by assumption), Kep.all g (by assumption), Kep.all g (by assumption), Kep.all g (by assumption), Kep.all g (by assumption), Kep.all g (by assumption), Kep.all g (by assumption), Kep.all g (by assumption), Kep.all g (by assumption), Kep.all g (by assumption), Kep.all g (by assumption), Kep.all g (by assumption), Kep.all g (by assumption), Kep.all g (by assumption), Kep.all g (by assumption), Kep.all g (by assumption), Kep.all g (by assumption), Kep.all g (by assumption), Kep.all g (by assumption), Kep.all g (by assumption), kep_next (by assumption) g⟩)) (fun hH2 => ?_)
              clear hK K hH; have hH := hH2; clear hH2
              refine rtk 9 (oi := ⟨some 22, .move (.tmp 31), _, _, _, none⟩) (v := ?_) rfl ?_ hH ?_
              rotate_left
              · (intro w hSw; (try dsimp only at hSw); go_simp; (try with_reducible rfl))
              refine rtk 10 (oi := ⟨some 32, .extract (.tmp 22) 0, _, _, _, none⟩) (v := ?_) rfl ?_ hH ?_
              rotate_left
              · (intro w hSw; (try dsimp only at hSw); go_simp; (try with_reducible rfl))
              refine rtk 11 (oi := ⟨some 33, .extract (.tmp 22) 1, _, _, _, none⟩) (v := ?_) rfl ?_ hH ?_
              rotate_left
              · (intro w hSw; (try dsimp only at hSw); go_simp; (try with_reducible rfl))
              try simp only [Act.put, List.setIfInBounds_toArray, List.set_cons_zero, List.set_cons_succ]
              refine wpAnyH_ready (rs := [12]) (by kernel_rfl) (by simp) ?_
              refine AllReadyH.cons (o := ⟨some 6, .alloc 35, _, _, _, none⟩) rfl (fun K hK => ?_) AllReadyH.nil
              go_simp
              have z1 : ZC (World.alloc (v8_1) (.cells #[.int .u32 0, .int .u32 0, .int .i32 0, .int .i32 0, .int .i32 0] 35)) (v8_1).heap.size [.int .u32 0, .int .u32 0, .int .i32 0, .int .i32 0, .int .i32 0] := zc_new _ _ _
              have z1b : wr.heap.size ≤ (v8_1).heap.size := by obtain ⟨s0, s1, s2, s3, s4, s5, s6, s7, s8, s9, t0, t1, t2, t3, t4, t5, t6, t7, t8, t9, gg⟩ := id hH; exact gg.size
              refine hK.out _ _ (by (try dsimp only); (go_split_ands; exact ⟨Kep.all (kep_more (Kep.refl _ _) _) (by assumption), Kep.all (kep_more (Kep.refl _ _) _) (by assumption), Kep.all (kep_more (Kep.refl _ _) _) (by assumption), Kep.all (kep_more (Kep.refl _ _) _) (by assumption), Kep.all (kep_more (Kep.refl _ _) _) (by assumption), Kep.all (kep_more (Kep.refl _ _) _) (by assumption), Kep.all (kep_more (Kep.refl _ _) _) (by assumption), Kep.all (kep_more (Kep.refl _ _) _) (by assumption), Kep.all (kep_more (Kep.refl _ _) _) (by assumption), Kep.all (kep_more (Kep.refl _ _) _) (by assumption), Kep.all (kep_more (Kep.refl _ _) _) (by assumption), Kep.all (kep_more (Kep.refl _ _) _) (by assumption), Kep.all (kep_more (Kep.refl _ _) _) (by assumption), Kep.all (kep_more (Kep.refl _ _) _) (by assumption), Kep.all (kep_more (Kep.refl _ _) _) (by assumption), Kep.all (kep_more (Kep.refl _ _) _) (by assumption), Kep.all (kep_more (Kep.refl _ _) _) (by assumption), Kep.all (kep_more (Kep.refl _ _) _) (by assumption), Kep.all (kep_more (Kep.refl _ _) _) (by assumption), Kep.all (kep_more (Kep.refl _ _) _) (by assumption), kep_more (by assumption) _⟩)) (fun hH2 => ?_)
              try simp only [World.size_drew] at z1 z1b
              have hH_z1 := hH
              clear hK K hH; have hH := hH2; clear hH2
              try simp only [Act.put, List.setIfInBounds_toArray, List.set_cons_zero, List.set_cons_succ]
              refine wpAnyH_ready (rs := [13]) (by kernel_rfl) (by simp) ?_
              refine AllReadyH.cons (o := ⟨none, .store 35 (.tmp 6) (.tmp 32), _, _, _, none⟩) rfl (fun K hK => ?_) AllReadyH.nil
              obtain ⟨s0, s1, s2, s3, s4, s5, s6, s7, s8, s9, t0, t1, t2, t3, t4, t5, t6, t7, t8, t9, gg⟩ := id hH
              have z1q0 := z1.i (i := 0) rfl; have z1f0 := z1.frz 0
              have z1q1 := z1.i (i := 1) rfl; have z1f1 := z1.frz 1
              have z1q2 := z1.i (i := 2) rfl; have z1f2 := z1.frz 2
              have z1q3 := z1.i (i := 3) rfl; have z1f3 := z1.frz 3
              have z1q4 := z1.i (i := 4) rfl; have z1f4 := z1.frz 4
              go_simp
              have z1' : ZC (World.alloc (v8_1) (.cells #[.int .u32 v.lo, .int .u32 v.hi, .int .i32 v.nx, .int .i32 v.ny, .int .i32 v.dp] 35)) (v8_1).heap.size [.int .u32 v.lo, .int .u32 v.hi, .int .i32 v.nx, .int .i32 v.ny, .int .i32 v.dp] := zc_new _ _ _
              try simp only [World.size_drew] at z1'
              clear z1; have z1 := z1'; clear z1'
              refine hK.out _ _ (by (try dsimp only); obtain ⟨s0, s1, s2, s3, s4, s5, s6, s7, s8, s9, t0, t1, t2, t3, t4, t5, t6, t7, t8, t9, gg⟩ := id hH_z1; exact ⟨Kep.all (kep_more (Kep.refl _ _) _) s0, Kep.all (kep_more (Kep.refl _ _) _) s1, Kep.all (kep_more (Kep.refl _ _) _) s2, Kep.all (kep_more (Kep.refl _ _) _) s3, Kep.all (kep_more (Kep.refl _ _) _) s4, Kep.all (kep_more (Kep.refl _ _) _) s5, Kep.all (kep_more (Kep.refl _ _) _) s6, Kep.all (kep_more (Kep.refl _ _) _) s7, Kep.all (kep_more (Kep.refl _ _) _) s8, Kep.all (kep_more (Kep.refl _ _) _) s9, Kep.all (kep_more (Kep.refl _ _) _) t0, Kep.all (kep_more (Kep.refl _ _) _) t1, Kep.all (kep_more (Kep.refl _ _) _) t2, Kep.all (kep_more (Kep.refl _ _) _) t3, Kep.all (kep_more (Kep.refl _ _) _) t4, Kep.all (kep_more (Kep.refl _ _) _) t5, Kep.all (kep_more (Kep.refl _ _) _) t6, Kep.all (kep_more (Kep.refl _ _) _) t7, Kep.all (kep_more (Kep.refl _ _) _) t8, Kep.all (kep_more (Kep.refl _ _) _) t9, kep_more gg _⟩) (fun hH2 => ?_)
              clear hH_z1
              clear hK K hH s0 s1 s2 s3 s4 s5 s6 s7 s8 s9 t0 t1 t2 t3 t4 t5 t6 t7 t8 t9 gg z1q0 z1f0 z1q1 z1f1 z1q2 z1f2 z1q3 z1f3 z1q4 z1f4; have hH := hH2; clear hH2
              refine rtk 14 (oi := ⟨some 7, .assign (.tmp 33), _, _, _, none⟩) (v := ?_) rfl ?_ hH ?_
              rotate_left
              · (intro w hSw; (try dsimp only at hSw); go_simp; (try with_reducible rfl))
              try simp only [Act.put, List.setIfInBounds_toArray, List.set_cons_zero, List.set_cons_succ]
              refine wpAnyH_done (by kernel_rfl) ?_ _
              refine NoPanic.normal ?_
              obtain ⟨s0, s1, s2, s3, s4, s5, s6, s7, s8, s9, t0, t1, t2, t3, t4, t5, t6, t7, t8, t9, gg⟩ := hH
              go_wp2_with fail
              go_meet
              exact ⟨_, rfl, rfl, z1, gg⟩
            ·
              go_simp
              have z1 : ZC (World.alloc (wr.drew) (.cells #[.int .u32 0, .int .u32 0, .int .i32 0, .int .i32 0, .int .i32 0] 35)) (wr.drew).heap.size [.int .u32 0, .int .u32 0, .int .i32 0, .int .i32 0, .int .i32 0] := zc_new _ _ _
              have z1b : wr.heap.size ≤ (wr.drew).heap.size := by obtain ⟨s0, s1, s2, s3, s4, s5, s6, s7, s8, s9, t0, t1, t2, t3, t4, t5, t6, t7, t8, t9, gg⟩ := id hH; exact gg.size
              refine hK.out _ _ (by (try dsimp only); (go_split_ands; exact ⟨Kep.all (kep_more (Kep.refl _ _) _) (by assumption), Kep.all (kep_more (Kep.refl _ _) _) (by assumption), Kep.all (kep_more (Kep.refl _ _) _) (by assumption), Kep.all (kep_more (Kep.refl _ _) _) (by assumption), Kep.all (kep_more (Kep.refl _ _) _) (by assumption), Kep.all (kep_more (Kep.refl _ _) _) (by assumption), Kep.all (kep_more (Kep.refl _ _) _) (by assumption), Kep.all (kep_more (Kep.refl _ _) _) (by assumption), Kep.all (kep_more (Kep.refl _ _) _) (by assumption), Kep.all (kep_more (Kep.refl _ _) _) (by assumption), Kep.all (kep_more (Kep.refl _ _) _) (by assumption), Kep.all (kep_more (Kep.refl _ _) _) (by assumption), Kep.all (kep_more (Kep.refl _ _) _) (by assumption), Kep.all (kep_more (Kep.refl _ _) _) (by assumption), Kep.all (kep_more (Kep.refl _ _) _) (by assumption), Kep.all (kep_more (Kep.refl _ _) _) (by assumption), Kep.all (kep_more (Kep.refl _ _) _) (by assumption), Kep.all (kep_more (Kep.refl _ _) _) (by assumption), Kep.all (kep_more (Kep.refl _ _) _) (by assumption), Kep.all (kep_more (Kep.refl _ _) _) (by assumption), kep_more (by assumption) _⟩)) (fun hH2 => ?_)
              try simp only [World.size_drew] at z1 z1b
              have hH_z1 := hH
              clear hK K hH; have hH := hH2; clear hH2
              try simp only [Act.put, List.setIfInBounds_toArray, List.set_cons_zero, List.set_cons_succ]
              refine wpAnyH_ready (rs := [8]) (by kernel_rfl) (by simp) ?_
              refine AllReadyH.cons (o := ⟨some 31, .call { callee := .value (.func 18), args := #[.tmp 26, .tmp 30], argTypes := #[46, 46] }, _, _, _, none⟩) rfl (fun K hK => ?_) AllReadyH.nil
              go_simp
              (with_reducible refine (RO.out _).mono ?_); rintro e v8_2 ⟨rfl, g⟩
              replace z1 := z1.kep g
              refine hK.out _ _ (by (try dsimp only); (go_split_ands; exact ⟨Kep.all g (by assumption), Kep.all g (by assumption), Kep.all g (by assumption), Kep.all g (by assumption), Kep.all g (by assumption), Kep.all g (by assumption), Kep.all g (by assumption), Kep.all g (by assumption), Kep.all g (by assumption), Kep.all g (by assumption), Kep.all g (by assumption), Kep.all g (by assumption), Kep.all g (by assumption), Kep.all g (by assumption), Kep.all g (by assumption), Kep.all g (by assumption), Kep.all g (by assumption), Kep.all g (by assumption), Kep.all g (by assumption), Kep.all g (by assumption), kep_next (by assumption) g⟩)) (fun hH2 => ?_)
              clear hK K hH; have hH := hH2; clear hH2
              refine rtk 9 (oi := ⟨some 22, .move (.tmp 31), _, _, _, none⟩) (v := ?_) rfl ?_ hH ?_
              rotate_left
              · (intro w hSw; (try dsimp only at hSw); go_simp; (try with_reducible rfl))
              refine rtk 10 (oi := ⟨some 32, .extract (.tmp 22) 0, _, _, _, none⟩) (v := ?_) rfl ?_ hH ?_
              rotate_left
              · (intro w hSw; (try dsimp only at hSw); go_simp; (try with_reducible rfl))
              refine rtk 11 (oi := ⟨some 33, .extract (.tmp 22) 1, _, _, _, none⟩) (v := ?_) rfl ?_ hH ?_
              rotate_left
              · (intro w hSw; (try dsimp only at hSw); go_simp; (try with_reducible rfl))
              try simp only [Act.put, List.setIfInBounds_toArray, List.set_cons_zero, List.set_cons_succ]
              refine wpAnyH_ready (rs := [13]) (by kernel_rfl) (by simp) ?_
              refine AllReadyH.cons (o := ⟨none, .store 35 (.tmp 6) (.tmp 32), _, _, _, none⟩) rfl (fun K hK => ?_) AllReadyH.nil
              obtain ⟨s0, s1, s2, s3, s4, s5, s6, s7, s8, s9, t0, t1, t2, t3, t4, t5, t6, t7, t8, t9, gg⟩ := id hH
              have z1q0 := z1.i (i := 0) rfl; have z1f0 := z1.frz 0
              have z1q1 := z1.i (i := 1) rfl; have z1f1 := z1.frz 1
              have z1q2 := z1.i (i := 2) rfl; have z1f2 := z1.frz 2
              have z1q3 := z1.i (i := 3) rfl; have z1f3 := z1.frz 3
              have z1q4 := z1.i (i := 4) rfl; have z1f4 := z1.frz 4
              go_simp
              have hst : (fun w' => w'.cell? ⟨gl, off + k * 10, none⟩ = some (.int .u32 x.k) ∧ w'.cell? ⟨gl, off + k * 10 + 1, none⟩ = some (.int .i32 x.r) ∧ w'.cell? ⟨gl, off + k * 10 + 2, none⟩ = some (.int .i32 x.ax) ∧ w'.cell? ⟨gl, off + k * 10 + 3, none⟩ = some (.int .i32 x.ay) ∧ w'.cell? ⟨gl, off + k * 10 + 4, none⟩ = some (.int .i32 x.m) ∧ w'.cell? ⟨gl, off + k * 10 + 5, none⟩ = some (.int .i32 x.o) ∧ w'.cell? ⟨gl, off + k * 10 + 6, none⟩ = some (.int .i32 x.px) ∧ w'.cell? ⟨gl, off + k * 10 + 7, none⟩ = some (.int .i32 x.py) ∧ w'.cell? ⟨gl, off + k * 10 + 8, none⟩ = some (.int .i32 x.vx) ∧ w'.cell? ⟨gl, off + k * 10 + 9, none⟩ = some (.int .i32 x.vy) ∧ w'.cell? ⟨gl, off + l * 10, none⟩ = some (.int .u32 y.k) ∧ w'.cell? ⟨gl, off + l * 10 + 1, none⟩ = some (.int .i32 y.r) ∧ w'.cell? ⟨gl, off + l * 10 + 2, none⟩ = some (.int .i32 y.ax) ∧ w'.cell? ⟨gl, off + l * 10 + 3, none⟩ = some (.int .i32 y.ay) ∧ w'.cell? ⟨gl, off + l * 10 + 4, none⟩ = some (.int .i32 y.m) ∧ w'.cell? ⟨gl, off + l * 10 + 5, none⟩ = some (.int .i32 y.o) ∧ w'.cell? ⟨gl, off + l * 10 + 6, none⟩ = some (.int .i32 y.px) ∧ w'.cell? ⟨gl, off + l * 10 + 7, none⟩ = some (.int .i32 y.py) ∧ w'.cell? ⟨gl, off + l * 10 + 8, none⟩ = some (.int .i32 y.vx) ∧ w'.cell? ⟨gl, off + l * 10 + 9, none⟩ = some (.int .i32 y.vy) ∧ Kep wr.heap.size wr w') (setAll (v8_2) ((wr).heap.size) 0 [.int .u32 v.lo, .int .u32 v.hi, .int .i32 v.nx, .int .i32 v.ny, .int .i32 v.dp]) := ⟨setAll_far _ _ _ _ (by first | omega | (simp; done) | (simp; omega)) s0, setAll_far _ _ _ _ (by first | omega | (simp; done) | (simp; omega)) s1, setAll_far _ _ _ _ (by first | omega | (simp; done) | (simp; omega)) s2, setAll_far _ _ _ _ (by first | omega | (simp; done) | (simp; omega)) s3, setAll_far _ _ _ _ (by first | omega | (simp; done) | (simp; omega)) s4, setAll_far _ _ _ _ (by first | omega | (simp; done) | (simp; omega)) s5, setAll_far _ _ _ _ (by first | omega | (simp; done) | (simp; omega)) s6, setAll_far _ _ _ _ (by first | omega | (simp; done) | (simp; omega)) s7, setAll_far _ _ _ _ (by first | omega | (simp; done) | (simp; omega)) s8, setAll_far _ _ _ _ (by first | omega | (simp; done) | (simp; omega)) s9, setAll_far _ _ _ _ (by first | omega | (simp; done) | (simp; omega)) t0, setAll_far _ _ _ _ (by first | omega | (simp; done) | (simp; omega)) t1, setAll_far _ _ _ _ (by first | omega | (simp; done) | (simp; omega)) t2, setAll_far _ _ _ _ (by first | omega | (simp; done) | (simp; omega)) t3, setAll_far _ _ _ _ (by first | omega | (simp; done) | (simp; omega)) t4, setAll_far _ _ _ _ (by first | omega | (simp; done) | (simp; omega)) t5, setAll_far _ _ _ _ (by first | omega | (simp; done) | (simp; omega)) t6, setAll_far _ _ _ _ (by first | omega | (simp; done) | (simp; omega)) t7, setAll_far _ _ _ _ (by first | omega | (simp; done) | (simp; omega)) t8, setAll_far _ _ _ _ (by first | omega | (simp; done) | (simp; omega)) t9, kep_setAll (by first | omega | (have := gg.size; simp at *; omega)) _ _ gg⟩
              replace z1 := z1.set [.int .u32 v.lo, .int .u32 v.hi, .int .i32 v.nx, .int .i32 v.ny, .int .i32 v.dp] (by simp)
              simp only [setAll, Nat.zero_add, Nat.reduceAdd] at hst z1
              refine hK.out _ _ hst (fun hH2 => ?_)
              clear hst
              clear hK K hH s0 s1 s2 s3 s4 s5 s6 s7 s8 s9 t0 t1 t2 t3 t4 t5 t6 t7 t8 t9 gg z1q0 z1f0 z1q1 z1f1 z1q2 z1f2 z1q3 z1f3 z1q4 z1f4; have hH := hH2; clear hH2
              refine rtk 14 (oi := ⟨some 7, .assign (.tmp 33), _, _, _, none⟩) (v := ?_) rfl ?_ hH ?_
              rotate_left
              · (intro w hSw; (try dsimp only at hSw); go_simp; (try with_reducible rfl))
              try simp only [Act.put, List.setIfInBounds_toArray, List.set_cons_zero, List.set_cons_succ]
              refine wpAnyH_done (by kernel_rfl) ?_ _
              refine NoPanic.normal ?_
              obtain ⟨s0, s1, s2, s3, s4, s5, s6, s7, s8, s9, t0, t1, t2, t3, t4, t5, t6, t7, t8, t9, gg⟩ := hH
              go_wp2_with fail
              go_meet
              exact ⟨_, rfl, rfl, z1, gg⟩
          case rest =>
            obtain ⟨b, rfl, rfl, zc, gc⟩ := hcut
            replace HO := Lib.hid (own_kep HO.out gc (Nat.le_refl _))
            replace gg := HG.out.trans (gc.mono hgw)
            cases z
            · go_wp2_with fail
              go_roundw
              case rel => exact ⟨l + 1, by omega, by omega, by go_num, Lib.hid ⟨P, by have := HPE.out; simpa using this, HO.out, gg⟩⟩
              case measure => simp [RowKit.intOf]; omega
            · rw [← HCV.out rfl] at HPE
              have y0 := zc.i (i := 0) rfl
              have y1 := zc.i (i := 1) rfl
              have y2 := zc.i (i := 2) rfl
              have y3 := zc.i (i := 3) rfl
              have y4 := zc.i (i := 4) rfl
              have hgs := gg.size
              clear zc
              go_wp2_with (first
                | (at_builtin; refine wpList_app ctv 5 ctv_len ctv_one rfl _ _ 23 rfl 35 _ 20 Tryz.underlying23 info_con rfl (by decide) w.heap.size _ _ P v rfl HO.out _ (by first | rfl | simp) rfl _ rfl (by unfold maxLen; omega) (by omega) hgs ?_; intro v3 w3 o3 k3))
              have HM : Hid (∃ P, P ++ (conO x (L.drop (l + 1)) ++ consL (L.drop (k + 1))) = consL L ∧ w3.ownsRow w.heap.size 35 5 v3 P.length (P.flatMap ctv) ∧ Kep w.heap.size w w3) := Lib.hid ⟨P ++ [v], by have := HPE.out; simpa using this, o3, gg.trans k3⟩
              clear o3 k3
              go_roundw
              case rel => exact ⟨l + 1, by omega, by omega, by go_num, HM⟩
              case measure => simp [RowKit.intOf]; omega
        · obtain rfl : l = len := by omega
          go_wp2_with fail
          go_roundw
          case rel => exact ⟨k + 1, by omega, by go_num, Lib.hid (by
            obtain ⟨P, h1, h2, h3⟩ := HR.out
            rw [List.drop_of_length_le (by rw [HN.out]; omega)] at h1
            exact ⟨P, h1, h2, h3⟩)⟩
          case measure => simp [RowKit.intOf]; omega
    · obtain rfl : k = len := by omega
      go_wp2_with fail
      go_ret
      obtain ⟨P, h1, h2, h3⟩ := HP.out
      rw [List.drop_of_length_le (by rw [HN.out]; omega)] at h1
      rw [show P = consL L by rw [← h1]; simp [consL]] at h2
      exact ⟨_, rfl, own_sq ctv_len h2, h3⟩
end Go.Proofs.YtangalkbjochjaaGreatDoor
