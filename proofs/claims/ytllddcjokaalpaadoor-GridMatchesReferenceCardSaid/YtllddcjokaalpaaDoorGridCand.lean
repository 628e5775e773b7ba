/-
  Package grid: Candidates.
-/
import Derived.Test.YtllddcjokaalpaaDoorGridCand1
import Derived.Test.YtllddcjokaalpaaDoorGridSort
namespace Go.Proofs.YtllddcjokaalpaaDoor
open Go.RowKit Go.Lib Go.Maps

/-- What stands after the pairs of V: the map of keys, the map of pairs, the list of pairs. -/
structure CR (w wr : World) (Kf : Nat → List Int) (mb m : Nat) (D : DataW Unit) (fb : Nat) (lv : Value) (V : List (Int × Int)) : Prop where
  kep : Kep w.heap.size w wr
  sev : OwnM wr 42 mb m D
  fnd : ∃ l E n, n ≤ V.length ∧ l.length ≤ V.length ∧ OwnM wr 44 fb n E ∧ wr.ownsRow w.heap.size 44 2 lv l.length (flatP l) ∧ Found Kf V l E
theorem CR.alloc {w wr : World} {Kf : Nat → List Int} {mb m fb : Nat} {D : DataW Unit} {lv : Value} {V : List (Int × Int)} (h : CR w wr Kf mb m D fb lv V) (o : Obj) : CR w (wr.alloc o) Kf mb m D fb lv V := by
  obtain ⟨l, E, n, h1, h2, h3, h4, h5⟩ := h.fnd
  exact ⟨kep_more h.kep _, h.sev.alloc _, l, E, n, h1, h2, h3.alloc _, h4.alloc _, h5⟩
theorem sev_look {w : World} {Kf : Nat → List Int} {mb m : Nat} {D : DataW Unit} (hS : Sev D (flatV Kf 1024)) (ho : OwnM w 42 mb m D) {t i : Nat} {x : Int} (ht : t < 1024) (hx : (Kf t)[i]? = some x) (hw : (Lit.int .u32 x).wf = true) :
    (Instr.lookup 58 (.map (some mb)) (.int .u32 x) false).run Tryd.prog w = .ok (.bool (sevb Kf x)) w := by
  obtain ⟨c, hrun, hat⟩ := look_bool law32 Tryd.underlying58 ho (keyOf_int_mk (P := Tryd.prog) Tryd.underlying42 hw)
  have hin : x ∈ flatV Kf 1024 := List.count_pos_iff.1 (Nat.lt_of_lt_of_le Nat.zero_lt_one (count_flat Kf x ht (List.mem_of_getElem? hx)))
  rw [hS.val x hin] at hat
  have e : sevb Kf x = c := Lit.bool.inj (DataW.lit.inj hat)
  rw [e]
  exact hrun
theorem found_look {w : World} {Kf : Nat → List Int} {V l : List (Int × Int)} {fb n : Nat} {E : DataW Unit} (hF : Found Kf V l E) (ho : OwnM w 44 fb n E) {p : Int × Int} (hw : WfP p) :
    (Instr.lookup 60 (.map (some fb)) (aggP p) false).run Tryd.prog w = .ok (.bool (Maps.has E (klP p))) w := by
  obtain ⟨c, hrun, hat⟩ := look_bool lawP Tryd.underlying60 ho (keyOfP hw)
  cases hh : Maps.has E (klP p) with
  | true =>
    rw [hF.val p hw hh] at hat
    have e := Lit.bool.inj (DataW.lit.inj hat)
    subst e
    exact hrun
  | false =>
    rw [atKey_of_not_has hh] at hat
    have e := Lit.bool.inj (DataW.lit.inj hat)
    subst e
    exact hrun
theorem found_has {Kf : Nat → List Int} {V l : List (Int × Int)} {E : DataW Unit} (hF : Found Kf V l E) {p : Int × Int} (hw : WfP p) (hs : sevb Kf p.1 = true ∧ sevb Kf p.2 = true) {z : Bool} (hz : Maps.has E (klP p) = z) : p ∈ V ↔ z = true := by
  rw [← hz, hF.has p hw]
  exact ⟨fun h => ⟨h, hs⟩, fun h => h.1⟩
theorem CR.push {w W4 w6 : World} {Kf : Nat → List Int} {mb m fb n : Nat} {D E : DataW Unit} {lv v6 : Value} {V l : List (Int × Int)} {p : Int × Int} {o : Obj} (hK : Kep w.heap.size w W4) (hs : OwnM W4 42 mb m D) (hf : OwnM W4 44 fb n E) (ho : W4.ownsRow w.heap.size 44 2 lv l.length (flatP l))
    (g6 : (W4.alloc o).grownBy w6 lv.ownBlock) (k6 : Kep w.heap.size W4 w6) (o6 : w6.ownsRow w.heap.size 44 2 v6 (l ++ [p]).length ((l ++ [p]).flatMap pv)) (hn : n ≤ V.length) (hl : (l ++ [p]).length ≤ V.length) (F : Found Kf V (l ++ [p]) E) : CR w w6 Kf mb m D fb v6 V :=
  ⟨hK.trans k6, (hs.alloc o).kept g6 (own_map ho hs), l ++ [p], E, n, hn, hl, (hf.alloc o).kept g6 (own_map ho hf), o6, F⟩
theorem two_maps {a b : Nat} (h : a < b) : some a ≠ some b := fun e => by injection e with e; omega
set_option maxRecDepth 100000 in
set_option maxHeartbeats 4000000 in
theorem gcand (g : Nat) (S : Nat → Prop) (L : List Ent) (w : World) (h : GI w g S L) (hL : ∀ x ∈ L, EntOk x) (hl : L.length ≤ 100) : Calls Tryd.prog 13 #[.pointer (some ⟨g, 0, none⟩)] w
    fun en w' => ∃ v, en = .returned v ∧ (Sq pv 2 w' v (candL L) ∧ Fresh w v) ∧ Kep w.heap.size w w' := by
  obtain ⟨vf, h⟩ := h
  have hk : ∀ j : Nat, (atL L (j : Int)).length ≤ 100 := fun j => by
    have q := accA_len L (j : Int) L.length (Nat.le_refl _)
    rw [accA_all (Nat.le_refl _)] at q
    omega
  have hwf : ∀ j : Nat, ∀ x ∈ atL L (j : Int), (Lit.int .u32 x).wf = true := fun j x hx => by
    obtain ⟨e, he, _, rfl⟩ := ((atL_spec L (j : Int)).2 x).1 hx
    exact (hL e he).1
  have CS := Lib.hid (gsev g S _ vf _ w h (fun j => Nat.le_trans (hk j) (by decide)) hwf)
  have HALL : Hid (∀ {l m : List (Int × Int)} {D : DataW Unit}, Found (fun (j : Nat) => atL L (j : Int)) (allP (fun (j : Nat) => atL L (j : Int)) 1024) l D → l.Perm m → m.Pairwise (fun x y => pless y x = false) → m = candL L) := Lib.hid fun h hp hm => cand_all h hp hm
  have has : ∀ j : Nat, SortS kless (atL L (j : Int)) := fun j => (atL_spec L (j : Int)).1
  generalize candL L = R at *
  obtain ⟨Kf, hKf⟩ : ∃ Kf : Nat → List Int, Kf = fun (j : Nat) => atL L (j : Int) := ⟨_, rfl⟩
  rw [← hKf] at h CS HALL
  have HK : Hid (∀ j, (Kf j).length ≤ 100) := Lib.hid (by rw [hKf]; exact hk)
  have HWF : Hid (∀ j, ∀ x ∈ Kf j, (Lit.int .u32 x).wf = true) := Lib.hid (by rw [hKf]; exact hwf)
  have HAS : Hid (∀ j, SortS kless (Kf j)) := Lib.hid (by rw [hKf]; exact has)
  generalize ((L.length : Nat) : Int) = ne at h CS
  clear hKf hk hwf has hL hl
  have HG := Lib.hid h
  have AX := Lib.hid (fun (t : Nat) (ht : t < 1024) W => arr_at vf ht W)
  have AL := Lib.hid (fun W (k : Kep w.heap.size w W) => arr_load (g := g) (w := W) (h.kep k).c)
  clear h
  have hmm := @run_makeMap Tryd.prog
  generalize arrV vf = A at *
  go_enter Tryd.func13, Tryd.ntmps13
  go_wp2_with (first
    | ((with_reducible refine (CS.out).mono ?_); rintro en w2 ⟨v, rfl, ⟨mb, m, D, rfl, o1, s1, l1⟩, k1⟩)
    | (refine wpList_load_run _ rfl _ 28 rfl _ rfl _ (AL.out _ (kep_more k1 _)) ?_))
  have H0 : Hid (CR w (w2.alloc (.map #[] 0)) Kf mb m D w2.heap.size (.slice none 0 0) (visV Kf 0 0 0)) := Lib.hid ⟨kep_more k1 _, o1.alloc _, [], _, 0, Nat.zero_le _, Nat.zero_le _, World.ownsMap_made _ _ _ _, World.ownsRow_nil _ _ _ _, by rw [vis_zero]; exact found_nil Kf⟩
  have HS := Lib.hid s1
  have HMB : Hid (mb < w2.heap.size) := Lib.hid o1.lt
  have HFB : Hid (w.heap.size ≤ w2.heap.size) := Lib.hid k1.size
  clear hmm AL CS k1 o1 s1 l1
  go_loopw [3, 23] (fun lv x wr => ∃ t : Nat, t ≤ 1024 ∧ x = .int .i64 t ∧ Hid (CR w wr Kf mb m D w2.heap.size lv (visV Kf t 0 0))) (fun _ x _ => 1024 - (RowKit.intOf x).toNat)
  case atStart => exact ⟨0, by omega, rfl, H0⟩
  case round =>
    obtain ⟨t, ht, rfl, HR⟩ := hrel
    by_cases hlt : t < 1024
    · have hq := own_sq kv_len (HG.out.own t hlt)
      obtain ⟨base, cap, hv⟩ := hq.shape
      rw [hv] at hq
      have HQ := Lib.hid hq
      have ix : ∀ W, (Instr.index 28 (.agg A) (.int .i64 (t : Int))).run Tryd.prog W = .ok (.slice base (Kf t).length cap) W := fun W => by rw [← hv]; exact AX.out t hlt W
      have HRM : Hid ((Kf t).length ≤ cap) := Lib.hid (by
        have := own_rmy (HG.out.own t hlt)
        rw [hv] at this
        exact this _ _ _ rfl)
      have hlen := HK.out t
      obtain ⟨nk, hn⟩ : ∃ nk, nk = (Kf t).length := ⟨_, rfl⟩
      rw [← hn] at ix hlen
      have HN := Lib.hid hn.symm
      clear hq hv hn
      have i1 : (t : Int) < 1024 := by omega
      go_wp2
      go_loopw [3, 28] (fun lv x wr => ∃ i : Nat, i ≤ nk ∧ x = .int .i64 i ∧ Hid (CR w wr Kf mb m D w2.heap.size lv (visV Kf t i 0))) (fun _ x _ => nk - (RowKit.intOf x).toNat)
      case atStart => exact ⟨0, by omega, rfl, HR⟩
      case round =>
        obtain ⟨i, hi, rfl, HR2⟩ := hrel
        by_cases hlt2 : i < nk
        · have hx : (Kf t)[i]? = some ((Kf t)[i]'(by rw [HN.out]; exact hlt2)) := List.getElem?_eq_getElem _
          generalize (Kf t)[i]'(by rw [HN.out]; exact hlt2) = x at hx
          obtain ⟨gk, off, rfl, y0⟩ := ksq_at HQ.out hx
          have y1 : wr.cell? ⟨gk, off + i, none⟩ = some (.int .u32 x) := HR2.out.kep.holds (World.block_lt_of_cell? _ _ y0) y0
          have hwx := HWF.out t x (List.mem_of_getElem? hx)
          have hr1 := sev_look HS.out HR2.out.sev hlt hx hwx
          have HX := Lib.hid hx
          have HWX := Lib.hid hwx
          clear y0 hx hwx HR
          obtain ⟨sx, hsx⟩ : ∃ sx, sx = sevb Kf x := ⟨_, rfl⟩
          rw [← hsx] at hr1
          have HSX := Lib.hid hsx
          clear hsx
          have i0 : (0 : Int) ≤ (i : Int) := Int.natCast_nonneg _
          have i2 : (i : Int) < (nk : Int) := by omega
          have i3 : IntKind.i64.wrap ((i : Int) + 1) = (i : Int) + 1 := by rw [IntKind.wrap_i64]; omega
          have i4 : (0 : Int) ≤ (i : Int) + 1 := by omega
          have i5 : (i : Int) + 1 ≤ (nk : Int) := by omega
          have i6 : ((i : Int) + 1).toNat = i + 1 := by omega
          by_cases hcap : cap = i + 1
          · have hnk : nk = i + 1 := by have := HRM.out; have := HN.out; omega
            have HR3 := HR2
            rw [vis_row HX.out (by rw [HN.out]; omega)] at HR3
            clear HR2 HRM
            subst hnk
            subst hcap
            go_wp2
            refine wp_loop_rounds 1 ?_
            rw [rounds_succ]
            go_wp2
            go_roundw
            case rel => exact ⟨i + 1, by omega, by first | rfl | go_num, HR3⟩
            case measure => simp [RowKit.intOf]
          · go_wp2
            clear ix hr1 y1 i0 i2 i3 i4 i5 i6
            obtain ⟨r, hr⟩ : ∃ r, r = nk - (i + 1) := ⟨_, rfl⟩
            rw [← hr]
            have HRN : Hid (r = nk - (i + 1)) := Lib.hid hr
            clear hr
            go_loopw [3, 41] (fun lv x wr => ∃ j : Nat, j ≤ r ∧ x = .int .i64 j ∧ Hid (CR w wr Kf mb m D w2.heap.size lv (visV Kf t i j))) (fun _ x _ => r - (RowKit.intOf x).toNat)
            case atStart => exact ⟨0, by omega, rfl, HR2⟩
            case round =>
              obtain ⟨j, hj, rfl, HR3⟩ := hrel
              clear HR2
              by_cases hlt3 : j < r
              · have hy : (Kf t)[i + 1 + j]? = some ((Kf t)[i + 1 + j]'(by have := HRN.out; rw [HN.out]; omega)) := List.getElem?_eq_getElem _
                generalize (Kf t)[i + 1 + j]'(by have := HRN.out; rw [HN.out]; omega) = y at hy
                obtain ⟨g2, off2, e2, y0⟩ := ksq_at HQ.out hy
                injection e2 with e2
                injection e2 with e2 e3
                subst e2 e3
                have y1 : wr.cell? ⟨gk, off + (i + 1) + j, none⟩ = some (.int .u32 y) := by
                  rw [show off + (i + 1) + j = off + (i + 1 + j) by omega]
                  exact HR3.out.kep.holds (World.block_lt_of_cell? _ _ y0) y0
                have hwy := HWF.out t y (List.mem_of_getElem? hy)
                have HA := HR3.out.alloc (.cells #[.int .u32 x, .int .u32 y] 44)
                obtain ⟨l, E, n, n1, n2, o1, o2, F⟩ := HA.fnd
                have hr2 := sev_look HS.out HA.sev hlt hy hwy
                have hr3 := found_look F o1 (p := (x, y)) ⟨HWX.out, hwy⟩
                have hfh := found_has F (p := (x, y)) ⟨HWX.out, hwy⟩
                have hva := fun h => vis_again HAS.out hlt HX.out hy h
                have hvn := vis_next HX.out hy
                have hvl := vis_len HK.out (j := j) hlt (show i ≤ (Kf t).length by rw [HN.out]; omega)
                rw [← HSX.out] at hfh hva
                have HK4 := Lib.hid HA.kep
                have HS4 := Lib.hid HA.sev
                have HO1 := Lib.hid o1
                have HO2 := Lib.hid o2
                have HFL : Hid (w2.heap.size < wr.heap.size) := Lib.hid (by obtain ⟨_, _, _, _, _, q, _⟩ := HR3.out.fnd; exact q.lt)
                have HB0 : Hid ((wr.alloc (.cells #[.int .u32 x, .int .u32 y] 44)).cell? ⟨wr.heap.size, 0, none⟩ = some (.int .u32 x)) := Lib.hid (by rw [World.cell?_alloc_at _ _ _ _ rfl]; rfl)
                have HB1 : Hid ((wr.alloc (.cells #[.int .u32 x, .int .u32 y] 44)).cell? ⟨wr.heap.size, 1, none⟩ = some (.int .u32 y)) := Lib.hid (by rw [World.cell?_alloc_at _ _ _ _ rfl]; rfl)
                have HKEY : Hid (keyOf Tryd.prog 44 (.agg #[.int .u32 x, .int .u32 y]) = some (klP (x, y))) := Lib.hid (keyOfP (p := (x, y)) ⟨HWX.out, hwy⟩)
                have hdm := o1.isMap
                have hlv : (visV Kf t i (j + 1)).length = (visV Kf t i j).length + 1 := by rw [hvn]; simp
                have HLL : Hid ((l ++ [(x, y)]).length ≤ (visV Kf t i (j + 1)).length) := Lib.hid (by rw [hlv]; simp; exact n2)
                have hl9 : l.length ≤ 20000000 := by omega
                have hn9 : n ≤ 20000000 := by omega
                have j0 : (0 : Int) ≤ (j : Int) := Int.natCast_nonneg _
                have j1 : (j : Int) < (r : Int) := by omega
                have j2 : (r : Int) ≤ 100 := by have := HRN.out; omega
                unfold aggP at hr3
                dsimp only at hr3 hfh
                generalize hz : Maps.has E (klP (x, y)) = z at hr3
                obtain ⟨sy, hsy⟩ : ∃ sy, sy = sevb Kf y := ⟨_, rfl⟩
                rw [← hsy] at hr2 hva hfh
                have HSY := Lib.hid hsy
                have HFP : Hid (¬ (sx = true ∧ sy = true) → Found Kf (visV Kf t i (j + 1)) (l ++ [(x, y)]) E) := Lib.hid fun q => by
                  rw [hvn]
                  exact F.plain (fun h => q (hva h)) (by dsimp only; rw [← HSX.out, ← HSY.out]; exact q)
                have HFQ : Hid (sx = true ∧ sy = true → z = false → Found Kf (visV Kf t i (j + 1)) (l ++ [(x, y)]) (E.put (klP (x, y)) (.lit (.bool true)))) := Lib.hid fun q hz0 => by
                  rw [hvn]
                  refine F.put hdm ⟨HWX.out, hwy⟩ (fun h => ?_) (by dsimp only; rw [← HSX.out, ← HSY.out]; exact q)
                  have := (hfh q hz).1 h
                  rw [hz0] at this
                  cases this
                have HFR : Hid (sx = true ∧ sy = true → z = true → Found Kf (visV Kf t i (j + 1)) l E) := Lib.hid fun q hz0 => by
                  rw [hvn]
                  exact F.skip ((hfh q hz).2 hz0)
                have HN1 : Hid (n ≤ (visV Kf t i j).length) := Lib.hid n1
                have HN2 : Hid (l.length ≤ (visV Kf t i j).length) := Lib.hid n2
                have HV1 := Lib.hid hlv
                clear hwy HA o1 o2 F hfh hva hvn hvl hlv hdm hz hsy y0 hy n1 n2 HR3
                cases sx with
                | false =>
                  have HFF := Lib.hid (HFP.out (fun q => by cases q.1))
                  have HLV : Hid (n ≤ (visV Kf t i (j + 1)).length) := Lib.hid (by rw [HV1.out]; have := HN1.out; omega)
                  clear hr2 hr3 HFP HFQ HFR
                  go_wp2_with (at_builtin; refine wpList_app2 pv 2 pv_len pv_one rfl _ _ 35 rfl 44 _ 8 Tryd.underlying35 info_pair rfl (by decide) w.heap.size _ _ l (x, y) rfl HO2.out _ (by first | rfl | simp) rfl _ rfl (by unfold maxLen; omega) (by omega) HK4.out.size ?_; intro v6 w6 o6 k6 g6; have R6 := Lib.hid (CR.push HK4.out HS4.out HO1.out HO2.out g6 k6 o6 HLV.out HLL.out HFF.out); clear o6 k6 g6)
                  go_roundw
                  case rel => exact ⟨j + 1, by omega, by first | rfl | go_num, R6⟩
                  case measure => simp [RowKit.intOf]; omega
                | true =>
                  cases sy with
                  | false =>
                    have HFF := Lib.hid (HFP.out (fun q => by cases q.2))
                    have HLV : Hid (n ≤ (visV Kf t i (j + 1)).length) := Lib.hid (by rw [HV1.out]; have := HN1.out; omega)
                    clear hr3 HFP HFQ HFR
                    go_wp2_with (at_builtin; refine wpList_app2 pv 2 pv_len pv_one rfl _ _ 35 rfl 44 _ 8 Tryd.underlying35 info_pair rfl (by decide) w.heap.size _ _ l (x, y) rfl HO2.out _ (by first | rfl | simp) rfl _ rfl (by unfold maxLen; omega) (by omega) HK4.out.size ?_; intro v6 w6 o6 k6 g6; have R6 := Lib.hid (CR.push HK4.out HS4.out HO1.out HO2.out g6 k6 o6 HLV.out HLL.out HFF.out); clear o6 k6 g6)
                    go_roundw
                    case rel => exact ⟨j + 1, by omega, by first | rfl | go_num, R6⟩
                    case measure => simp [RowKit.intOf]; omega
                  | true =>
                    cases z with
                    | true =>
                      have R6 : Hid (CR w (wr.alloc (.cells #[.int .u32 x, .int .u32 y] 44)) Kf mb m D w2.heap.size u3 (visV Kf t i (j + 1))) := Lib.hid ⟨HK4.out, HS4.out, l, E, n, by rw [HV1.out]; have := HN1.out; omega, by rw [HV1.out]; have := HN2.out; omega, HO1.out, HO2.out, HFR.out ⟨rfl, rfl⟩ rfl⟩
                      clear HFP HFQ HFR
                      go_wp2
                      go_roundw
                      case rel => exact ⟨j + 1, by omega, by first | rfl | go_num, R6⟩
                      case measure => simp [RowKit.intOf]; omega
                    | false =>
                      have HFF := Lib.hid (HFQ.out ⟨rfl, rfl⟩ rfl)
                      have HLV : Hid (n + 1 ≤ (visV Kf t i (j + 1)).length) := Lib.hid (by rw [HV1.out]; have := HN1.out; omega)
                      clear HFP HFQ HFR
                      go_wp2_with (first
                        | (at_mapUpdate; refine wpList_mapUpdate_own _ rfl _ _ _ 60 rfl 44 4 lawP Tryd.underlying60 (plainElem Tryd.prog 4) w2.heap.size n E (by rfl) HO1.out (by unfold maxLen; omega) _ _ (klP (x, y)) (by rfl) (by rfl) HKEY.out (.lit (.bool true)) [] (plainElem_bool Tryd.underlying4 true) ?_; intro w5 h5 g5; have O5 := Lib.hid h5; have S5 := Lib.hid (HS4.out.kept g5 (two_maps HMB.out)); have P5 := Lib.hid (HO2.out.kept g5 (.inr (fun e => own_map HO2.out HO1.out e.symm))); have K5 := Lib.hid (HK4.out.row g5 HK4.out.size (fun k e => by injection e with e; have := HFB.out; omega)); have q0 : w5.cell? ⟨wr.heap.size, 0, none⟩ = some (.int .u32 x) := (World.cell?_of_block (g5.block wr.heap.size (by simp) (fun e => by injection e with e; have := HFL.out; omega))).trans HB0.out; have q1 : w5.cell? ⟨wr.heap.size, 1, none⟩ = some (.int .u32 y) := (World.cell?_of_block (g5.block wr.heap.size (by simp) (fun e => by injection e with e; have := HFL.out; omega))).trans HB1.out; clear h5 g5)
                        | (at_builtin; refine wpList_app2 pv 2 pv_len pv_one rfl _ _ 35 rfl 44 _ 8 Tryd.underlying35 info_pair rfl (by decide) w.heap.size _ _ l (x, y) rfl P5.out _ (by first | rfl | simp) rfl _ rfl (by unfold maxLen; omega) (by omega) K5.out.size ?_; intro v6 w6 o6 k6 g6; have R6 := Lib.hid (CR.push K5.out S5.out O5.out P5.out g6 k6 o6 HLV.out HLL.out HFF.out); clear o6 k6 g6))
                      go_roundw
                      case rel => exact ⟨j + 1, by omega, by first | rfl | go_num, R6⟩
                      case measure => simp [RowKit.intOf]; omega
              · have i2 : ¬ (j : Int) < (r : Int) := by omega
                have HR4 := HR3
                rw [vis_row HX.out (by rw [HN.out]; have := HRN.out; omega)] at HR4
                clear HR3
                go_wp2
                go_roundw
                case rel => exact ⟨i + 1, by omega, by first | rfl | go_num, HR4⟩
                case measure => simp [RowKit.intOf]; omega
        · have i2 : ¬ (i : Int) < (nk : Int) := by omega
          obtain rfl : i = nk := by omega
          have HR3 := HR2
          rw [vis_bucket Kf t i HN.out] at HR3
          clear HR HR2
          go_wp2
          go_roundw
          case rel => exact ⟨t + 1, by omega, by first | rfl | go_num, HR3⟩
          case measure => simp [RowKit.intOf]; omega
    · have i2 : ¬ (t : Int) < 1024 := by omega
      obtain rfl : t = 1024 := by omega
      have HR1 := HR.out
      rw [vis_zero] at HR1
      clear HR
      obtain ⟨hK, _, l, E, n, _, hll, _, hlo, hF⟩ := HR1
      have HF := Lib.hid (fun m h1 h2 => HALL.out (m := m) hF h1 h2)
      have CP := Lib.hid (psortp hlo (by have := allP_len HK.out 1024; omega))
      have hS := own_slice hlo
      have HFR := Lib.hid (fresh_own hlo (Nat.le_refl _))
      have HK1 := Lib.hid hK
      clear hK hll hlo hF HALL
      obtain ⟨⟨sb, sn, sc⟩, rfl, hsn⟩ := hS
      clear hsn
      go_wp2_with ((with_reducible refine (CP.out).mono ?_); rintro en w8 ⟨rfl, ⟨m8, h8, h9, q8⟩, k8⟩)
      go_ret
      obtain rfl := HF.out _ h8 h9
      exact ⟨_, rfl, ⟨q8, HFR.out⟩, HK1.out.trans k8⟩
end Go.Proofs.YtllddcjokaalpaaDoor
