import Derived.Test.YtaknmlohnifcdaaGreatDoorMStpOps1
import Derived.Test.YtaknmlohnifcdaaGreatDoorMCtsAll
import Derived.Test.YtaknmlohnifcdaaGreatDoorJ15MViewOps
import Derived.Test.YtaknmlohnifcdaaGreatDoorJ02MSeq
import Derived.Deep.DeepCutAuto
import Derived.Deep.QuietTactic
import Derived.BigQuiet
set_option maxHeartbeats 8000000
set_option maxRecDepth 100000
namespace Go.Proofs.YtaknmlohnifcdaaGreatDoor
open Go.RowKit Go.Lib

theorem kmeet {L : List Bd} {w : World} {sb : Nat} {v : Value} {y : Option Addr} {n q : Nat} {t c : Int} {z : Bool} (F0 : Fac w) (V : Vw L) (h : SB w sb (stv v (.slice y n q) t c z)) (l : Lst w v L) :
 Calls Tryz.prog 20 #[.pointer (some ⟨sb, 0, none⟩)] w fun e w' => e = .returned (.tuple #[]) ∧ ∃ b k m, SB w' sb (stv v (.slice b (consL L).length k) m ((consL L).length : Int) z) ∧ Lst w' v L ∧ Sq ctv 5 w' (.slice b (consL L).length k) (consL L) ∧ Hid (((consL L).length : Int) ≤ m ∧ 2 * m ≤ (L.length : Int) * ((L.length : Int) - 1)) ∧ FrO sb sb w w' := by
 obtain ⟨base, cap, rfl⟩ := l.shape
 have CA := Lib.hid (ctall _ L w F0 l V)
 have HS := Lib.hid h
 have HL := Lib.hid l
 have c0 := h.zc.i (i := 0) rfl
 clear h l V F0
 go_enter Tryz.func20, Tryz.ntmps20
 go_upto_region 1 with ((with_reducible refine (CA.out).mono ?_); rintro e w1 ⟨v1, m1, rfl, ⟨q1, p1, p2, -⟩, g1⟩; obtain ⟨b1, k1, rfl⟩ := q1.shape; have HQ := Lib.hid q1; have HG := Lib.hid g1; have HM := Lib.hid (And.intro p1 p2); have S1 := Lib.hid (HS.out.kep g1); have d1 := S1.out.zc.i (i := 1) rfl; have d2 := S1.out.zc.i (i := 2) rfl; have d3 := S1.out.zc.i (i := 3) rfl; have e1 := S1.out.frz 1; have e2 := S1.out.frz 2; have e3 := S1.out.frz 3; have hl := S1.out.lt; clear q1 g1 p1 p2 c0)
 go_wp2_with fail
 refine bodyPost_end (v := .tuple #[]) (by exact results_none rfl _ _ _) (by rfl) ?_
 have FR := (((FrO.refl sb sb w1).set1 (o := 1) (.slice b1 (consL L).length k1)).set1 (o := 2) (.int .i64 m1)).set1 (o := 3) (.int .i64 ((consL L).length : Int))
 exact ⟨rfl, b1, k1, m1, ((S1.out.put (i := 1) _ (by simp)).put (i := 2) _ (by simp)).put (i := 3) _ (by simp), lst_fro (HL.out.kep HG.out) S1.out stv_no FR, sqc_fro HQ.out S1.out stv_no FR, HM, (FrO.of_kep HG.out).trans FR⟩
theorem kstep : TSt := fun v L w F0 l V => by
 obtain ⟨base, cap, rfl⟩ := l.shape
 have HV := Lib.hid V
 have HF := Lib.hid F0
 have HL := Lib.hid l
 have E1 : Hid (mtL (stpV L) (shfL (stpV L) (consL L)) = stpL L) := Lib.hid (by rw [shf_V V]; rfl)
 have E2 : Hid ((((false || L.any grvC) || (slvN (consL L) (stpG L) 4).2) || (mtA (stpV L) (shfL (stpV L) (consL L))).any id) = stpC L) := Lib.hid (by rw [shf_V V, Bool.false_or]; rfl)
 clear V F0 l
 go_enter Tryz.func10, Tryz.ntmps10
 go_upto_region 2 with fail
 generalize hW : World.alloc _ _ = W
 have g0 : Kep w.heap.size w W := by rw [← hW]; exact kep_more (kep_more (Kep.refl _ _) _) _
 have S0 : SB W (w.heap.size + 1) (stv (.slice base L.length cap) (.slice none 0 0) 0 0 false) := by rw [← hW]; exact sb_new' _ _ _ (by simp)
 have R0 : Hid (SB W w.heap.size [.int .i64 0, .int .i64 0, .bool false]) := Lib.hid (by rw [← hW]; exact (sb_new _ _ _).kep (kep_more (Kep.refl _ _) _))
 have C1 := Lib.hid (kmeet (HF.out.kep g0) HV.out S0 (HL.out.kep g0))
 have G0 := Lib.hid g0
 have hsz : w.heap.size + 1 < W.heap.size := S0.lt
 have n1 : w.heap.size ≠ w.heap.size + 1 := by omega
 clear hW S0 g0
 have i0 : ∀ w, (Instr.index 55 (.agg #[.func (.func 20) #[] #[], .func (.func 21) #[] #[], .func (.func 22) #[] #[], .func (.func 23) #[] #[]]) (.int .i64 0)).run Tryz.prog w = .ok (.func (.func 20) #[] #[]) w := fun _ => rfl
 have i1 : ∀ w, (Instr.index 55 (.agg #[.func (.func 20) #[] #[], .func (.func 21) #[] #[], .func (.func 22) #[] #[], .func (.func 23) #[] #[]]) (.int .i64 1)).run Tryz.prog w = .ok (.func (.func 21) #[] #[]) w := fun _ => rfl
 have i2 : ∀ w, (Instr.index 55 (.agg #[.func (.func 20) #[] #[], .func (.func 21) #[] #[], .func (.func 22) #[] #[], .func (.func 23) #[] #[]]) (.int .i64 2)).run Tryz.prog w = .ok (.func (.func 22) #[] #[]) w := fun _ => rfl
 have i3 : ∀ w, (Instr.index 55 (.agg #[.func (.func 20) #[] #[], .func (.func 21) #[] #[], .func (.func 22) #[] #[], .func (.func 23) #[] #[]]) (.int .i64 3)).run Tryz.prog w = .ok (.func (.func 23) #[] #[]) w := fun _ => rfl
 go_wp2_with fail
 refine wp_loop_rounds 5 ?_
 rw [rounds_succ]
 go_wp2_with ((with_reducible refine (C1.out).mono ?_); rintro e w1 ⟨rfl, y1, k1, t1, s1, l1, q1, HM, f1⟩; have C2 := Lib.hid (kfall s1 l1 (by have := HV.out.len; omega) HV.out.ok); have HQ := Lib.hid q1; have HF1 := Lib.hid f1; clear s1 l1 q1 f1)
 rw [rounds_succ]
 go_wp2_with ((with_reducible refine (C2.out).mono ?_); rintro e w2 ⟨rfl, b2, a2, m2, s2, l2, q2, f2⟩; have C3 := Lib.hid (ksolve (L := stpG L) s2 l2 (q2 _ HQ.out) (jarg_stp HV.out)); have HF2 := Lib.hid (HF1.out.trans f2); clear s2 l2 q2 f2 HQ HF1)
 rw [rounds_succ]
 go_wp2_with ((with_reducible refine (C3.out).mono ?_); rintro e w3 ⟨rfl, b3, a3, m3, s3, l3, q3, f3⟩; have C4 := Lib.hid (kmove (L := stpV L) s3 l3 q3 (sarg_V HV.out)); have HF3 := Lib.hid (HF2.out.trans f3); clear s3 l3 q3 f3 HF2)
 rw [rounds_succ]
 go_wp2_with ((with_reducible refine (C4.out).mono ?_); rintro e w4 ⟨rfl, b4, a4, m4, s4, l4, r4, f4⟩; rw [E2.out] at s4; rw [E1.out] at l4; have HF4 := Lib.hid (HF3.out.trans f4); have HS := Lib.hid s4; have HL4 := Lib.hid l4; have HR4 := Lib.hid r4; clear s4 l4 r4 f4 HF3)
 rw [rounds_succ]
 go_wp2_with fail
 have HR := Lib.hid (R0.out.fro HF4.out n1 n1)
 have HL := HL4
 have gg := Lib.hid (G0.out.trans (HF4.out.down (B := w.heap.size) (by omega) (by omega) (by omega)))
 clear HL4 HF4 R0 G0 E1 E2
 refine wp_region_noPanic ?_
 refine wp_region_held_drew (S := fun w' => ZA w' (w.heap.size + 1) (stv (.slice b4 a4 m4) (.slice y1 (consL L).length k1) t1 ((consL L).length : Int) (stpC L))) (by kernel_rfl) (za_of (HS.out.kep (kep_drew (Kep.refl _ _))).zc) (fun hH => ?_)
 replace HR := Lib.hid (HR.out.kep (kep_drew (Kep.refl _ _)))
 replace HS := Lib.hid (HS.out.kep (kep_drew (Kep.refl _ _)))
 replace HL := Lib.hid (HL.out.kep (kep_drew (Kep.refl _ _)))
 replace gg := Lib.hid (kep_drew gg.out)
 generalize w4.drew = Y0 at *
 refine sT 0 hH ?_
 refine sT 1 hH ?_
 refine sT 2 hH ?_
 refine sN 3 hH ?_
 refine sN 4 hH ?_
 refine sC 5 (fun K hK => ?_)
 have r0 := HR.out.zc.i (i := 0) rfl
 have r1 := HR.out.zc.i (i := 1) rfl
 have r2 := HR.out.zc.i (i := 2) rfl
 have f0 := HR.out.frz 0
 have f1 := HR.out.frz 1
 have f2 := HR.out.frz 2
 have hr := HR.out.lt
 go_simp
 refine hK.out _ _ (za_of (((HS.out.zc.far1 (by omega) _).far1 (by omega) _).far1 (by omega) _)) (fun hH2 => ?_)
 clear r0 r1 r2 f0 f1 f2 hr
 clear hK K hH; have hH := hH2; clear hH2
 try simp only [Act.put, List.setIfInBounds_toArray, List.set_cons_zero, List.set_cons_succ]
 refine sE ?_
 have hst := HR.out.zc.set [.int .i64 t1, .int .i64 ((consL L).length : Int), .bool (stpC L)] (by simp)
 simp only [setAll, Nat.zero_add, Nat.reduceAdd] at hst
 have q0 := hst.i (i := 0) rfl
 have q1 := hst.i (i := 1) rfl
 have q2 := hst.i (i := 2) rfl
 clear hst
 go_wp2_with fail
 refine bodyPost_ret (v := .tuple #[.slice b4 a4 m4, .agg #[.int .i64 t1, .int .i64 ((consL L).length : Int), .bool (stpC L)]]) (by simp [results, Tryz.results10, go_sem, q0, q1, q2]) rfl ?_
 have FR := (((FrO.refl w.heap.size w.heap.size Y0).set1 (o := 0) (.int .i64 t1)).set1 (o := 1) (.int .i64 ((consL L).length : Int))).set1 (o := 2) (.bool (stpC L))
 exact ⟨_, t1, rfl, ⟨lst_fro HL.out HR.out sum_no FR, HM.out.1, HM.out.2, fun _ _ _ e => by injection e with _ e1 e2; have := HR4.out; omega⟩, kep_setAll (Nat.le_refl _) [.int .i64 t1, .int .i64 ((consL L).length : Int), .bool (stpC L)] 0 gg.out⟩
theorem ksteps : TSs := fun v L n w F0 l V hn => by
 obtain ⟨base, cap, rfl⟩ := l.shape
 have SC : Hid (∀ v (k : Nat) W, Kep w.heap.size w W → Lst W v (stpN L k) → Calls Tryz.prog 10 #[v] W fun e w' => ∃ v' n, e = .returned (.tuple #[v', .agg #[.int .i64 n, .int .i64 ((consL (stpN L k)).length : Int), .bool (stpC (stpN L k))]]) ∧ (Lst w' v' (stpN L (k + 1)) ∧ Hid (((consL (stpN L k)).length : Int) ≤ n ∧ n ≤ 780)) ∧ Kep W.heap.size W w') := Lib.hid fun v k W g h => (kstep v (stpN L k) W (F0.kep g) h (vw_N V k)).mono fun e w' ⟨v', n, e1, ⟨l1, p1, p2, _⟩, g1⟩ => ⟨v', n, e1, ⟨l1, Lib.hid ⟨p1, tests_max (Int.natCast_nonneg _) (by have := (vw_N V k).len; omega) p2⟩⟩, g1⟩
 have CC := Lib.hid (fun W (g : Kep w.heap.size w W) => vclone W (l.kep g) (by have := V.len; omega))
 obtain ⟨m, hm⟩ : ∃ m, m = n.toNat := ⟨_, rfl⟩
 rw [← hm]
 have HMN := Lib.hid hm
 have hmx : m ≤ 1000 := by omega
 clear V F0 l hm hn
 go_enter Tryz.func13, Tryz.ntmps13
 go_upto_region 2 with fail
 generalize hW : World.alloc _ _ = W
 have G0 : Hid (Kep w.heap.size w W) := Lib.hid (by rw [← hW]; exact kep_more (kep_more (Kep.refl _ _) _) _)
 have S0 : Hid (SB W (w.heap.size + 1) [.int .i64 0, .int .i64 0, .bool false]) := Lib.hid (by rw [← hW]; exact sb_new' _ _ _ (by simp))
 have R0 : Hid (SB W w.heap.size [.int .i64 0, .int .i64 0, .bool false]) := Lib.hid (by rw [← hW]; exact (sb_new _ _ _).kep (kep_more (Kep.refl _ _) _))
 clear hW
 go_wp2_with ((with_reducible refine (CC.out _ G0.out).mono ?_); rintro e w1 ⟨v1, rfl, o1, g1⟩; have L1 := Lib.hid (own_lst o1); obtain ⟨b1, m1, rfl⟩ := L1.out.shape; replace S0 := Lib.hid (S0.out.kep g1); replace R0 := Lib.hid (R0.out.kep g1); replace G0 := Lib.hid (kep_next G0.out g1); clear o1 g1 CC)
 go_loopw [7, 13] (fun vv i wr => ∃ (k : Nat) (t : Int), k ≤ m ∧ i = .int .i64 k ∧ Hid ((ctN L k : Int) ≤ t ∧ t ≤ 780 * (k : Int)) ∧ Hid (Lst wr vv (stpN L k) ∧ SB wr (w.heap.size + 1) [.int .i64 t, .int .i64 (ctN L k : Int), .bool (clN L k)] ∧ SB wr w.heap.size [.int .i64 0, .int .i64 0, .bool false] ∧ Kep w.heap.size w wr)) (fun _ i _ => m - (RowKit.intOf i).toNat)
 case atStart => exact ⟨0, 0, by omega, rfl, Lib.hid ⟨Int.le_refl _, Int.le_refl _⟩, Lib.hid ⟨L1.out, S0.out, R0.out, G0.out⟩⟩
 case round =>
  obtain ⟨k, t, hk, rfl, HT, HP⟩ := hrel
  clear S0 R0 G0 L1
  obtain ⟨b0, c0, rfl⟩ := HP.out.1.shape
  by_cases hlt : k < m
  ·have i1 : (k : Int) < n := by have := HMN.out; omega
   have C1 := Lib.hid (SC.out _ k wr HP.out.2.2.2 HP.out.1)
   have EC : Hid (((ctN L (k + 1) : Nat) : Int) = (ctN L k : Int) + ((consL (stpN L k)).length : Int)) := Lib.hid (Int.natCast_add _ _)
   have EZ : Hid (clN L (k + 1) = (clN L k || stpC (stpN L k))) := Lib.hid rfl
   obtain ⟨cn, hcn⟩ : ∃ cn : Int, cn = (ctN L k : Int) := ⟨_, rfl⟩
   obtain ⟨cc, hcc⟩ : ∃ cc : Int, cc = ((consL (stpN L k)).length : Int) := ⟨_, rfl⟩
   obtain ⟨zn, hzn⟩ : ∃ zn, zn = clN L k := ⟨_, rfl⟩
   obtain ⟨zc, hzc⟩ : ∃ zc, zc = stpC (stpN L k) := ⟨_, rfl⟩
   rw [← hcc, ← hzc] at C1
   rw [← hcn, ← hcc] at EC
   rw [← hzn, ← hzc] at EZ
   rw [← hcn] at HT
   rw [← hcn, ← hzn] at HP
   have h0 : 0 ≤ cn ∧ 0 ≤ cc := by omega
   have kp := HP.out.2.2.2.size
   clear hcn hcc hzn hzc
   go_upto_region 6 with ((with_reducible refine (C1.out).mono ?_); rintro e w2 ⟨v2, t2, rfl, ⟨l2, HB⟩, g2⟩; have HL2 := Lib.hid l2; have HG := Lib.hid g2; clear l2 g2)
   obtain ⟨b2, m2, rfl⟩ := HL2.out.shape
   generalize hW : World.alloc w2 _ = W2
   have g3 : Kep w2.heap.size w2 W2 := by rw [← hW]; exact kep_more (Kep.refl _ _) _
   have Zn : ZA W2 w2.heap.size [.int .i64 t2, .int .i64 cc, .bool zc] := by rw [← hW]; exact za_new _ _ _ rfl
   have gk := Lib.hid (kep_next HG.out g3)
   have HL3 := Lib.hid (HL2.out.kep g3)
   have HQ := Lib.hid (HP.out.2.1.kep gk.out)
   have HR := Lib.hid (HP.out.2.2.1.kep gk.out)
   have HK := Lib.hid (kep_next HP.out.2.2.2 gk.out)
   have r0 := HQ.out.zc.i (i := 0) rfl
   have r1 := HQ.out.zc.i (i := 1) rfl
   have r2 := HQ.out.zc.i (i := 2) rfl
   have f0 := HQ.out.frz 0
   have f1 := HQ.out.frz 1
   have f2 := HQ.out.frz 2
   have hr := HQ.out.lt
   have hz := za_lt Zn
   have hne : w.heap.size + 1 ≠ w2.heap.size := by have := HG.out.size; have := HP.out.2.1.lt; omega
   have e1 : IntKind.i64.wrap (t + t2) = t + t2 := by have := HT.out; have := HB.out; rw [IntKind.wrap_i64]; omega
   have e2 : IntKind.i64.wrap (cn + cc) = cn + cc := by have := HT.out; have := HB.out; rw [IntKind.wrap_i64]; omega
   have HT2 : Hid (cn + cc ≤ t + t2 ∧ t + t2 ≤ 780 * ((k + 1 : Nat) : Int)) := Lib.hid (by have := HT.out; have := HB.out; omega)
   clear hW C1 HL2 HG g3 gk HP HT HB kp h0
   cases zn <;>
   ·go_wp2_with fail
    go_roundw
    case rel =>
     have FR : ∀ u, FrO (w.heap.size + 1) (w.heap.size + 1) W2 (((W2.setCell ⟨w.heap.size + 1, 0, none⟩ (.int .i64 (t + t2))).setCell ⟨w.heap.size + 1, 1, none⟩ (.int .i64 (cn + cc))).setCell ⟨w.heap.size + 1, 2, none⟩ u) := fun u => (((FrO.refl _ _ _).set1 _).set1 _).set1 u
     exact ⟨k + 1, t + t2, by omega, by go_num, by rw [EC.out]; exact HT2, Lib.hid ⟨lst_fro HL3.out HQ.out sum_no (FR _), by rw [EC.out, EZ.out]; exact ((HQ.out.put (i := 0) _ (by simp)).put (i := 1) _ (by simp)).put (i := 2) _ (by simp), HR.out.fro (FR _) (by omega) (by omega), HK.out.trans ((FR _).down (by omega) (by omega) HK.out.size)⟩⟩
    case measure => simp [RowKit.intOf]; omega
  ·have i2 : ¬ (k : Int) < n := by have := HMN.out; omega
   obtain rfl : k = m := by omega
   clear HMN
   have HR := Lib.hid HP.out.2.2.1
   have HS := Lib.hid HP.out.2.1
   have HL := Lib.hid HP.out.1
   have gg := Lib.hid HP.out.2.2.2
   clear HP SC hk hlt
   generalize hcn : (ctN L k : Int) = cn at *
   generalize hzn : clN L k = zn at *
   go_upto_region 11 with fail
   refine wp_region_noPanic ?_
   refine wp_region_held_drew (S := fun w' => ZA w' (w.heap.size + 1) [.int .i64 t, .int .i64 cn, .bool zn]) (by kernel_rfl) (za_of (HS.out.kep (kep_drew (Kep.refl _ _))).zc) (fun hH => ?_)
   replace HR := Lib.hid (HR.out.kep (kep_drew (Kep.refl _ _)))
   replace HS := Lib.hid (HS.out.kep (kep_drew (Kep.refl _ _)))
   replace HL := Lib.hid (HL.out.kep (kep_drew (Kep.refl _ _)))
   replace gg := Lib.hid (kep_drew gg.out)
   generalize wr.drew = Y0 at *
   refine sT 0 hH ?_
   refine sT 1 hH ?_
   refine sN 2 hH ?_
   refine sC 3 (fun K hK => ?_)
   have r0 := HR.out.zc.i (i := 0) rfl
   have r1 := HR.out.zc.i (i := 1) rfl
   have r2 := HR.out.zc.i (i := 2) rfl
   have f0 := HR.out.frz 0
   have f1 := HR.out.frz 1
   have f2 := HR.out.frz 2
   have hr := HR.out.lt
   go_simp
   refine hK.out _ _ (za_of (((HS.out.zc.far1 (by omega) _).far1 (by omega) _).far1 (by omega) _)) (fun hH2 => ?_)
   clear r0 r1 r2 f0 f1 f2 hr
   clear hK K hH; have hH := hH2; clear hH2
   try simp only [Act.put, List.setIfInBounds_toArray, List.set_cons_zero, List.set_cons_succ]
   refine sE ?_
   have hst := HR.out.zc.set [.int .i64 t, .int .i64 cn, .bool zn] (by simp)
   simp only [setAll, Nat.zero_add, Nat.reduceAdd] at hst
   have q0 := hst.i (i := 0) rfl
   have q1 := hst.i (i := 1) rfl
   have q2 := hst.i (i := 2) rfl
   clear hst
   go_wp2_with fail
   refine bodyPost_ret (v := .tuple #[.slice b0 (stpN L k).length c0, .agg #[.int .i64 t, .int .i64 cn, .bool zn]]) (by simp [results, Tryz.results13, go_sem, q0, q1, q2]) rfl ?_
   have FR := (((FrO.refl w.heap.size w.heap.size Y0).set1 (o := 0) (.int .i64 t)).set1 (o := 1) (.int .i64 cn)).set1 (o := 2) (.bool zn)
   exact ⟨_, t, rfl, ⟨lst_fro HL.out HR.out sum_no FR, HT.out.1, HT.out.2⟩, kep_setAll (Nat.le_refl _) [.int .i64 t, .int .i64 cn, .bool zn] 0 gg.out⟩
end Go.Proofs.YtaknmlohnifcdaaGreatDoor
