import Derived.Test.YtaknmlohnifcdaaGreatDoorJ24MIntCon
import Derived.Test.YtaknmlohnifcdaaGreatDoorJ21MCorRef1
import Derived.Test.YtaknmlohnifcdaaGreatDoorJ25MIntOps1
import Derived.Test.YtaknmlohnifcdaaGreatDoorMJacOps3
import Derived.Test.YtaknmlohnifcdaaGreatDoorJ02MSeq
import Derived.Deep.DeepCutAuto
import Derived.Deep.QuietTactic
import Derived.BigQuiet
set_option maxHeartbeats 4000000
set_option maxRecDepth 100000
namespace Go.Proofs.YtaknmlohnifcdaaGreatDoor
open Go.RowKit Go.Lib

theorem bec {w : World} {sb : Nat} {v f : Value} {t c : Int} {z : Bool} (h : SB w sb (stv v f t c z)) (b : Option Addr) (n cap : Nat) (k : Bool) :
 Calls Tryz.prog 37 #[.pointer (some ⟨sb, 0, none⟩), .slice b n cap, .bool k] w fun e w' => e = .returned (.tuple #[]) ∧ SB w' sb (stv (.slice b n cap) f t c (z || k)) ∧ FrO sb sb w w' := by
 have HS := Lib.hid h
 have c0 := h.zc.i (i := 0) rfl
 have c4 := h.zc.i (i := 4) rfl
 have f0 := h.frz 0
 have f4 := h.frz 4
 have hl := h.lt
 clear h
 cases z <;>
 ·go_enter Tryz.func37, Tryz.ntmps37
  go_wp2_with fail
  refine bodyPost_end (v := .tuple #[]) (by exact results_none rfl _ _ _) (by rfl) ?_
  exact ⟨rfl, (HS.out.put (i := 0) _ (by simp)).put (i := 4) _ (by simp), ((FrO.refl _ _ _).set1 _).set1 _⟩
theorem kfall {L : List Bd} {w : World} {sb : Nat} {v : Value} {y : Option Addr} {n q : Nat} {t c : Int} {z : Bool} (h : SB w sb (stv v (.slice y n q) t c z)) (l : Lst w v L) (hl : L.length ≤ 1000) (ok : ∀ x ∈ L, okI x) :
 Calls Tryz.prog 21 #[.pointer (some ⟨sb, 0, none⟩)] w fun e w' => e = .returned (.tuple #[]) ∧ ∃ b a m, SB w' sb (stv (.slice b a m) (.slice y n q) t c (z || L.any grvC)) ∧ Lst w' (.slice b a m) (L.map grvB) ∧ (∀ C, Sq ctv 5 w (.slice y n q) C → Sq ctv 5 w' (.slice y n q) C) ∧ FrO sb sb w w' := by
 obtain ⟨base, cap, rfl⟩ := l.shape
 have C1 := Lib.hid (ygrv _ L w l hl ok)
 have HS := Lib.hid h
 have c0 := h.zc.i (i := 0) rfl
 clear h l hl ok
 go_enter Tryz.func21, Tryz.ntmps21
 go_wp2_with (first
  | ((with_reducible refine (C1.out).mono ?_); rintro e w1 ⟨v1, rfl, l1, g1⟩
     obtain ⟨b1, m1, rfl⟩ := l1.shape
     rw [List.length_map] at l1
     have HL := Lib.hid l1
     have HG := Lib.hid g1
     have S1 := Lib.hid (HS.out.kep g1)
     have B := Lib.hid (bec S1.out b1 L.length m1 (L.any grvC))
     clear l1 g1)
  | ((with_reducible refine (B.out).mono ?_); rintro e w2 ⟨rfl, s2, f2⟩
     have HS2 := Lib.hid s2
     have HF2 := Lib.hid f2
     clear s2 f2))
 refine bodyPost_end (v := .tuple #[]) (by exact results_none rfl _ _ _) (by rfl) ?_
 exact ⟨rfl, b1, _, m1, HS2.out, lst_fro HL.out S1.out stv_no HF2.out, fun C k => sqc_fro (k.kep HG.out) S1.out stv_no HF2.out, (FrO.of_kep HG.out).trans HF2.out⟩
theorem ksolve {L : List Bd} {C : List Ct} {w : World} {sb : Nat} {v : Value} {y : Option Addr} {n q : Nat} {t c : Int} {z : Bool} (h : SB w sb (stv v (.slice y n q) t c z)) (l : Lst w v L) (k : Sq ctv 5 w (.slice y n q) C) (A : JArg L C) :
 Calls Tryz.prog 22 #[.pointer (some ⟨sb, 0, none⟩)] w fun e w' => e = .returned (.tuple #[]) ∧ ∃ b a m, SB w' sb (stv (.slice b a m) (.slice y n q) t c (z || (slvN C L 4).2)) ∧ Lst w' (.slice b a m) (slvN C L 4).1 ∧ Sq ctv 5 w' (.slice y n q) C ∧ FrO sb sb w w' := by
 obtain ⟨base, cap, rfl⟩ := l.shape
 have gd : Kep w.heap.size w w.drew := kep_drew (Kep.refl _ _)
 have C1 := Lib.hid (jsolve _ L _ C w.drew (l.kep gd) (k.kep gd) A)
 have HS := Lib.hid (h.kep gd)
 have HK := Lib.hid (k.kep gd)
 have F0 := Lib.hid (FrO.of_kep (a := sb) (b := sb) gd)
 have c0 := HS.out.zc.i (i := 0) rfl
 have c1 := HS.out.zc.i (i := 1) rfl
 obtain ⟨s2, hs2⟩ : ∃ s, s = (slvN C L 4).2 := ⟨_, rfl⟩
 obtain ⟨V, hV⟩ : ∃ V, V = (slvN C L 4).1 := ⟨_, rfl⟩
 rw [← hs2, ← hV] at C1
 rw [← hs2, ← hV]
 clear h l k A gd hs2 hV
 go_enter Tryz.func22, Tryz.ntmps22
 go_upto_region 0 with fail
 refine wp_region_noPanic ?_
 refine wp_region_held_drew (S := fun w' => w'.cell? ⟨sb, 1, none⟩ = some (.slice y n q)) (by kernel_rfl) c1 (fun hH => ?_)
 clear c1
 generalize w.drew = Y0 at *
 refine sT 0 hH ?_
 refine sT 1 hH ?_
 refine sN 2 hH ?_
 refine sT 3 hH ?_
 refine sT 5 hH ?_
 refine sN 6 hH ?_
 refine sT 7 hH ?_
 refine sN 8 hH ?_
 refine sC 4 (fun K hK => ?_)
 go_simp
 refine hK.out _ _ hH (fun hH2 => ?_)
 clear hK K hH; have hH := hH2; clear hH2
 try simp only [Act.put, List.setIfInBounds_toArray, List.set_cons_zero, List.set_cons_succ]
 refine sC 9 (fun K hK => ?_)
 go_simp
 (with_reducible refine (C1.out).mono ?_); rintro e w2 ⟨v1, rfl, ⟨l1, -⟩, g1⟩
 obtain ⟨b2, m2, rfl⟩ := l1.shape
 have HL := Lib.hid l1
 have HG := Lib.hid g1
 have S2 := Lib.hid (HS.out.kep g1)
 have HQ := Lib.hid (HK.out.kep g1)
 refine hK.out _ _ (g1.all hH) (fun hH2 => ?_)
 clear l1 g1 c0
 clear hK K hH; have hH := hH2; clear hH2
 try simp only [Act.put, List.setIfInBounds_toArray, List.set_cons_zero, List.set_cons_succ]
 refine sT 10 hH ?_
 refine sN 11 hH ?_
 have B := Lib.hid (bec S2.out b2 V.length m2 s2)
 refine sC 12 (fun K hK => ?_)
 go_simp
 (with_reducible refine (B.out).mono ?_); rintro e w3 ⟨rfl, s3, f3⟩
 have HS3 := Lib.hid s3
 have HF3 := Lib.hid f3
 refine hK.out _ _ (s3.zc.i (i := 1) rfl) (fun hH2 => ?_)
 clear s3 f3
 refine sE ?_
 go_wp2_with fail
 refine bodyPost_end (v := .tuple #[]) (by exact results_none rfl _ _ _) (by rfl) ?_
 exact ⟨rfl, b2, _, m2, HS3.out, lst_fro HL.out S2.out stv_no HF3.out, sqc_fro HQ.out S2.out stv_no HF3.out, (F0.out.kep HG.out).trans HF3.out⟩
theorem kmove {L : List Bd} {C : List Ct} {w : World} {sb : Nat} {v : Value} {y : Option Addr} {n q : Nat} {t c : Int} {z : Bool} (h : SB w sb (stv v (.slice y n q) t c z)) (l : Lst w v L) (k : Sq ctv 5 w (.slice y n q) C) (A : SArg L C) :
 Calls Tryz.prog 23 #[.pointer (some ⟨sb, 0, none⟩)] w fun e w' => e = .returned (.tuple #[]) ∧ ∃ b a m, SB w' sb (stv (.slice b a m) (.slice y n q) t c (z || (mtA L (shfL L C)).any id)) ∧ Lst w' (.slice b a m) (mtL L (shfL L C)) ∧ a ≤ m ∧ FrO sb sb w w' := by
 obtain ⟨base, cap, rfl⟩ := l.shape
 have gd : Kep w.heap.size w w.drew := kep_drew (Kep.refl _ _)
 have C1 := Lib.hid (cshf _ L _ C w.drew (l.kep gd) (k.kep gd) A)
 have hn : (shfL L C).length = L.length := by unfold shfL; rw [List.length_map]
 have C2 : Hid (∀ v s w, Lst w v L → Sq shv 2 w s (shfL L C) → Calls Tryz.prog 40 #[v, s] w fun e w' => ∃ v', e = .returned (.tuple #[v', .bool ((mtA L (shfL L C)).any id)]) ∧ (Lst w' v' (mtL L (shfL L C)) ∧ Rmy v') ∧ Kep w.heap.size w w') := Lib.hid fun v s w h1 h2 => ymovR v L s (shfL L C) w h1 h2 (by have := A.vw.len; omega) hn A.vw.ok (sin_arg A)
 have HS := Lib.hid (h.kep gd)
 have HL := Lib.hid (l.kep gd)
 have F0 := Lib.hid (FrO.of_kep (a := sb) (b := sb) gd)
 have c0 := HS.out.zc.i (i := 0) rfl
 have c1 := HS.out.zc.i (i := 1) rfl
 obtain ⟨s2, hs2⟩ : ∃ s, s = (mtA L (shfL L C)).any id := ⟨_, rfl⟩
 obtain ⟨V, hV⟩ : ∃ V, V = mtL L (shfL L C) := ⟨_, rfl⟩
 rw [← hs2, ← hV] at C2
 rw [← hs2, ← hV]
 clear h l k A gd hs2 hV hn
 go_enter Tryz.func23, Tryz.ntmps23
 go_upto_region 0 with fail
 refine wp_region_noPanic ?_
 refine wp_region_held_drew (S := fun w' => w'.cell? ⟨sb, 1, none⟩ = some (.slice y n q)) (by kernel_rfl) c1 (fun hH => ?_)
 clear c1
 generalize w.drew = Y0 at *
 refine sT 0 hH ?_
 refine sT 1 hH ?_
 refine sN 2 hH ?_
 refine sT 3 hH ?_
 refine sT 5 hH ?_
 refine sN 6 hH ?_
 refine sT 7 hH ?_
 refine sT 9 hH ?_
 refine sN 10 hH ?_
 refine sT 11 hH ?_
 refine sN 12 hH ?_
 refine wpAnyH_ready (rs := [4, 8]) (by kernel_rfl) (by simp) ?_
 refine AllReadyH.cons (o := ⟨some 6, .load 22 (.tmp 5), _, _, _, none⟩) rfl (fun K hK => ?_) (AllReadyH.cons (o := ⟨some 10, .load 22 (.tmp 9), _, _, _, none⟩) rfl (fun K hK => ?_) AllReadyH.nil)
 ·go_simp
  refine hK.out _ _ hH (fun hH2 => ?_)
  clear hK K hH; have hH := hH2; clear hH2
  try simp only [Act.put, List.setIfInBounds_toArray, List.set_cons_zero, List.set_cons_succ]
  refine sC 8 (fun K hK => ?_)
  go_simp
  refine hK.out _ _ hH (fun hH2 => ?_)
  clear hK K hH; have hH := hH2; clear hH2
  try simp only [Act.put, List.setIfInBounds_toArray, List.set_cons_zero, List.set_cons_succ]
  refine sC 13 (fun K hK => ?_)
  go_simp
  (with_reducible refine (C1.out).mono ?_); rintro e w1 ⟨v1, rfl, ⟨q1, -⟩, g1⟩
  have HG := Lib.hid g1
  have S1 := Lib.hid (HS.out.kep g1)
  have C3 := Lib.hid (C2.out _ _ _ (HL.out.kep g1) q1)
  replace c0 := g1.all c0
  refine hK.out _ _ (g1.all hH) (fun hH2 => ?_)
  clear q1 g1
  clear hK K hH; have hH := hH2; clear hH2
  try simp only [Act.put, List.setIfInBounds_toArray, List.set_cons_zero, List.set_cons_succ]
  refine sC 14 (fun K hK => ?_)
  go_simp
  (with_reducible refine (C3.out).mono ?_); rintro e w2 ⟨v2, rfl, ⟨l2, r2⟩, g2⟩
  obtain ⟨b2, m2, rfl⟩ := l2.shape
  have HL2 := Lib.hid l2
  have HG2 := Lib.hid g2
  have HR := Lib.hid (r2 _ _ _ rfl)
  have S2 := Lib.hid (S1.out.kep g2)
  refine hK.out _ _ (g2.all hH) (fun hH2 => ?_)
  clear l2 g2 r2 c0
  clear hK K hH; have hH := hH2; clear hH2
  try simp only [Act.put, List.setIfInBounds_toArray, List.set_cons_zero, List.set_cons_succ]
  refine sT 15 hH ?_
  refine sN 16 hH ?_
  have B := Lib.hid (bec S2.out b2 V.length m2 s2)
  refine sC 17 (fun K hK => ?_)
  go_simp
  (with_reducible refine (B.out).mono ?_); rintro e w3 ⟨rfl, s3, f3⟩
  have HS3 := Lib.hid s3
  have HF3 := Lib.hid f3
  refine hK.out _ _ (s3.zc.i (i := 1) rfl) (fun hH2 => ?_)
  clear s3 f3
  refine sE ?_
  go_wp2_with fail
  refine bodyPost_end (v := .tuple #[]) (by exact results_none rfl _ _ _) (by rfl) ?_
  exact ⟨rfl, b2, _, m2, HS3.out, lst_fro HL2.out S2.out stv_no HF3.out, HR.out, ((F0.out.kep HG.out).kep HG2.out).trans HF3.out⟩
 ·go_simp
  refine hK.out _ _ hH (fun hH2 => ?_)
  clear hK K hH; have hH := hH2; clear hH2
  try simp only [Act.put, List.setIfInBounds_toArray, List.set_cons_zero, List.set_cons_succ]
  refine wpAnyH_ready (rs := [4, 13]) (by kernel_rfl) (by simp) ?_
  refine AllReadyH.cons (o := ⟨some 6, .load 22 (.tmp 5), _, _, _, none⟩) rfl (fun K hK => ?_) (AllReadyH.cons (o := ⟨some 15, .call { callee := .value (.func 41), args := #[.tmp 10, .tmp 14], argTypes := #[22, 50] }, _, _, _, none⟩) rfl (fun K hK => ?_) AllReadyH.nil)
  ·go_simp
   refine hK.out _ _ hH (fun hH2 => ?_)
   clear hK K hH; have hH := hH2; clear hH2
   try simp only [Act.put, List.setIfInBounds_toArray, List.set_cons_zero, List.set_cons_succ]
   refine sC 13 (fun K hK => ?_)
   go_simp
   (with_reducible refine (C1.out).mono ?_); rintro e w1 ⟨v1, rfl, ⟨q1, -⟩, g1⟩
   have HG := Lib.hid g1
   have S1 := Lib.hid (HS.out.kep g1)
   have C3 := Lib.hid (C2.out _ _ _ (HL.out.kep g1) q1)
   replace c0 := g1.all c0
   refine hK.out _ _ (g1.all hH) (fun hH2 => ?_)
   clear q1 g1
   clear hK K hH; have hH := hH2; clear hH2
   try simp only [Act.put, List.setIfInBounds_toArray, List.set_cons_zero, List.set_cons_succ]
   refine sC 14 (fun K hK => ?_)
   go_simp
   (with_reducible refine (C3.out).mono ?_); rintro e w2 ⟨v2, rfl, ⟨l2, r2⟩, g2⟩
   obtain ⟨b2, m2, rfl⟩ := l2.shape
   have HL2 := Lib.hid l2
   have HG2 := Lib.hid g2
   have HR := Lib.hid (r2 _ _ _ rfl)
   have S2 := Lib.hid (S1.out.kep g2)
   refine hK.out _ _ (g2.all hH) (fun hH2 => ?_)
   clear l2 g2 r2 c0
   clear hK K hH; have hH := hH2; clear hH2
   try simp only [Act.put, List.setIfInBounds_toArray, List.set_cons_zero, List.set_cons_succ]
   refine sT 15 hH ?_
   refine sN 16 hH ?_
   have B := Lib.hid (bec S2.out b2 V.length m2 s2)
   refine sC 17 (fun K hK => ?_)
   go_simp
   (with_reducible refine (B.out).mono ?_); rintro e w3 ⟨rfl, s3, f3⟩
   have HS3 := Lib.hid s3
   have HF3 := Lib.hid f3
   refine hK.out _ _ (s3.zc.i (i := 1) rfl) (fun hH2 => ?_)
   clear s3 f3
   refine sE ?_
   go_wp2_with fail
   refine bodyPost_end (v := .tuple #[]) (by exact results_none rfl _ _ _) (by rfl) ?_
   exact ⟨rfl, b2, _, m2, HS3.out, lst_fro HL2.out S2.out stv_no HF3.out, HR.out, ((F0.out.kep HG.out).kep HG2.out).trans HF3.out⟩
  ·go_simp
   (with_reducible refine (C1.out).mono ?_); rintro e w1 ⟨v1, rfl, ⟨q1, -⟩, g1⟩
   have HG := Lib.hid g1
   have S1 := Lib.hid (HS.out.kep g1)
   have C3 := Lib.hid (C2.out _ _ _ (HL.out.kep g1) q1)
   replace c0 := g1.all c0
   refine hK.out _ _ (g1.all hH) (fun hH2 => ?_)
   clear q1 g1
   clear hK K hH; have hH := hH2; clear hH2
   try simp only [Act.put, List.setIfInBounds_toArray, List.set_cons_zero, List.set_cons_succ]
   refine sC 4 (fun K hK => ?_)
   go_simp
   refine hK.out _ _ hH (fun hH2 => ?_)
   clear hK K hH; have hH := hH2; clear hH2
   try simp only [Act.put, List.setIfInBounds_toArray, List.set_cons_zero, List.set_cons_succ]
   refine sC 14 (fun K hK => ?_)
   go_simp
   (with_reducible refine (C3.out).mono ?_); rintro e w2 ⟨v2, rfl, ⟨l2, r2⟩, g2⟩
   obtain ⟨b2, m2, rfl⟩ := l2.shape
   have HL2 := Lib.hid l2
   have HG2 := Lib.hid g2
   have HR := Lib.hid (r2 _ _ _ rfl)
   have S2 := Lib.hid (S1.out.kep g2)
   refine hK.out _ _ (g2.all hH) (fun hH2 => ?_)
   clear l2 g2 r2 c0
   clear hK K hH; have hH := hH2; clear hH2
   try simp only [Act.put, List.setIfInBounds_toArray, List.set_cons_zero, List.set_cons_succ]
   refine sT 15 hH ?_
   refine sN 16 hH ?_
   have B := Lib.hid (bec S2.out b2 V.length m2 s2)
   refine sC 17 (fun K hK => ?_)
   go_simp
   (with_reducible refine (B.out).mono ?_); rintro e w3 ⟨rfl, s3, f3⟩
   have HS3 := Lib.hid s3
   have HF3 := Lib.hid f3
   refine hK.out _ _ (s3.zc.i (i := 1) rfl) (fun hH2 => ?_)
   clear s3 f3
   refine sE ?_
   go_wp2_with fail
   refine bodyPost_end (v := .tuple #[]) (by exact results_none rfl _ _ _) (by rfl) ?_
   exact ⟨rfl, b2, _, m2, HS3.out, lst_fro HL2.out S2.out stv_no HF3.out, HR.out, ((F0.out.kep HG.out).kep HG2.out).trans HF3.out⟩
theorem kfree {x : Bd} (hx : okI x) (hk : (Lit.int .u32 x.k).wf = true) : TFr x := fun w => by
 have SA := Lib.hid (sarg_single (x := grvB x) (ok_grv hx) (by rw [grvB_k]; exact hk))
 have E : Hid (mtL ([x].map grvB) (shfL ([x].map grvB) []) = [frB x]) := Lib.hid rfl
 have HX := Lib.hid hx
 obtain ⟨u, hu⟩ : ∃ u, u = frB x := ⟨_, rfl⟩
 rw [← hu] at E
 rw [← hu]
 clear hk hx hu
 go_enter Tryz.func17, Tryz.ntmps17
 go_upto_region 2 with fail
 generalize hW : World.alloc _ _ = W
 have g0 : Kep w.heap.size w W := by rw [← hW]; exact kep_more (kep_more (kep_more (kep_more (Kep.refl _ _) _) _) _) _
 have S0 : SB W (w.heap.size + 3) (stv (.slice (some ⟨w.heap.size + 2, 0, none⟩) 1 1) (.slice none 0 0) 0 0 false) := by rw [← hW]; exact sb_new' _ _ _ (by simp)
 have R0 : Hid (ZC W (w.heap.size + 1) [.int .u32 0, .int .i32 0, .int .i32 0, .int .i32 0, .int .i32 0, .int .i32 0, .int .i32 0, .int .i32 0, .int .i32 0, .int .i32 0]) := Lib.hid (by rw [← hW]; exact ((zc_new' _ _ _ (by simp)).more _).more _)
 have L0 : Lst W (.slice (some ⟨w.heap.size + 2, 0, none⟩) 1 1) [x] := by rw [← hW]; exact lst_one ((zc_new' _ (vals x) _ (by simp)).more _)
 have C1 := Lib.hid (kfall S0 L0 (by simp) (fun y hy => by rw [List.mem_singleton.1 hy]; exact HX.out))
 have G0 := Lib.hid g0
 have hsz : w.heap.size + 3 < W.heap.size := S0.lt
 have n1 : w.heap.size + 1 ≠ w.heap.size + 3 := by omega
 clear hW S0 L0 g0
 go_upto_region 4 with (first
  | ((with_reducible refine (C1.out).mono ?_); rintro e w1 ⟨rfl, b1, a1, m1, s1, l1, -, f1⟩
     have C2 := Lib.hid (kmove s1 l1 Sq.nil SA.out)
     have R1 := Lib.hid (f1.zc n1 n1 R0.out)
     have HF1 := Lib.hid f1
     clear s1 l1 f1)
  | ((with_reducible refine (C2.out).mono ?_); rintro e w2 ⟨rfl, b2, a2, m2, s2, l2, -, f2⟩
     rw [E.out] at l2
     obtain ⟨g, off, cp, e2, hc⟩ := one_at l2
     injection e2 with e3 e4 e5
     subst e3 e4 e5
     have Zu : ZE w2 g off [.int .u32 u.k, .int .i32 u.r, .int .i32 u.ax, .int .i32 u.ay, .int .i32 u.m, .int .i32 u.o, .int .i32 u.px, .int .i32 u.py, .int .i32 u.vx, .int .i32 u.vy] := ze_of hc
     have c0 := s2.zc.i (i := 0) rfl
     have R2 := f2.zc n1 n1 R1.out
     have HF := Lib.hid (HF1.out.trans f2)
     clear s2 l2 hc f2))
 have gg := Lib.hid (G0.out.trans (HF.out.down (B := w.heap.size) (by omega) (by omega) (by omega)))
 have HR := Lib.hid R2
 have r0 := R2.lt
 have r10 := R2.i (i := 0) rfl
 have f0 := R2.frz 0
 have r11 := R2.i (i := 1) rfl
 have f1 := R2.frz 1
 have r12 := R2.i (i := 2) rfl
 have f2 := R2.frz 2
 have r13 := R2.i (i := 3) rfl
 have f3 := R2.frz 3
 have r14 := R2.i (i := 4) rfl
 have f4 := R2.frz 4
 have r15 := R2.i (i := 5) rfl
 have f5 := R2.frz 5
 have r16 := R2.i (i := 6) rfl
 have f6 := R2.frz 6
 have r17 := R2.i (i := 7) rfl
 have f7 := R2.frz 7
 have r18 := R2.i (i := 8) rfl
 have f8 := R2.frz 8
 have r19 := R2.i (i := 9) rfl
 have f9 := R2.frz 9
 clear R2
 go_wp2_with fail
 have hst := HR.out.set [.int .u32 u.k, .int .i32 u.r, .int .i32 u.ax, .int .i32 u.ay, .int .i32 u.m, .int .i32 u.o, .int .i32 u.px, .int .i32 u.py, .int .i32 u.vx, .int .i32 u.vy] (by simp)
 simp only [setAll, Nat.zero_add, Nat.reduceAdd] at hst
 have q0 := hst.i (i := 0) rfl
 have q1 := hst.i (i := 1) rfl
 have q2 := hst.i (i := 2) rfl
 have q3 := hst.i (i := 3) rfl
 have q4 := hst.i (i := 4) rfl
 have q5 := hst.i (i := 5) rfl
 have q6 := hst.i (i := 6) rfl
 have q7 := hst.i (i := 7) rfl
 have q8 := hst.i (i := 8) rfl
 have q9 := hst.i (i := 9) rfl
 exact bodyPost_ret (v := .agg #[.int .u32 u.k, .int .i32 u.r, .int .i32 u.ax, .int .i32 u.ay, .int .i32 u.m, .int .i32 u.o, .int .i32 u.px, .int .i32 u.py, .int .i32 u.vx, .int .i32 u.vy]) (by simp [results, Tryz.results17, go_sem, q0, q1, q2, q3, q4, q5, q6, q7, q8, q9]) rfl ⟨rfl, kep_setAll (b := w.heap.size + 1) (by omega) [.int .u32 u.k, .int .i32 u.r, .int .i32 u.ax, .int .i32 u.ay, .int .i32 u.m, .int .i32 u.o, .int .i32 u.px, .int .i32 u.py, .int .i32 u.vx, .int .i32 u.vy] 0 gg.out⟩
end Go.Proofs.YtaknmlohnifcdaaGreatDoor
