/-
  Package integrate: the law IntegrateMatchesReference.
-/
import Derived.Test.YtlabeelbbkbkaaaIntLib
import Derived.Test.YtlabeelbbkbkaaaIntRef3
import Derived.Deep.DeepCutAuto
import Derived.Deep.QuietTactic
import Derived.BigQuiet
namespace Go.Proofs.Ytlabeelbbkbkaaa
open Go.RowKit Go.Lib

set_option maxRecDepth 100000 in
set_option maxHeartbeats 2000000 in
theorem yml_bad (AW : Hid YAwake) (ja jb : Int) (L : List Bd) (v : Value) (w : World) (hq : Lst w v L) (S : List Sh) (sv : Value) (hs : Sq shv 2 w sv S) (hvw : viwB L = false) : Calls Try.prog 3 #[v, sv, .agg #[.int .i32 ja, .int .i32 jb]] w fun e w' => e = .returned (.bool true) ∧ Kep w.heap.size w w' := by
  obtain ⟨base, cap, rfl⟩ := hq.shape
  have HQ := Lib.hid hq
  have HC := Lib.hid hs
  clear hq hs
  have VW : Hid (∀ v w, Lst w v L → Calls Try.prog 8 #[v] w fun e w' => ∃ v', e = .returned (.tuple #[v', .bool false]) ∧ Lst w' v' (if L.length ≤ 40 then sortL L else []) ∧ Kep w.heap.size w w') := Lib.hid (fun v w h => (rvw L v w h).mono fun e w' ⟨v', h1, h2, h3⟩ => ⟨v', by rw [h1]; rw [hvw], h2.1, h3⟩)
  clear HC
  go_enter Try.func3, Try.ntmps3
  go_wp2_with (first
    | ((with_reducible refine (VW.out _ _ (HQ.out.kep (kep_more (Kep.refl _ _) _))).mono ?_); rintro e w1 ⟨v1, rfl, l1, g1⟩
       have j0 := Kep.all g1 (a := ⟨w.heap.size, 0, none⟩) (v := .int .i32 ja) (by (repeat (first | rw [World.cell?_drew] | rw [World.cell?_alloc_past _ _ _ (by first | (simp; done) | (simp; omega))])); rw [World.cell?_alloc_at _ _ _ _ (by simp)]; rfl)
       have j1 := Kep.all g1 (a := ⟨w.heap.size, 1, none⟩) (v := .int .i32 jb) (by (repeat (first | rw [World.cell?_drew] | rw [World.cell?_alloc_past _ _ _ (by first | (simp; done) | (simp; omega))])); rw [World.cell?_alloc_at _ _ _ _ (by simp)]; rfl)
       have gg := kep_next (kep_more (Kep.refl _ _) _) g1
       have zj_w1 : w.heap.size < w1.heap.size := World.block_lt_of_cell? _ _ j0)
    | ((with_reducible refine (AW.out _).mono ?_); rintro e w2 ⟨rfl, g2⟩
       replace j0 := Kep.all g2 (a := ⟨w.heap.size, 0, none⟩) (v := .int .i32 ja) j0
       replace j1 := Kep.all g2 (a := ⟨w.heap.size, 1, none⟩) (v := .int .i32 jb) j1
       replace gg := kep_next gg g2
       replace l1 := l1.kep g2
       have zj_w2 : w.heap.size < w2.heap.size := World.block_lt_of_cell? _ _ j0))
  go_ret
  exact ⟨rfl, gg⟩
set_option maxRecDepth 100000 in
set_option maxHeartbeats 8000000 in
theorem yml_ok (O : YOps) (AW : Hid YAwake) (ja jb : Int) (hja : -2147483648 ≤ ja ∧ ja < 2147483648) (hjb : -2147483648 ≤ jb ∧ jb < 2147483648) (L : List Bd) (v : Value) (w : World) (hq : Lst w v L) (S : List Sh) (sv : Value) (hs : Sq shv 2 w sv S) (HF : Hid (∀ x ∈ L, Fits x)) (hvw : viwB L = true) : Calls Try.prog 3 #[v, sv, .agg #[.int .i32 ja, .int .i32 jb]] w fun e w' => e = .returned (.bool true) ∧ Kep w.heap.size w w' := by
  obtain ⟨base, cap, rfl⟩ := hq.shape
  have HQ := Lib.hid hq
  have HC := Lib.hid hs
  clear hq hs
  have VW : Hid (∀ v w, Lst w v L → Calls Try.prog 8 #[v] w fun e w' => ∃ v', e = .returned (.tuple #[v', .bool true]) ∧ Lst w' v' (sortL L) ∧ Kep w.heap.size w w') := Lib.hid (fun v w h => (rvw L v w h).mono fun e w' ⟨v', h1, h2, h3⟩ => ⟨v', by rw [h1]; rw [hvw], by have := h2.1; rw [if_pos (vw_of hvw HF.out).1] at this; exact this, h3⟩)
  have HVW := Lib.hid (vw_of hvw HF.out).2.2
  obtain ⟨A, hA⟩ : ∃ A, A = sortL L := ⟨_, rfl⟩
  rw [← hA] at VW HVW
  clear hA
  have hal := HVW.out.len
  have HOK := Lib.hid HVW.out.ok
  have HTI := Lib.hid (fitL_in S A.length)
  have hTL := fitL_len S A.length
  have FT := Lib.hid (fun v w h => lfit S A.length (by omega) v w h)
  generalize fitL S A.length = T at *
  have FW := Lib.hid (fun v w h => lfwd T (by omega) v w h)
  have HVB : Hid (∀ x ∈ A, Vb x) := Lib.hid fun x hx => vb_of (HOK.out x hx)
  have PG := Lib.hid (fun v w h => O.grv v A w h (by omega) HOK.out)
  have RG := Lib.hid (fun v w h => rig A (by omega) HVB v w h)
  have PM := Lib.hid (fun v s w h k => O.mvq v A s T w h k (by omega) hTL HOK.out HTI.out)
  have RM := Lib.hid (fun v s w h k => rim A (by omega) HOK T hTL HTI v s w h k)
  have PP := Lib.hid (fun x (hx : x ∈ A) => O.psh (HOK.out x hx) hja hjb)
  have RP := Lib.hid (fun x (hx : x ∈ A) => rips (HOK.out x hx) hja hjb)
  have S1 := Lib.hid (fun va vb w h1 h2 => same_any va vb (A.map grvB) w h1 h2 (by rw [List.length_map]; omega))
  have S2 := Lib.hid (fun va vb w h1 h2 => same_any va vb (mtL A T) w h1 h2 (by rw [mtL_len hTL]; omega))
  obtain ⟨zg, hzg⟩ : ∃ z, z = A.any grvC := ⟨_, rfl⟩
  obtain ⟨zm, hzm⟩ : ∃ z, z = (mtA A T).any id := ⟨_, rfl⟩
  rw [← hzg] at PG RG
  rw [← hzm] at PM RM
  have b1 : (zg != zg) = false := by simp
  have b2 : (zm != zm) = false := by simp
  clear hzg hzm hTL
  generalize hna : A.length = na at *
  have HNA := Lib.hid hna
  clear hna
  go_enter Try.func3, Try.ntmps3
  go_upto_region 11 with (first
    | ((with_reducible refine (VW.out _ _ (HQ.out.kep (kep_more (Kep.refl _ _) _))).mono ?_); rintro e w1 ⟨v1, rfl, l1, g1⟩
       have j0 := Kep.all g1 (a := ⟨w.heap.size, 0, none⟩) (v := .int .i32 ja) (by (repeat (first | rw [World.cell?_drew] | rw [World.cell?_alloc_past _ _ _ (by first | (simp; done) | (simp; omega))])); rw [World.cell?_alloc_at _ _ _ _ (by simp)]; rfl)
       have j1 := Kep.all g1 (a := ⟨w.heap.size, 1, none⟩) (v := .int .i32 jb) (by (repeat (first | rw [World.cell?_drew] | rw [World.cell?_alloc_past _ _ _ (by first | (simp; done) | (simp; omega))])); rw [World.cell?_alloc_at _ _ _ _ (by simp)]; rfl)
       have gg := kep_next (kep_more (Kep.refl _ _) _) g1
       obtain ⟨bl, cl, rfl⟩ := l1.shape
       rw [HNA.out] at l1 ⊢
       have zj_w1 : w.heap.size < w1.heap.size := World.block_lt_of_cell? _ _ j0)
    | ((with_reducible refine (AW.out _).mono ?_); rintro e w2 ⟨rfl, g2⟩
       replace j0 := Kep.all g2 (a := ⟨w.heap.size, 0, none⟩) (v := .int .i32 ja) j0
       replace j1 := Kep.all g2 (a := ⟨w.heap.size, 1, none⟩) (v := .int .i32 jb) j1
       replace gg := kep_next gg g2
       replace l1 := l1.kep g2
       have zj_w2 : w.heap.size < w2.heap.size := World.block_lt_of_cell? _ _ j0)
    | ((with_reducible refine (FT.out _ _ (HC.out.kep gg)).mono ?_); rintro e w3 ⟨v3, rfl, s3, g3⟩; replace gg := kep_next gg g3; replace j0 := g3.all j0; replace j1 := g3.all j1; replace l1 := l1.kep g3)
    | ((with_reducible refine (PG.out _ _ l1).mono ?_); rintro e w4 ⟨v4, rfl, l4, g4⟩; replace gg := kep_next gg g4; replace j0 := g4.all j0; replace j1 := g4.all j1; replace l1 := l1.kep g4; replace s3 := s3.kep g4)
    | ((with_reducible refine (RG.out _ _ l1).mono ?_); rintro e w5 ⟨v5, rfl, l5, g5⟩; replace gg := kep_next gg g5; replace j0 := g5.all j0; replace j1 := g5.all j1; replace l1 := l1.kep g5; replace s3 := s3.kep g5; replace l4 := l4.kep g5)
    | ((with_reducible refine (FW.out _ _ s3).mono ?_); rintro e w6 ⟨v6, rfl, s6, g6⟩; replace gg := kep_next gg g6; replace j0 := g6.all j0; replace j1 := g6.all j1; replace l1 := l1.kep g6; replace s3 := s3.kep g6; replace l4 := l4.kep g6; replace l5 := l5.kep g6)
    | ((with_reducible refine (PM.out _ _ _ l1 s6).mono ?_); rintro e w7 ⟨v7, rfl, l7, g7⟩; replace gg := kep_next gg g7; replace j0 := g7.all j0; replace j1 := g7.all j1; replace l1 := l1.kep g7; replace s3 := s3.kep g7; replace l4 := l4.kep g7; replace l5 := l5.kep g7)
    | ((with_reducible refine (RM.out _ _ _ l1 s3).mono ?_); rintro e w8 ⟨v8, rfl, l8, g8⟩; replace gg := kep_next gg g8; replace j0 := g8.all j0; replace j1 := g8.all j1; replace l1 := l1.kep g8; replace l4 := l4.kep g8; replace l5 := l5.kep g8; replace l7 := l7.kep g8)
    | ((with_reducible refine (S1.out _ _ _ l4 l5).mono ?_); rintro e w9 ⟨rfl, g9⟩; replace gg := kep_next gg g9; replace j0 := g9.all j0; replace j1 := g9.all j1; replace l1 := l1.kep g9; replace l7 := l7.kep g9; replace l8 := l8.kep g9)
    | ((with_reducible refine (S2.out _ _ _ l7 l8).mono ?_); rintro e w10 ⟨rfl, g10⟩; replace gg := kep_next gg g10; replace j0 := g10.all j0; replace j1 := g10.all j1; replace l1 := l1.kep g10))
  have HL := Lib.hid l1
  have G0 := Lib.hid gg
  have HLA := Lib.hid (fun (k : Nat) (y : Bd) (hy : A[k]? = some y) => HL.out.at_ hy)
  have J0 := Lib.hid j0
  have J1 := Lib.hid j1
  clear l1 gg j0 j1 b1 b2
  go_wp2_with fail
  go_loopw [18] (fun i wr => ∃ k : Nat, k ≤ na ∧ i = .int .i64 k ∧ Hid (Kep w10.heap.size w10 wr)) (fun i _ => na - (RowKit.intOf i).toNat)
  case atStart => exact ⟨0, by omega, rfl, Lib.hid (Kep.refl _ _)⟩
  case round =>
    obtain ⟨k, hk, rfl, HP⟩ := hrel
    by_cases hlt : k < na
    · have hb : A[k]? = some (A[k]'(by rw [HNA.out]; exact hlt)) := List.getElem?_eq_getElem _
      generalize A[k]'(by rw [HNA.out]; exact hlt) = x at hb
      have hm := List.mem_of_getElem? hb
      obtain ⟨gl, off, rfl, qx⟩ := HLA.out k x hb
      have PU := Lib.hid (PP.out x hm)
      have RU := Lib.hid (RP.out x hm)
      unfold YPs psV at PU
      unfold RPs psV at RU
      generalize limJ (psX x ja) = a at *
      generalize limJ (psY x jb) = b at *
      generalize psC x ja jb = z at *
      have vq : ∀ w, (binOp .neq 37 (.agg #[.int .u32 x.k, .int .i32 x.r, .int .i32 x.ax, .int .i32 x.ay, .int .i32 x.m, .int .i32 x.o, .int .i32 x.px, .int .i32 x.py, .int .i32 a, .int .i32 b]) (.agg #[.int .u32 x.k, .int .i32 x.r, .int .i32 x.ax, .int .i32 x.ay, .int .i32 x.m, .int .i32 x.o, .int .i32 x.px, .int .i32 x.py, .int .i32 a, .int .i32 b])).run Try.prog w = .ok (.bool false) w := fun w => body_neq ⟨x.k, x.r, x.ax, x.ay, x.m, x.o, x.px, x.py, a, b⟩ w
      have zz : (z != z) = false := by simp
      have j0 := HP.out.all J0.out
      have j1 := HP.out.all J1.out
      have x0 : wr.cell? ⟨gl, off + k * 10, none⟩ = some (.int .u32 x.k) := HP.out.all (qx 0 (by decide))
      have x1 : wr.cell? ⟨gl, off + k * 10 + 1, none⟩ = some (.int .i32 x.r) := HP.out.all (qx 1 (by decide))
      have x2 : wr.cell? ⟨gl, off + k * 10 + 2, none⟩ = some (.int .i32 x.ax) := HP.out.all (qx 2 (by decide))
      have x3 : wr.cell? ⟨gl, off + k * 10 + 3, none⟩ = some (.int .i32 x.ay) := HP.out.all (qx 3 (by decide))
      have x4 : wr.cell? ⟨gl, off + k * 10 + 4, none⟩ = some (.int .i32 x.m) := HP.out.all (qx 4 (by decide))
      have x5 : wr.cell? ⟨gl, off + k * 10 + 5, none⟩ = some (.int .i32 x.o) := HP.out.all (qx 5 (by decide))
      have x6 : wr.cell? ⟨gl, off + k * 10 + 6, none⟩ = some (.int .i32 x.px) := HP.out.all (qx 6 (by decide))
      have x7 : wr.cell? ⟨gl, off + k * 10 + 7, none⟩ = some (.int .i32 x.py) := HP.out.all (qx 7 (by decide))
      have x8 : wr.cell? ⟨gl, off + k * 10 + 8, none⟩ = some (.int .i32 x.vx) := HP.out.all (qx 8 (by decide))
      have x9 : wr.cell? ⟨gl, off + k * 10 + 9, none⟩ = some (.int .i32 x.vy) := HP.out.all (qx 9 (by decide))
      have i0 : (0 : Int) ≤ (k : Int) := Int.natCast_nonneg _
      have i1 : (k : Int) < (na : Int) := by omega
      have gg : Kep wr.heap.size wr wr := Kep.refl _ _
      have hgl := World.block_lt_of_cell? _ _ x0
      have hjl := World.block_lt_of_cell? _ _ j0
      dsimp only at hgl hjl
      clear hb hm qx
      go_upto_region 14 with fail
      go_cut [19, 20] (fun s19 s20 wx => ∃ p, s19 = .pointer (some ⟨p, 0, none⟩) ∧ s20 = .bool z ∧ ZC wx p [.int .u32 x.k, .int .i32 x.r, .int .i32 x.ax, .int .i32 x.ay, .int .i32 x.m, .int .i32 x.o, .int .i32 x.px, .int .i32 x.py, .int .i32 a, .int .i32 b] ∧ Kep wr.heap.size wr wx)
      case first =>
        refine wp_region_noPanic ?_
        refine wp_region_held_drew (S := (fun w' => w'.cell? ⟨gl, off + k * 10, none⟩ = some (.int .u32 x.k) ∧ w'.cell? ⟨gl, off + k * 10 + 1, none⟩ = some (.int .i32 x.r) ∧ w'.cell? ⟨gl, off + k * 10 + 2, none⟩ = some (.int .i32 x.ax) ∧ w'.cell? ⟨gl, off + k * 10 + 3, none⟩ = some (.int .i32 x.ay) ∧ w'.cell? ⟨gl, off + k * 10 + 4, none⟩ = some (.int .i32 x.m) ∧ w'.cell? ⟨gl, off + k * 10 + 5, none⟩ = some (.int .i32 x.o) ∧ w'.cell? ⟨gl, off + k * 10 + 6, none⟩ = some (.int .i32 x.px) ∧ w'.cell? ⟨gl, off + k * 10 + 7, none⟩ = some (.int .i32 x.py) ∧ w'.cell? ⟨gl, off + k * 10 + 8, none⟩ = some (.int .i32 x.vx) ∧ w'.cell? ⟨gl, off + k * 10 + 9, none⟩ = some (.int .i32 x.vy) ∧ w'.cell? ⟨w.heap.size, 0, none⟩ = some (.int .i32 ja) ∧ w'.cell? ⟨w.heap.size, 1, none⟩ = some (.int .i32 jb) ∧ Kep wr.heap.size wr w')) (by kernel_rfl) (⟨by rw [World.cell?_drew]; exact x0, by rw [World.cell?_drew]; exact x1, by rw [World.cell?_drew]; exact x2, by rw [World.cell?_drew]; exact x3, by rw [World.cell?_drew]; exact x4, by rw [World.cell?_drew]; exact x5, by rw [World.cell?_drew]; exact x6, by rw [World.cell?_drew]; exact x7, by rw [World.cell?_drew]; exact x8, by rw [World.cell?_drew]; exact x9, by rw [World.cell?_drew]; exact j0, by rw [World.cell?_drew]; exact j1, kep_drew gg⟩) (fun hH => ?_)
        refine sT 0 hH ?_
        refine sT 1 hH ?_
        refine sN 2 hH ?_
        refine sT 3 hH ?_
        refine sN 4 hH ?_
        refine wpAnyH_ready (rs := [5, 9]) (by kernel_rfl) (by simp) ?_
        refine AllReadyH.cons (o := ⟨some 94, .call { callee := .value (.func 17), args := #[.tmp 92, .tmp 93], argTypes := #[37, 25] }, _, _, _, none⟩) rfl (fun K hK => ?_) (AllReadyH.cons (o := ⟨some 19, .alloc 37, _, _, _, none⟩) rfl (fun K hK => ?_) AllReadyH.nil)
        ·
          go_simp
          (with_reducible refine (PU.out _).mono ?_); rintro e v14_1 ⟨rfl, g⟩
          refine hK.out _ _ (by (try dsimp only); (go_split_ands; exact ⟨Kep.all g (by assumption), Kep.all g (by assumption), Kep.all g (by assumption), Kep.all g (by assumption), Kep.all g (by assumption), Kep.all g (by assumption), Kep.all g (by assumption), Kep.all g (by assumption), Kep.all g (by assumption), Kep.all g (by assumption), Kep.all g (by assumption), Kep.all g (by assumption), kep_next (by assumption) g⟩)) (fun hH2 => ?_)
          clear hK K hH; have hH := hH2; clear hH2
          refine sT 6 hH ?_
          refine sT 7 hH ?_
          refine sN 8 hH ?_
          refine sC 9 (fun K hK => ?_)
          go_simp
          have z1 : ZC (World.alloc (v14_1) (.cells #[.int .u32 0, .int .i32 0, .int .i32 0, .int .i32 0, .int .i32 0, .int .i32 0, .int .i32 0, .int .i32 0, .int .i32 0, .int .i32 0] 37)) (v14_1).heap.size [.int .u32 0, .int .i32 0, .int .i32 0, .int .i32 0, .int .i32 0, .int .i32 0, .int .i32 0, .int .i32 0, .int .i32 0, .int .i32 0] := zc_new _ _ _
          have z1b : wr.heap.size ≤ (v14_1).heap.size := by obtain ⟨x0, x1, x2, x3, x4, x5, x6, x7, x8, x9, j0, j1, gg⟩ := id hH; exact gg.size
          refine hK.out _ _ (by (try dsimp only); (go_split_ands; exact ⟨Kep.all (kep_more (Kep.refl _ _) _) (by assumption), Kep.all (kep_more (Kep.refl _ _) _) (by assumption), Kep.all (kep_more (Kep.refl _ _) _) (by assumption), Kep.all (kep_more (Kep.refl _ _) _) (by assumption), Kep.all (kep_more (Kep.refl _ _) _) (by assumption), Kep.all (kep_more (Kep.refl _ _) _) (by assumption), Kep.all (kep_more (Kep.refl _ _) _) (by assumption), Kep.all (kep_more (Kep.refl _ _) _) (by assumption), Kep.all (kep_more (Kep.refl _ _) _) (by assumption), Kep.all (kep_more (Kep.refl _ _) _) (by assumption), Kep.all (kep_more (Kep.refl _ _) _) (by assumption), Kep.all (kep_more (Kep.refl _ _) _) (by assumption), kep_more (by assumption) _⟩)) (fun hH2 => ?_)
          try simp only [World.size_drew] at z1 z1b
          have hH_z1 := hH
          clear hK K hH; have hH := hH2; clear hH2
          try simp only [Act.put, List.setIfInBounds_toArray, List.set_cons_zero, List.set_cons_succ]
          refine sC 10 (fun K hK => ?_)
          obtain ⟨x0, x1, x2, x3, x4, x5, x6, x7, x8, x9, j0, j1, gg⟩ := id hH
          have z1q0 := z1.i (i := 0) rfl; have z1f0 := z1.frz 0
          have z1q1 := z1.i (i := 1) rfl; have z1f1 := z1.frz 1
          have z1q2 := z1.i (i := 2) rfl; have z1f2 := z1.frz 2
          have z1q3 := z1.i (i := 3) rfl; have z1f3 := z1.frz 3
          have z1q4 := z1.i (i := 4) rfl; have z1f4 := z1.frz 4
          have z1q5 := z1.i (i := 5) rfl; have z1f5 := z1.frz 5
          have z1q6 := z1.i (i := 6) rfl; have z1f6 := z1.frz 6
          have z1q7 := z1.i (i := 7) rfl; have z1f7 := z1.frz 7
          have z1q8 := z1.i (i := 8) rfl; have z1f8 := z1.frz 8
          have z1q9 := z1.i (i := 9) rfl; have z1f9 := z1.frz 9
          go_simp
          have z1' : ZC (World.alloc (v14_1) (.cells #[.int .u32 x.k, .int .i32 x.r, .int .i32 x.ax, .int .i32 x.ay, .int .i32 x.m, .int .i32 x.o, .int .i32 x.px, .int .i32 x.py, .int .i32 a, .int .i32 b] 37)) (v14_1).heap.size [.int .u32 x.k, .int .i32 x.r, .int .i32 x.ax, .int .i32 x.ay, .int .i32 x.m, .int .i32 x.o, .int .i32 x.px, .int .i32 x.py, .int .i32 a, .int .i32 b] := zc_new _ _ _
          try simp only [World.size_drew] at z1'
          clear z1; have z1 := z1'; clear z1'
          refine hK.out _ _ (by (try dsimp only); obtain ⟨x0, x1, x2, x3, x4, x5, x6, x7, x8, x9, j0, j1, gg⟩ := id hH_z1; exact ⟨Kep.all (kep_more (Kep.refl _ _) _) x0, Kep.all (kep_more (Kep.refl _ _) _) x1, Kep.all (kep_more (Kep.refl _ _) _) x2, Kep.all (kep_more (Kep.refl _ _) _) x3, Kep.all (kep_more (Kep.refl _ _) _) x4, Kep.all (kep_more (Kep.refl _ _) _) x5, Kep.all (kep_more (Kep.refl _ _) _) x6, Kep.all (kep_more (Kep.refl _ _) _) x7, Kep.all (kep_more (Kep.refl _ _) _) x8, Kep.all (kep_more (Kep.refl _ _) _) x9, Kep.all (kep_more (Kep.refl _ _) _) j0, Kep.all (kep_more (Kep.refl _ _) _) j1, kep_more gg _⟩) (fun hH2 => ?_)
          clear hH_z1
          clear hK K hH x0 x1 x2 x3 x4 x5 x6 x7 x8 x9 j0 j1 gg z1q0 z1f0 z1q1 z1f1 z1q2 z1f2 z1q3 z1f3 z1q4 z1f4 z1q5 z1f5 z1q6 z1f6 z1q7 z1f7 z1q8 z1f8 z1q9 z1f9; have hH := hH2; clear hH2
          refine sN 11 hH ?_
          refine sE ?_
          obtain ⟨x0, x1, x2, x3, x4, x5, x6, x7, x8, x9, j0, j1, gg⟩ := hH
          go_wp2_with fail
          go_meet
          exact ⟨_, rfl, rfl, z1, gg⟩
        ·
          go_simp
          have z1 : ZC (World.alloc (wr.drew) (.cells #[.int .u32 0, .int .i32 0, .int .i32 0, .int .i32 0, .int .i32 0, .int .i32 0, .int .i32 0, .int .i32 0, .int .i32 0, .int .i32 0] 37)) (wr.drew).heap.size [.int .u32 0, .int .i32 0, .int .i32 0, .int .i32 0, .int .i32 0, .int .i32 0, .int .i32 0, .int .i32 0, .int .i32 0, .int .i32 0] := zc_new _ _ _
          have z1b : wr.heap.size ≤ (wr.drew).heap.size := by obtain ⟨x0, x1, x2, x3, x4, x5, x6, x7, x8, x9, j0, j1, gg⟩ := id hH; exact gg.size
          refine hK.out _ _ (by (try dsimp only); (go_split_ands; exact ⟨Kep.all (kep_more (Kep.refl _ _) _) (by assumption), Kep.all (kep_more (Kep.refl _ _) _) (by assumption), Kep.all (kep_more (Kep.refl _ _) _) (by assumption), Kep.all (kep_more (Kep.refl _ _) _) (by assumption), Kep.all (kep_more (Kep.refl _ _) _) (by assumption), Kep.all (kep_more (Kep.refl _ _) _) (by assumption), Kep.all (kep_more (Kep.refl _ _) _) (by assumption), Kep.all (kep_more (Kep.refl _ _) _) (by assumption), Kep.all (kep_more (Kep.refl _ _) _) (by assumption), Kep.all (kep_more (Kep.refl _ _) _) (by assumption), Kep.all (kep_more (Kep.refl _ _) _) (by assumption), Kep.all (kep_more (Kep.refl _ _) _) (by assumption), kep_more (by assumption) _⟩)) (fun hH2 => ?_)
          try simp only [World.size_drew] at z1 z1b
          have hH_z1 := hH
          clear hK K hH; have hH := hH2; clear hH2
          try simp only [Act.put, List.setIfInBounds_toArray, List.set_cons_zero, List.set_cons_succ]
          refine sC 5 (fun K hK => ?_)
          go_simp
          (with_reducible refine (PU.out _).mono ?_); rintro e v14_2 ⟨rfl, g⟩
          replace z1 := z1.kep g
          refine hK.out _ _ (by (try dsimp only); (go_split_ands; exact ⟨Kep.all g (by assumption), Kep.all g (by assumption), Kep.all g (by assumption), Kep.all g (by assumption), Kep.all g (by assumption), Kep.all g (by assumption), Kep.all g (by assumption), Kep.all g (by assumption), Kep.all g (by assumption), Kep.all g (by assumption), Kep.all g (by assumption), Kep.all g (by assumption), kep_next (by assumption) g⟩)) (fun hH2 => ?_)
          clear hK K hH; have hH := hH2; clear hH2
          refine sT 6 hH ?_
          refine sT 7 hH ?_
          refine sN 8 hH ?_
          refine sC 10 (fun K hK => ?_)
          obtain ⟨x0, x1, x2, x3, x4, x5, x6, x7, x8, x9, j0, j1, gg⟩ := id hH
          have z1q0 := z1.i (i := 0) rfl; have z1f0 := z1.frz 0
          have z1q1 := z1.i (i := 1) rfl; have z1f1 := z1.frz 1
          have z1q2 := z1.i (i := 2) rfl; have z1f2 := z1.frz 2
          have z1q3 := z1.i (i := 3) rfl; have z1f3 := z1.frz 3
          have z1q4 := z1.i (i := 4) rfl; have z1f4 := z1.frz 4
          have z1q5 := z1.i (i := 5) rfl; have z1f5 := z1.frz 5
          have z1q6 := z1.i (i := 6) rfl; have z1f6 := z1.frz 6
          have z1q7 := z1.i (i := 7) rfl; have z1f7 := z1.frz 7
          have z1q8 := z1.i (i := 8) rfl; have z1f8 := z1.frz 8
          have z1q9 := z1.i (i := 9) rfl; have z1f9 := z1.frz 9
          go_simp
          have hst : (fun w' => w'.cell? ⟨gl, off + k * 10, none⟩ = some (.int .u32 x.k) ∧ w'.cell? ⟨gl, off + k * 10 + 1, none⟩ = some (.int .i32 x.r) ∧ w'.cell? ⟨gl, off + k * 10 + 2, none⟩ = some (.int .i32 x.ax) ∧ w'.cell? ⟨gl, off + k * 10 + 3, none⟩ = some (.int .i32 x.ay) ∧ w'.cell? ⟨gl, off + k * 10 + 4, none⟩ = some (.int .i32 x.m) ∧ w'.cell? ⟨gl, off + k * 10 + 5, none⟩ = some (.int .i32 x.o) ∧ w'.cell? ⟨gl, off + k * 10 + 6, none⟩ = some (.int .i32 x.px) ∧ w'.cell? ⟨gl, off + k * 10 + 7, none⟩ = some (.int .i32 x.py) ∧ w'.cell? ⟨gl, off + k * 10 + 8, none⟩ = some (.int .i32 x.vx) ∧ w'.cell? ⟨gl, off + k * 10 + 9, none⟩ = some (.int .i32 x.vy) ∧ w'.cell? ⟨w.heap.size, 0, none⟩ = some (.int .i32 ja) ∧ w'.cell? ⟨w.heap.size, 1, none⟩ = some (.int .i32 jb) ∧ Kep wr.heap.size wr w') (setAll (v14_2) ((wr).heap.size) 0 [.int .u32 x.k, .int .i32 x.r, .int .i32 x.ax, .int .i32 x.ay, .int .i32 x.m, .int .i32 x.o, .int .i32 x.px, .int .i32 x.py, .int .i32 a, .int .i32 b]) := ⟨setAll_far _ _ _ _ (by first | omega | (simp; done) | (simp; omega)) x0, setAll_far _ _ _ _ (by first | omega | (simp; done) | (simp; omega)) x1, setAll_far _ _ _ _ (by first | omega | (simp; done) | (simp; omega)) x2, setAll_far _ _ _ _ (by first | omega | (simp; done) | (simp; omega)) x3, setAll_far _ _ _ _ (by first | omega | (simp; done) | (simp; omega)) x4, setAll_far _ _ _ _ (by first | omega | (simp; done) | (simp; omega)) x5, setAll_far _ _ _ _ (by first | omega | (simp; done) | (simp; omega)) x6, setAll_far _ _ _ _ (by first | omega | (simp; done) | (simp; omega)) x7, setAll_far _ _ _ _ (by first | omega | (simp; done) | (simp; omega)) x8, setAll_far _ _ _ _ (by first | omega | (simp; done) | (simp; omega)) x9, setAll_far _ _ _ _ (by first | omega | (simp; done) | (simp; omega)) j0, setAll_far _ _ _ _ (by first | omega | (simp; done) | (simp; omega)) j1, kep_setAll (by first | omega | (have := gg.size; simp at *; omega)) _ _ gg⟩
          replace z1 := z1.set [.int .u32 x.k, .int .i32 x.r, .int .i32 x.ax, .int .i32 x.ay, .int .i32 x.m, .int .i32 x.o, .int .i32 x.px, .int .i32 x.py, .int .i32 a, .int .i32 b] (by simp)
          simp only [setAll, Nat.zero_add, Nat.reduceAdd] at hst z1
          refine hK.out _ _ hst (fun hH2 => ?_)
          clear hst
          clear hK K hH x0 x1 x2 x3 x4 x5 x6 x7 x8 x9 j0 j1 gg z1q0 z1f0 z1q1 z1f1 z1q2 z1f2 z1q3 z1f3 z1q4 z1f4 z1q5 z1f5 z1q6 z1f6 z1q7 z1f7 z1q8 z1f8 z1q9 z1f9; have hH := hH2; clear hH2
          refine sN 11 hH ?_
          refine sE ?_
          obtain ⟨x0, x1, x2, x3, x4, x5, x6, x7, x8, x9, j0, j1, gg⟩ := hH
          go_wp2_with fail
          go_meet
          exact ⟨_, rfl, rfl, z1, gg⟩
      case rest =>
        obtain ⟨p, rfl, rfl, zp, g1⟩ := hcut
        generalize wc = wp at *
        replace x0 := g1.all x0
        replace x1 := g1.all x1
        replace x2 := g1.all x2
        replace x3 := g1.all x3
        replace x4 := g1.all x4
        replace x5 := g1.all x5
        replace x6 := g1.all x6
        replace x7 := g1.all x7
        replace x8 := g1.all x8
        replace x9 := g1.all x9
        replace j0 := g1.all j0
        replace j1 := g1.all j1
        clear gg hgl hjl
        have hgl := World.block_lt_of_cell? _ _ x0
        have hjl := World.block_lt_of_cell? _ _ j0
        dsimp only at hgl hjl
        have gg : Kep wp.heap.size wp wp := Kep.refl _ _
        have HZP := Lib.hid zp
        have HG1 := Lib.hid g1
        clear zp g1
        go_upto_region 15 with fail
        go_cut [21, 22] (fun s21 s22 wx => ∃ p, s21 = .pointer (some ⟨p, 0, none⟩) ∧ s22 = .bool z ∧ ZC wx p [.int .u32 x.k, .int .i32 x.r, .int .i32 x.ax, .int .i32 x.ay, .int .i32 x.m, .int .i32 x.o, .int .i32 x.px, .int .i32 x.py, .int .i32 a, .int .i32 b] ∧ Kep wp.heap.size wp wx)
        case first =>
          refine wp_region_noPanic ?_
          refine wp_region_held_drew (S := (fun w' => w'.cell? ⟨gl, off + k * 10, none⟩ = some (.int .u32 x.k) ∧ w'.cell? ⟨gl, off + k * 10 + 1, none⟩ = some (.int .i32 x.r) ∧ w'.cell? ⟨gl, off + k * 10 + 2, none⟩ = some (.int .i32 x.ax) ∧ w'.cell? ⟨gl, off + k * 10 + 3, none⟩ = some (.int .i32 x.ay) ∧ w'.cell? ⟨gl, off + k * 10 + 4, none⟩ = some (.int .i32 x.m) ∧ w'.cell? ⟨gl, off + k * 10 + 5, none⟩ = some (.int .i32 x.o) ∧ w'.cell? ⟨gl, off + k * 10 + 6, none⟩ = some (.int .i32 x.px) ∧ w'.cell? ⟨gl, off + k * 10 + 7, none⟩ = some (.int .i32 x.py) ∧ w'.cell? ⟨gl, off + k * 10 + 8, none⟩ = some (.int .i32 x.vx) ∧ w'.cell? ⟨gl, off + k * 10 + 9, none⟩ = some (.int .i32 x.vy) ∧ w'.cell? ⟨w.heap.size, 0, none⟩ = some (.int .i32 ja) ∧ w'.cell? ⟨w.heap.size, 1, none⟩ = some (.int .i32 jb) ∧ Kep wp.heap.size wp w')) (by kernel_rfl) (⟨by rw [World.cell?_drew]; exact x0, by rw [World.cell?_drew]; exact x1, by rw [World.cell?_drew]; exact x2, by rw [World.cell?_drew]; exact x3, by rw [World.cell?_drew]; exact x4, by rw [World.cell?_drew]; exact x5, by rw [World.cell?_drew]; exact x6, by rw [World.cell?_drew]; exact x7, by rw [World.cell?_drew]; exact x8, by rw [World.cell?_drew]; exact x9, by rw [World.cell?_drew]; exact j0, by rw [World.cell?_drew]; exact j1, kep_drew gg⟩) (fun hH => ?_)
          refine sT 0 hH ?_
          refine sT 1 hH ?_
          refine sN 2 hH ?_
          refine sT 3 hH ?_
          refine sN 4 hH ?_
          refine wpAnyH_ready (rs := [5, 9]) (by kernel_rfl) (by simp) ?_
          refine AllReadyH.cons (o := ⟨some 103, .call { callee := .value (.func 18), args := #[.tmp 101, .tmp 102], argTypes := #[37, 25] }, _, _, _, none⟩) rfl (fun K hK => ?_) (AllReadyH.cons (o := ⟨some 21, .alloc 37, _, _, _, none⟩) rfl (fun K hK => ?_) AllReadyH.nil)
          ·
            go_simp
            (with_reducible refine (RU.out _).mono ?_); rintro e v15_1 ⟨rfl, g⟩
            refine hK.out _ _ (by (try dsimp only); (go_split_ands; exact ⟨Kep.all g (by assumption), Kep.all g (by assumption), Kep.all g (by assumption), Kep.all g (by assumption), Kep.all g (by assumption), Kep.all g (by assumption), Kep.all g (by assumption), Kep.all g (by assumption), Kep.all g (by assumption), Kep.all g (by assumption), Kep.all g (by assumption), Kep.all g (by assumption), kep_next (by assumption) g⟩)) (fun hH2 => ?_)
            clear hK K hH; have hH := hH2; clear hH2
            refine sT 6 hH ?_
            refine sT 7 hH ?_
            refine sN 8 hH ?_
            refine sC 9 (fun K hK => ?_)
            go_simp
            have z1 : ZC (World.alloc (v15_1) (.cells #[.int .u32 0, .int .i32 0, .int .i32 0, .int .i32 0, .int .i32 0, .int .i32 0, .int .i32 0, .int .i32 0, .int .i32 0, .int .i32 0] 37)) (v15_1).heap.size [.int .u32 0, .int .i32 0, .int .i32 0, .int .i32 0, .int .i32 0, .int .i32 0, .int .i32 0, .int .i32 0, .int .i32 0, .int .i32 0] := zc_new _ _ _
            have z1b : wp.heap.size ≤ (v15_1).heap.size := by obtain ⟨x0, x1, x2, x3, x4, x5, x6, x7, x8, x9, j0, j1, gg⟩ := id hH; exact gg.size
            refine hK.out _ _ (by (try dsimp only); (go_split_ands; exact ⟨Kep.all (kep_more (Kep.refl _ _) _) (by assumption), Kep.all (kep_more (Kep.refl _ _) _) (by assumption), Kep.all (kep_more (Kep.refl _ _) _) (by assumption), Kep.all (kep_more (Kep.refl _ _) _) (by assumption), Kep.all (kep_more (Kep.refl _ _) _) (by assumption), Kep.all (kep_more (Kep.refl _ _) _) (by assumption), Kep.all (kep_more (Kep.refl _ _) _) (by assumption), Kep.all (kep_more (Kep.refl _ _) _) (by assumption), Kep.all (kep_more (Kep.refl _ _) _) (by assumption), Kep.all (kep_more (Kep.refl _ _) _) (by assumption), Kep.all (kep_more (Kep.refl _ _) _) (by assumption), Kep.all (kep_more (Kep.refl _ _) _) (by assumption), kep_more (by assumption) _⟩)) (fun hH2 => ?_)
            try simp only [World.size_drew] at z1 z1b
            have hH_z1 := hH
            clear hK K hH; have hH := hH2; clear hH2
            try simp only [Act.put, List.setIfInBounds_toArray, List.set_cons_zero, List.set_cons_succ]
            refine sC 10 (fun K hK => ?_)
            obtain ⟨x0, x1, x2, x3, x4, x5, x6, x7, x8, x9, j0, j1, gg⟩ := id hH
            have z1q0 := z1.i (i := 0) rfl; have z1f0 := z1.frz 0
            have z1q1 := z1.i (i := 1) rfl; have z1f1 := z1.frz 1
            have z1q2 := z1.i (i := 2) rfl; have z1f2 := z1.frz 2
            have z1q3 := z1.i (i := 3) rfl; have z1f3 := z1.frz 3
            have z1q4 := z1.i (i := 4) rfl; have z1f4 := z1.frz 4
            have z1q5 := z1.i (i := 5) rfl; have z1f5 := z1.frz 5
            have z1q6 := z1.i (i := 6) rfl; have z1f6 := z1.frz 6
            have z1q7 := z1.i (i := 7) rfl; have z1f7 := z1.frz 7
            have z1q8 := z1.i (i := 8) rfl; have z1f8 := z1.frz 8
            have z1q9 := z1.i (i := 9) rfl; have z1f9 := z1.frz 9
            go_simp
            have z1' : ZC (World.alloc (v15_1) (.cells #[.int .u32 x.k, .int .i32 x.r, .int .i32 x.ax, .int .i32 x.ay, .int .i32 x.m, .int .i32 x.o, .int .i32 x.px, .int .i32 x.py, .int .i32 a, .int .i32 b] 37)) (v15_1).heap.size [.int .u32 x.k, .int .i32 x.r, .int .i32 x.ax, .int .i32 x.ay, .int .i32 x.m, .int .i32 x.o, .int .i32 x.px, .int .i32 x.py, .int .i32 a, .int .i32 b] := zc_new _ _ _
            try simp only [World.size_drew] at z1'
            clear z1; have z1 := z1'; clear z1'
            refine hK.out _ _ (by (try dsimp only); obtain ⟨x0, x1, x2, x3, x4, x5, x6, x7, x8, x9, j0, j1, gg⟩ := id hH_z1; exact ⟨Kep.all (kep_more (Kep.refl _ _) _) x0, Kep.all (kep_more (Kep.refl _ _) _) x1, Kep.all (kep_more (Kep.refl _ _) _) x2, Kep.all (kep_more (Kep.refl _ _) _) x3, Kep.all (kep_more (Kep.refl _ _) _) x4, Kep.all (kep_more (Kep.refl _ _) _) x5, Kep.all (kep_more (Kep.refl _ _) _) x6, Kep.all (kep_more (Kep.refl _ _) _) x7, Kep.all (kep_more (Kep.refl _ _) _) x8, Kep.all (kep_more (Kep.refl _ _) _) x9, Kep.all (kep_more (Kep.refl _ _) _) j0, Kep.all (kep_more (Kep.refl _ _) _) j1, kep_more gg _⟩) (fun hH2 => ?_)
            clear hH_z1
            clear hK K hH x0 x1 x2 x3 x4 x5 x6 x7 x8 x9 j0 j1 gg z1q0 z1f0 z1q1 z1f1 z1q2 z1f2 z1q3 z1f3 z1q4 z1f4 z1q5 z1f5 z1q6 z1f6 z1q7 z1f7 z1q8 z1f8 z1q9 z1f9; have hH := hH2; clear hH2
            refine sN 11 hH ?_
            refine sE ?_
            obtain ⟨x0, x1, x2, x3, x4, x5, x6, x7, x8, x9, j0, j1, gg⟩ := hH
            go_wp2_with fail
            go_meet
            exact ⟨_, rfl, rfl, z1, gg⟩
          ·
            go_simp
            have z1 : ZC (World.alloc (wp.drew) (.cells #[.int .u32 0, .int .i32 0, .int .i32 0, .int .i32 0, .int .i32 0, .int .i32 0, .int .i32 0, .int .i32 0, .int .i32 0, .int .i32 0] 37)) (wp.drew).heap.size [.int .u32 0, .int .i32 0, .int .i32 0, .int .i32 0, .int .i32 0, .int .i32 0, .int .i32 0, .int .i32 0, .int .i32 0, .int .i32 0] := zc_new _ _ _
            have z1b : wp.heap.size ≤ (wp.drew).heap.size := by obtain ⟨x0, x1, x2, x3, x4, x5, x6, x7, x8, x9, j0, j1, gg⟩ := id hH; exact gg.size
            refine hK.out _ _ (by (try dsimp only); (go_split_ands; exact ⟨Kep.all (kep_more (Kep.refl _ _) _) (by assumption), Kep.all (kep_more (Kep.refl _ _) _) (by assumption), Kep.all (kep_more (Kep.refl _ _) _) (by assumption), Kep.all (kep_more (Kep.refl _ _) _) (by assumption), Kep.all (kep_more (Kep.refl _ _) _) (by assumption), Kep.all (kep_more (Kep.refl _ _) _) (by assumption), Kep.all (kep_more (Kep.refl _ _) _) (by assumption), Kep.all (kep_more (Kep.refl _ _) _) (by assumption), Kep.all (kep_more (Kep.refl _ _) _) (by assumption), Kep.all (kep_more (Kep.refl _ _) _) (by assumption), Kep.all (kep_more (Kep.refl _ _) _) (by assumption), Kep.all (kep_more (Kep.refl _ _) _) (by assumption), kep_more (by assumption) _⟩)) (fun hH2 => ?_)
            try simp only [World.size_drew] at z1 z1b
            have hH_z1 := hH
            clear hK K hH; have hH := hH2; clear hH2
            try simp only [Act.put, List.setIfInBounds_toArray, List.set_cons_zero, List.set_cons_succ]
            refine sC 5 (fun K hK => ?_)
            go_simp
            (with_reducible refine (RU.out _).mono ?_); rintro e v15_2 ⟨rfl, g⟩
            replace z1 := z1.kep g
            refine hK.out _ _ (by (try dsimp only); (go_split_ands; exact ⟨Kep.all g (by assumption), Kep.all g (by assumption), Kep.all g (by assumption), Kep.all g (by assumption), Kep.all g (by assumption), Kep.all g (by assumption), Kep.all g (by assumption), Kep.all g (by assumption), Kep.all g (by assumption), Kep.all g (by assumption), Kep.all g (by assumption), Kep.all g (by assumption), kep_next (by assumption) g⟩)) (fun hH2 => ?_)
            clear hK K hH; have hH := hH2; clear hH2
            refine sT 6 hH ?_
            refine sT 7 hH ?_
            refine sN 8 hH ?_
            refine sC 10 (fun K hK => ?_)
            obtain ⟨x0, x1, x2, x3, x4, x5, x6, x7, x8, x9, j0, j1, gg⟩ := id hH
            have z1q0 := z1.i (i := 0) rfl; have z1f0 := z1.frz 0
            have z1q1 := z1.i (i := 1) rfl; have z1f1 := z1.frz 1
            have z1q2 := z1.i (i := 2) rfl; have z1f2 := z1.frz 2
            have z1q3 := z1.i (i := 3) rfl; have z1f3 := z1.frz 3
            have z1q4 := z1.i (i := 4) rfl; have z1f4 := z1.frz 4
            have z1q5 := z1.i (i := 5) rfl; have z1f5 := z1.frz 5
            have z1q6 := z1.i (i := 6) rfl; have z1f6 := z1.frz 6
            have z1q7 := z1.i (i := 7) rfl; have z1f7 := z1.frz 7
            have z1q8 := z1.i (i := 8) rfl; have z1f8 := z1.frz 8
            have z1q9 := z1.i (i := 9) rfl; have z1f9 := z1.frz 9
            go_simp
            have hst : (fun w' => w'.cell? ⟨gl, off + k * 10, none⟩ = some (.int .u32 x.k) ∧ w'.cell? ⟨gl, off + k * 10 + 1, none⟩ = some (.int .i32 x.r) ∧ w'.cell? ⟨gl, off + k * 10 + 2, none⟩ = some (.int .i32 x.ax) ∧ w'.cell? ⟨gl, off + k * 10 + 3, none⟩ = some (.int .i32 x.ay) ∧ w'.cell? ⟨gl, off + k * 10 + 4, none⟩ = some (.int .i32 x.m) ∧ w'.cell? ⟨gl, off + k * 10 + 5, none⟩ = some (.int .i32 x.o) ∧ w'.cell? ⟨gl, off + k * 10 + 6, none⟩ = some (.int .i32 x.px) ∧ w'.cell? ⟨gl, off + k * 10 + 7, none⟩ = some (.int .i32 x.py) ∧ w'.cell? ⟨gl, off + k * 10 + 8, none⟩ = some (.int .i32 x.vx) ∧ w'.cell? ⟨gl, off + k * 10 + 9, none⟩ = some (.int .i32 x.vy) ∧ w'.cell? ⟨w.heap.size, 0, none⟩ = some (.int .i32 ja) ∧ w'.cell? ⟨w.heap.size, 1, none⟩ = some (.int .i32 jb) ∧ Kep wp.heap.size wp w') (setAll (v15_2) ((wp).heap.size) 0 [.int .u32 x.k, .int .i32 x.r, .int .i32 x.ax, .int .i32 x.ay, .int .i32 x.m, .int .i32 x.o, .int .i32 x.px, .int .i32 x.py, .int .i32 a, .int .i32 b]) := ⟨setAll_far _ _ _ _ (by first | omega | (simp; done) | (simp; omega)) x0, setAll_far _ _ _ _ (by first | omega | (simp; done) | (simp; omega)) x1, setAll_far _ _ _ _ (by first | omega | (simp; done) | (simp; omega)) x2, setAll_far _ _ _ _ (by first | omega | (simp; done) | (simp; omega)) x3, setAll_far _ _ _ _ (by first | omega | (simp; done) | (simp; omega)) x4, setAll_far _ _ _ _ (by first | omega | (simp; done) | (simp; omega)) x5, setAll_far _ _ _ _ (by first | omega | (simp; done) | (simp; omega)) x6, setAll_far _ _ _ _ (by first | omega | (simp; done) | (simp; omega)) x7, setAll_far _ _ _ _ (by first | omega | (simp; done) | (simp; omega)) x8, setAll_far _ _ _ _ (by first | omega | (simp; done) | (simp; omega)) x9, setAll_far _ _ _ _ (by first | omega | (simp; done) | (simp; omega)) j0, setAll_far _ _ _ _ (by first | omega | (simp; done) | (simp; omega)) j1, kep_setAll (by first | omega | (have := gg.size; simp at *; omega)) _ _ gg⟩
            replace z1 := z1.set [.int .u32 x.k, .int .i32 x.r, .int .i32 x.ax, .int .i32 x.ay, .int .i32 x.m, .int .i32 x.o, .int .i32 x.px, .int .i32 x.py, .int .i32 a, .int .i32 b] (by simp)
            simp only [setAll, Nat.zero_add, Nat.reduceAdd] at hst z1
            refine hK.out _ _ hst (fun hH2 => ?_)
            clear hst
            clear hK K hH x0 x1 x2 x3 x4 x5 x6 x7 x8 x9 j0 j1 gg z1q0 z1f0 z1q1 z1f1 z1q2 z1f2 z1q3 z1f3 z1q4 z1f4 z1q5 z1f5 z1q6 z1f6 z1q7 z1f7 z1q8 z1f8 z1q9 z1f9; have hH := hH2; clear hH2
            refine sN 11 hH ?_
            refine sE ?_
            obtain ⟨x0, x1, x2, x3, x4, x5, x6, x7, x8, x9, j0, j1, gg⟩ := hH
            go_wp2_with fail
            go_meet
            exact ⟨_, rfl, rfl, z1, gg⟩
        case rest =>
          obtain ⟨q, rfl, rfl, zq, g2⟩ := hcut
          have zp := HZP.out.kep g2
          have HGE := Lib.hid ((HP.out.trans (HG1.out.mono HP.out.size)).trans (g2.mono (HP.out.trans (HG1.out.mono HP.out.size)).size))
          clear x0 x1 x2 x3 x4 x5 x6 x7 x8 x9 j0 j1 gg hgl hjl
          have p0 := zp.i (i := 0) rfl
          have p1 := zp.i (i := 1) rfl
          have p2 := zp.i (i := 2) rfl
          have p3 := zp.i (i := 3) rfl
          have p4 := zp.i (i := 4) rfl
          have p5 := zp.i (i := 5) rfl
          have p6 := zp.i (i := 6) rfl
          have p7 := zp.i (i := 7) rfl
          have p8 := zp.i (i := 8) rfl
          have p9 := zp.i (i := 9) rfl
          have q0 := zq.i (i := 0) rfl
          have q1 := zq.i (i := 1) rfl
          have q2 := zq.i (i := 2) rfl
          have q3 := zq.i (i := 3) rfl
          have q4 := zq.i (i := 4) rfl
          have q5 := zq.i (i := 5) rfl
          have q6 := zq.i (i := 6) rfl
          have q7 := zq.i (i := 7) rfl
          have q8 := zq.i (i := 8) rfl
          have q9 := zq.i (i := 9) rfl
          clear zp zq g2
          go_wp2_with fail
          go_roundw
          case rel => exact ⟨k + 1, by omega, by go_num, HGE⟩
          case measure => simp [RowKit.intOf]; omega
    · obtain rfl : k = na := by omega
      go_wp2_with fail
      go_ret
      exact ⟨rfl, kep_next G0.out HP.out⟩
/-- The law IntegrateMatchesReference. -/
theorem yml_law (O : YOps) (AW : YAwake) (ja jb : Int) (hja : -2147483648 ≤ ja ∧ ja < 2147483648) (hjb : -2147483648 ≤ jb ∧ jb < 2147483648) (L : List Bd) (v : Value) (w : World) (hq : Lst w v L) (S : List Sh) (sv : Value) (hs : Sq shv 2 w sv S) (HF : ∀ x ∈ L, Fits x) : Calls Try.prog 3 #[v, sv, .agg #[.int .i32 ja, .int .i32 jb]] w fun e w' => e = .returned (.bool true) ∧ Kep w.heap.size w w' := by
  cases hvw : viwB L
  · exact yml_bad (Lib.hid AW) ja jb L v w hq S sv hs hvw
  · exact yml_ok O (Lib.hid AW) ja jb hja hjb L v w hq S sv hs (Lib.hid HF) hvw
end Go.Proofs.Ytlabeelbbkbkaaa
