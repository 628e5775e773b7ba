import Derived.Test.YtaknmlohnifcdaaGreatDoorJ23MPointCon
import Derived.Test.YtaknmlohnifcdaaGreatDoorJ02MSeq
import Derived.Deep.DeepCutAuto
import Derived.Deep.QuietTactic
import Derived.BigQuiet
set_option maxHeartbeats 8000000
set_option maxRecDepth 100000
namespace Go.Proofs.YtaknmlohnifcdaaGreatDoor
open Go.RowKit Go.Lib

theorem pneF {px py qx qy cx cy : Int} (H : Rg px py qx qy cx cy) : PNe px py qx qy cx cy (nX px py qx qy cx cy) (nY px py qx qy cx cy) := pne (P := ⟨rfl, rfl, rfl, rfl, rfl, rfl, rfl, rfl, rfl⟩) H
theorem pdsP {a b c d t : Int} (h1 : Cin a) (h2 : Cin b) (h3 : Cin c) (h4 : Cin d) (ht : sq2 (c - a) (d - b) = t) : PDs a b a b c d t := by
 refine pds (P := ⟨rfl, rfl, rfl, rfl, rfl, rfl, rfl, rfl, ?_⟩) ⟨h1, h2, h1, h2, h3, h4, by unfold Din; omega, by unfold Din; omega⟩
 have e := nX_pt a b c d
 unfold nX nY at e
 rw [e.1, e.2]
 rw [sq2_neg] at ht
 exact ht
abbrev SAp (a b c d t : Int) : Prop := ∀ w, Calls Tryz.prog 156 #[.agg #[.int .i32 a, .int .i32 b], .agg #[.int .i32 c, .int .i32 d]] w fun e w' => e = .returned (.int .u64 t) ∧ Kep w.heap.size w w'
theorem sap {a b c d t : Int} (h1 : Cin a) (h2 : Cin b) (h3 : Cin c) (h4 : Cin d) (ht : sq2 (c - a) (d - b) = t) : SAp a b c d t := fun w => by
 have C1 := Lib.hid (pdsP h1 h2 h3 h4 ht)
 clear h1 h2 h3 h4 ht
 go_enter Tryz.func156, Tryz.ntmps156
 go_wp2_with (first
  | ((with_reducible refine (C1.out _).mono ?_); rintro e w1 ⟨rfl, g1⟩
     have zQ := zK g1 (b := w.heap.size) (vs := [.int .i32 a, .int .i32 b])
     have x0 := zI zQ 0
     have x1 := zI zQ 1
     clear zQ
     have zQ := zK g1 (b := w.heap.size + 1) (vs := [.int .i32 c, .int .i32 d])
     have y0 := zI zQ 0
     have y1 := zI zQ 1
     clear zQ
     have gg := kep_next (kep_more (kep_more (Kep.refl _ _) _) _) g1
     have zx_w1 : w.heap.size < w1.heap.size := World.block_lt_of_cell? _ _ x0
     have zy_w1 : w.heap.size + 1 < w1.heap.size := World.block_lt_of_cell? _ _ y0))
 go_ret
 exact ⟨rfl, gg⟩
theorem Good.sap {x : Tw} (h : Good x) : SAp x.a x.b x.c x.d x.t := Go.Proofs.YtaknmlohnifcdaaGreatDoor.sap h.a h.b h.c h.d h.t.symm
abbrev SC1 (px py qx qy cx cy x y : Int) : Prop := ∀ (pb qb cb : Nat) w, w.cell? ⟨pb, 0, none⟩ = some (.int .i32 px) → w.cell? ⟨pb, 1, none⟩ = some (.int .i32 py) → w.cell? ⟨qb, 0, none⟩ = some (.int .i32 qx) → w.cell? ⟨qb, 1, none⟩ = some (.int .i32 qy) → w.cell? ⟨cb, 0, none⟩ = some (.int .i32 cx) → w.cell? ⟨cb, 1, none⟩ = some (.int .i32 cy) → Calls Tryz.prog 151 #[.pointer (some ⟨pb, 0, none⟩), .pointer (some ⟨qb, 0, none⟩), .pointer (some ⟨cb, 0, none⟩)] w fun e w' => e = .returned (.tuple #[.agg #[.int .i32 px, .int .i32 py], .agg #[.int .i32 x, .int .i32 y]]) ∧ Kep w.heap.size w w'
theorem sc1 {px py qx qy cx cy x y : Int} (N : PNe qx qy cx cy px py x y) : SC1 px py qx qy cx cy x y := fun pb qb cb w p0 p1 q0 q1 c0 c1 => by
 have C1 := Lib.hid N
 clear N
 have zp := World.block_lt_of_cell? _ _ p0
 have zq := World.block_lt_of_cell? _ _ q0
 have zc := World.block_lt_of_cell? _ _ c0
 dsimp only at zp zq zc
 go_enter Tryz.func151, Tryz.ntmps151
 go_wp2_with fail
 generalize hW : World.alloc (World.alloc w _) _ = W1
 replace p0 : W1.cell? ⟨pb, 0, none⟩ = some (.int .i32 px) := by rw [← hW]; exact Kep.all (kep_more (kep_more (Kep.refl _ _) _) _) p0
 replace p1 : W1.cell? ⟨pb, 1, none⟩ = some (.int .i32 py) := by rw [← hW]; exact Kep.all (kep_more (kep_more (Kep.refl _ _) _) _) p1
 replace q0 : W1.cell? ⟨qb, 0, none⟩ = some (.int .i32 qx) := by rw [← hW]; exact Kep.all (kep_more (kep_more (Kep.refl _ _) _) _) q0
 replace q1 : W1.cell? ⟨qb, 1, none⟩ = some (.int .i32 qy) := by rw [← hW]; exact Kep.all (kep_more (kep_more (Kep.refl _ _) _) _) q1
 replace c0 : W1.cell? ⟨cb, 0, none⟩ = some (.int .i32 cx) := by rw [← hW]; exact Kep.all (kep_more (kep_more (Kep.refl _ _) _) _) c0
 replace c1 : W1.cell? ⟨cb, 1, none⟩ = some (.int .i32 cy) := by rw [← hW]; exact Kep.all (kep_more (kep_more (Kep.refl _ _) _) _) c1
 have sr0 : (W1.cell? ⟨w.heap.size, 0, none⟩).isSome = true := by rw [← hW]; (repeat (first | rw [World.cell?_alloc_past _ _ _ (by first | (simp; done) | (simp; omega))])); rw [World.cell?_alloc_at _ _ _ _ (by simp)]; rfl
 have sr1 : (W1.cell? ⟨w.heap.size, 1, none⟩).isSome = true := by rw [← hW]; (repeat (first | rw [World.cell?_alloc_past _ _ _ (by first | (simp; done) | (simp; omega))])); rw [World.cell?_alloc_at _ _ _ _ (by simp)]; rfl
 have fr0 : W1.frozen? ⟨w.heap.size, 0, none⟩ = false := by rw [← hW]; (repeat (first | rw [World.frozen?_alloc_past _ _ _ (by first | (simp; done) | (simp; omega))])); rw [World.frozen?_alloc_at _ _ _ _ (by simp)]
 have fr1 : W1.frozen? ⟨w.heap.size, 1, none⟩ = false := by rw [← hW]; (repeat (first | rw [World.frozen?_alloc_past _ _ _ (by first | (simp; done) | (simp; omega))])); rw [World.frozen?_alloc_at _ _ _ _ (by simp)]
 have ss0 : (W1.cell? ⟨w.heap.size + 1, 0, none⟩).isSome = true := by rw [← hW]; (repeat (first | rw [World.cell?_alloc_past _ _ _ (by first | (simp; done) | (simp; omega))])); rw [World.cell?_alloc_at _ _ _ _ (by simp)]; rfl
 have ss1 : (W1.cell? ⟨w.heap.size + 1, 1, none⟩).isSome = true := by rw [← hW]; (repeat (first | rw [World.cell?_alloc_past _ _ _ (by first | (simp; done) | (simp; omega))])); rw [World.cell?_alloc_at _ _ _ _ (by simp)]; rfl
 have fs0 : W1.frozen? ⟨w.heap.size + 1, 0, none⟩ = false := by rw [← hW]; (repeat (first | rw [World.frozen?_alloc_past _ _ _ (by first | (simp; done) | (simp; omega))])); rw [World.frozen?_alloc_at _ _ _ _ (by simp)]
 have fs1 : W1.frozen? ⟨w.heap.size + 1, 1, none⟩ = false := by rw [← hW]; (repeat (first | rw [World.frozen?_alloc_past _ _ _ (by first | (simp; done) | (simp; omega))])); rw [World.frozen?_alloc_at _ _ _ _ (by simp)]
 have gg : Kep w.heap.size w W1 := by rw [← hW]; exact (kep_more (kep_more (Kep.refl _ _) _) _)
 clear hW
 refine wp_region_noPanic ?_
 refine wp_region_held_drew (S := (fun w' => w'.cell? ⟨pb, 0, none⟩ = some (.int .i32 px) ∧ w'.cell? ⟨pb, 1, none⟩ = some (.int .i32 py) ∧ w'.cell? ⟨qb, 0, none⟩ = some (.int .i32 qx) ∧ w'.cell? ⟨qb, 1, none⟩ = some (.int .i32 qy) ∧ w'.cell? ⟨cb, 0, none⟩ = some (.int .i32 cx) ∧ w'.cell? ⟨cb, 1, none⟩ = some (.int .i32 cy) ∧ (w'.cell? ⟨w.heap.size, 0, none⟩).isSome = true ∧ (w'.cell? ⟨w.heap.size, 1, none⟩).isSome = true ∧ w'.frozen? ⟨w.heap.size, 0, none⟩ = false ∧ w'.frozen? ⟨w.heap.size, 1, none⟩ = false ∧ (w'.cell? ⟨w.heap.size + 1, 0, none⟩).isSome = true ∧ (w'.cell? ⟨w.heap.size + 1, 1, none⟩).isSome = true ∧ w'.frozen? ⟨w.heap.size + 1, 0, none⟩ = false ∧ w'.frozen? ⟨w.heap.size + 1, 1, none⟩ = false ∧ Kep w.heap.size w w')) (by kernel_rfl) (⟨by rw [World.cell?_drew]; exact p0, by rw [World.cell?_drew]; exact p1, by rw [World.cell?_drew]; exact q0, by rw [World.cell?_drew]; exact q1, by rw [World.cell?_drew]; exact c0, by rw [World.cell?_drew]; exact c1, by rw [World.cell?_drew]; exact sr0, by rw [World.cell?_drew]; exact sr1, by rw [World.frozen?_drew]; exact fr0, by rw [World.frozen?_drew]; exact fr1, by rw [World.cell?_drew]; exact ss0, by rw [World.cell?_drew]; exact ss1, by rw [World.frozen?_drew]; exact fs0, by rw [World.frozen?_drew]; exact fs1, kep_drew gg⟩) (fun hH => ?_)
 refine sT 0 hH ?_
 refine sT 1 hH ?_
 refine sT 2 hH ?_
 refine sN 3 hH ?_
 refine sC 4 (fun K hK => ?_)
 go_simp
 (with_reducible refine (C1.out _).mono ?_); rintro e v1_4 ⟨rfl, g⟩
 refine hK.out _ _ (by (try dsimp only); (go_split_ands; and_intros <;> first | exact g.all (by assumption) | exact kep_next (by assumption) g | exact kep_some g (by assumption) | exact kep_froz g (by assumption) (by assumption))) (fun hH2 => ?_)
 clear hK K hH; have hH := hH2; clear hH2
 try simp only [Act.put, List.setIfInBounds_toArray, List.set_cons_zero, List.set_cons_succ]
 obtain ⟨p0, p1, q0, q1, c0, c1, sr0, sr1, fr0, fr1, ss0, ss1, fs0, fs1, gg⟩ := id hH
 refine sC 5 (fun K hK => ?_)
 obtain ⟨qr0, eqr0⟩ := Option.isSome_iff_exists.1 sr0
 obtain ⟨qr1, eqr1⟩ := Option.isSome_iff_exists.1 sr1
 obtain ⟨qs0, eqs0⟩ := Option.isSome_iff_exists.1 ss0
 obtain ⟨qs1, eqs1⟩ := Option.isSome_iff_exists.1 ss1
 have br0 := eqr0
 have br1 := eqr1
 have bs0 := eqs0
 have bs1 := eqs1
 go_simp
 refine hK.out _ _ (by (try dsimp only); and_intros <;> repeat (first | with_reducible assumption | with_reducible refine sset_far ?_ (by first | (simp; done) | (simp; omega)) | with_reducible refine sset_some _ _ _ ?_ | with_reducible refine sset_froz ?_ | with_reducible refine kep_set ?_ (by first | (simp; done) | (simp; omega)) _)) (fun hH2 => ?_)
 clear hK K hH p0 p1 q0 q1 c0 c1 sr0 sr1 fr0 fr1 ss0 ss1 fs0 fs1 gg eqr0 eqr1 eqs0 eqs1; have hH := hH2; clear hH2
 try simp only [Act.put, List.setIfInBounds_toArray, List.set_cons_zero, List.set_cons_succ]
 obtain ⟨p0, p1, q0, q1, c0, c1, sr0, sr1, fr0, fr1, ss0, ss1, fs0, fs1, gg⟩ := id hH
 refine sC 6 (fun K hK => ?_)
 obtain ⟨qr0, eqr0⟩ := Option.isSome_iff_exists.1 sr0
 obtain ⟨qr1, eqr1⟩ := Option.isSome_iff_exists.1 sr1
 obtain ⟨qs0, eqs0⟩ := Option.isSome_iff_exists.1 ss0
 obtain ⟨qs1, eqs1⟩ := Option.isSome_iff_exists.1 ss1
 go_simp
 refine hK.out _ _ (by (try dsimp only); and_intros <;> repeat (first | with_reducible assumption | with_reducible refine sset_far ?_ (by first | (simp; done) | (simp; omega)) | with_reducible refine sset_some _ _ _ ?_ | with_reducible refine sset_froz ?_ | with_reducible refine kep_set ?_ (by first | (simp; done) | (simp; omega)) _)) (fun hH2 => ?_)
 clear hK K hH p0 p1 q0 q1 c0 c1 sr0 sr1 fr0 fr1 ss0 ss1 fs0 fs1 gg eqr0 eqr1 eqs0 eqs1; have hH := hH2; clear hH2
 try simp only [Act.put, List.setIfInBounds_toArray, List.set_cons_zero, List.set_cons_succ]
 refine sE ?_
 clear p0 p1 q0 q1 c0 c1 sr0 sr1 fr0 fr1 ss0 ss1 fs0 fs1 gg
 obtain ⟨p0, p1, q0, q1, c0, c1, sr0, sr1, fr0, fr1, ss0, ss1, fs0, fs1, gg⟩ := hH
 go_wp2_with fail
 exact bodyPost_ret (v := .tuple #[.agg #[.int .i32 px, .int .i32 py], .agg #[.int .i32 x, .int .i32 y]]) (by simp [results, Tryz.results151, go_sem, br0, br1, bs0, bs1]) rfl ⟨rfl, gg⟩
abbrev SC2 (px py qx qy cx cy x y : Int) : Prop := ∀ (pb qb cb : Nat) w, w.cell? ⟨pb, 0, none⟩ = some (.int .i32 px) → w.cell? ⟨pb, 1, none⟩ = some (.int .i32 py) → w.cell? ⟨qb, 0, none⟩ = some (.int .i32 qx) → w.cell? ⟨qb, 1, none⟩ = some (.int .i32 qy) → w.cell? ⟨cb, 0, none⟩ = some (.int .i32 cx) → w.cell? ⟨cb, 1, none⟩ = some (.int .i32 cy) → Calls Tryz.prog 153 #[.pointer (some ⟨pb, 0, none⟩), .pointer (some ⟨qb, 0, none⟩), .pointer (some ⟨cb, 0, none⟩)] w fun e w' => e = .returned (.tuple #[.agg #[.int .i32 px, .int .i32 py], .agg #[.int .i32 x, .int .i32 y]]) ∧ Kep w.heap.size w w'
theorem sc2 {px py qx qy cx cy x y : Int} (N : PNe qx qy cx cy px py x y) : SC2 px py qx qy cx cy x y := fun pb qb cb w p0 p1 q0 q1 c0 c1 => by
 have C1 := Lib.hid N
 clear N
 have zp := World.block_lt_of_cell? _ _ p0
 have zq := World.block_lt_of_cell? _ _ q0
 have zc := World.block_lt_of_cell? _ _ c0
 dsimp only at zp zq zc
 go_enter Tryz.func153, Tryz.ntmps153
 go_wp2_with fail
 generalize hW : World.alloc (World.alloc w _) _ = W1
 replace p0 : W1.cell? ⟨pb, 0, none⟩ = some (.int .i32 px) := by rw [← hW]; exact Kep.all (kep_more (kep_more (Kep.refl _ _) _) _) p0
 replace p1 : W1.cell? ⟨pb, 1, none⟩ = some (.int .i32 py) := by rw [← hW]; exact Kep.all (kep_more (kep_more (Kep.refl _ _) _) _) p1
 replace q0 : W1.cell? ⟨qb, 0, none⟩ = some (.int .i32 qx) := by rw [← hW]; exact Kep.all (kep_more (kep_more (Kep.refl _ _) _) _) q0
 replace q1 : W1.cell? ⟨qb, 1, none⟩ = some (.int .i32 qy) := by rw [← hW]; exact Kep.all (kep_more (kep_more (Kep.refl _ _) _) _) q1
 replace c0 : W1.cell? ⟨cb, 0, none⟩ = some (.int .i32 cx) := by rw [← hW]; exact Kep.all (kep_more (kep_more (Kep.refl _ _) _) _) c0
 replace c1 : W1.cell? ⟨cb, 1, none⟩ = some (.int .i32 cy) := by rw [← hW]; exact Kep.all (kep_more (kep_more (Kep.refl _ _) _) _) c1
 have sr0 : (W1.cell? ⟨w.heap.size, 0, none⟩).isSome = true := by rw [← hW]; (repeat (first | rw [World.cell?_alloc_past _ _ _ (by first | (simp; done) | (simp; omega))])); rw [World.cell?_alloc_at _ _ _ _ (by simp)]; rfl
 have sr1 : (W1.cell? ⟨w.heap.size, 1, none⟩).isSome = true := by rw [← hW]; (repeat (first | rw [World.cell?_alloc_past _ _ _ (by first | (simp; done) | (simp; omega))])); rw [World.cell?_alloc_at _ _ _ _ (by simp)]; rfl
 have fr0 : W1.frozen? ⟨w.heap.size, 0, none⟩ = false := by rw [← hW]; (repeat (first | rw [World.frozen?_alloc_past _ _ _ (by first | (simp; done) | (simp; omega))])); rw [World.frozen?_alloc_at _ _ _ _ (by simp)]
 have fr1 : W1.frozen? ⟨w.heap.size, 1, none⟩ = false := by rw [← hW]; (repeat (first | rw [World.frozen?_alloc_past _ _ _ (by first | (simp; done) | (simp; omega))])); rw [World.frozen?_alloc_at _ _ _ _ (by simp)]
 have ss0 : (W1.cell? ⟨w.heap.size + 1, 0, none⟩).isSome = true := by rw [← hW]; (repeat (first | rw [World.cell?_alloc_past _ _ _ (by first | (simp; done) | (simp; omega))])); rw [World.cell?_alloc_at _ _ _ _ (by simp)]; rfl
 have ss1 : (W1.cell? ⟨w.heap.size + 1, 1, none⟩).isSome = true := by rw [← hW]; (repeat (first | rw [World.cell?_alloc_past _ _ _ (by first | (simp; done) | (simp; omega))])); rw [World.cell?_alloc_at _ _ _ _ (by simp)]; rfl
 have fs0 : W1.frozen? ⟨w.heap.size + 1, 0, none⟩ = false := by rw [← hW]; (repeat (first | rw [World.frozen?_alloc_past _ _ _ (by first | (simp; done) | (simp; omega))])); rw [World.frozen?_alloc_at _ _ _ _ (by simp)]
 have fs1 : W1.frozen? ⟨w.heap.size + 1, 1, none⟩ = false := by rw [← hW]; (repeat (first | rw [World.frozen?_alloc_past _ _ _ (by first | (simp; done) | (simp; omega))])); rw [World.frozen?_alloc_at _ _ _ _ (by simp)]
 have gg : Kep w.heap.size w W1 := by rw [← hW]; exact (kep_more (kep_more (Kep.refl _ _) _) _)
 clear hW
 refine wp_region_noPanic ?_
 refine wp_region_held_drew (S := (fun w' => w'.cell? ⟨pb, 0, none⟩ = some (.int .i32 px) ∧ w'.cell? ⟨pb, 1, none⟩ = some (.int .i32 py) ∧ w'.cell? ⟨qb, 0, none⟩ = some (.int .i32 qx) ∧ w'.cell? ⟨qb, 1, none⟩ = some (.int .i32 qy) ∧ w'.cell? ⟨cb, 0, none⟩ = some (.int .i32 cx) ∧ w'.cell? ⟨cb, 1, none⟩ = some (.int .i32 cy) ∧ (w'.cell? ⟨w.heap.size, 0, none⟩).isSome = true ∧ (w'.cell? ⟨w.heap.size, 1, none⟩).isSome = true ∧ w'.frozen? ⟨w.heap.size, 0, none⟩ = false ∧ w'.frozen? ⟨w.heap.size, 1, none⟩ = false ∧ (w'.cell? ⟨w.heap.size + 1, 0, none⟩).isSome = true ∧ (w'.cell? ⟨w.heap.size + 1, 1, none⟩).isSome = true ∧ w'.frozen? ⟨w.heap.size + 1, 0, none⟩ = false ∧ w'.frozen? ⟨w.heap.size + 1, 1, none⟩ = false ∧ Kep w.heap.size w w')) (by kernel_rfl) (⟨by rw [World.cell?_drew]; exact p0, by rw [World.cell?_drew]; exact p1, by rw [World.cell?_drew]; exact q0, by rw [World.cell?_drew]; exact q1, by rw [World.cell?_drew]; exact c0, by rw [World.cell?_drew]; exact c1, by rw [World.cell?_drew]; exact sr0, by rw [World.cell?_drew]; exact sr1, by rw [World.frozen?_drew]; exact fr0, by rw [World.frozen?_drew]; exact fr1, by rw [World.cell?_drew]; exact ss0, by rw [World.cell?_drew]; exact ss1, by rw [World.frozen?_drew]; exact fs0, by rw [World.frozen?_drew]; exact fs1, kep_drew gg⟩) (fun hH => ?_)
 refine sT 0 hH ?_
 refine sT 1 hH ?_
 refine sT 2 hH ?_
 refine sN 3 hH ?_
 refine sC 4 (fun K hK => ?_)
 go_simp
 (with_reducible refine (C1.out _).mono ?_); rintro e v1_4 ⟨rfl, g⟩
 refine hK.out _ _ (by (try dsimp only); (go_split_ands; and_intros <;> first | exact g.all (by assumption) | exact kep_next (by assumption) g | exact kep_some g (by assumption) | exact kep_froz g (by assumption) (by assumption))) (fun hH2 => ?_)
 clear hK K hH; have hH := hH2; clear hH2
 try simp only [Act.put, List.setIfInBounds_toArray, List.set_cons_zero, List.set_cons_succ]
 obtain ⟨p0, p1, q0, q1, c0, c1, sr0, sr1, fr0, fr1, ss0, ss1, fs0, fs1, gg⟩ := id hH
 refine sC 5 (fun K hK => ?_)
 obtain ⟨qr0, eqr0⟩ := Option.isSome_iff_exists.1 sr0
 obtain ⟨qr1, eqr1⟩ := Option.isSome_iff_exists.1 sr1
 obtain ⟨qs0, eqs0⟩ := Option.isSome_iff_exists.1 ss0
 obtain ⟨qs1, eqs1⟩ := Option.isSome_iff_exists.1 ss1
 have br0 := eqr0
 have br1 := eqr1
 have bs0 := eqs0
 have bs1 := eqs1
 go_simp
 refine hK.out _ _ (by (try dsimp only); and_intros <;> repeat (first | with_reducible assumption | with_reducible refine sset_far ?_ (by first | (simp; done) | (simp; omega)) | with_reducible refine sset_some _ _ _ ?_ | with_reducible refine sset_froz ?_ | with_reducible refine kep_set ?_ (by first | (simp; done) | (simp; omega)) _)) (fun hH2 => ?_)
 clear hK K hH p0 p1 q0 q1 c0 c1 sr0 sr1 fr0 fr1 ss0 ss1 fs0 fs1 gg eqr0 eqr1 eqs0 eqs1; have hH := hH2; clear hH2
 try simp only [Act.put, List.setIfInBounds_toArray, List.set_cons_zero, List.set_cons_succ]
 obtain ⟨p0, p1, q0, q1, c0, c1, sr0, sr1, fr0, fr1, ss0, ss1, fs0, fs1, gg⟩ := id hH
 refine sC 6 (fun K hK => ?_)
 obtain ⟨qr0, eqr0⟩ := Option.isSome_iff_exists.1 sr0
 obtain ⟨qr1, eqr1⟩ := Option.isSome_iff_exists.1 sr1
 obtain ⟨qs0, eqs0⟩ := Option.isSome_iff_exists.1 ss0
 obtain ⟨qs1, eqs1⟩ := Option.isSome_iff_exists.1 ss1
 go_simp
 refine hK.out _ _ (by (try dsimp only); and_intros <;> repeat (first | with_reducible assumption | with_reducible refine sset_far ?_ (by first | (simp; done) | (simp; omega)) | with_reducible refine sset_some _ _ _ ?_ | with_reducible refine sset_froz ?_ | with_reducible refine kep_set ?_ (by first | (simp; done) | (simp; omega)) _)) (fun hH2 => ?_)
 clear hK K hH p0 p1 q0 q1 c0 c1 sr0 sr1 fr0 fr1 ss0 ss1 fs0 fs1 gg eqr0 eqr1 eqs0 eqs1; have hH := hH2; clear hH2
 try simp only [Act.put, List.setIfInBounds_toArray, List.set_cons_zero, List.set_cons_succ]
 refine sE ?_
 clear p0 p1 q0 q1 c0 c1 sr0 sr1 fr0 fr1 ss0 ss1 fs0 fs1 gg
 obtain ⟨p0, p1, q0, q1, c0, c1, sr0, sr1, fr0, fr1, ss0, ss1, fs0, fs1, gg⟩ := hH
 go_wp2_with fail
 exact bodyPost_ret (v := .tuple #[.agg #[.int .i32 px, .int .i32 py], .agg #[.int .i32 x, .int .i32 y]]) (by simp [results, Tryz.results153, go_sem, br0, br1, bs0, bs1]) rfl ⟨rfl, gg⟩
abbrev SC3 (px py qx qy cx cy x y : Int) : Prop := ∀ (pb qb cb : Nat) w, w.cell? ⟨pb, 0, none⟩ = some (.int .i32 px) → w.cell? ⟨pb, 1, none⟩ = some (.int .i32 py) → w.cell? ⟨qb, 0, none⟩ = some (.int .i32 qx) → w.cell? ⟨qb, 1, none⟩ = some (.int .i32 qy) → w.cell? ⟨cb, 0, none⟩ = some (.int .i32 cx) → w.cell? ⟨cb, 1, none⟩ = some (.int .i32 cy) → Calls Tryz.prog 154 #[.pointer (some ⟨pb, 0, none⟩), .pointer (some ⟨qb, 0, none⟩), .pointer (some ⟨cb, 0, none⟩)] w fun e w' => e = .returned (.tuple #[.agg #[.int .i32 x, .int .i32 y], .agg #[.int .i32 cx, .int .i32 cy]]) ∧ Kep w.heap.size w w'
theorem sc3 {px py qx qy cx cy x y : Int} (N : PNe px py qx qy cx cy x y) : SC3 px py qx qy cx cy x y := fun pb qb cb w p0 p1 q0 q1 c0 c1 => by
 have C1 := Lib.hid N
 clear N
 have zp := World.block_lt_of_cell? _ _ p0
 have zq := World.block_lt_of_cell? _ _ q0
 have zc := World.block_lt_of_cell? _ _ c0
 dsimp only at zp zq zc
 go_enter Tryz.func154, Tryz.ntmps154
 go_wp2_with fail
 generalize hW : World.alloc (World.alloc w _) _ = W1
 replace p0 : W1.cell? ⟨pb, 0, none⟩ = some (.int .i32 px) := by rw [← hW]; exact Kep.all (kep_more (kep_more (Kep.refl _ _) _) _) p0
 replace p1 : W1.cell? ⟨pb, 1, none⟩ = some (.int .i32 py) := by rw [← hW]; exact Kep.all (kep_more (kep_more (Kep.refl _ _) _) _) p1
 replace q0 : W1.cell? ⟨qb, 0, none⟩ = some (.int .i32 qx) := by rw [← hW]; exact Kep.all (kep_more (kep_more (Kep.refl _ _) _) _) q0
 replace q1 : W1.cell? ⟨qb, 1, none⟩ = some (.int .i32 qy) := by rw [← hW]; exact Kep.all (kep_more (kep_more (Kep.refl _ _) _) _) q1
 replace c0 : W1.cell? ⟨cb, 0, none⟩ = some (.int .i32 cx) := by rw [← hW]; exact Kep.all (kep_more (kep_more (Kep.refl _ _) _) _) c0
 replace c1 : W1.cell? ⟨cb, 1, none⟩ = some (.int .i32 cy) := by rw [← hW]; exact Kep.all (kep_more (kep_more (Kep.refl _ _) _) _) c1
 have sr0 : (W1.cell? ⟨w.heap.size, 0, none⟩).isSome = true := by rw [← hW]; (repeat (first | rw [World.cell?_alloc_past _ _ _ (by first | (simp; done) | (simp; omega))])); rw [World.cell?_alloc_at _ _ _ _ (by simp)]; rfl
 have sr1 : (W1.cell? ⟨w.heap.size, 1, none⟩).isSome = true := by rw [← hW]; (repeat (first | rw [World.cell?_alloc_past _ _ _ (by first | (simp; done) | (simp; omega))])); rw [World.cell?_alloc_at _ _ _ _ (by simp)]; rfl
 have fr0 : W1.frozen? ⟨w.heap.size, 0, none⟩ = false := by rw [← hW]; (repeat (first | rw [World.frozen?_alloc_past _ _ _ (by first | (simp; done) | (simp; omega))])); rw [World.frozen?_alloc_at _ _ _ _ (by simp)]
 have fr1 : W1.frozen? ⟨w.heap.size, 1, none⟩ = false := by rw [← hW]; (repeat (first | rw [World.frozen?_alloc_past _ _ _ (by first | (simp; done) | (simp; omega))])); rw [World.frozen?_alloc_at _ _ _ _ (by simp)]
 have ss0 : (W1.cell? ⟨w.heap.size + 1, 0, none⟩).isSome = true := by rw [← hW]; (repeat (first | rw [World.cell?_alloc_past _ _ _ (by first | (simp; done) | (simp; omega))])); rw [World.cell?_alloc_at _ _ _ _ (by simp)]; rfl
 have ss1 : (W1.cell? ⟨w.heap.size + 1, 1, none⟩).isSome = true := by rw [← hW]; (repeat (first | rw [World.cell?_alloc_past _ _ _ (by first | (simp; done) | (simp; omega))])); rw [World.cell?_alloc_at _ _ _ _ (by simp)]; rfl
 have fs0 : W1.frozen? ⟨w.heap.size + 1, 0, none⟩ = false := by rw [← hW]; (repeat (first | rw [World.frozen?_alloc_past _ _ _ (by first | (simp; done) | (simp; omega))])); rw [World.frozen?_alloc_at _ _ _ _ (by simp)]
 have fs1 : W1.frozen? ⟨w.heap.size + 1, 1, none⟩ = false := by rw [← hW]; (repeat (first | rw [World.frozen?_alloc_past _ _ _ (by first | (simp; done) | (simp; omega))])); rw [World.frozen?_alloc_at _ _ _ _ (by simp)]
 have gg : Kep w.heap.size w W1 := by rw [← hW]; exact (kep_more (kep_more (Kep.refl _ _) _) _)
 clear hW
 refine wp_region_noPanic ?_
 refine wp_region_held_drew (S := (fun w' => w'.cell? ⟨pb, 0, none⟩ = some (.int .i32 px) ∧ w'.cell? ⟨pb, 1, none⟩ = some (.int .i32 py) ∧ w'.cell? ⟨qb, 0, none⟩ = some (.int .i32 qx) ∧ w'.cell? ⟨qb, 1, none⟩ = some (.int .i32 qy) ∧ w'.cell? ⟨cb, 0, none⟩ = some (.int .i32 cx) ∧ w'.cell? ⟨cb, 1, none⟩ = some (.int .i32 cy) ∧ (w'.cell? ⟨w.heap.size, 0, none⟩).isSome = true ∧ (w'.cell? ⟨w.heap.size, 1, none⟩).isSome = true ∧ w'.frozen? ⟨w.heap.size, 0, none⟩ = false ∧ w'.frozen? ⟨w.heap.size, 1, none⟩ = false ∧ (w'.cell? ⟨w.heap.size + 1, 0, none⟩).isSome = true ∧ (w'.cell? ⟨w.heap.size + 1, 1, none⟩).isSome = true ∧ w'.frozen? ⟨w.heap.size + 1, 0, none⟩ = false ∧ w'.frozen? ⟨w.heap.size + 1, 1, none⟩ = false ∧ Kep w.heap.size w w')) (by kernel_rfl) (⟨by rw [World.cell?_drew]; exact p0, by rw [World.cell?_drew]; exact p1, by rw [World.cell?_drew]; exact q0, by rw [World.cell?_drew]; exact q1, by rw [World.cell?_drew]; exact c0, by rw [World.cell?_drew]; exact c1, by rw [World.cell?_drew]; exact sr0, by rw [World.cell?_drew]; exact sr1, by rw [World.frozen?_drew]; exact fr0, by rw [World.frozen?_drew]; exact fr1, by rw [World.cell?_drew]; exact ss0, by rw [World.cell?_drew]; exact ss1, by rw [World.frozen?_drew]; exact fs0, by rw [World.frozen?_drew]; exact fs1, kep_drew gg⟩) (fun hH => ?_)
 refine sT 0 hH ?_
 refine sT 1 hH ?_
 refine sT 2 hH ?_
 refine sN 4 hH ?_
 refine sC 3 (fun K hK => ?_)
 go_simp
 (with_reducible refine (C1.out _).mono ?_); rintro e v1_3 ⟨rfl, g⟩
 refine hK.out _ _ (by (try dsimp only); (go_split_ands; and_intros <;> first | exact g.all (by assumption) | exact kep_next (by assumption) g | exact kep_some g (by assumption) | exact kep_froz g (by assumption) (by assumption))) (fun hH2 => ?_)
 clear hK K hH; have hH := hH2; clear hH2
 try simp only [Act.put, List.setIfInBounds_toArray, List.set_cons_zero, List.set_cons_succ]
 obtain ⟨p0, p1, q0, q1, c0, c1, sr0, sr1, fr0, fr1, ss0, ss1, fs0, fs1, gg⟩ := id hH
 refine sC 5 (fun K hK => ?_)
 obtain ⟨qr0, eqr0⟩ := Option.isSome_iff_exists.1 sr0
 obtain ⟨qr1, eqr1⟩ := Option.isSome_iff_exists.1 sr1
 obtain ⟨qs0, eqs0⟩ := Option.isSome_iff_exists.1 ss0
 obtain ⟨qs1, eqs1⟩ := Option.isSome_iff_exists.1 ss1
 have br0 := eqr0
 have br1 := eqr1
 have bs0 := eqs0
 have bs1 := eqs1
 go_simp
 refine hK.out _ _ (by (try dsimp only); and_intros <;> repeat (first | with_reducible assumption | with_reducible refine sset_far ?_ (by first | (simp; done) | (simp; omega)) | with_reducible refine sset_some _ _ _ ?_ | with_reducible refine sset_froz ?_ | with_reducible refine kep_set ?_ (by first | (simp; done) | (simp; omega)) _)) (fun hH2 => ?_)
 clear hK K hH p0 p1 q0 q1 c0 c1 sr0 sr1 fr0 fr1 ss0 ss1 fs0 fs1 gg eqr0 eqr1 eqs0 eqs1; have hH := hH2; clear hH2
 try simp only [Act.put, List.setIfInBounds_toArray, List.set_cons_zero, List.set_cons_succ]
 obtain ⟨p0, p1, q0, q1, c0, c1, sr0, sr1, fr0, fr1, ss0, ss1, fs0, fs1, gg⟩ := id hH
 refine sC 6 (fun K hK => ?_)
 obtain ⟨qr0, eqr0⟩ := Option.isSome_iff_exists.1 sr0
 obtain ⟨qr1, eqr1⟩ := Option.isSome_iff_exists.1 sr1
 obtain ⟨qs0, eqs0⟩ := Option.isSome_iff_exists.1 ss0
 obtain ⟨qs1, eqs1⟩ := Option.isSome_iff_exists.1 ss1
 go_simp
 refine hK.out _ _ (by (try dsimp only); and_intros <;> repeat (first | with_reducible assumption | with_reducible refine sset_far ?_ (by first | (simp; done) | (simp; omega)) | with_reducible refine sset_some _ _ _ ?_ | with_reducible refine sset_froz ?_ | with_reducible refine kep_set ?_ (by first | (simp; done) | (simp; omega)) _)) (fun hH2 => ?_)
 clear hK K hH p0 p1 q0 q1 c0 c1 sr0 sr1 fr0 fr1 ss0 ss1 fs0 fs1 gg eqr0 eqr1 eqs0 eqs1; have hH := hH2; clear hH2
 try simp only [Act.put, List.setIfInBounds_toArray, List.set_cons_zero, List.set_cons_succ]
 refine sE ?_
 clear p0 p1 q0 q1 c0 c1 sr0 sr1 fr0 fr1 ss0 ss1 fs0 fs1 gg
 obtain ⟨p0, p1, q0, q1, c0, c1, sr0, sr1, fr0, fr1, ss0, ss1, fs0, fs1, gg⟩ := hH
 go_wp2_with fail
 exact bodyPost_ret (v := .tuple #[.agg #[.int .i32 x, .int .i32 y], .agg #[.int .i32 cx, .int .i32 cy]]) (by simp [results, Tryz.results154, go_sem, br0, br1, bs0, bs1]) rfl ⟨rfl, gg⟩
abbrev SC4 (px py qx qy cx cy x y : Int) : Prop := ∀ (pb qb cb : Nat) w, w.cell? ⟨pb, 0, none⟩ = some (.int .i32 px) → w.cell? ⟨pb, 1, none⟩ = some (.int .i32 py) → w.cell? ⟨qb, 0, none⟩ = some (.int .i32 qx) → w.cell? ⟨qb, 1, none⟩ = some (.int .i32 qy) → w.cell? ⟨cb, 0, none⟩ = some (.int .i32 cx) → w.cell? ⟨cb, 1, none⟩ = some (.int .i32 cy) → Calls Tryz.prog 155 #[.pointer (some ⟨pb, 0, none⟩), .pointer (some ⟨qb, 0, none⟩), .pointer (some ⟨cb, 0, none⟩)] w fun e w' => e = .returned (.tuple #[.agg #[.int .i32 x, .int .i32 y], .agg #[.int .i32 cx, .int .i32 cy]]) ∧ Kep w.heap.size w w'
theorem sc4 {px py qx qy cx cy x y : Int} (N : PNe px py qx qy cx cy x y) : SC4 px py qx qy cx cy x y := fun pb qb cb w p0 p1 q0 q1 c0 c1 => by
 have C1 := Lib.hid N
 clear N
 have zp := World.block_lt_of_cell? _ _ p0
 have zq := World.block_lt_of_cell? _ _ q0
 have zc := World.block_lt_of_cell? _ _ c0
 dsimp only at zp zq zc
 go_enter Tryz.func155, Tryz.ntmps155
 go_wp2_with fail
 generalize hW : World.alloc (World.alloc w _) _ = W1
 replace p0 : W1.cell? ⟨pb, 0, none⟩ = some (.int .i32 px) := by rw [← hW]; exact Kep.all (kep_more (kep_more (Kep.refl _ _) _) _) p0
 replace p1 : W1.cell? ⟨pb, 1, none⟩ = some (.int .i32 py) := by rw [← hW]; exact Kep.all (kep_more (kep_more (Kep.refl _ _) _) _) p1
 replace q0 : W1.cell? ⟨qb, 0, none⟩ = some (.int .i32 qx) := by rw [← hW]; exact Kep.all (kep_more (kep_more (Kep.refl _ _) _) _) q0
 replace q1 : W1.cell? ⟨qb, 1, none⟩ = some (.int .i32 qy) := by rw [← hW]; exact Kep.all (kep_more (kep_more (Kep.refl _ _) _) _) q1
 replace c0 : W1.cell? ⟨cb, 0, none⟩ = some (.int .i32 cx) := by rw [← hW]; exact Kep.all (kep_more (kep_more (Kep.refl _ _) _) _) c0
 replace c1 : W1.cell? ⟨cb, 1, none⟩ = some (.int .i32 cy) := by rw [← hW]; exact Kep.all (kep_more (kep_more (Kep.refl _ _) _) _) c1
 have sr0 : (W1.cell? ⟨w.heap.size, 0, none⟩).isSome = true := by rw [← hW]; (repeat (first | rw [World.cell?_alloc_past _ _ _ (by first | (simp; done) | (simp; omega))])); rw [World.cell?_alloc_at _ _ _ _ (by simp)]; rfl
 have sr1 : (W1.cell? ⟨w.heap.size, 1, none⟩).isSome = true := by rw [← hW]; (repeat (first | rw [World.cell?_alloc_past _ _ _ (by first | (simp; done) | (simp; omega))])); rw [World.cell?_alloc_at _ _ _ _ (by simp)]; rfl
 have fr0 : W1.frozen? ⟨w.heap.size, 0, none⟩ = false := by rw [← hW]; (repeat (first | rw [World.frozen?_alloc_past _ _ _ (by first | (simp; done) | (simp; omega))])); rw [World.frozen?_alloc_at _ _ _ _ (by simp)]
 have fr1 : W1.frozen? ⟨w.heap.size, 1, none⟩ = false := by rw [← hW]; (repeat (first | rw [World.frozen?_alloc_past _ _ _ (by first | (simp; done) | (simp; omega))])); rw [World.frozen?_alloc_at _ _ _ _ (by simp)]
 have ss0 : (W1.cell? ⟨w.heap.size + 1, 0, none⟩).isSome = true := by rw [← hW]; (repeat (first | rw [World.cell?_alloc_past _ _ _ (by first | (simp; done) | (simp; omega))])); rw [World.cell?_alloc_at _ _ _ _ (by simp)]; rfl
 have ss1 : (W1.cell? ⟨w.heap.size + 1, 1, none⟩).isSome = true := by rw [← hW]; (repeat (first | rw [World.cell?_alloc_past _ _ _ (by first | (simp; done) | (simp; omega))])); rw [World.cell?_alloc_at _ _ _ _ (by simp)]; rfl
 have fs0 : W1.frozen? ⟨w.heap.size + 1, 0, none⟩ = false := by rw [← hW]; (repeat (first | rw [World.frozen?_alloc_past _ _ _ (by first | (simp; done) | (simp; omega))])); rw [World.frozen?_alloc_at _ _ _ _ (by simp)]
 have fs1 : W1.frozen? ⟨w.heap.size + 1, 1, none⟩ = false := by rw [← hW]; (repeat (first | rw [World.frozen?_alloc_past _ _ _ (by first | (simp; done) | (simp; omega))])); rw [World.frozen?_alloc_at _ _ _ _ (by simp)]
 have gg : Kep w.heap.size w W1 := by rw [← hW]; exact (kep_more (kep_more (Kep.refl _ _) _) _)
 clear hW
 refine wp_region_noPanic ?_
 refine wp_region_held_drew (S := (fun w' => w'.cell? ⟨pb, 0, none⟩ = some (.int .i32 px) ∧ w'.cell? ⟨pb, 1, none⟩ = some (.int .i32 py) ∧ w'.cell? ⟨qb, 0, none⟩ = some (.int .i32 qx) ∧ w'.cell? ⟨qb, 1, none⟩ = some (.int .i32 qy) ∧ w'.cell? ⟨cb, 0, none⟩ = some (.int .i32 cx) ∧ w'.cell? ⟨cb, 1, none⟩ = some (.int .i32 cy) ∧ (w'.cell? ⟨w.heap.size, 0, none⟩).isSome = true ∧ (w'.cell? ⟨w.heap.size, 1, none⟩).isSome = true ∧ w'.frozen? ⟨w.heap.size, 0, none⟩ = false ∧ w'.frozen? ⟨w.heap.size, 1, none⟩ = false ∧ (w'.cell? ⟨w.heap.size + 1, 0, none⟩).isSome = true ∧ (w'.cell? ⟨w.heap.size + 1, 1, none⟩).isSome = true ∧ w'.frozen? ⟨w.heap.size + 1, 0, none⟩ = false ∧ w'.frozen? ⟨w.heap.size + 1, 1, none⟩ = false ∧ Kep w.heap.size w w')) (by kernel_rfl) (⟨by rw [World.cell?_drew]; exact p0, by rw [World.cell?_drew]; exact p1, by rw [World.cell?_drew]; exact q0, by rw [World.cell?_drew]; exact q1, by rw [World.cell?_drew]; exact c0, by rw [World.cell?_drew]; exact c1, by rw [World.cell?_drew]; exact sr0, by rw [World.cell?_drew]; exact sr1, by rw [World.frozen?_drew]; exact fr0, by rw [World.frozen?_drew]; exact fr1, by rw [World.cell?_drew]; exact ss0, by rw [World.cell?_drew]; exact ss1, by rw [World.frozen?_drew]; exact fs0, by rw [World.frozen?_drew]; exact fs1, kep_drew gg⟩) (fun hH => ?_)
 refine sT 0 hH ?_
 refine sT 1 hH ?_
 refine sT 2 hH ?_
 refine sN 4 hH ?_
 refine sC 3 (fun K hK => ?_)
 go_simp
 (with_reducible refine (C1.out _).mono ?_); rintro e v1_3 ⟨rfl, g⟩
 refine hK.out _ _ (by (try dsimp only); (go_split_ands; and_intros <;> first | exact g.all (by assumption) | exact kep_next (by assumption) g | exact kep_some g (by assumption) | exact kep_froz g (by assumption) (by assumption))) (fun hH2 => ?_)
 clear hK K hH; have hH := hH2; clear hH2
 try simp only [Act.put, List.setIfInBounds_toArray, List.set_cons_zero, List.set_cons_succ]
 obtain ⟨p0, p1, q0, q1, c0, c1, sr0, sr1, fr0, fr1, ss0, ss1, fs0, fs1, gg⟩ := id hH
 refine sC 5 (fun K hK => ?_)
 obtain ⟨qr0, eqr0⟩ := Option.isSome_iff_exists.1 sr0
 obtain ⟨qr1, eqr1⟩ := Option.isSome_iff_exists.1 sr1
 obtain ⟨qs0, eqs0⟩ := Option.isSome_iff_exists.1 ss0
 obtain ⟨qs1, eqs1⟩ := Option.isSome_iff_exists.1 ss1
 have br0 := eqr0
 have br1 := eqr1
 have bs0 := eqs0
 have bs1 := eqs1
 go_simp
 refine hK.out _ _ (by (try dsimp only); and_intros <;> repeat (first | with_reducible assumption | with_reducible refine sset_far ?_ (by first | (simp; done) | (simp; omega)) | with_reducible refine sset_some _ _ _ ?_ | with_reducible refine sset_froz ?_ | with_reducible refine kep_set ?_ (by first | (simp; done) | (simp; omega)) _)) (fun hH2 => ?_)
 clear hK K hH p0 p1 q0 q1 c0 c1 sr0 sr1 fr0 fr1 ss0 ss1 fs0 fs1 gg eqr0 eqr1 eqs0 eqs1; have hH := hH2; clear hH2
 try simp only [Act.put, List.setIfInBounds_toArray, List.set_cons_zero, List.set_cons_succ]
 obtain ⟨p0, p1, q0, q1, c0, c1, sr0, sr1, fr0, fr1, ss0, ss1, fs0, fs1, gg⟩ := id hH
 refine sC 6 (fun K hK => ?_)
 obtain ⟨qr0, eqr0⟩ := Option.isSome_iff_exists.1 sr0
 obtain ⟨qr1, eqr1⟩ := Option.isSome_iff_exists.1 sr1
 obtain ⟨qs0, eqs0⟩ := Option.isSome_iff_exists.1 ss0
 obtain ⟨qs1, eqs1⟩ := Option.isSome_iff_exists.1 ss1
 go_simp
 refine hK.out _ _ (by (try dsimp only); and_intros <;> repeat (first | with_reducible assumption | with_reducible refine sset_far ?_ (by first | (simp; done) | (simp; omega)) | with_reducible refine sset_some _ _ _ ?_ | with_reducible refine sset_froz ?_ | with_reducible refine kep_set ?_ (by first | (simp; done) | (simp; omega)) _)) (fun hH2 => ?_)
 clear hK K hH p0 p1 q0 q1 c0 c1 sr0 sr1 fr0 fr1 ss0 ss1 fs0 fs1 gg eqr0 eqr1 eqs0 eqs1; have hH := hH2; clear hH2
 try simp only [Act.put, List.setIfInBounds_toArray, List.set_cons_zero, List.set_cons_succ]
 refine sE ?_
 clear p0 p1 q0 q1 c0 c1 sr0 sr1 fr0 fr1 ss0 ss1 fs0 fs1 gg
 obtain ⟨p0, p1, q0, q1, c0, c1, sr0, sr1, fr0, fr1, ss0, ss1, fs0, fs1, gg⟩ := hH
 go_wp2_with fail
 exact bodyPost_ret (v := .tuple #[.agg #[.int .i32 x, .int .i32 y], .agg #[.int .i32 cx, .int .i32 cy]]) (by simp [results, Tryz.results155, go_sem, br0, br1, bs0, bs1]) rfl ⟨rfl, gg⟩
theorem sset_same {W : World} {a : Addr} {v : Value} (h : (W.cell? a).isSome = true) : (W.setCell a v).cell? a = some v := World.cell?_setCell_same' _ _ _ h
theorem sset_other {W : World} {p a : Addr} {v u : Value} (h : W.cell? a = some u) (c : p ≠ a) : (W.setCell p v).cell? a = some u := by
 rw [World.cell?_setCell_other (h := c)]; exact h
structure KS (w : World) (lb ab bb : Nat) (x : Tw) : Prop where
 t0 : w.cell? ⟨lb, 0, none⟩ = some (.int .u64 x.t)
 a0 : w.cell? ⟨ab, 0, none⟩ = some (.int .i32 x.a)
 a1 : w.cell? ⟨ab, 1, none⟩ = some (.int .i32 x.b)
 b0 : w.cell? ⟨bb, 0, none⟩ = some (.int .i32 x.c)
 b1 : w.cell? ⟨bb, 1, none⟩ = some (.int .i32 x.d)
 ft : ∀ j, w.frozen? ⟨lb, j, none⟩ = false
 fa : ∀ j, w.frozen? ⟨ab, j, none⟩ = false
 fb : ∀ j, w.frozen? ⟨bb, j, none⟩ = false
theorem KS.kep {w w' : World} {lb ab bb : Nat} {x : Tw} (h : KS w lb ab bb x) (g : Kep w.heap.size w w') : KS w' lb ab bb x :=
 ⟨g.all h.t0, g.all h.a0, g.all h.a1, g.all h.b0, g.all h.b1, fun j => (g.frozen (p := ⟨lb, j, none⟩) (World.block_lt_of_cell? w ⟨lb, 0, none⟩ h.t0)).trans (h.ft j), fun j => (g.frozen (p := ⟨ab, j, none⟩) (World.block_lt_of_cell? w ⟨ab, 0, none⟩ h.a0)).trans (h.fa j), fun j => (g.frozen (p := ⟨bb, j, none⟩) (World.block_lt_of_cell? w ⟨bb, 0, none⟩ h.b0)).trans (h.fb j)⟩
theorem KS.drew {w : World} {lb ab bb : Nat} {x : Tw} (h : KS w lb ab bb x) : KS w.drew lb ab bb x := h.kep (kep_drew (Kep.refl _ _))
theorem som {W : World} {a : Addr} {v : Value} (h : W.cell? a = some v) : (W.cell? a).isSome = true := by rw [h]; rfl
theorem KS.pts {w : World} {lb ab bb : Nat} {x : Tw} (h : KS w lb ab bb x) (y : Tw) (ht : y.t = x.t) (h1 : lb ≠ ab) (h2 : lb ≠ bb) (h3 : ab ≠ bb) : KS ((((w.setCell ⟨ab, 0, none⟩ (.int .i32 y.a)).setCell ⟨ab, 1, none⟩ (.int .i32 y.b)).setCell ⟨bb, 0, none⟩ (.int .i32 y.c)).setCell ⟨bb, 1, none⟩ (.int .i32 y.d)) lb ab bb y := by
 refine ⟨?_, ?_, ?_, ?_, ?_, fun j => sset_froz (sset_froz (sset_froz (sset_froz (h.ft j)))), fun j => sset_froz (sset_froz (sset_froz (sset_froz (h.fa j)))), fun j => sset_froz (sset_froz (sset_froz (sset_froz (h.fb j))))⟩
 ·rw [ht]
  exact sset_other (sset_other (sset_other (sset_other h.t0 (by first | (simp; done) | (simp; omega))) (by first | (simp; done) | (simp; omega))) (by first | (simp; done) | (simp; omega))) (by first | (simp; done) | (simp; omega))
 ·exact sset_other (sset_other (sset_other (sset_same (som h.a0)) (by first | (simp; done) | (simp; omega))) (by first | (simp; done) | (simp; omega))) (by first | (simp; done) | (simp; omega))
 ·exact sset_other (sset_other (sset_same (sset_some _ _ _ (som h.a1))) (by first | (simp; done) | (simp; omega))) (by first | (simp; done) | (simp; omega))
 ·exact sset_other (sset_same (sset_some _ _ _ (sset_some _ _ _ (som h.b0)))) (by first | (simp; done) | (simp; omega))
 ·exact sset_same (sset_some _ _ _ (sset_some _ _ _ (sset_some _ _ _ (som h.b1))))
theorem KS.sq {w : World} {lb ab bb : Nat} {x : Tw} (h : KS w lb ab bb x) (t : Int) (h1 : lb ≠ ab) (h2 : lb ≠ bb) : KS (w.setCell ⟨lb, 0, none⟩ (.int .u64 t)) lb ab bb ⟨x.a, x.b, x.c, x.d, t⟩ :=
 ⟨sset_same (som h.t0), sset_other h.a0 (by first | (simp; done) | (simp; omega)), sset_other h.a1 (by first | (simp; done) | (simp; omega)), sset_other h.b0 (by first | (simp; done) | (simp; omega)), sset_other h.b1 (by first | (simp; done) | (simp; omega)), fun j => sset_froz (h.ft j), fun j => sset_froz (h.fa j), fun j => sset_froz (h.fb j)⟩
theorem KS.set {w : World} {lb ab bb : Nat} {x : Tw} (h : KS w lb ab bb x) (y : Tw) (h1 : lb ≠ ab) (h2 : lb ≠ bb) (h3 : ab ≠ bb) : KS (((((w.setCell ⟨ab, 0, none⟩ (.int .i32 y.a)).setCell ⟨ab, 1, none⟩ (.int .i32 y.b)).setCell ⟨bb, 0, none⟩ (.int .i32 y.c)).setCell ⟨bb, 1, none⟩ (.int .i32 y.d)).setCell ⟨lb, 0, none⟩ (.int .u64 y.t)) lb ab bb y :=
 KS.sq (KS.pts h ⟨y.a, y.b, y.c, y.d, x.t⟩ rfl h1 h2 h3) y.t h1 h2
structure ZS (w : World) (ab bb : Nat) (a b c d : Int) : Prop where
 a0 : w.cell? ⟨ab, 0, none⟩ = some (.int .i32 a)
 a1 : w.cell? ⟨ab, 1, none⟩ = some (.int .i32 b)
 b0 : w.cell? ⟨bb, 0, none⟩ = some (.int .i32 c)
 b1 : w.cell? ⟨bb, 1, none⟩ = some (.int .i32 d)
 fa : ∀ j, w.frozen? ⟨ab, j, none⟩ = false
 fb : ∀ j, w.frozen? ⟨bb, j, none⟩ = false
theorem ZS.kep {w w' : World} {ab bb : Nat} {a b c d : Int} (h : ZS w ab bb a b c d) (g : Kep w.heap.size w w') : ZS w' ab bb a b c d :=
 ⟨g.all h.a0, g.all h.a1, g.all h.b0, g.all h.b1, fun j => (g.frozen (p := ⟨ab, j, none⟩) (World.block_lt_of_cell? w ⟨ab, 0, none⟩ h.a0)).trans (h.fa j), fun j => (g.frozen (p := ⟨bb, j, none⟩) (World.block_lt_of_cell? w ⟨bb, 0, none⟩ h.b0)).trans (h.fb j)⟩
theorem ZS.pts {w : World} {ab bb : Nat} {a b c d : Int} (h : ZS w ab bb a b c d) (x y u v : Int) (h3 : ab ≠ bb) : ZS ((((w.setCell ⟨ab, 0, none⟩ (.int .i32 x)).setCell ⟨ab, 1, none⟩ (.int .i32 y)).setCell ⟨bb, 0, none⟩ (.int .i32 u)).setCell ⟨bb, 1, none⟩ (.int .i32 v)) ab bb x y u v := by
 refine ⟨?_, ?_, ?_, ?_, fun j => sset_froz (sset_froz (sset_froz (sset_froz (h.fa j)))), fun j => sset_froz (sset_froz (sset_froz (sset_froz (h.fb j))))⟩
 ·exact sset_other (sset_other (sset_other (sset_same (som h.a0)) (by first | (simp; done) | (simp; omega))) (by first | (simp; done) | (simp; omega))) (by first | (simp; done) | (simp; omega))
 ·exact sset_other (sset_other (sset_same (sset_some _ _ _ (som h.a1))) (by first | (simp; done) | (simp; omega))) (by first | (simp; done) | (simp; omega))
 ·exact sset_other (sset_same (sset_some _ _ _ (sset_some _ _ _ (som h.b0)))) (by first | (simp; done) | (simp; omega))
 ·exact sset_same (sset_some _ _ _ (sset_some _ _ _ (sset_some _ _ _ (som h.b1))))
theorem ZS.sq {w : World} {ab bb : Nat} {a b c d : Int} (h : ZS w ab bb a b c d) (t : Int) (e : TypeId) : KS (w.alloc (.cells #[.int .u64 t] e)) w.heap.size ab bb ⟨a, b, c, d, t⟩ := by
 have k := h.kep (kep_more (Kep.refl _ _) (.cells #[.int .u64 t] e))
 exact ⟨by rw [World.cell?_alloc_at _ _ _ _ (by simp)]; rfl, k.a0, k.a1, k.b0, k.b1, fun j => by rw [World.frozen?_alloc_at _ _ _ _ (by simp)], k.fa, k.fb⟩
theorem KS.zs {w : World} {lb ab bb : Nat} {x : Tw} (h : KS w lb ab bb x) : ZS w ab bb x.a x.b x.c x.d := ⟨h.a0, h.a1, h.b0, h.b1, h.fa, h.fb⟩
structure F3 (lb ab bb : Nat) (w w' : World) : Prop where
 os : w'.os = w.os
 output : w'.output = w.output
 size : w.heap.size ≤ w'.heap.size
 block : ∀ k, k < w.heap.size → k ≠ lb → k ≠ ab → k ≠ bb → w'.heap[k]? = w.heap[k]?
theorem F3.refl (lb ab bb : Nat) (w : World) : F3 lb ab bb w w := ⟨rfl, rfl, Nat.le_refl _, fun _ _ _ _ _ => rfl⟩
theorem F3.trans {lb ab bb : Nat} {a b c : World} (h : F3 lb ab bb a b) (k : F3 lb ab bb b c) : F3 lb ab bb a c :=
 ⟨k.os.trans h.os, k.output.trans h.output, Nat.le_trans h.size k.size, fun i hi n1 n2 n3 => (k.block i (Nat.lt_of_lt_of_le hi h.size) n1 n2 n3).trans (h.block i hi n1 n2 n3)⟩
theorem F3.of_kep {lb ab bb : Nat} {w w' : World} (h : Kep w.heap.size w w') : F3 lb ab bb w w' := ⟨h.os, h.output, h.size, fun k hk _ _ _ => h.block k hk⟩
theorem F3.kep {lb ab bb : Nat} {a b c : World} (h : F3 lb ab bb a b) (g : Kep b.heap.size b c) : F3 lb ab bb a c := h.trans (F3.of_kep g)
theorem F3.set {lb ab bb : Nat} {a b : World} (h : F3 lb ab bb a b) {k o : Nat} (hk : k = lb ∨ k = ab ∨ k = bb) (v : Value) : F3 lb ab bb a (b.setCell ⟨k, o, none⟩ v) :=
 ⟨h.os, h.output, by rw [World.size_setCell]; exact h.size, fun i hi n1 n2 n3 => by rw [Below.heap_setCell _ _ _ i (fun e => by dsimp only at e; omega)]; exact h.block i hi n1 n2 n3⟩
theorem F3.cell {lb ab bb : Nat} {w w' : World} (h : F3 lb ab bb w w') {b o : Nat} {v : Value} (h1 : b ≠ lb) (h2 : b ≠ ab) (h3 : b ≠ bb) (hv : w.cell? ⟨b, o, none⟩ = some v) : w'.cell? ⟨b, o, none⟩ = some v :=
 (World.cell?_of_block (w := w) (h.block b (World.block_lt_of_cell? _ _ hv) h1 h2 h3)).trans hv
theorem F3.down {lb ab bb B : Nat} {w w' : World} (h : F3 lb ab bb w w') (h0 : B ≤ w.heap.size) (h1 : B ≤ lb) (h2 : B ≤ ab) (h3 : B ≤ bb) : Kep B w w' := ⟨h.os, h.output, h.size, fun k hk => h.block k (by omega) (by omega) (by omega) (by omega)⟩
abbrev SKe (x y : Tw) : Prop := ∀ (lb ab bb : Nat) w, KS w lb ab bb x → lb ≠ ab → lb ≠ bb → ab ≠ bb → Calls Tryz.prog 157 #[.agg #[.int .i32 y.a, .int .i32 y.b], .agg #[.int .i32 y.c, .int .i32 y.d], .pointer (some ⟨lb, 0, none⟩), .pointer (some ⟨ab, 0, none⟩), .pointer (some ⟨bb, 0, none⟩)] w fun e w' => e = .returned (.tuple #[]) ∧ KS w' lb ab bb (pk x y) ∧ F3 lb ab bb w w'
abbrev SKx (x : Tw) (a b c d t : Int) : Prop := ∀ (lb ab bb : Nat) w, KS w lb ab bb x → lb ≠ ab → lb ≠ bb → ab ≠ bb → Calls Tryz.prog 157 #[.agg #[.int .i32 a, .int .i32 b], .agg #[.int .i32 c, .int .i32 d], .pointer (some ⟨lb, 0, none⟩), .pointer (some ⟨ab, 0, none⟩), .pointer (some ⟨bb, 0, none⟩)] w fun e w' => e = .returned (.tuple #[]) ∧ KS w' lb ab bb (pk x ⟨a, b, c, d, t⟩) ∧ F3 lb ab bb w w'
theorem ske {x y : Tw} (G : Good y) : SKe x y := fun lb ab bb w h n1 n2 n3 => by
 have C1 := Lib.hid G.sap
 have HS := Lib.hid h
 have hz0 := World.block_lt_of_cell? _ _ h.t0
 have hz1 := World.block_lt_of_cell? _ _ h.a0
 have hz2 := World.block_lt_of_cell? _ _ h.b0
 dsimp only at hz0 hz1 hz2
 clear h G
 obtain ⟨z, hz⟩ : ∃ z, decide (y.t < x.t) = z := ⟨_, rfl⟩
 have HZ := Lib.hid hz
 go_enter Tryz.func157, Tryz.ntmps157
 go_upto_region 2 with (first
  | ((with_reducible refine (C1.out _).mono ?_); rintro e w1 ⟨rfl, g1⟩
     have zQ := zK g1 (b := w.heap.size) (vs := [.int .i32 y.a, .int .i32 y.b])
     have u0 := zI zQ 0
     have u1 := zI zQ 1
     clear zQ
     have zQ := zK g1 (b := w.heap.size + 1) (vs := [.int .i32 y.c, .int .i32 y.d])
     have v0 := zI zQ 0
     have v1 := zI zQ 1
     clear zQ
     have gg := kep_next (kep_more (kep_more (Kep.refl _ _) _) _) g1
     have HS1 := Lib.hid (HS.out.kep gg)
     have zu_w1 : w.heap.size < w1.heap.size := World.block_lt_of_cell? _ _ u0
     have zv_w1 : w.heap.size + 1 < w1.heap.size := World.block_lt_of_cell? _ _ v0))
 have t0 := HS1.out.t0
 have HG := Lib.hid gg
 cases z with
 | false =>
   go_wp2_with fail
   go_end0
   exact ⟨rfl, by rw [pk_not HZ.out]; exact HS1.out, F3.of_kep HG.out⟩
 | true =>
   have a0 := HS1.out.a0
   have a1 := HS1.out.a1
   have b0 := HS1.out.b0
   have b1 := HS1.out.b1
   have fa0 := HS1.out.fa 0
   have fa1 := HS1.out.fa 1
   have fb0 := HS1.out.fb 0
   have fb1 := HS1.out.fb 1
   have ft0 := HS1.out.ft 0
   go_wp2_with fail
   go_region_with fail
   all_goals go_wp2_with fail
   all_goals go_end0
   all_goals exact ⟨rfl, by rw [pk_less HZ.out]; exact (HS1.out.set y n1 n2 n3).drew, F3.kep (F3.set (F3.set (F3.set (F3.set (F3.set (F3.of_kep HG.out) (.inr (.inl rfl)) _) (.inr (.inl rfl)) _) (.inr (.inr rfl)) _) (.inr (.inr rfl)) _) (.inl rfl) _) (kep_drew (Kep.refl _ _))⟩
structure CS (w : World) (h : Nat) (px py qx qy mx my nx ny : Int) : Prop where
 p0 : w.cell? ⟨h, 0, none⟩ = some (.int .i32 px)
 p1 : w.cell? ⟨h, 1, none⟩ = some (.int .i32 py)
 q0 : w.cell? ⟨h + 1, 0, none⟩ = some (.int .i32 qx)
 q1 : w.cell? ⟨h + 1, 1, none⟩ = some (.int .i32 qy)
 m0 : w.cell? ⟨h + 1 + 1, 0, none⟩ = some (.int .i32 mx)
 m1 : w.cell? ⟨h + 1 + 1, 1, none⟩ = some (.int .i32 my)
 n0 : w.cell? ⟨h + 1 + 1 + 1, 0, none⟩ = some (.int .i32 nx)
 n1 : w.cell? ⟨h + 1 + 1 + 1, 1, none⟩ = some (.int .i32 ny)
 f0 : w.cell? ⟨h + 1 + 1 + 1 + 1 + 1 + 1, 0, none⟩ = some (.func (.func 151) #[] #[.pointer (some ⟨h, 0, none⟩), .pointer (some ⟨h + 1 + 1, 0, none⟩), .pointer (some ⟨h + 1 + 1 + 1, 0, none⟩)])
 f1 : w.cell? ⟨h + 1 + 1 + 1 + 1 + 1 + 1, 1, none⟩ = some (.func (.func 153) #[] #[.pointer (some ⟨h + 1, 0, none⟩), .pointer (some ⟨h + 1 + 1, 0, none⟩), .pointer (some ⟨h + 1 + 1 + 1, 0, none⟩)])
 f2 : w.cell? ⟨h + 1 + 1 + 1 + 1 + 1 + 1, 2, none⟩ = some (.func (.func 154) #[] #[.pointer (some ⟨h, 0, none⟩), .pointer (some ⟨h + 1, 0, none⟩), .pointer (some ⟨h + 1 + 1, 0, none⟩)])
 f3 : w.cell? ⟨h + 1 + 1 + 1 + 1 + 1 + 1, 3, none⟩ = some (.func (.func 155) #[] #[.pointer (some ⟨h, 0, none⟩), .pointer (some ⟨h + 1, 0, none⟩), .pointer (some ⟨h + 1 + 1 + 1, 0, none⟩)])
theorem CS.kep {w w' : World} {h : Nat} {px py qx qy mx my nx ny : Int} (H : CS w h px py qx qy mx my nx ny) (g : Kep w.heap.size w w') : CS w' h px py qx qy mx my nx ny := ⟨g.all H.p0, g.all H.p1, g.all H.q0, g.all H.q1, g.all H.m0, g.all H.m1, g.all H.n0, g.all H.n1, g.all H.f0, g.all H.f1, g.all H.f2, g.all H.f3⟩
theorem CS.thr {w w' : World} {h lb ab bb : Nat} {px py qx qy mx my nx ny : Int} (H : CS w h px py qx qy mx my nx ny) (g : F3 lb ab bb w w') (ha : ab = h + 1 + 1 + 1 + 1) (hb : bb = h + 1 + 1 + 1 + 1 + 1) (hl : h + 1 + 1 + 1 + 1 + 1 + 1 < lb) : CS w' h px py qx qy mx my nx ny := ⟨g.cell (by omega) (by omega) (by omega) H.p0, g.cell (by omega) (by omega) (by omega) H.p1, g.cell (by omega) (by omega) (by omega) H.q0, g.cell (by omega) (by omega) (by omega) H.q1, g.cell (by omega) (by omega) (by omega) H.m0, g.cell (by omega) (by omega) (by omega) H.m1, g.cell (by omega) (by omega) (by omega) H.n0, g.cell (by omega) (by omega) (by omega) H.n1, g.cell (by omega) (by omega) (by omega) H.f0, g.cell (by omega) (by omega) (by omega) H.f1, g.cell (by omega) (by omega) (by omega) H.f2, g.cell (by omega) (by omega) (by omega) H.f3⟩
theorem sch_go {px py qx qy mx my nx ny x0 y0 x1 y1 x2 y2 x3 y3 t0 t1 t2 t3 : Int} (N0 : Hid (SC1 px py mx my nx ny x0 y0)) (N1 : Hid (SC2 qx qy mx my nx ny x1 y1)) (N2 : Hid (SC3 px py qx qy mx my x2 y2)) (N3 : Hid (SC4 px py qx qy nx ny x3 y3))
 (G0 : Hid (Good (⟨px, py, x0, y0, t0⟩ : Tw))) (G1 : Hid (Good (⟨qx, qy, x1, y1, t1⟩ : Tw))) (G2 : Hid (Good (⟨x2, y2, mx, my, t2⟩ : Tw))) (G3 : Hid (Good (⟨x3, y3, nx, ny, t3⟩ : Tw))) : SCh px py qx qy mx my nx ny (bsK (⟨px, py, x0, y0, t0⟩ : Tw) (⟨qx, qy, x1, y1, t1⟩ : Tw) (⟨x2, y2, mx, my, t2⟩ : Tw) (⟨x3, y3, nx, ny, t3⟩ : Tw) 4).a (bsK (⟨px, py, x0, y0, t0⟩ : Tw) (⟨qx, qy, x1, y1, t1⟩ : Tw) (⟨x2, y2, mx, my, t2⟩ : Tw) (⟨x3, y3, nx, ny, t3⟩ : Tw) 4).b (bsK (⟨px, py, x0, y0, t0⟩ : Tw) (⟨qx, qy, x1, y1, t1⟩ : Tw) (⟨x2, y2, mx, my, t2⟩ : Tw) (⟨x3, y3, nx, ny, t3⟩ : Tw) 4).c (bsK (⟨px, py, x0, y0, t0⟩ : Tw) (⟨qx, qy, x1, y1, t1⟩ : Tw) (⟨x2, y2, mx, my, t2⟩ : Tw) (⟨x3, y3, nx, ny, t3⟩ : Tw) 4).d := fun w => by
 have C0 := Lib.hid G0.out.sap
 dsimp only at C0
 have hsf := fun (a : Addr) (f : Nat) (c : Array Value) (w : World) => run_store Tryz.prog w a (.func (.func f) #[] c) .plain rfl
 have hmf : ∀ (fn : Fn) (first cap : Array Value) (w : World), (Instr.makeFunc fn first cap).run Tryz.prog w = .ok (.func fn first cap) w := fun _ _ _ _ => rfl
 go_enter Tryz.func121, Tryz.ntmps121
 go_upto_region 2 with fail
 generalize hW : World.alloc (World.alloc (World.alloc (World.alloc (World.alloc (World.alloc (World.alloc w _) _) _) _) _) _) _ = W1
 have K1 : Hid (Kep w.heap.size w W1) := Lib.hid (by rw [← hW]; exact (kep_more (kep_more (kep_more (kep_more (kep_more (kep_more (kep_more (Kep.refl _ _) _) _) _) _) _) _) _))
 have HC1 : Hid (CS W1 w.heap.size px py qx qy mx my nx ny) := Lib.hid (by
  rw [← hW]
  exact ⟨by (repeat (first | rw [World.cell?_alloc_past _ _ _ (by first | (simp; done) | (simp; omega))])); rw [World.cell?_alloc_at _ _ _ _ (by simp)]; rfl, by (repeat (first | rw [World.cell?_alloc_past _ _ _ (by first | (simp; done) | (simp; omega))])); rw [World.cell?_alloc_at _ _ _ _ (by simp)]; rfl, by (repeat (first | rw [World.cell?_alloc_past _ _ _ (by first | (simp; done) | (simp; omega))])); rw [World.cell?_alloc_at _ _ _ _ (by simp)]; rfl, by (repeat (first | rw [World.cell?_alloc_past _ _ _ (by first | (simp; done) | (simp; omega))])); rw [World.cell?_alloc_at _ _ _ _ (by simp)]; rfl, by (repeat (first | rw [World.cell?_alloc_past _ _ _ (by first | (simp; done) | (simp; omega))])); rw [World.cell?_alloc_at _ _ _ _ (by simp)]; rfl, by (repeat (first | rw [World.cell?_alloc_past _ _ _ (by first | (simp; done) | (simp; omega))])); rw [World.cell?_alloc_at _ _ _ _ (by simp)]; rfl, by (repeat (first | rw [World.cell?_alloc_past _ _ _ (by first | (simp; done) | (simp; omega))])); rw [World.cell?_alloc_at _ _ _ _ (by simp)]; rfl, by (repeat (first | rw [World.cell?_alloc_past _ _ _ (by first | (simp; done) | (simp; omega))])); rw [World.cell?_alloc_at _ _ _ _ (by simp)]; rfl, by (repeat (first | rw [World.cell?_alloc_past _ _ _ (by first | (simp; done) | (simp; omega))])); rw [World.cell?_alloc_at _ _ _ _ (by simp)]; rfl, by (repeat (first | rw [World.cell?_alloc_past _ _ _ (by first | (simp; done) | (simp; omega))])); rw [World.cell?_alloc_at _ _ _ _ (by simp)]; rfl, by (repeat (first | rw [World.cell?_alloc_past _ _ _ (by first | (simp; done) | (simp; omega))])); rw [World.cell?_alloc_at _ _ _ _ (by simp)]; rfl, by (repeat (first | rw [World.cell?_alloc_past _ _ _ (by first | (simp; done) | (simp; omega))])); rw [World.cell?_alloc_at _ _ _ _ (by simp)]; rfl⟩)
 have HZ1 : Hid (ZS W1 (w.heap.size + 1 + 1 + 1 + 1) (w.heap.size + 1 + 1 + 1 + 1 + 1) 0 0 0 0) := Lib.hid (by
  rw [← hW]
  exact ⟨by (repeat (first | rw [World.cell?_alloc_past _ _ _ (by first | (simp; done) | (simp; omega))])); rw [World.cell?_alloc_at _ _ _ _ (by simp)]; rfl, by (repeat (first | rw [World.cell?_alloc_past _ _ _ (by first | (simp; done) | (simp; omega))])); rw [World.cell?_alloc_at _ _ _ _ (by simp)]; rfl, by (repeat (first | rw [World.cell?_alloc_past _ _ _ (by first | (simp; done) | (simp; omega))])); rw [World.cell?_alloc_at _ _ _ _ (by simp)]; rfl, by (repeat (first | rw [World.cell?_alloc_past _ _ _ (by first | (simp; done) | (simp; omega))])); rw [World.cell?_alloc_at _ _ _ _ (by simp)]; rfl, fun j => by (repeat (first | rw [World.frozen?_alloc_past _ _ _ (by first | (simp; done) | (simp; omega))])); rw [World.frozen?_alloc_at _ _ _ _ (by simp)], fun j => by (repeat (first | rw [World.frozen?_alloc_past _ _ _ (by first | (simp; done) | (simp; omega))])); rw [World.frozen?_alloc_at _ _ _ _ (by simp)]⟩)
 have HS1 : w.heap.size + 1 + 1 + 1 + 1 + 1 + 1 < W1.heap.size := by rw [← hW]; simp
 clear hW
 have f0 := HC1.out.f0
 have p0 := HC1.out.p0
 have p1 := HC1.out.p1
 have m0 := HC1.out.m0
 have m1 := HC1.out.m1
 have n0 := HC1.out.n0
 have n1 := HC1.out.n1
 have za0 := HZ1.out.a0
 have za1 := HZ1.out.a1
 have zb0 := HZ1.out.b0
 have zb1 := HZ1.out.b1
 have fa0 := HZ1.out.fa 0
 have fa1 := HZ1.out.fa 1
 have fb0 := HZ1.out.fb 0
 have fb1 := HZ1.out.fb 1
 go_upto_region 3 with ((with_reducible refine (N0.out _ _ _ _ p0 p1 m0 m1 n0 n1).mono ?_); rintro e w2 ⟨rfl, g2⟩; have HZ2 := Lib.hid (HZ1.out.kep g2); have HK2 := Lib.hid g2; have HS2 := g2.size; replace za0 := HZ2.out.a0; replace za1 := HZ2.out.a1; replace zb0 := HZ2.out.b0; replace zb1 := HZ2.out.b1; replace fa0 := HZ2.out.fa 0; replace fa1 := HZ2.out.fa 1; replace fb0 := HZ2.out.fb 0; replace fb1 := HZ2.out.fb 1)
 generalize hW : World.setCell (World.setCell (World.setCell (World.setCell w2 _ _) _ _) _ _) _ _ = W3
 have HZ3 : Hid (ZS W3 (w.heap.size + 1 + 1 + 1 + 1) (w.heap.size + 1 + 1 + 1 + 1 + 1) px py x0 y0) := Lib.hid (by
  rw [← hW]
  exact HZ2.out.pts px py x0 y0 (by omega))
 have F13 : Hid (F3 (W1.heap.size) (w.heap.size + 1 + 1 + 1 + 1) (w.heap.size + 1 + 1 + 1 + 1 + 1) W1 W3) := Lib.hid (by
  rw [← hW]
  exact F3.set (F3.set (F3.set (F3.set (F3.of_kep HK2.out) (.inr (.inl rfl)) _) (.inr (.inl rfl)) _) (.inr (.inr rfl)) _) (.inr (.inr rfl)) _)
 have HC3 := Lib.hid (HC1.out.thr F13.out rfl rfl HS1)
 have HS3 : W1.heap.size ≤ W3.heap.size := F13.out.size
 have K3 : Hid (Kep w.heap.size w W3) := Lib.hid (K1.out.trans (F13.out.down (by omega) (by omega) (by omega) (by omega)))
 clear hW za0 za1 zb0 zb1 fa0 fa1 fb0 fb1 f0 p0 p1 m0 m1 n0 n1 HZ1 HZ2 HK2 HC1 K1 HS2
 have a0 := HZ3.out.a0
 have a1 := HZ3.out.a1
 have b0 := HZ3.out.b0
 have b1 := HZ3.out.b1
 go_upto_region 4 with ((with_reducible refine (C0.out _).mono ?_); rintro e w4 ⟨rfl, g4⟩; have HK4 := Lib.hid g4; have HS4 := g4.size; clear g4)
 generalize hW : World.alloc w4 _ = W5
 have HB5 : Hid (KS W5 w4.heap.size (w.heap.size + 1 + 1 + 1 + 1) (w.heap.size + 1 + 1 + 1 + 1 + 1) (⟨px, py, x0, y0, t0⟩ : Tw)) := Lib.hid (by
  rw [← hW]
  exact (HZ3.out.kep HK4.out).sq t0 _)
 have HC5 : Hid (CS W5 w.heap.size px py qx qy mx my nx ny) := Lib.hid (by
  rw [← hW]
  exact (HC3.out.kep HK4.out).kep (kep_more (Kep.refl _ _) _))
 have K5 : Hid (Kep w.heap.size w W5) := Lib.hid (by
  rw [← hW]
  exact kep_more (kep_next K3.out HK4.out) _)
 have HS5 : Hid (w.heap.size + 1 + 1 + 1 + 1 + 1 + 1 < w4.heap.size ∧ w4.heap.size < W5.heap.size) := Lib.hid ⟨by omega, by rw [← hW]; simp⟩
 clear hW a0 a1 b0 b1 HZ3 F13 HC3 HS3 K3 HK4 HS4 HS1 C0
 generalize w4.heap.size = lb at *
 go_wp2_with fail
 go_loopw [32] (fun i wr => ∃ k : Nat, k ≤ 3 ∧ i = .int .i64 k ∧ Hid (∃ x, x = bsK (⟨px, py, x0, y0, t0⟩ : Tw) (⟨qx, qy, x1, y1, t1⟩ : Tw) (⟨x2, y2, mx, my, t2⟩ : Tw) (⟨x3, y3, nx, ny, t3⟩ : Tw) (k + 1) ∧ KS wr lb (w.heap.size + 1 + 1 + 1 + 1) (w.heap.size + 1 + 1 + 1 + 1 + 1) x ∧ F3 lb (w.heap.size + 1 + 1 + 1 + 1) (w.heap.size + 1 + 1 + 1 + 1 + 1) W5 wr)) (fun i _ => 3 - (RowKit.intOf i).toNat)
 case atStart => exact ⟨0, by omega, rfl, Lib.hid ⟨_, rfl, HB5.out, F3.refl _ _ _ _⟩⟩
 case round =>
  obtain ⟨k, hk4, rfl, HP⟩ := hrel
  obtain ⟨x, hx, hks, hf⟩ := HP.out
  have HX := Lib.hid hx
  have HK := Lib.hid hks
  have HF := Lib.hid hf
  have HC := Lib.hid (HC5.out.thr hf rfl rfl HS5.out.1)
  clear HP hx hks hf
  by_cases hlt : k < 3
  ·rcases (show k = 0 ∨ k = 1 ∨ k = 2 by omega) with rfl | rfl | rfl
   ·have CK : Hid (SKx x qx qy x1 y1 t1) := Lib.hid (ske (x := x) G1.out)
    have f0 := HC.out.f1
    have q0 := HC.out.q0
    have q1 := HC.out.q1
    have m0 := HC.out.m0
    have m1 := HC.out.m1
    have n0 := HC.out.n0
    have n1 := HC.out.n1
    go_wp2_with (first
     | ((with_reducible refine (N1.out _ _ _ _ q0 q1 m0 m1 n0 n1).mono ?_); rintro e w6 ⟨rfl, g6⟩; have HK6 := Lib.hid (HK.out.kep g6); have HF6 := Lib.hid (HF.out.kep g6))
     | ((with_reducible refine (CK.out _ _ _ _ HK6.out (by have := HS5.out.1; omega) (by have := HS5.out.1; omega) (by omega)).mono ?_); rintro e w7 ⟨rfl, k7, f7⟩; have HK7 := Lib.hid k7; have HF7 := Lib.hid (HF6.out.trans f7); clear k7 f7))
    go_roundw
    case rel => exact ⟨1, by omega, by go_num, Lib.hid ⟨_, by rw [show bsK (⟨px, py, x0, y0, t0⟩ : Tw) (⟨qx, qy, x1, y1, t1⟩ : Tw) (⟨x2, y2, mx, my, t2⟩ : Tw) (⟨x3, y3, nx, ny, t3⟩ : Tw) (1 + 1) = pk (bsK (⟨px, py, x0, y0, t0⟩ : Tw) (⟨qx, qy, x1, y1, t1⟩ : Tw) (⟨x2, y2, mx, my, t2⟩ : Tw) (⟨x3, y3, nx, ny, t3⟩ : Tw) 1) (⟨qx, qy, x1, y1, t1⟩ : Tw) from rfl, HX.out], HK7.out, HF7.out⟩⟩
    case measure => simp [RowKit.intOf]
   ·have CK : Hid (SKx x x2 y2 mx my t2) := Lib.hid (ske (x := x) G2.out)
    have f0 := HC.out.f2
    have p0 := HC.out.p0
    have p1 := HC.out.p1
    have q0 := HC.out.q0
    have q1 := HC.out.q1
    have m0 := HC.out.m0
    have m1 := HC.out.m1
    go_wp2_with (first
     | ((with_reducible refine (N2.out _ _ _ _ p0 p1 q0 q1 m0 m1).mono ?_); rintro e w6 ⟨rfl, g6⟩; have HK6 := Lib.hid (HK.out.kep g6); have HF6 := Lib.hid (HF.out.kep g6))
     | ((with_reducible refine (CK.out _ _ _ _ HK6.out (by have := HS5.out.1; omega) (by have := HS5.out.1; omega) (by omega)).mono ?_); rintro e w7 ⟨rfl, k7, f7⟩; have HK7 := Lib.hid k7; have HF7 := Lib.hid (HF6.out.trans f7); clear k7 f7))
    go_roundw
    case rel => exact ⟨2, by omega, by go_num, Lib.hid ⟨_, by rw [show bsK (⟨px, py, x0, y0, t0⟩ : Tw) (⟨qx, qy, x1, y1, t1⟩ : Tw) (⟨x2, y2, mx, my, t2⟩ : Tw) (⟨x3, y3, nx, ny, t3⟩ : Tw) (2 + 1) = pk (bsK (⟨px, py, x0, y0, t0⟩ : Tw) (⟨qx, qy, x1, y1, t1⟩ : Tw) (⟨x2, y2, mx, my, t2⟩ : Tw) (⟨x3, y3, nx, ny, t3⟩ : Tw) 2) (⟨x2, y2, mx, my, t2⟩ : Tw) from rfl, HX.out], HK7.out, HF7.out⟩⟩
    case measure => simp [RowKit.intOf]
   ·have CK : Hid (SKx x x3 y3 nx ny t3) := Lib.hid (ske (x := x) G3.out)
    have f0 := HC.out.f3
    have p0 := HC.out.p0
    have p1 := HC.out.p1
    have q0 := HC.out.q0
    have q1 := HC.out.q1
    have n0 := HC.out.n0
    have n1 := HC.out.n1
    go_wp2_with (first
     | ((with_reducible refine (N3.out _ _ _ _ p0 p1 q0 q1 n0 n1).mono ?_); rintro e w6 ⟨rfl, g6⟩; have HK6 := Lib.hid (HK.out.kep g6); have HF6 := Lib.hid (HF.out.kep g6))
     | ((with_reducible refine (CK.out _ _ _ _ HK6.out (by have := HS5.out.1; omega) (by have := HS5.out.1; omega) (by omega)).mono ?_); rintro e w7 ⟨rfl, k7, f7⟩; have HK7 := Lib.hid k7; have HF7 := Lib.hid (HF6.out.trans f7); clear k7 f7))
    go_roundw
    case rel => exact ⟨3, by omega, by go_num, Lib.hid ⟨_, by rw [show bsK (⟨px, py, x0, y0, t0⟩ : Tw) (⟨qx, qy, x1, y1, t1⟩ : Tw) (⟨x2, y2, mx, my, t2⟩ : Tw) (⟨x3, y3, nx, ny, t3⟩ : Tw) (3 + 1) = pk (bsK (⟨px, py, x0, y0, t0⟩ : Tw) (⟨qx, qy, x1, y1, t1⟩ : Tw) (⟨x2, y2, mx, my, t2⟩ : Tw) (⟨x3, y3, nx, ny, t3⟩ : Tw) 3) (⟨x3, y3, nx, ny, t3⟩ : Tw) from rfl, HX.out], HK7.out, HF7.out⟩⟩
    case measure => simp [RowKit.intOf]
  ·obtain rfl : k = 3 := by omega
   have a0 := HK.out.a0
   have a1 := HK.out.a1
   have b0 := HK.out.b0
   have b1 := HK.out.b1
   have fa0 := HK.out.fa 0
   have fa1 := HK.out.fa 1
   have fb0 := HK.out.fb 0
   have fb1 := HK.out.fb 1
   go_wp2_with fail
   go_region_with fail
   all_goals go_wp2_with fail
   all_goals
    generalize hW : World.drew _ = W9
    have HZ9 : ZS W9 (w.heap.size + 1 + 1 + 1 + 1) (w.heap.size + 1 + 1 + 1 + 1 + 1) x.a x.b x.c x.d := by
     rw [← hW]
     exact (HK.out.zs.pts x.a x.b x.c x.d (by omega)).kep (kep_drew (Kep.refl _ _))
    have KK : Kep w.heap.size w W9 := by
     have hs := HS5.out
     have hk := K5.out.size
     rw [← hW]
     exact kep_drew (K5.out.trans ((F3.set (F3.set (F3.set (F3.set HF.out (.inr (.inl rfl)) _) (.inr (.inl rfl)) _) (.inr (.inr rfl)) _) (.inr (.inr rfl)) _).down (by omega) (by omega) (by omega) (by omega)))
    have z0 := HZ9.a0
    have z1 := HZ9.a1
    have z2 := HZ9.b0
    have z3 := HZ9.b1
    clear hW
    exact bodyPost_ret (v := .tuple #[.agg #[.int .i32 x.a, .int .i32 x.b], .agg #[.int .i32 x.c, .int .i32 x.d]]) (by simp [results, Tryz.results121, go_sem, z0, z1, z2, z3]) rfl ⟨by rw [HX.out], KK⟩
theorem sch {px py qx qy mx my nx ny : Int} {x : Tw} (h : sgB px py qx qy mx my nx ny = true) (hx : chs px py qx qy mx my nx ny = x) : SCh px py qx qy mx my nx ny x.a x.b x.c x.d := by
 obtain ⟨h0, h1, h2, h3⟩ := sg_rg h
 obtain ⟨g0, g1, g2, g3⟩ := sg_good h
 subst hx
 exact sch_go (Lib.hid (sc1 (pneF h0))) (Lib.hid (sc2 (pneF h1))) (Lib.hid (sc3 (pneF h2))) (Lib.hid (sc4 (pneF h3))) (Lib.hid g0) (Lib.hid g1) (Lib.hid g2) (Lib.hid g3)
end Go.Proofs.YtaknmlohnifcdaaGreatDoor
