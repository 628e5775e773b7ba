import Derived.Test.YtaknmlohnifcdaaGreatDoorJ18MPointRef
import Derived.Test.YtaknmlohnifcdaaGreatDoorJ03MRootArith
import Derived.Deep.DeepCutAuto
import Derived.Test.YtaknmlohnifcdaaGreatDoorJ20MCorMath
import Derived.Test.YtaknmlohnifcdaaGreatDoorJ02MSeq
import Derived.Deep.QuietTactic
import Derived.BigQuiet
import Derived.Test.YtaknmlohnifcdaaGreatDoorRows
import Derived.Test.YtaknmlohnifcdaaGreatDoorJ00MBits
import Derived.WalkKit
import Derived.ProofKit
import Derived.OpenShut
import Derived.ChangeSame
import Derived.Lib.SmallJoins
import Derived.Deep.Slices
set_option maxHeartbeats 2000000
set_option maxRecDepth 100000
namespace Go.Proofs.YtaknmlohnifcdaaGreatDoor
open Go.RowKit Go.Lib
abbrev PPar (px py qx qy cx cy n d : Int) : Prop := ∀ w, Calls Tryz.prog 187 #[.agg #[.int .i32 px, .int .i32 py], .agg #[.int .i32 qx, .int .i32 qy], .agg #[.int .i32 cx, .int .i32 cy]] w fun e w' => e = .returned (.tuple #[.int .i64 n, .int .i64 d]) ∧ Kep w.heap.size w w'
abbrev PNe (px py qx qy cx cy x y : Int) : Prop := ∀ w, Calls Tryz.prog 152 #[.agg #[.int .i32 px, .int .i32 py], .agg #[.int .i32 qx, .int .i32 qy], .agg #[.int .i32 cx, .int .i32 cy]] w fun e w' => e = .returned (.agg #[.int .i32 x, .int .i32 y]) ∧ Kep w.heap.size w w'
abbrev PDs (px py qx qy cx cy t : Int) : Prop := ∀ w, Calls Tryz.prog 189 #[.agg #[.int .i32 px, .int .i32 py], .agg #[.int .i32 qx, .int .i32 qy], .agg #[.int .i32 cx, .int .i32 cy]] w fun e w' => e = .returned (.int .u64 t) ∧ Kep w.heap.size w w'
abbrev QOf (x y : Bd) (v : Ct) (z : Bool) : Prop := ∀ w, Calls Tryz.prog 76 #[.agg #[.int .u32 x.k, .int .i32 x.r, .int .i32 x.ax, .int .i32 x.ay, .int .i32 x.m, .int .i32 x.o, .int .i32 x.px, .int .i32 x.py, .int .i32 x.vx, .int .i32 x.vy], .agg #[.int .u32 y.k, .int .i32 y.r, .int .i32 y.ax, .int .i32 y.ay, .int .i32 y.m, .int .i32 y.o, .int .i32 y.px, .int .i32 y.py, .int .i32 y.vx, .int .i32 y.vy]] w fun e w' => e = .returned (.tuple #[.agg #[.int .u32 v.lo, .int .u32 v.hi, .int .i32 v.nx, .int .i32 v.ny, .int .i32 v.dp], .bool z]) ∧ Kep w.heap.size w w'
theorem tw_is {x : Tw} {a b c d t : Int} (h : x.a = a ∧ x.b = b ∧ x.c = c ∧ x.d = d ∧ x.t = t) : x = ⟨a, b, c, d, t⟩ := by
 obtain ⟨rfl, rfl, rfl, rfl, rfl⟩ := h
 rfl
theorem con_at {x y : Bd} {z : Tw} {n : Int} (hz : cc x y = z) (hn : IsRoot n z.t) : conV x y = (if decide (z.t < csm x y * csm x y) = true then ⟨x.k, y.k, ux (z.c - z.a) n, uy (z.d - z.b) n, csm x y - n⟩ else ⟨0, 0, 0, 0, 0⟩) ∧ tchB x y = decide (z.t < csm x y * csm x y) ∧ gapC x y = n - csm x y := by
 have e : cln x y = n := by unfold cln; rw [hz]; exact rt_eq hn
 refine ⟨?_, ?_, ?_⟩
 ·unfold conV tchB conC cdx cdy
  rw [e, hz]
 ·unfold tchB
  rw [hz]
 ·unfold gapC
  rw [e]
abbrev SCh (px py qx qy mx my nx ny a b c d : Int) : Prop := ∀ w, Calls Tryz.prog 121 #[.agg #[.int .i32 px, .int .i32 py], .agg #[.int .i32 qx, .int .i32 qy], .agg #[.int .i32 mx, .int .i32 my], .agg #[.int .i32 nx, .int .i32 ny]] w fun e w' => e = .returned (.tuple #[.agg #[.int .i32 a, .int .i32 b], .agg #[.int .i32 c, .int .i32 d]]) ∧ Kep w.heap.size w w'
abbrev KDf (a b c d x y : Int) : Prop := ∀ w, Calls Tryz.prog 120 #[.agg #[.int .i32 a, .int .i32 b], .agg #[.int .i32 c, .int .i32 d]] w fun e w' => e = .returned (.tuple #[.int .i64 x, .int .i64 y]) ∧ Kep w.heap.size w w'
theorem kdf {a b c d x y : Int} (ha : Cin a) (hb : Cin b) (hc : I32 c) (hd : I32 d) (hx : c - a = x) (hy : d - b = y) : KDf a b c d x y := fun w => kep_calls (dff4 (by unfold I32; omega) (by unfold I32; omega) hc hd hx hy w)
theorem lim_mm {t d : Int} (h : 0 ≤ d) : min (max t 0) d = limP t d := by
 unfold limP
 repeat' split
 all_goals omega
theorem cin32 {a : Int} (h : Cin a) : I32 a := by unfold I32; unfold Cin at h; omega
theorem sq_lsq {a b d : Int} (h : sqP a b = d) : lsq a b = d := h
theorem ppar {px py qx qy cx cy dx dy ux uy d n x y t : Int} (P : Pt px py qx qy cx cy dx dy ux uy d n x y t) (H : Rg px py qx qy cx cy) : PPar px py qx qy cx cy n d := fun w => by
 obtain ⟨h1, h2, h3, h4, h5, h6, h7, h8⟩ := H
 have C1 := Lib.hid (kdf h1 h2 (cin32 h3) (cin32 h4) P.hx P.hy)
 have C2 := Lib.hid (kdf h1 h2 (cin32 h5) (cin32 h6) P.hu P.hv)
 rw [P.hx] at h7
 rw [P.hy] at h8
 have C3 := Lib.hid (lsq2 (a := dx) (b := dy) (t := d) (by unfold InD; omega) (by unfold InD; omega) (sq_lsq P.hd))
 have hd0 := sqP_dn h7 h8
 have k1 := mul_dn (u := ux) (by have := P.hu; unfold Cin at *; omega) h7
 have k2 := mul_dn (u := uy) (by have := P.hv; unfold Cin at *; omega) h8
 have hn := P.hn
 unfold paP at hn
 rw [P.hd] at hn hd0
 rw [← lim_mm hd0.1] at hn
 obtain ⟨xx, hxx⟩ : ∃ x, x = ux * dx := ⟨_, rfl⟩
 obtain ⟨yy, hyy⟩ : ∃ x, x = uy * dy := ⟨_, rfl⟩
 rw [← hxx] at k1 hn
 rw [← hyy] at k2 hn
 obtain ⟨s, hs⟩ : ∃ t, t = xx + yy := ⟨_, rfl⟩
 rw [← hs] at hn
 obtain ⟨m, hm⟩ : ∃ t, t = max s 0 := ⟨_, rfl⟩
 rw [← hm] at hn
 have e0 : IntKind.i64.wrap d = d := by rw [IntKind.wrap_i64]; omega
 have f4 : IntKind.i64.wrap (ux * dx) = xx := by rw [← hxx, IntKind.wrap_i64]; omega
 have f5 : IntKind.i64.wrap (uy * dy) = yy := by rw [← hyy, IntKind.wrap_i64]; omega
 have f6 : IntKind.i64.wrap (xx + yy) = s := by rw [← hs, IntKind.wrap_i64]; omega
 have f7 : max s 0 = m := hm.symm
 clear h1 h2 h3 h4 h5 h6 h7 h8 hxx hyy hs hm k1 k2 P hd0
 go_enter Tryz.func187, Tryz.ntmps187
 go_wp2_with (first
  | ((with_reducible refine (C1.out _).mono ?_); rintro e w1 ⟨rfl, g1⟩
     have zQ := zK g1 (b := w.heap.size) (vs := [.int .i32 px, .int .i32 py])
     have p0 := zI zQ 0
     have p1 := zI zQ 1
     clear zQ
     have zQ := zK g1 (b := w.heap.size + 1) (vs := [.int .i32 qx, .int .i32 qy])
     have q0 := zI zQ 0
     have q1 := zI zQ 1
     clear zQ
     have zQ := zK g1 (b := w.heap.size + 1 + 1) (vs := [.int .i32 cx, .int .i32 cy])
     have c0 := zI zQ 0
     have c1 := zI zQ 1
     clear zQ
     have gg := kep_next (kep_more (kep_more (kep_more (Kep.refl _ _) _) _) _) g1
     have zp_w1 : w.heap.size < w1.heap.size := World.block_lt_of_cell? _ _ p0
     have zq_w1 : w.heap.size + 1 < w1.heap.size := World.block_lt_of_cell? _ _ q0
     have zc_w1 : w.heap.size + 1 + 1 < w1.heap.size := World.block_lt_of_cell? _ _ c0)
  | ((with_reducible refine (C2.out _).mono ?_); rintro e w2 ⟨rfl, g2⟩
     replace p0 := g2.all p0
     replace p1 := g2.all p1
     replace c0 := g2.all c0
     replace c1 := g2.all c1
     replace gg := kep_next gg g2
     have zp_w2 : w.heap.size < w2.heap.size := World.block_lt_of_cell? _ _ p0
     have zc_w2 : w.heap.size + 1 + 1 < w2.heap.size := World.block_lt_of_cell? _ _ c0)
  | ((with_reducible refine (C3.out _).mono ?_); rintro e w' ⟨rfl, rfl⟩))
 go_ret2
 exact ⟨rfl, gg⟩
abbrev PAl (px dx n d x : Int) : Prop := ∀ (a b : Addr) w, w.cell? a = some (.int .i64 n) → w.cell? b = some (.int .i64 d) → Calls Tryz.prog 188 #[.int .i32 px, .int .i64 dx, .pointer (some a), .pointer (some b)] w fun e w' => e = .returned (.int .i32 x) ∧ Kep w.heap.size w w'
theorem palp {px dx n d s x qx : Int} (hp : Cin px) (hq : Cin qx) (hx : qx - px = dx) (hd : Din dx) (h0 : 0 ≤ n) (h1 : n ≤ d) (h2 : d ≤ 562949953421312) (hs : stP dx n d = s) (hX : px + s = x) : PAl px dx n d x := fun a b w ca cb => by
 have hm : mdv dx n d = s := by
  by_cases c : d = 0
  ·subst c
   obtain rfl : n = 0 := by omega
   rw [stP_zero] at hs
   rw [← hs]
   rfl
  ·rw [← hs]
   exact (mdv_st (by omega) h0 h1 hd).1
 have hb := st_box h0 h1 hx
 have hi := stP_in (dx := dx) h0 h1
 rw [hs] at hb hi
 obtain ⟨e9, he⟩ : ∃ e, e = mde dx n d := ⟨_, rfl⟩
 have C1 : Hid (∀ w, Calls Tryz.prog 81 #[.int .i64 dx, .int .i64 n, .int .i64 d] w fun e w' => e = .returned (.tuple #[.int .i64 s, .int .i64 e9]) ∧ Kep w.heap.size w w') := Lib.hid (fun w => by rw [← hm, he]; exact kep_calls (muldiv_any dx n d (by unfold I64; omega) (by unfold I64; omega) (by unfold I64; omega) w))
 have f2 : IntKind.i32.wrap s = s := by rw [IntKind.wrap_i32]; omega
 have f4 : IntKind.i32.wrap (px + s) = x := by rw [IntKind.wrap_i32]; omega
 clear hp hq hx hd h0 h1 h2 hs hX hm hb hi he
 go_enter Tryz.func188, Tryz.ntmps188
 go_wp2_with ((with_reducible refine (C1.out _).mono ?_); rintro e w1 ⟨rfl, g1⟩)
 go_ret
 exact ⟨rfl, g1⟩
theorem pne {px py qx qy cx cy dx dy ux uy d n x y t : Int} (P : Pt px py qx qy cx cy dx dy ux uy d n x y t) (H : Rg px py qx qy cx cy) : PNe px py qx qy cx cy x y := fun w => by
 have C1 := Lib.hid (ppar P H)
 have hp := P.par
 obtain ⟨h1, h2, h3, h4, h5, h6, h7, h8⟩ := H
 have C2 := Lib.hid (kdf h1 h2 (cin32 h3) (cin32 h4) P.hx P.hy)
 rw [P.hx] at h7
 rw [P.hy] at h8
 have hd0 := sqP_dn h7 h8
 rw [P.hd] at hd0
 have C3 := Lib.hid (palp h1 h3 P.hx h7 hp.1 hp.2 hd0.2 rfl P.hX)
 have C4 := Lib.hid (palp h2 h4 P.hy h8 hp.1 hp.2 hd0.2 rfl P.hY)
 clear h1 h2 h3 h4 h5 h6 h7 h8 hp P hd0
 have hmf : ∀ (fn : Fn) (first cap : Array Value) (w : World), (Instr.makeFunc fn first cap).run Tryz.prog w = .ok (.func fn first cap) w := fun _ _ _ _ => rfl
 go_enter Tryz.func152, Tryz.ntmps152
 go_wp2_with (first
  | ((with_reducible refine (C1.out _).mono ?_); rintro e w1 ⟨rfl, g1⟩
     have zQ := zK g1 (b := w.heap.size) (vs := [.int .i32 px, .int .i32 py])
     have p0 := zI zQ 0
     have p1 := zI zQ 1
     clear zQ
     have zQ := zK g1 (b := w.heap.size + 1) (vs := [.int .i32 qx, .int .i32 qy])
     have q0 := zI zQ 0
     have q1 := zI zQ 1
     clear zQ
     have zQ := zK g1 (b := w.heap.size + 1 + 1) (vs := [.int .i32 cx, .int .i32 cy])
     have c0 := zI zQ 0
     have c1 := zI zQ 1
     clear zQ
     have gg := kep_next (kep_more (kep_more (kep_more (kep_more (Kep.refl _ _) _) _) _) _) g1
     have sr0 := kep_some g1 (a := ⟨w.heap.size + 1 + 1 + 1, 0, none⟩) (by (repeat (first | rw [World.cell?_drew] | rw [World.cell?_alloc_past _ _ _ (by first | (simp; done) | (simp; omega))])); rw [World.cell?_alloc_at _ _ _ _ (by simp)]; rfl)
     have sr1 := kep_some g1 (a := ⟨w.heap.size + 1 + 1 + 1, 1, none⟩) (by (repeat (first | rw [World.cell?_drew] | rw [World.cell?_alloc_past _ _ _ (by first | (simp; done) | (simp; omega))])); rw [World.cell?_alloc_at _ _ _ _ (by simp)]; rfl)
     have fr0 := kep_froz g1 (a := ⟨w.heap.size + 1 + 1 + 1, 0, none⟩) (by (repeat (first | rw [World.cell?_drew] | rw [World.cell?_alloc_past _ _ _ (by first | (simp; done) | (simp; omega))])); rw [World.cell?_alloc_at _ _ _ _ (by simp)]; rfl) (by (repeat (first | rw [World.frozen?_drew] | rw [World.frozen?_alloc_past _ _ _ (by first | (simp; done) | (simp; omega))])); rw [World.frozen?_alloc_at _ _ _ _ (by simp)])
     have fr1 := kep_froz g1 (a := ⟨w.heap.size + 1 + 1 + 1, 1, none⟩) (by (repeat (first | rw [World.cell?_drew] | rw [World.cell?_alloc_past _ _ _ (by first | (simp; done) | (simp; omega))])); rw [World.cell?_alloc_at _ _ _ _ (by simp)]; rfl) (by (repeat (first | rw [World.frozen?_drew] | rw [World.frozen?_alloc_past _ _ _ (by first | (simp; done) | (simp; omega))])); rw [World.frozen?_alloc_at _ _ _ _ (by simp)])
     have zr_w1 : w.heap.size + 1 + 1 + 1 < w1.heap.size := by have := g1.size; simp at this; omega
     have zp_w1 : w.heap.size < w1.heap.size := World.block_lt_of_cell? _ _ p0
     have zq_w1 : w.heap.size + 1 < w1.heap.size := World.block_lt_of_cell? _ _ q0
     have zc_w1 : w.heap.size + 1 + 1 < w1.heap.size := World.block_lt_of_cell? _ _ c0)
  | ((with_reducible refine (C2.out _).mono ?_); rintro e w2 ⟨rfl, g2⟩
     replace fr0 := kep_froz g2 (kep_some (kep_more (kep_more (Kep.refl _ _) _) _) sr0) (kep_froz (kep_more (kep_more (Kep.refl _ _) _) _) sr0 fr0)
     replace sr0 := kep_some g2 (kep_some (kep_more (kep_more (Kep.refl _ _) _) _) sr0)
     replace fr1 := kep_froz g2 (kep_some (kep_more (kep_more (Kep.refl _ _) _) _) sr1) (kep_froz (kep_more (kep_more (Kep.refl _ _) _) _) sr1 fr1)
     replace sr1 := kep_some g2 (kep_some (kep_more (kep_more (Kep.refl _ _) _) _) sr1)
     have hn0 := Kep.all g2 (a := ⟨w1.heap.size, 0, none⟩) (v := .int .i64 n) (by (repeat (first | rw [World.cell?_drew] | rw [World.cell?_alloc_past _ _ _ (by first | (simp; done) | (simp; omega))])); rw [World.cell?_alloc_at _ _ _ _ (by simp)]; rfl)
     have hd0 := Kep.all g2 (a := ⟨w1.heap.size + 1, 0, none⟩) (v := .int .i64 d) (by (repeat (first | rw [World.cell?_drew] | rw [World.cell?_alloc_past _ _ _ (by first | (simp; done) | (simp; omega))])); rw [World.cell?_alloc_at _ _ _ _ (by simp)]; rfl)
     replace p0 := g2.all (Kep.all (kep_more (kep_more (Kep.refl _ _) _) _) p0)
     replace p1 := g2.all (Kep.all (kep_more (kep_more (Kep.refl _ _) _) _) p1)
     replace gg := kep_next (kep_more (kep_more gg _) _) g2
     have zp_w2 : w.heap.size < w2.heap.size := World.block_lt_of_cell? _ _ p0))
 refine wp_region_noPanic ?_
 refine wp_region_held_drew (S := (fun w' => w'.cell? ⟨w.heap.size, 0, none⟩ = some (.int .i32 px) ∧ w'.cell? ⟨w.heap.size, 1, none⟩ = some (.int .i32 py) ∧ w'.cell? ⟨w1.heap.size, 0, none⟩ = some (.int .i64 n) ∧ w'.cell? ⟨w1.heap.size + 1, 0, none⟩ = some (.int .i64 d) ∧ (w'.cell? ⟨w.heap.size + 1 + 1 + 1, 0, none⟩).isSome = true ∧ (w'.cell? ⟨w.heap.size + 1 + 1 + 1, 1, none⟩).isSome = true ∧ w'.frozen? ⟨w.heap.size + 1 + 1 + 1, 0, none⟩ = false ∧ w'.frozen? ⟨w.heap.size + 1 + 1 + 1, 1, none⟩ = false ∧ Kep w.heap.size w w')) (by kernel_rfl) (⟨by rw [World.cell?_drew]; exact p0, by rw [World.cell?_drew]; exact p1, by rw [World.cell?_drew]; exact hn0, by rw [World.cell?_drew]; exact hd0, by rw [World.cell?_drew]; exact sr0, by rw [World.cell?_drew]; exact sr1, by rw [World.frozen?_drew]; exact fr0, by rw [World.frozen?_drew]; exact fr1, kep_drew gg⟩) (fun hH => ?_)
 refine sT 0 hH ?_
 refine sT 1 hH ?_
 refine sT 2 hH ?_
 refine sN 3 hH ?_
 refine sT 5 hH ?_
 refine sT 6 hH ?_
 refine sT 7 hH ?_
 refine sN 8 hH ?_
 refine sC 4 (fun K hK => ?_)
 go_simp
 (with_reducible refine (C3.out _ _ _ (by go_split_ands; assumption) (by go_split_ands; assumption)).mono ?_); rintro e v4_4 ⟨rfl, g⟩
 refine hK.out _ _ (by (try dsimp only); (go_split_ands; and_intros <;> first | exact g.all (by assumption) | exact kep_next (by assumption) g | exact kep_some g (by assumption) | exact kep_froz g (by assumption) (by assumption))) (fun hH2 => ?_)
 clear hK K hH; have hH := hH2; clear hH2
 try simp only [Act.put, List.setIfInBounds_toArray, List.set_cons_zero, List.set_cons_succ]
 refine sC 9 (fun K hK => ?_)
 go_simp
 (with_reducible refine (C4.out _ _ _ (by go_split_ands; assumption) (by go_split_ands; assumption)).mono ?_); rintro e v4_9 ⟨rfl, g⟩
 refine hK.out _ _ (by (try dsimp only); (go_split_ands; and_intros <;> first | exact g.all (by assumption) | exact kep_next (by assumption) g | exact kep_some g (by assumption) | exact kep_froz g (by assumption) (by assumption))) (fun hH2 => ?_)
 clear hK K hH; have hH := hH2; clear hH2
 refine sN 10 hH ?_
 obtain ⟨p0, p1, hn0, hd0, sr0, sr1, fr0, fr1, gg⟩ := id hH
 refine sC 11 (fun K hK => ?_)
 obtain ⟨qr0, eqr0⟩ := Option.isSome_iff_exists.1 sr0
 obtain ⟨qr1, eqr1⟩ := Option.isSome_iff_exists.1 sr1
 have br0 := eqr0
 have br1 := eqr1
 go_simp
 refine hK.out _ _ (by (try dsimp only); and_intros <;> repeat (first | with_reducible assumption | with_reducible refine sset_far ?_ (by first | (simp; done) | (simp; omega)) | with_reducible refine sset_some _ _ _ ?_ | with_reducible refine sset_froz ?_ | with_reducible refine kep_set ?_ (by first | (simp; done) | (simp; omega)) _)) (fun hH2 => ?_)
 clear hK K hH p0 p1 hn0 hd0 sr0 sr1 fr0 fr1 gg eqr0 eqr1; have hH := hH2; clear hH2
 try simp only [Act.put, List.setIfInBounds_toArray, List.set_cons_zero, List.set_cons_succ]
 refine sE ?_
 clear p0 p1 hn0 hd0 sr0 sr1 fr0 fr1 gg
 obtain ⟨p0, p1, hn0, hd0, sr0, sr1, fr0, fr1, gg⟩ := hH
 go_wp2_with fail
 exact bodyPost_ret (v := .agg #[.int .i32 x, .int .i32 y]) (by simp [results, Tryz.results152, go_sem, br0, br1]) rfl ⟨rfl, gg⟩
theorem pds {px py qx qy cx cy dx dy ux uy d n x y t : Int} (P : Pt px py qx qy cx cy dx dy ux uy d n x y t) (H : Rg px py qx qy cx cy) : PDs px py qx qy cx cy t := fun w => by
 have C1 := Lib.hid (pne P H)
 obtain ⟨i1, i2⟩ := P.ind H
 obtain ⟨b1, b2⟩ := P.box
 obtain ⟨h1, h2, h3, h4, h5, h6, h7, h8⟩ := H
 have C2 := Lib.hid (kdf (x := x - cx) (y := y - cy) h5 h6 (show I32 x by unfold I32; omega) (show I32 y by unfold I32; omega) rfl rfl)
 have C3 := Lib.hid (lsq2 i1 i2 P.ht)
 clear h1 h2 h3 h4 h5 h6 h7 h8 P i1 i2 b1 b2
 obtain ⟨dx1, hdx1⟩ : ∃ k, k = x - cx := ⟨_, rfl⟩
 obtain ⟨dy1, hdy1⟩ : ∃ k, k = y - cy := ⟨_, rfl⟩
 rw [← hdx1, ← hdy1] at C2 C3
 clear hdx1 hdy1
 go_enter Tryz.func189, Tryz.ntmps189
 go_wp2_with fail
 generalize hW : World.alloc (World.alloc (World.alloc w _) _) _ = W1
 have p0 : W1.cell? ⟨w.heap.size, 0, none⟩ = some (.int .i32 px) := by
  rw [← hW]
  (repeat (first | rw [World.cell?_drew] | rw [World.cell?_alloc_past _ _ _ (by first | (simp; done) | (simp; omega))])); rw [World.cell?_alloc_at _ _ _ _ (by simp)]; rfl
 have p1 : W1.cell? ⟨w.heap.size, 1, none⟩ = some (.int .i32 py) := by
  rw [← hW]
  (repeat (first | rw [World.cell?_drew] | rw [World.cell?_alloc_past _ _ _ (by first | (simp; done) | (simp; omega))])); rw [World.cell?_alloc_at _ _ _ _ (by simp)]; rfl
 have q0 : W1.cell? ⟨w.heap.size + 1, 0, none⟩ = some (.int .i32 qx) := by
  rw [← hW]
  (repeat (first | rw [World.cell?_drew] | rw [World.cell?_alloc_past _ _ _ (by first | (simp; done) | (simp; omega))])); rw [World.cell?_alloc_at _ _ _ _ (by simp)]; rfl
 have q1 : W1.cell? ⟨w.heap.size + 1, 1, none⟩ = some (.int .i32 qy) := by
  rw [← hW]
  (repeat (first | rw [World.cell?_drew] | rw [World.cell?_alloc_past _ _ _ (by first | (simp; done) | (simp; omega))])); rw [World.cell?_alloc_at _ _ _ _ (by simp)]; rfl
 have c0 : W1.cell? ⟨w.heap.size + 1 + 1, 0, none⟩ = some (.int .i32 cx) := by
  rw [← hW]
  (repeat (first | rw [World.cell?_drew] | rw [World.cell?_alloc_past _ _ _ (by first | (simp; done) | (simp; omega))])); rw [World.cell?_alloc_at _ _ _ _ (by simp)]; rfl
 have c1 : W1.cell? ⟨w.heap.size + 1 + 1, 1, none⟩ = some (.int .i32 cy) := by
  rw [← hW]
  (repeat (first | rw [World.cell?_drew] | rw [World.cell?_alloc_past _ _ _ (by first | (simp; done) | (simp; omega))])); rw [World.cell?_alloc_at _ _ _ _ (by simp)]; rfl
 have gg : Kep w.heap.size w W1 := by rw [← hW]; exact (kep_more (kep_more (kep_more (Kep.refl _ _) _) _) _)
 clear hW
 refine wp_region_noPanic ?_
 refine wp_region_held_drew (S := (fun w' => w'.cell? ⟨w.heap.size, 0, none⟩ = some (.int .i32 px) ∧ w'.cell? ⟨w.heap.size, 1, none⟩ = some (.int .i32 py) ∧ w'.cell? ⟨w.heap.size + 1, 0, none⟩ = some (.int .i32 qx) ∧ w'.cell? ⟨w.heap.size + 1, 1, none⟩ = some (.int .i32 qy) ∧ w'.cell? ⟨w.heap.size + 1 + 1, 0, none⟩ = some (.int .i32 cx) ∧ w'.cell? ⟨w.heap.size + 1 + 1, 1, none⟩ = some (.int .i32 cy) ∧ Kep w.heap.size w w')) (by kernel_rfl) (⟨by rw [World.cell?_drew]; exact p0, by rw [World.cell?_drew]; exact p1, by rw [World.cell?_drew]; exact q0, by rw [World.cell?_drew]; exact q1, by rw [World.cell?_drew]; exact c0, by rw [World.cell?_drew]; exact c1, kep_drew gg⟩) (fun hH => ?_)
 refine sT 0 hH ?_
 refine sT 1 hH ?_
 refine sT 2 hH ?_
 refine sN 3 hH ?_
 refine sC 4 (fun K hK => ?_)
 go_simp
 (with_reducible refine (C1.out _).mono ?_); rintro e v1_4 ⟨rfl, g⟩
 refine hK.out _ _ (by (try dsimp only); (go_split_ands; and_intros <;> first | exact g.all (by assumption) | exact kep_next (by assumption) g)) (fun hH2 => ?_)
 clear hK K hH; have hH := hH2; clear hH2
 try simp only [Act.put, List.setIfInBounds_toArray, List.set_cons_zero, List.set_cons_succ]
 refine sC 5 (fun K hK => ?_)
 go_simp
 (with_reducible refine (C2.out _).mono ?_); rintro e v1_5 ⟨rfl, g⟩
 refine hK.out _ _ (by (try dsimp only); (go_split_ands; and_intros <;> first | exact g.all (by assumption) | exact kep_next (by assumption) g)) (fun hH2 => ?_)
 clear hK K hH; have hH := hH2; clear hH2
 refine sT 6 hH ?_
 refine sN 7 hH ?_
 refine sC 8 (fun K hK => ?_)
 go_simp
 (with_reducible refine (C3.out _).mono ?_); rintro e v1_8 ⟨rfl, rfl⟩
 refine hK.out _ _ hH (fun hH2 => ?_)
 clear hK K hH; have hH := hH2; clear hH2
 refine sN 9 hH ?_
 refine sE ?_
 clear p0 p1 q0 q1 c0 c1 gg
 obtain ⟨p0, p1, q0, q1, c0, c1, gg⟩ := hH
 go_wp2_with fail
 go_ret
 exact ⟨rfl, gg⟩
end Go.Proofs.YtaknmlohnifcdaaGreatDoor
section
namespace Go.Proofs.YtaknmlohnifcdaaGreatDoor
open Go.ChangeShapes Go.WideShapes Go.ChangeAt Go.RowKit Go.Joins Go.Deep

theorem KepS.same {W W' : World} (h : Kep W.heap.size W W') {p : MemPlace} (hp : p.block < W.heap.size) : W.sameAt W' p := by
 cases p with
 | cell b o => exact World.cell?_of_block (w := W) (h.block b hp)
 | map b => exact h.block b hp
theorem KepS.trod {H : Type} {enc : TypeId × Value → H} {P : Program} {t : TypeId} (hl : laidOutB P = true) (hr : P.readableRec t = true) (hrow : t < P.types.size) {W W' : World} {v : Value} {d : DataW H} {ps : List MemPlace}
 (h : DataW.Trod enc P W 0 (fun _ => true) true t v d ps) (hb : Kep W.heap.size W W') (hlt : ∀ x ∈ ps, x.block < W.heap.size) :
 DataW.Trod enc P W' 0 (fun b => decide (b < W.heap.size)) true t v d ps :=
 WideElems.Trod_stays hl hr hrow h (fun x hx => KepS.same hb (hlt x hx)) (fun x hx => by simpa using hlt x hx)
end Go.Proofs.YtaknmlohnifcdaaGreatDoor
end
