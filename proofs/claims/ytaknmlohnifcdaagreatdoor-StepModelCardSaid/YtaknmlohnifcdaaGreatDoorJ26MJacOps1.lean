import Derived.Test.YtaknmlohnifcdaaGreatDoorJ19MCtsMath
import Derived.Test.YtaknmlohnifcdaaGreatDoorJ02MSeq
import Derived.Test.YtaknmlohnifcdaaGreatDoorMImpOps
import Derived.Test.YtaknmlohnifcdaaGreatDoorJ15MViewOps
import Derived.Test.YtaknmlohnifcdaaGreatDoorJ14MViewMath
import Derived.Deep.DeepCutAuto
import Derived.Deep.QuietTactic
import Derived.BigQuiet
import Derived.StillTailTactics
import Derived.Laws.MakeOwn
import Derived.Laws.OwnMore
set_option maxHeartbeats 4000000
set_option maxRecDepth 100000
namespace Go.Proofs.YtaknmlohnifcdaaGreatDoor
open Go.RowKit Go.Lib
structure JS (wa wb w : World) (gx gy : Nat) (xs ys : List Int) : Prop where
 kep : Kep wa.heap.size wa w
 fr : FrO gx gy wb w
 lx : wa.heap.size ≤ gx
 ly : wa.heap.size ≤ gy
 ne : gx ≠ gy
 zx : ZC w gx (ivs xs)
 zy : ZC w gy (ivs ys)
theorem JS.on {wa wb w w' : World} {gx gy : Nat} {xs ys : List Int} (h : JS wa wb w gx gy xs ys) (g : Kep w.heap.size w w') : JS wa wb w' gx gy xs ys :=
 ⟨h.kep.trans (g.mono h.kep.size), h.fr.kep g, h.lx, h.ly, h.ne, h.zx.kep g, h.zy.kep g⟩
theorem JS.setx {wa wb w : World} {gx gy i : Nat} {xs ys : List Int} {a : Int} (h : JS wa wb w gx gy xs ys) (ha : i < xs.length) : JS wa wb (w.setCell ⟨gx, i, none⟩ (.int .i64 a)) gx gy (xs.set i a) ys :=
 ⟨h.kep.setCell h.lx _, h.fr.set1 _, h.lx, h.ly, h.ne, by rw [ivs_set]; exact h.zx.put _ (by rw [ivs_len]; exact ha), h.zy.far1 (fun e => h.ne e.symm) _⟩
theorem JS.sety {wa wb w : World} {gx gy i : Nat} {xs ys : List Int} {a : Int} (h : JS wa wb w gx gy xs ys) (ha : i < ys.length) : JS wa wb (w.setCell ⟨gy, i, none⟩ (.int .i64 a)) gx gy xs (ys.set i a) :=
 ⟨h.kep.setCell h.ly _, h.fr.set2 _, h.lx, h.ly, h.ne, h.zx.far1 h.ne _, by rw [ivs_set]; exact h.zy.put _ (by rw [ivs_len]; exact ha)⟩
theorem JS.start {wa wb w : World} {gx gy : Nat} {xs ys : List Int} (h : JS wa wb w gx gy xs ys) : JS wa w w gx gy xs ys := ⟨h.kep, .refl _ _ _, h.lx, h.ly, h.ne, h.zx, h.zy⟩
theorem JS.join {wa wb w w' : World} {gx gy : Nat} {xs ys xs' ys' : List Int} (h : JS wa wb w gx gy xs ys) (k : JS wa w w' gx gy xs' ys') : JS wa wb w' gx gy xs' ys' := ⟨k.kep, h.fr.trans k.fr, k.lx, k.ly, k.ne, k.zx, k.zy⟩
theorem jpush {L : List Bd} {xs ys : List Int} {i n : Nat} {x : Bd} {s j nx ny dx dy a b sx sy a' b' : Int} {v : Value} {wa wb w : World} {gx gy cx cy : Nat} (hv : Lst wa v L) (h : JS wa wb w gx gy xs ys) (hx : L[i]? = some x) (ha : xs[i]? = some a) (hb : ys[i]? = some b) (hn : L.length = n)
 (X1 : ICh j x.m nx ny dx dy) (e1 : IntKind.i64.wrap (s * dx) = sx) (e2 : IntKind.i64.wrap (a + sx) = a') (e3 : IntKind.i64.wrap (s * dy) = sy) (e4 : IntKind.i64.wrap (b + sy) = b') :
 Calls Tryz.prog 126 #[.agg #[v, .slice (some ⟨gx, 0, none⟩) n cx, .slice (some ⟨gy, 0, none⟩) n cy], .int .i64 (i : Int), .int .i64 s, .int .i64 j, .agg #[.int .i32 nx, .int .i32 ny]] w fun e w' => e = .returned (.tuple #[]) ∧ JS wa wb w' gx gy (xs.set i a') (ys.set i b') := by
 obtain ⟨base, cap, rfl⟩ := hv.shape
 obtain ⟨gl, off, rfl, qx⟩ := hv.at_ hx
 have m4 : w.cell? ⟨gl, off + i * 10 + 4, none⟩ = some (.int .i32 x.m) := h.kep.all (qx 4 (by decide))
 have hin : i < n := by rw [← hn]; exact (List.getElem?_eq_some_iff.1 hx).1
 have hxl := (List.getElem?_eq_some_iff.1 ha).1
 have hyl := (List.getElem?_eq_some_iff.1 hb).1
 have i0 : (0 : Int) ≤ (i : Int) := Int.natCast_nonneg _
 have i1 : (i : Int) < (n : Int) := by omega
 have C1 := Lib.hid X1
 have HX := Lib.hid (h.zx.i (ivs_at ha))
 have HY := Lib.hid (h.zy.i (ivs_at hb))
 have H := Lib.hid h
 have hgx := h.zx.lt
 have hgy := h.zy.lt
 clear hv qx X1 hx ha hb h
 rw [hn]
 clear hn
 go_enter Tryz.func126, Tryz.ntmps126
 go_upto_region 1 with fail
 generalize hW : World.alloc (World.alloc w _) _ = W1
 have Zt : ZC W1 (w.heap.size) [.slice (some ⟨gl, off, none⟩) n cap, .slice (some ⟨gx, 0, none⟩) n cx, .slice (some ⟨gy, 0, none⟩) n cy] := by rw [← hW]; exact (ZC.more (zc_new' _ _ _ (by first | rfl | simp)) _)
 have Zv : ZC W1 (w.heap.size + 1) [.int .i32 nx, .int .i32 ny] := by rw [← hW]; exact (zc_new' _ _ _ (by first | rfl | simp))
 have gg : Kep w.heap.size w W1 := by rw [← hW]; exact (kep_more (kep_more (Kep.refl _ _) _) _)
 clear hW
 replace m4 := gg.all m4
 have t0 := Zt.i (i := 0) rfl
 have t1 := Zt.i (i := 1) rfl
 have t2 := Zt.i (i := 2) rfl
 have v0 := Zv.i (i := 0) rfl
 have v1 := Zv.i (i := 1) rfl
 clear Zt Zv
 refine wp_region_noPanic ?_
 refine wp_region_held_drew (S := (fun w' => w'.cell? ⟨w.heap.size, 0, none⟩ = some (.slice (some ⟨gl, off, none⟩) n cap) ∧ w'.cell? ⟨w.heap.size, 1, none⟩ = some (.slice (some ⟨gx, 0, none⟩) n cx) ∧ w'.cell? ⟨w.heap.size, 2, none⟩ = some (.slice (some ⟨gy, 0, none⟩) n cy) ∧ w'.cell? ⟨w.heap.size + 1, 0, none⟩ = some (.int .i32 nx) ∧ w'.cell? ⟨w.heap.size + 1, 1, none⟩ = some (.int .i32 ny) ∧ w'.cell? ⟨gl, off + i * 10 + 4, none⟩ = some (.int .i32 x.m) ∧ Kep w.heap.size w w')) (by kernel_rfl) (⟨by rw [World.cell?_drew]; exact t0, by rw [World.cell?_drew]; exact t1, by rw [World.cell?_drew]; exact t2, by rw [World.cell?_drew]; exact v0, by rw [World.cell?_drew]; exact v1, by rw [World.cell?_drew]; exact m4, kep_drew gg⟩) (fun hH => ?_)
 refine sT 0 hH ?_
 refine sT 1 hH ?_
 refine sT 2 hH ?_
 refine sN 3 hH ?_
 refine sT 4 hH ?_
 refine sT 5 hH ?_
 refine sT 6 hH ?_
 refine sN 7 hH ?_
 refine sC 8 (fun K hK => ?_)
 go_simp
 (with_reducible refine (C1.out _).mono ?_); rintro e v1_8 ⟨rfl, g⟩
 refine hK.out _ _ (by (try dsimp only); (go_split_ands; and_intros <;> first | exact g.all (by assumption) | exact kep_next (by assumption) g)) (fun hH2 => ?_)
 clear hK K hH; have hH := hH2; clear hH2
 refine sT 9 hH ?_
 refine sT 10 hH ?_
 refine sN 11 hH ?_
 refine sT 12 hH ?_
 refine sN 13 hH ?_
 refine sE ?_
 clear t0 t1 t2 v0 v1 m4 gg
 obtain ⟨t0, t1, t2, v0, v1, m4, gg⟩ := hH
 have H2 := Lib.hid (H.out.on gg)
 have f0 := gg.all HX.out
 have f1 := (H.out.on gg).zx.frz i
 have hz := (H.out.on gg).zx.lt
 clear m4 t0 v0 v1
 have nz1 : w.heap.size ≠ gx := by omega
 go_upto_region 3 with fail
 generalize hW : World.setCell _ _ _ = W3
 have H3 : Hid (JS wa wb W3 gx gy (xs.set i a') ys) := Lib.hid (by rw [← hW]; exact H2.out.setx hxl)
 replace t2 : W3.cell? ⟨w.heap.size, 2, none⟩ = some (.slice (some ⟨gy, 0, none⟩) n cy) := by rw [← hW]; exact sset_far t2 (fun e => nz1 e.symm)
 have y0 : W3.cell? ⟨gy, i, none⟩ = some (.int .i64 b) := by rw [← hW]; exact sset_far (gg.all HY.out) H.out.ne
 have y1 := H3.out.zy.frz i
 have y2 := H3.out.zy.lt
 clear hW f0 f1 hz t1 gg
 go_wp2_with fail
 go_end0
 exact ⟨rfl, H3.out.sety hyl⟩
theorem sums_next {f : Ct → Int} {L : List Bd} {C : List Ct} {c : Ct} (hA : Asc L) {ja jb : Nat} {a b : Bd} (ha : L[ja]? = some a) (hb : L[jb]? = some b) (ka : a.k = c.lo) (kb : b.k = c.hi) (hne : ja ≠ jb) :
 ((L.map (sumJ f L C)).set ja (sumJ f L C a - chI (stJ L c) a.m (f c))).set jb (sumJ f L C b + chI (stJ L c) b.m (f c)) = L.map (sumJ f L (C ++ [c])) := by
 have key : ∀ (i j : Nat) (x y : Bd), L[i]? = some x → L[j]? = some y → x.k = y.k → i = j := fun i j x y hx hy e => by
  rcases Nat.lt_trichotomy i j with q | q | q
  ·have := asc_lt hA hx hy q; omega
  ·exact q
  ·have := asc_lt hA hy hx q; omega
 have one : ∀ x, sumJ f L (C ++ [c]) x = sumJ f L C x + conJ f L x c := fun x => by
  rw [sumJ_app]
  show _ + (conJ f L x c + 0) = _
  omega
 have la : ja < L.length := (List.getElem?_eq_some_iff.1 ha).1
 have lb : jb < L.length := (List.getElem?_eq_some_iff.1 hb).1
 have hk : c.lo ≠ c.hi := fun e => hne (key ja jb a b ha hb (by omega))
 refine List.ext_getElem? fun i => ?_
 by_cases q : i = jb
 ·subst q
  rw [List.getElem?_set_self (by rw [List.length_set, List.length_map]; exact lb), List.getElem?_map, hb]
  show _ = some (sumJ f L (C ++ [c]) b)
  rw [one]
  unfold conJ
  rw [if_neg (by omega), if_pos kb.symm]
 ·rw [List.getElem?_set_ne (fun e => q e.symm)]
  by_cases p : i = ja
  ·subst p
   rw [List.getElem?_set_self (by rw [List.length_map]; exact la), List.getElem?_map, ha]
   show _ = some (sumJ f L (C ++ [c]) a)
   rw [one]
   unfold conJ
   rw [if_pos ka.symm]
   congr 1
  ·rw [List.getElem?_set_ne (fun e => p e.symm), List.getElem?_map, List.getElem?_map]
   cases hx : L[i]? with
   | none => rfl
   | some x =>
     show some (sumJ f L C x) = some (sumJ f L (C ++ [c]) x)
     rw [one]
     unfold conJ
     rw [if_neg (fun e => p (key i ja x a hx ha (by omega))), if_neg (fun e => q (key i jb x b hx hb (by omega)))]
     congr 1
     omega
theorem jadd {L : List Bd} {C : List Ct} {c : Ct} (hA : Asc L) (hL : L.length ≤ 40) (hok : ∀ x ∈ L, okI x) (hC : ∀ c ∈ C, RgC L c) (hl : C.length ≤ 1000) (hc : RgC L c) {n : Nat} {v : Value} {wa wb w : World} {gx gy cx cy : Nat} (hv : Lst wa v L) (hn : L.length = n) (h : JS wa wb w gx gy (L.map (sumJ (·.nx) L C)) (L.map (sumJ (·.ny) L C))) :
 Calls Tryz.prog 102 #[.agg #[v, .slice (some ⟨gx, 0, none⟩) n cx, .slice (some ⟨gy, 0, none⟩) n cy], .agg #[.int .u32 c.lo, .int .u32 c.hi, .int .i32 c.nx, .int .i32 c.ny, .int .i32 c.dp]] w fun e w' => e = .returned (.tuple #[]) ∧ JS wa wb w' gx gy (L.map (sumJ (·.nx) L (C ++ [c]))) (L.map (sumJ (·.ny) L (C ++ [c]))) := by
 obtain ⟨x, hx⟩ := Option.isSome_iff_exists.1 hc.lo
 obtain ⟨y, hy⟩ := Option.isSome_iff_exists.1 hc.hi
 have mx := look_some hx
 have my := look_some hy
 obtain ⟨ja, pa, ra, la⟩ := at_of_mem hA mx.1
 obtain ⟨jb, pb, rb, lb⟩ := at_of_mem hA my.1
 rw [mx.2] at ra la
 rw [my.2] at rb lb
 have hlt := hc.lt
 have hne : ja ≠ jb := fun e => by
  rw [e, pb] at pa
  injection pa with pa
  rw [pa] at my
  have := mx.2
  have := my.2
  omega
 have hVB : ∀ x ∈ L, Vb x := fun x hx => vb_of (hok x hx)
 have vx := hVB x mx.1
 have vy := hVB y my.1
 have sb := stJ_bd hVB hc
 have hst : stJ L c = stI c.nx c.ny x y := by unfold stJ; rw [bdK_eq hx, bdK_eq hy]
 obtain ⟨base, cap, rfl⟩ := hv.shape
 have FL : Hid (∀ w', Kep w.heap.size w w' → Calls Tryz.prog 61 #[.slice base L.length cap, .int .u32 c.lo] w' fun e w'' => e = .returned (.tuple #[.int .i64 (ja : Int), .bool true]) ∧ Kep w'.heap.size w' w'') := Lib.hid fun w' g => by
  have := vfind_some base cap L c.lo w' ((hv.kep h.kep).kep g) (by omega) hA
  rw [ra, la] at this
  exact this
 have FH : Hid (∀ w', Kep w.heap.size w w' → Calls Tryz.prog 61 #[.slice base L.length cap, .int .u32 c.hi] w' fun e w'' => e = .returned (.tuple #[.int .i64 (jb : Int), .bool true]) ∧ Kep w'.heap.size w' w'') := Lib.hid fun w' g => by
  have := vfind_some base cap L c.hi w' ((hv.kep h.kep).kep g) (by omega) hA
  rw [rb, lb] at this
  exact this
 obtain ⟨j, hj⟩ : ∃ j, j = stJ L c := ⟨_, rfl⟩
 have CS := ist_ok (lo := c.lo) (hi := c.hi) (dp := c.dp) vx vy hc.nx hc.ny
 rw [← hst, ← hj] at CS
 have CS := Lib.hid CS
 have X1 := ich_ok (j := j) (i := x.m) (by rw [hj]; exact sb) ⟨vx.m0, vx.m1⟩ hc.nx hc.ny
 have X2 := ich_ok (j := j) (i := y.m) (by rw [hj]; exact sb) ⟨vy.m0, vy.m1⟩ hc.nx hc.ny
 have bx : ∀ {f : Int}, Nr f → _ := fun {f} q => chI_bd (j := j) (m := x.m) (n := f) (by rw [hj]; exact sb) ⟨vx.m0, vx.m1⟩ q
 have by_ : ∀ {f : Int}, Nr f → _ := fun {f} q => chI_bd (j := j) (m := y.m) (n := f) (by rw [hj]; exact sb) ⟨vy.m0, vy.m1⟩ q
 have b1 := bx hc.nx
 have b2 := bx hc.ny
 have b3 := by_ hc.nx
 have b4 := by_ hc.ny
 have s1 := sumJ_bd (f := (·.nx)) hVB mx.1 hC (fun c h => (hC c h).nx) hl
 have s2 := sumJ_bd (f := (·.ny)) hVB mx.1 hC (fun c h => (hC c h).ny) hl
 have s3 := sumJ_bd (f := (·.nx)) hVB my.1 hC (fun c h => (hC c h).nx) hl
 have s4 := sumJ_bd (f := (·.ny)) hVB my.1 hC (fun c h => (hC c h).ny) hl
 have E1 := sums_next (f := (·.nx)) (C := C) hA pa pb mx.2 my.2 hne
 have E2 := sums_next (f := (·.ny)) (C := C) hA pa pb mx.2 my.2 hne
 rw [← hj] at E1 E2
 have P1 := Lib.hid (fun (w' : World) (h : JS wa w' w' gx gy (L.map (sumJ (·.nx) L C)) (L.map (sumJ (·.ny) L C))) => jpush (s := -1) (cx := cx) (cy := cy) (a' := sumJ (·.nx) L C x - chI j x.m c.nx) (b' := sumJ (·.ny) L C x - chI j x.m c.ny) (sx := -(chI j x.m c.nx)) (sy := -(chI j x.m c.ny)) hv h pa (by rw [List.getElem?_map, pa]; rfl) (by rw [List.getElem?_map, pa]; rfl) hn X1 (by rw [IntKind.wrap_i64]; omega) (by rw [IntKind.wrap_i64]; omega) (by rw [IntKind.wrap_i64]; omega) (by rw [IntKind.wrap_i64]; omega))
 have P2 := Lib.hid (fun (w' : World) (h : JS wa w' w' gx gy ((L.map (sumJ (·.nx) L C)).set ja (sumJ (·.nx) L C x - chI j x.m c.nx)) ((L.map (sumJ (·.ny) L C)).set ja (sumJ (·.ny) L C x - chI j x.m c.ny))) => jpush (s := 1) (cx := cx) (cy := cy) (a' := sumJ (·.nx) L C y + chI j y.m c.nx) (b' := sumJ (·.ny) L C y + chI j y.m c.ny) (sx := chI j y.m c.nx) (sy := chI j y.m c.ny) hv h pb (by rw [List.getElem?_set_ne hne, List.getElem?_map, pb]; rfl) (by rw [List.getElem?_set_ne hne, List.getElem?_map, pb]; rfl) hn X2 (by rw [IntKind.wrap_i64]; omega) (by rw [IntKind.wrap_i64]; omega) (by rw [IntKind.wrap_i64]; omega) (by rw [IntKind.wrap_i64]; omega))
 rw [E1, E2] at P2
 subst hn
 obtain ⟨gl, off, rfl, qx⟩ := hv.at_ pa
 have qy : ∀ q, q < 10 → wa.cell? ⟨gl, off + jb * 10 + q, none⟩ = (vals y)[q]? := by
  obtain ⟨_, _, e, q⟩ := hv.at_ pb
  injection e with e
  injection e with e1 e2
  subst e1 e2
  exact q
 have HQ := Lib.hid (And.intro qx qy)
 have H := Lib.hid h
 have i0 : (0 : Int) ≤ (ja : Int) := Int.natCast_nonneg _
 have i1 : (ja : Int) < (L.length : Int) := by have := (List.getElem?_eq_some_iff.1 pa).1; omega
 have i2 : (0 : Int) ≤ (jb : Int) := Int.natCast_nonneg _
 have i3 : (jb : Int) < (L.length : Int) := by have := (List.getElem?_eq_some_iff.1 pb).1; omega
 have hgx := h.zx.lt
 have hgy := h.zy.lt
 have nx1 : w.heap.size ≠ gx := by omega
 have ny1 : w.heap.size ≠ gy := by omega
 have nx2 : w.heap.size + 1 ≠ gx := by omega
 have ny2 : w.heap.size + 1 ≠ gy := by omega
 clear hv qx qy h hA hok hC hl hc hx hy mx my pa ra la pb rb lb hlt hne hVB vx vy sb hst hj X1 X2 bx by_ b1 b2 b3 b4 s1 s2 s3 s4 E1 E2 hL
 generalize L.map (sumJ (·.nx) L C) = Xs at *
 generalize L.map (sumJ (·.ny) L C) = Ys at *
 generalize L.map (sumJ (·.nx) L (C ++ [c])) = Xt at *
 generalize L.map (sumJ (·.ny) L (C ++ [c])) = Yt at *
 go_enter Tryz.func102, Tryz.ntmps102
 go_upto_region 4 with (first
  | ((with_reducible refine (FL.out _ (kep_more (kep_more (Kep.refl _ _) _) _)).mono ?_); rintro e w1 ⟨rfl, g1⟩
     have Zt : ZC w1 (w.heap.size) [.slice (some ⟨gl, off, none⟩) L.length cap, .slice (some ⟨gx, 0, none⟩) L.length cx, .slice (some ⟨gy, 0, none⟩) L.length cy] := ZC.kep (ZC.more (zc_new' _ _ _ (by first | rfl | simp)) _) g1
     have Zc : ZC w1 (w.heap.size + 1) [.int .u32 c.lo, .int .u32 c.hi, .int .i32 c.nx, .int .i32 c.ny, .int .i32 c.dp] := ZC.kep (zc_new' _ _ _ (by first | rfl | simp)) g1
     have gg := kep_next (kep_more (kep_more (Kep.refl _ _) _) _) g1
     have t0 := Zt.i (i := 0) rfl
     have t1 := Zt.i (i := 1) rfl
     have t2 := Zt.i (i := 2) rfl
     have zt := Zt.lt
     have c0 := Zc.i (i := 0) rfl
     have c1 := Zc.i (i := 1) rfl
     have c2 := Zc.i (i := 2) rfl
     have c3 := Zc.i (i := 3) rfl
     have c4 := Zc.i (i := 4) rfl
     have zc := Zc.lt)
  | ((with_reducible refine (FH.out _ gg).mono ?_); rintro e w2 ⟨rfl, g2⟩
     replace gg := kep_next gg g2
     replace Zt := Zt.kep g2
     replace Zc := Zc.kep g2))
 clear t0 t1 t2 c0 c1 c2 c3 c4
 have t0 := Zt.i (i := 0) rfl
 have t1 := Zt.i (i := 1) rfl
 have t2 := Zt.i (i := 2) rfl
 have c0 := Zc.i (i := 0) rfl
 have c1 := Zc.i (i := 1) rfl
 have c2 := Zc.i (i := 2) rfl
 have c3 := Zc.i (i := 3) rfl
 have c4 := Zc.i (i := 4) rfl
 have x0 : w2.cell? ⟨gl, off + ja * 10, none⟩ = some (.int .u32 x.k) := gg.all (H.out.kep.all (HQ.out.1 0 (by decide)))
 have x1 : w2.cell? ⟨gl, off + ja * 10 + 1, none⟩ = some (.int .i32 x.r) := gg.all (H.out.kep.all (HQ.out.1 1 (by decide)))
 have x2 : w2.cell? ⟨gl, off + ja * 10 + 2, none⟩ = some (.int .i32 x.ax) := gg.all (H.out.kep.all (HQ.out.1 2 (by decide)))
 have x3 : w2.cell? ⟨gl, off + ja * 10 + 3, none⟩ = some (.int .i32 x.ay) := gg.all (H.out.kep.all (HQ.out.1 3 (by decide)))
 have x4 : w2.cell? ⟨gl, off + ja * 10 + 4, none⟩ = some (.int .i32 x.m) := gg.all (H.out.kep.all (HQ.out.1 4 (by decide)))
 have x5 : w2.cell? ⟨gl, off + ja * 10 + 5, none⟩ = some (.int .i32 x.o) := gg.all (H.out.kep.all (HQ.out.1 5 (by decide)))
 have x6 : w2.cell? ⟨gl, off + ja * 10 + 6, none⟩ = some (.int .i32 x.px) := gg.all (H.out.kep.all (HQ.out.1 6 (by decide)))
 have x7 : w2.cell? ⟨gl, off + ja * 10 + 7, none⟩ = some (.int .i32 x.py) := gg.all (H.out.kep.all (HQ.out.1 7 (by decide)))
 have x8 : w2.cell? ⟨gl, off + ja * 10 + 8, none⟩ = some (.int .i32 x.vx) := gg.all (H.out.kep.all (HQ.out.1 8 (by decide)))
 have x9 : w2.cell? ⟨gl, off + ja * 10 + 9, none⟩ = some (.int .i32 x.vy) := gg.all (H.out.kep.all (HQ.out.1 9 (by decide)))
 have y0 : w2.cell? ⟨gl, off + jb * 10, none⟩ = some (.int .u32 y.k) := gg.all (H.out.kep.all (HQ.out.2 0 (by decide)))
 have y1 : w2.cell? ⟨gl, off + jb * 10 + 1, none⟩ = some (.int .i32 y.r) := gg.all (H.out.kep.all (HQ.out.2 1 (by decide)))
 have y2 : w2.cell? ⟨gl, off + jb * 10 + 2, none⟩ = some (.int .i32 y.ax) := gg.all (H.out.kep.all (HQ.out.2 2 (by decide)))
 have y3 : w2.cell? ⟨gl, off + jb * 10 + 3, none⟩ = some (.int .i32 y.ay) := gg.all (H.out.kep.all (HQ.out.2 3 (by decide)))
 have y4 : w2.cell? ⟨gl, off + jb * 10 + 4, none⟩ = some (.int .i32 y.m) := gg.all (H.out.kep.all (HQ.out.2 4 (by decide)))
 have y5 : w2.cell? ⟨gl, off + jb * 10 + 5, none⟩ = some (.int .i32 y.o) := gg.all (H.out.kep.all (HQ.out.2 5 (by decide)))
 have y6 : w2.cell? ⟨gl, off + jb * 10 + 6, none⟩ = some (.int .i32 y.px) := gg.all (H.out.kep.all (HQ.out.2 6 (by decide)))
 have y7 : w2.cell? ⟨gl, off + jb * 10 + 7, none⟩ = some (.int .i32 y.py) := gg.all (H.out.kep.all (HQ.out.2 7 (by decide)))
 have y8 : w2.cell? ⟨gl, off + jb * 10 + 8, none⟩ = some (.int .i32 y.vx) := gg.all (H.out.kep.all (HQ.out.2 8 (by decide)))
 have y9 : w2.cell? ⟨gl, off + jb * 10 + 9, none⟩ = some (.int .i32 y.vy) := gg.all (H.out.kep.all (HQ.out.2 9 (by decide)))
 clear Zt Zc
 refine wp_region_noPanic ?_
 refine wp_region_held_drew (S := (fun w' => w'.cell? ⟨w.heap.size, 0, none⟩ = some (.slice (some ⟨gl, off, none⟩) L.length cap) ∧ w'.cell? ⟨w.heap.size, 1, none⟩ = some (.slice (some ⟨gx, 0, none⟩) L.length cx) ∧ w'.cell? ⟨w.heap.size, 2, none⟩ = some (.slice (some ⟨gy, 0, none⟩) L.length cy) ∧ w'.cell? ⟨w.heap.size + 1, 0, none⟩ = some (.int .u32 c.lo) ∧ w'.cell? ⟨w.heap.size + 1, 1, none⟩ = some (.int .u32 c.hi) ∧ w'.cell? ⟨w.heap.size + 1, 2, none⟩ = some (.int .i32 c.nx) ∧ w'.cell? ⟨w.heap.size + 1, 3, none⟩ = some (.int .i32 c.ny) ∧ w'.cell? ⟨w.heap.size + 1, 4, none⟩ = some (.int .i32 c.dp) ∧ w'.cell? ⟨gl, off + ja * 10, none⟩ = some (.int .u32 x.k) ∧ w'.cell? ⟨gl, off + ja * 10 + 1, none⟩ = some (.int .i32 x.r) ∧ w'.cell? ⟨gl, off + ja * 10 + 2, none⟩ = some (.int .i32 x.ax) ∧ w'.cell? ⟨gl, off + ja * 10 + 3, none⟩ = some (.int .i32 x.ay) ∧ w'.cell? ⟨gl, off + ja * 10 + 4, none⟩ = some (.int .i32 x.m) ∧ w'.cell? ⟨gl, off + ja * 10 + 5, none⟩ = some (.int .i32 x.o) ∧ w'.cell? ⟨gl, off + ja * 10 + 6, none⟩ = some (.int .i32 x.px) ∧ w'.cell? ⟨gl, off + ja * 10 + 7, none⟩ = some (.int .i32 x.py) ∧ w'.cell? ⟨gl, off + ja * 10 + 8, none⟩ = some (.int .i32 x.vx) ∧ w'.cell? ⟨gl, off + ja * 10 + 9, none⟩ = some (.int .i32 x.vy) ∧ w'.cell? ⟨gl, off + jb * 10, none⟩ = some (.int .u32 y.k) ∧ w'.cell? ⟨gl, off + jb * 10 + 1, none⟩ = some (.int .i32 y.r) ∧ w'.cell? ⟨gl, off + jb * 10 + 2, none⟩ = some (.int .i32 y.ax) ∧ w'.cell? ⟨gl, off + jb * 10 + 3, none⟩ = some (.int .i32 y.ay) ∧ w'.cell? ⟨gl, off + jb * 10 + 4, none⟩ = some (.int .i32 y.m) ∧ w'.cell? ⟨gl, off + jb * 10 + 5, none⟩ = some (.int .i32 y.o) ∧ w'.cell? ⟨gl, off + jb * 10 + 6, none⟩ = some (.int .i32 y.px) ∧ w'.cell? ⟨gl, off + jb * 10 + 7, none⟩ = some (.int .i32 y.py) ∧ w'.cell? ⟨gl, off + jb * 10 + 8, none⟩ = some (.int .i32 y.vx) ∧ w'.cell? ⟨gl, off + jb * 10 + 9, none⟩ = some (.int .i32 y.vy) ∧ Kep w.heap.size w w')) (by kernel_rfl) (⟨by rw [World.cell?_drew]; exact t0, by rw [World.cell?_drew]; exact t1, by rw [World.cell?_drew]; exact t2, by rw [World.cell?_drew]; exact c0, by rw [World.cell?_drew]; exact c1, by rw [World.cell?_drew]; exact c2, by rw [World.cell?_drew]; exact c3, by rw [World.cell?_drew]; exact c4, by rw [World.cell?_drew]; exact x0, by rw [World.cell?_drew]; exact x1, by rw [World.cell?_drew]; exact x2, by rw [World.cell?_drew]; exact x3, by rw [World.cell?_drew]; exact x4, by rw [World.cell?_drew]; exact x5, by rw [World.cell?_drew]; exact x6, by rw [World.cell?_drew]; exact x7, by rw [World.cell?_drew]; exact x8, by rw [World.cell?_drew]; exact x9, by rw [World.cell?_drew]; exact y0, by rw [World.cell?_drew]; exact y1, by rw [World.cell?_drew]; exact y2, by rw [World.cell?_drew]; exact y3, by rw [World.cell?_drew]; exact y4, by rw [World.cell?_drew]; exact y5, by rw [World.cell?_drew]; exact y6, by rw [World.cell?_drew]; exact y7, by rw [World.cell?_drew]; exact y8, by rw [World.cell?_drew]; exact y9, kep_drew gg⟩) (fun hH => ?_)
 refine sT 0 hH ?_
 refine sT 1 hH ?_
 refine sT 2 hH ?_
 refine sN 3 hH ?_
 refine sT 4 hH ?_
 refine sT 5 hH ?_
 refine sT 6 hH ?_
 refine sN 7 hH ?_
 refine sT 8 hH ?_
 refine sT 9 hH ?_
 refine sN 10 hH ?_
 refine sC 11 (fun K hK => ?_)
 go_simp
 (with_reducible refine (CS.out _).mono ?_); rintro e v4_11 ⟨rfl, g⟩
 refine hK.out _ _ (by (try dsimp only); (go_split_ands; and_intros <;> first | exact g.all (by assumption) | exact kep_next (by assumption) g)) (fun hH2 => ?_)
 clear hK K hH; have hH := hH2; clear hH2
 refine sN 12 hH ?_
 refine sE ?_
 clear t0 t1 t2 c0 c1 c2 c3 c4 x0 x1 x2 x3 x4 x5 x6 x7 x8 x9 y0 y1 y2 y3 y4 y5 y6 y7 y8 y9 gg
 obtain ⟨t0, t1, t2, c0, c1, c2, c3, c4, x0, x1, x2, x3, x4, x5, x6, x7, x8, x9, y0, y1, y2, y3, y4, y5, y6, y7, y8, y9, gg⟩ := hH
 have HJ1 := Lib.hid (H.out.on gg).start
 clear c0 c1 c4 x0 x1 x2 x3 x4 x5 x6 x7 x8 x9 y0 y1 y2 y3 y4 y5 y6 y7 y8 y9
 go_wp2_with (first
  | ((with_reducible refine (P1.out _ HJ1.out).mono ?_); rintro e w6 ⟨rfl, h6⟩; replace t0 := h6.fr.cell nx1 ny1 t0; replace t1 := h6.fr.cell nx1 ny1 t1; replace t2 := h6.fr.cell nx1 ny1 t2; replace c2 := h6.fr.cell nx2 ny2 c2; replace c3 := h6.fr.cell nx2 ny2 c3; have HJ2 := Lib.hid h6.start; have H6 := Lib.hid h6; clear h6)
  | ((with_reducible refine (P2.out _ HJ2.out).mono ?_); rintro e w7 ⟨rfl, h7⟩; have H7 := Lib.hid h7; clear h7))
 go_end0
 exact ⟨rfl, ((H.out.on gg).join H6.out).join H7.out⟩
theorem jeach {L : List Bd} {C : List Ct} (A : JArg L C) {n : Nat} {v l : Value} {wa wb w : World} {gx gy cx cy : Nat} (hv : Lst wa v L) (hl : Sq ctv 5 wa l C) (hn : L.length = n) (h : JS wa wb w gx gy (L.map (sumJ (·.nx) L [])) (L.map (sumJ (·.ny) L []))) :
 Calls Tryz.prog 101 #[l, .func (.func 102) #[.agg #[v, .slice (some ⟨gx, 0, none⟩) n cx, .slice (some ⟨gy, 0, none⟩) n cy]] #[]] w fun e w' => e = .returned (.tuple #[]) ∧ JS wa wb w' gx gy (L.map (sumJ (·.nx) L C)) (L.map (sumJ (·.ny) L C)) := by
 obtain ⟨bc, cc, rfl, hc⟩ := hl
 have HC := Lib.hid hc
 have HA := Lib.hid A
 have HAD := Lib.hid (fun (D : List Ct) (c : Ct) (w' : World) (h1 : ∀ c ∈ D, RgC L c) (h2 : D.length ≤ 1000) (h3 : RgC L c) (k : JS wa wb w' gx gy (L.map (sumJ (·.nx) L D)) (L.map (sumJ (·.ny) L D))) => jadd (cx := cx) (cy := cy) A.vw.asc A.vw.len A.vw.ok h1 h2 h3 hv hn k)
 have H0 := Lib.hid h
 have hfew := A.few
 clear hc A hv hn h
 generalize hnc : C.length = nc at *
 have HN := Lib.hid hnc
 clear hnc
 go_enter Tryz.func101, Tryz.ntmps101
 go_wp2_with fail
 go_loopw [8] (fun i wr => ∃ k : Nat, k ≤ nc ∧ i = .int .i64 k ∧ Hid (JS wa wb wr gx gy (L.map (sumJ (·.nx) L (C.take k))) (L.map (sumJ (·.ny) L (C.take k))))) (fun i _ => nc - (RowKit.intOf i).toNat)
 case atStart => exact ⟨0, by omega, rfl, Lib.hid (by rw [List.take_zero]; exact H0.out)⟩
 case round =>
  obtain ⟨k, hk, rfl, HP⟩ := hrel
  by_cases hlt : k < nc
  ·have hb : C[k]? = some (C[k]'(by rw [HN.out]; exact hlt)) := List.getElem?_eq_getElem _
   generalize C[k]'(by rw [HN.out]; exact hlt) = c at hb
   obtain ⟨gc, oc, rfl, q⟩ := HC.out k c hb
   have t0 : wr.cell? ⟨gc, oc + k * 5, none⟩ = some (.int .u32 c.lo) := HP.out.kep.all (q 0 _ rfl)
   have t1 : wr.cell? ⟨gc, oc + k * 5 + 1, none⟩ = some (.int .u32 c.hi) := HP.out.kep.all (q 1 _ rfl)
   have t2 : wr.cell? ⟨gc, oc + k * 5 + 2, none⟩ = some (.int .i32 c.nx) := HP.out.kep.all (q 2 _ rfl)
   have t3 : wr.cell? ⟨gc, oc + k * 5 + 3, none⟩ = some (.int .i32 c.ny) := HP.out.kep.all (q 3 _ rfl)
   have t4 : wr.cell? ⟨gc, oc + k * 5 + 4, none⟩ = some (.int .i32 c.dp) := HP.out.kep.all (q 4 _ rfl)
   have ht : C.take (k + 1) = C.take k ++ [c] := by rw [List.take_add_one, hb]; rfl
   have CA : Hid (Calls Tryz.prog 102 #[.agg #[v, .slice (some ⟨gx, 0, none⟩) n cx, .slice (some ⟨gy, 0, none⟩) n cy], .agg #[.int .u32 c.lo, .int .u32 c.hi, .int .i32 c.nx, .int .i32 c.ny, .int .i32 c.dp]] (wr.alloc (.cells #[.int .u32 c.lo, .int .u32 c.hi, .int .i32 c.nx, .int .i32 c.ny, .int .i32 c.dp] 77)) fun e w' => e = .returned (.tuple #[]) ∧ Hid (JS wa wb w' gx gy (L.map (sumJ (·.nx) L (C.take (k + 1)))) (L.map (sumJ (·.ny) L (C.take (k + 1)))))) := Lib.hid (by
    refine (HAD.out (C.take k) c _ (fun c hc => HA.out.rg c (List.mem_of_mem_take hc)) (by rw [List.length_take]; omega) (HA.out.rg c (List.mem_of_getElem? hb)) (HP.out.on (kep_more (Kep.refl _ _) _))).mono ?_
    rintro e w' ⟨he, h'⟩
    exact ⟨he, Lib.hid (by rw [ht]; exact h')⟩)
   have i0 : (0 : Int) ≤ (k : Int) := Int.natCast_nonneg _
   have i1 : (k : Int) < (nc : Int) := by omega
   clear hb q ht HP
   go_wp2_with ((with_reducible refine (CA.out).mono ?_); rintro e w4 ⟨rfl, F4⟩)
   go_roundw
   case rel => exact ⟨k + 1, by omega, by first | rfl | go_num, F4⟩
   case measure => simp [RowKit.intOf]; omega
  ·have i2 : ¬ (k : Int) < (nc : Int) := by omega
   obtain rfl : k = nc := by omega
   go_wp2_with fail
   go_end0
   have h9 := HP.out
   rw [List.take_of_length_le (Nat.le_of_eq HN.out)] at h9
   exact ⟨rfl, h9⟩
theorem mk_i64 (n : Nat) (h : n ≤ 1000) (W : World) : (Instr.makeSlice 127 (.int .i64 (n : Int)) (.int .i64 (n : Int))).run Tryz.prog W = .ok (.slice (some ⟨W.heap.size, 0, none⟩) n n) (W.alloc (.cells (madeCells #[.int .i64 0] n) 2)) := by
 obtain ⟨i0, hi, hz0, hz1, hz2⟩ := info_parts info_i64
 have r := run_make (P := Tryz.prog) W 127 2 i0 _ Tryz.underlying127 hi hz0 .i64 .i64 (n : Int) (n : Int) (by omega) (Int.le_refl _) (by rw [hz2]; omega) (by omega)
 rw [hz1, Int.toNat_natCast, Nat.mul_one] at r
 exact r
theorem zc_row (W : World) (n : Nat) (t : TypeId) : ZC (W.alloc (.cells (madeCells #[.int .i64 0] n) t)) W.heap.size (ivs (List.replicate n 0)) := by
 have e : madeCells #[.int .i64 0] n = ⟨ivs (List.replicate n 0)⟩ := by
  have := toList_madeCells_one (.int .i64 0) n
  unfold ivs
  rw [List.map_replicate, ← this]
 rw [e]
 exact zc_new _ _ _
theorem sums_start {w Y : World} {tb gx gy : Nat} {vs : List Value} {xs ys : List Int} (k : Kep w.heap.size w Y) (h1 : w.heap.size ≤ tb) (h2 : w.heap.size ≤ gx) (h3 : w.heap.size ≤ gy) (ht : ZC Y tb vs) (hx : ZC Y gx (ivs xs)) (hy : ZC Y gy (ivs ys)) (n1 : tb ≠ gx) (n2 : tb ≠ gy) (n3 : gx ≠ gy) (a b c : Value) (hl : 3 ≤ vs.length := by decide) :
 ZC (((Y.setCell ⟨tb, 0, none⟩ a).setCell ⟨tb, 1, none⟩ b).setCell ⟨tb, 2, none⟩ c) tb [a, b, c] ∧ JS w (((Y.setCell ⟨tb, 0, none⟩ a).setCell ⟨tb, 1, none⟩ b).setCell ⟨tb, 2, none⟩ c) (((Y.setCell ⟨tb, 0, none⟩ a).setCell ⟨tb, 1, none⟩ b).setCell ⟨tb, 2, none⟩ c) gx gy xs ys ∧ tb ≠ gx ∧ tb ≠ gy := by
 have z := ht.set [a, b, c] (by simpa using hl)
 simp only [setAll, Nat.zero_add, Nat.reduceAdd] at z
 exact ⟨z, ⟨((k.setCell h1 _).setCell h1 _).setCell h1 _, .refl _ _ _, h2, h3, n3, ((hx.far1 n1.symm _).far1 n1.symm _).far1 n1.symm _, ((hy.far1 n2.symm _).far1 n2.symm _).far1 n2.symm _⟩, n1, n2⟩
theorem sums_nil (f : Ct → Int) (L : List Bd) : L.map (sumJ f L []) = List.replicate L.length 0 := by
 rw [show sumJ f L [] = fun _ => 0 from rfl, List.map_const']
theorem sq_row {w : World} {g cap n : Nat} {xs : List Int} (h : ZC w g (ivs xs)) (hn : xs.length = n) : Sq nv 1 w (.slice (some ⟨g, 0, none⟩) n cap) xs := by
 subst hn
 refine ⟨_, cap, rfl, fun k x hx => ⟨g, 0, rfl, fun i u hu => ?_⟩⟩
 have hi : i = 0 := by
  have := (List.getElem?_eq_some_iff.1 hu).1
  rw [nv_len] at this
  omega
 subst hi
 have e : u = .int .i64 x := by simpa [nv] using hu.symm
 rw [e, Nat.zero_add, Nat.mul_one, Nat.add_zero]
 exact h.i (ivs_at hx)
theorem jsums : JSums := fun v L l C w hv hl A => by
 obtain ⟨base, cap, rfl⟩ := hv.shape
 have h40 := A.vw.len
 have HE := Lib.hid (fun (gx gy : Nat) (wb : World) (h : JS w wb wb gx gy (L.map (sumJ (·.nx) L [])) (L.map (sumJ (·.ny) L []))) => jeach (cx := L.length) (cy := L.length) A hv hl rfl h)
 rw [sums_nil, sums_nil] at HE
 have HXL := Lib.hid (show (L.map (sumJ (·.nx) L C)).length = L.length from List.length_map ..)
 have HYL := Lib.hid (show (L.map (sumJ (·.ny) L C)).length = L.length from List.length_map ..)
 generalize L.map (sumJ (·.nx) L C) = Xs at *
 generalize L.map (sumJ (·.ny) L C) = Ys at *
 clear hv hl A
 generalize L.length = n at *
 have hmk := mk_i64 n (by omega)
 have hmf : ∀ (fn : Fn) (first cap : Array Value) (w : World), (Instr.makeFunc fn first cap).run Tryz.prog w = .ok (.func fn first cap) w := fun _ _ _ _ => rfl
 go_enter Tryz.func78, Tryz.ntmps78
 go_upto_region 1 with fail
 go_cut [6] (fun s6 wx => ∃ tb gx gy, s6 = .pointer (some ⟨tb, 0, none⟩) ∧ Hid (ZC wx tb [.slice base n cap, .slice (some ⟨gx, 0, none⟩) n n, .slice (some ⟨gy, 0, none⟩) n n] ∧ JS w wx wx gx gy (List.replicate n 0) (List.replicate n 0) ∧ tb ≠ gx ∧ tb ≠ gy))
 case first =>
  refine wp_region_noPanic ?_
  refine wp_region_held_drew (S := fun w' => Kep w.heap.size w w') (by kernel_rfl) (kep_drew (Kep.refl _ _)) (fun hH => ?_)
  generalize w.drew = Y0 at hH ⊢
  refine sT 0 hH ?_
  refine sT 1 hH ?_
  refine sN 2 hH ?_
  refine sT 4 hH ?_
  refine sN 5 hH ?_
  refine wpAnyH_ready (rs := [3, 6, 8]) (by kernel_rfl) (by simp) ?_
  refine AllReadyH.cons (o := ⟨some 10, .makeSlice 127 (.tmp 9) (.tmp 9), _, _, _, none⟩) rfl (fun K hK => ?_) (AllReadyH.cons (o := ⟨some 13, .makeSlice 127 (.tmp 12) (.tmp 12), _, _, _, none⟩) rfl (fun K hK => ?_) (AllReadyH.cons (o := ⟨some 6, .alloc 159, _, _, _, none⟩) rfl (fun K hK => ?_) AllReadyH.nil))
  ·go_simp
   have hgx := zc_row Y0 n 2
   have lgx := hH.size
   have hk := kep_more hH (.cells (madeCells #[.int .i64 0] n) 2)
   refine hK.out _ _ hk (fun hH2 => ?_)
   clear hK K hH hH2; have hH := hk; clear hk
   generalize Y0.heap.size = gx at *
   generalize Y0.alloc _ = Y1 at *
   try simp only [Act.put, List.setIfInBounds_toArray, List.set_cons_zero, List.set_cons_succ]
   refine wpAnyH_ready (rs := [6, 8]) (by kernel_rfl) (by simp) ?_
   refine AllReadyH.cons (o := ⟨some 13, .makeSlice 127 (.tmp 12) (.tmp 12), _, _, _, none⟩) rfl (fun K hK => ?_) (AllReadyH.cons (o := ⟨some 6, .alloc 159, _, _, _, none⟩) rfl (fun K hK => ?_) AllReadyH.nil)
   ·go_simp
    have hgy := zc_row Y1 n 2
    have lgy := hH.size
    have ngxgy : gx ≠ Y1.heap.size := by have := hgx.lt; omega
    replace hgx := hgx.more (.cells (madeCells #[.int .i64 0] n) 2)
    have hk := kep_more hH (.cells (madeCells #[.int .i64 0] n) 2)
    refine hK.out _ _ hk (fun hH2 => ?_)
    clear hK K hH hH2; have hH := hk; clear hk
    generalize Y1.heap.size = gy at *
    generalize Y1.alloc _ = Y2 at *
    refine sN 7 hH ?_
    refine sC 8 (fun K hK => ?_)
    go_simp
    have htb := zc_new Y2 [.slice none 0 0, .slice none 0 0, .slice none 0 0] 159
    have ltb := hH.size
    have ngxtb : gx ≠ Y2.heap.size := by have := hgx.lt; omega
    replace hgx := hgx.more (.cells #[.slice none 0 0, .slice none 0 0, .slice none 0 0] 159)
    have ngytb : gy ≠ Y2.heap.size := by have := hgy.lt; omega
    replace hgy := hgy.more (.cells #[.slice none 0 0, .slice none 0 0, .slice none 0 0] 159)
    have hk := kep_more hH (.cells #[.slice none 0 0, .slice none 0 0, .slice none 0 0] 159)
    refine hK.out _ _ hk (fun hH2 => ?_)
    clear hK K hH hH2; have hH := hk; clear hk
    generalize Y2.heap.size = tb at *
    generalize Y2.alloc _ = Y3 at *
    try simp only [Act.put, List.setIfInBounds_toArray, List.set_cons_zero, List.set_cons_succ]
    refine sC 9 (fun K hK => ?_)
    have z0 := htb.i (i := 0) rfl; have z1 := htb.i (i := 1) rfl; have z2 := htb.i (i := 2) rfl; have x0 := htb.frz 0; have x1 := htb.frz 1; have x2 := htb.frz 2
    have HT := Lib.hid (sums_start hH ltb lgx lgy htb hgx hgy ngxtb.symm ngytb.symm ngxgy (.slice base n cap) (.slice (some ⟨gx, 0, none⟩) n n) (.slice (some ⟨gy, 0, none⟩) n n))
    clear hgx hgy
    go_simp
    refine hK.out _ _ (by exact HT.out.2.1.kep) (fun hH2 => ?_)
    clear hK K hH hH2 z0 z1 z2 x0 x1 x2 htb
    try simp only [Act.put, List.setIfInBounds_toArray, List.set_cons_zero, List.set_cons_succ]
    refine sE ?_
    go_wp2_with fail
    go_meet
    exact ⟨_, _, _, rfl, HT⟩
   ·go_simp
    have htb := zc_new Y1 [.slice none 0 0, .slice none 0 0, .slice none 0 0] 159
    have ltb := hH.size
    have ngxtb : gx ≠ Y1.heap.size := by have := hgx.lt; omega
    replace hgx := hgx.more (.cells #[.slice none 0 0, .slice none 0 0, .slice none 0 0] 159)
    have hk := kep_more hH (.cells #[.slice none 0 0, .slice none 0 0, .slice none 0 0] 159)
    refine hK.out _ _ hk (fun hH2 => ?_)
    clear hK K hH hH2; have hH := hk; clear hk
    generalize Y1.heap.size = tb at *
    generalize Y1.alloc _ = Y2 at *
    try simp only [Act.put, List.setIfInBounds_toArray, List.set_cons_zero, List.set_cons_succ]
    refine sC 6 (fun K hK => ?_)
    go_simp
    have hgy := zc_row Y2 n 2
    have lgy := hH.size
    have ngxgy : gx ≠ Y2.heap.size := by have := hgx.lt; omega
    replace hgx := hgx.more (.cells (madeCells #[.int .i64 0] n) 2)
    have ntbgy : tb ≠ Y2.heap.size := by have := htb.lt; omega
    replace htb := htb.more (.cells (madeCells #[.int .i64 0] n) 2)
    have hk := kep_more hH (.cells (madeCells #[.int .i64 0] n) 2)
    refine hK.out _ _ hk (fun hH2 => ?_)
    clear hK K hH hH2; have hH := hk; clear hk
    generalize Y2.heap.size = gy at *
    generalize Y2.alloc _ = Y3 at *
    refine sN 7 hH ?_
    refine sC 9 (fun K hK => ?_)
    have z0 := htb.i (i := 0) rfl; have z1 := htb.i (i := 1) rfl; have z2 := htb.i (i := 2) rfl; have x0 := htb.frz 0; have x1 := htb.frz 1; have x2 := htb.frz 2
    have HT := Lib.hid (sums_start hH ltb lgx lgy htb hgx hgy ngxtb.symm ntbgy ngxgy (.slice base n cap) (.slice (some ⟨gx, 0, none⟩) n n) (.slice (some ⟨gy, 0, none⟩) n n))
    clear hgx hgy
    go_simp
    refine hK.out _ _ (by exact HT.out.2.1.kep) (fun hH2 => ?_)
    clear hK K hH hH2 z0 z1 z2 x0 x1 x2 htb
    try simp only [Act.put, List.setIfInBounds_toArray, List.set_cons_zero, List.set_cons_succ]
    refine sE ?_
    go_wp2_with fail
    go_meet
    exact ⟨_, _, _, rfl, HT⟩
  ·go_simp
   have hgy := zc_row Y0 n 2
   have lgy := hH.size
   have hk := kep_more hH (.cells (madeCells #[.int .i64 0] n) 2)
   refine hK.out _ _ hk (fun hH2 => ?_)
   clear hK K hH hH2; have hH := hk; clear hk
   generalize Y0.heap.size = gy at *
   generalize Y0.alloc _ = Y1 at *
   try simp only [Act.put, List.setIfInBounds_toArray, List.set_cons_zero, List.set_cons_succ]
   refine wpAnyH_ready (rs := [3, 8]) (by kernel_rfl) (by simp) ?_
   refine AllReadyH.cons (o := ⟨some 10, .makeSlice 127 (.tmp 9) (.tmp 9), _, _, _, none⟩) rfl (fun K hK => ?_) (AllReadyH.cons (o := ⟨some 6, .alloc 159, _, _, _, none⟩) rfl (fun K hK => ?_) AllReadyH.nil)
   ·go_simp
    have hgx := zc_row Y1 n 2
    have lgx := hH.size
    have ngygx : gy ≠ Y1.heap.size := by have := hgy.lt; omega
    replace hgy := hgy.more (.cells (madeCells #[.int .i64 0] n) 2)
    have hk := kep_more hH (.cells (madeCells #[.int .i64 0] n) 2)
    refine hK.out _ _ hk (fun hH2 => ?_)
    clear hK K hH hH2; have hH := hk; clear hk
    generalize Y1.heap.size = gx at *
    generalize Y1.alloc _ = Y2 at *
    refine sN 7 hH ?_
    refine sC 8 (fun K hK => ?_)
    go_simp
    have htb := zc_new Y2 [.slice none 0 0, .slice none 0 0, .slice none 0 0] 159
    have ltb := hH.size
    have ngytb : gy ≠ Y2.heap.size := by have := hgy.lt; omega
    replace hgy := hgy.more (.cells #[.slice none 0 0, .slice none 0 0, .slice none 0 0] 159)
    have ngxtb : gx ≠ Y2.heap.size := by have := hgx.lt; omega
    replace hgx := hgx.more (.cells #[.slice none 0 0, .slice none 0 0, .slice none 0 0] 159)
    have hk := kep_more hH (.cells #[.slice none 0 0, .slice none 0 0, .slice none 0 0] 159)
    refine hK.out _ _ hk (fun hH2 => ?_)
    clear hK K hH hH2; have hH := hk; clear hk
    generalize Y2.heap.size = tb at *
    generalize Y2.alloc _ = Y3 at *
    try simp only [Act.put, List.setIfInBounds_toArray, List.set_cons_zero, List.set_cons_succ]
    refine sC 9 (fun K hK => ?_)
    have z0 := htb.i (i := 0) rfl; have z1 := htb.i (i := 1) rfl; have z2 := htb.i (i := 2) rfl; have x0 := htb.frz 0; have x1 := htb.frz 1; have x2 := htb.frz 2
    have HT := Lib.hid (sums_start hH ltb lgx lgy htb hgx hgy ngxtb.symm ngytb.symm ngygx.symm (.slice base n cap) (.slice (some ⟨gx, 0, none⟩) n n) (.slice (some ⟨gy, 0, none⟩) n n))
    clear hgx hgy
    go_simp
    refine hK.out _ _ (by exact HT.out.2.1.kep) (fun hH2 => ?_)
    clear hK K hH hH2 z0 z1 z2 x0 x1 x2 htb
    try simp only [Act.put, List.setIfInBounds_toArray, List.set_cons_zero, List.set_cons_succ]
    refine sE ?_
    go_wp2_with fail
    go_meet
    exact ⟨_, _, _, rfl, HT⟩
   ·go_simp
    have htb := zc_new Y1 [.slice none 0 0, .slice none 0 0, .slice none 0 0] 159
    have ltb := hH.size
    have ngytb : gy ≠ Y1.heap.size := by have := hgy.lt; omega
    replace hgy := hgy.more (.cells #[.slice none 0 0, .slice none 0 0, .slice none 0 0] 159)
    have hk := kep_more hH (.cells #[.slice none 0 0, .slice none 0 0, .slice none 0 0] 159)
    refine hK.out _ _ hk (fun hH2 => ?_)
    clear hK K hH hH2; have hH := hk; clear hk
    generalize Y1.heap.size = tb at *
    generalize Y1.alloc _ = Y2 at *
    try simp only [Act.put, List.setIfInBounds_toArray, List.set_cons_zero, List.set_cons_succ]
    refine sC 3 (fun K hK => ?_)
    go_simp
    have hgx := zc_row Y2 n 2
    have lgx := hH.size
    have ngygx : gy ≠ Y2.heap.size := by have := hgy.lt; omega
    replace hgy := hgy.more (.cells (madeCells #[.int .i64 0] n) 2)
    have ntbgx : tb ≠ Y2.heap.size := by have := htb.lt; omega
    replace htb := htb.more (.cells (madeCells #[.int .i64 0] n) 2)
    have hk := kep_more hH (.cells (madeCells #[.int .i64 0] n) 2)
    refine hK.out _ _ hk (fun hH2 => ?_)
    clear hK K hH hH2; have hH := hk; clear hk
    generalize Y2.heap.size = gx at *
    generalize Y2.alloc _ = Y3 at *
    refine sN 7 hH ?_
    refine sC 9 (fun K hK => ?_)
    have z0 := htb.i (i := 0) rfl; have z1 := htb.i (i := 1) rfl; have z2 := htb.i (i := 2) rfl; have x0 := htb.frz 0; have x1 := htb.frz 1; have x2 := htb.frz 2
    have HT := Lib.hid (sums_start hH ltb lgx lgy htb hgx hgy ntbgx ngytb.symm ngygx.symm (.slice base n cap) (.slice (some ⟨gx, 0, none⟩) n n) (.slice (some ⟨gy, 0, none⟩) n n))
    clear hgx hgy
    go_simp
    refine hK.out _ _ (by exact HT.out.2.1.kep) (fun hH2 => ?_)
    clear hK K hH hH2 z0 z1 z2 x0 x1 x2 htb
    try simp only [Act.put, List.setIfInBounds_toArray, List.set_cons_zero, List.set_cons_succ]
    refine sE ?_
    go_wp2_with fail
    go_meet
    exact ⟨_, _, _, rfl, HT⟩
  ·go_simp
   have htb := zc_new Y0 [.slice none 0 0, .slice none 0 0, .slice none 0 0] 159
   have ltb := hH.size
   have hk := kep_more hH (.cells #[.slice none 0 0, .slice none 0 0, .slice none 0 0] 159)
   refine hK.out _ _ hk (fun hH2 => ?_)
   clear hK K hH hH2; have hH := hk; clear hk
   generalize Y0.heap.size = tb at *
   generalize Y0.alloc _ = Y1 at *
   try simp only [Act.put, List.setIfInBounds_toArray, List.set_cons_zero, List.set_cons_succ]
   refine wpAnyH_ready (rs := [3, 6]) (by kernel_rfl) (by simp) ?_
   refine AllReadyH.cons (o := ⟨some 10, .makeSlice 127 (.tmp 9) (.tmp 9), _, _, _, none⟩) rfl (fun K hK => ?_) (AllReadyH.cons (o := ⟨some 13, .makeSlice 127 (.tmp 12) (.tmp 12), _, _, _, none⟩) rfl (fun K hK => ?_) AllReadyH.nil)
   ·go_simp
    have hgx := zc_row Y1 n 2
    have lgx := hH.size
    have ntbgx : tb ≠ Y1.heap.size := by have := htb.lt; omega
    replace htb := htb.more (.cells (madeCells #[.int .i64 0] n) 2)
    have hk := kep_more hH (.cells (madeCells #[.int .i64 0] n) 2)
    refine hK.out _ _ hk (fun hH2 => ?_)
    clear hK K hH hH2; have hH := hk; clear hk
    generalize Y1.heap.size = gx at *
    generalize Y1.alloc _ = Y2 at *
    try simp only [Act.put, List.setIfInBounds_toArray, List.set_cons_zero, List.set_cons_succ]
    refine sC 6 (fun K hK => ?_)
    go_simp
    have hgy := zc_row Y2 n 2
    have lgy := hH.size
    have ntbgy : tb ≠ Y2.heap.size := by have := htb.lt; omega
    replace htb := htb.more (.cells (madeCells #[.int .i64 0] n) 2)
    have ngxgy : gx ≠ Y2.heap.size := by have := hgx.lt; omega
    replace hgx := hgx.more (.cells (madeCells #[.int .i64 0] n) 2)
    have hk := kep_more hH (.cells (madeCells #[.int .i64 0] n) 2)
    refine hK.out _ _ hk (fun hH2 => ?_)
    clear hK K hH hH2; have hH := hk; clear hk
    generalize Y2.heap.size = gy at *
    generalize Y2.alloc _ = Y3 at *
    refine sN 7 hH ?_
    refine sC 9 (fun K hK => ?_)
    have z0 := htb.i (i := 0) rfl; have z1 := htb.i (i := 1) rfl; have z2 := htb.i (i := 2) rfl; have x0 := htb.frz 0; have x1 := htb.frz 1; have x2 := htb.frz 2
    have HT := Lib.hid (sums_start hH ltb lgx lgy htb hgx hgy ntbgx ntbgy ngxgy (.slice base n cap) (.slice (some ⟨gx, 0, none⟩) n n) (.slice (some ⟨gy, 0, none⟩) n n))
    clear hgx hgy
    go_simp
    refine hK.out _ _ (by exact HT.out.2.1.kep) (fun hH2 => ?_)
    clear hK K hH hH2 z0 z1 z2 x0 x1 x2 htb
    try simp only [Act.put, List.setIfInBounds_toArray, List.set_cons_zero, List.set_cons_succ]
    refine sE ?_
    go_wp2_with fail
    go_meet
    exact ⟨_, _, _, rfl, HT⟩
   ·go_simp
    have hgy := zc_row Y1 n 2
    have lgy := hH.size
    have ntbgy : tb ≠ Y1.heap.size := by have := htb.lt; omega
    replace htb := htb.more (.cells (madeCells #[.int .i64 0] n) 2)
    have hk := kep_more hH (.cells (madeCells #[.int .i64 0] n) 2)
    refine hK.out _ _ hk (fun hH2 => ?_)
    clear hK K hH hH2; have hH := hk; clear hk
    generalize Y1.heap.size = gy at *
    generalize Y1.alloc _ = Y2 at *
    try simp only [Act.put, List.setIfInBounds_toArray, List.set_cons_zero, List.set_cons_succ]
    refine sC 3 (fun K hK => ?_)
    go_simp
    have hgx := zc_row Y2 n 2
    have lgx := hH.size
    have ntbgx : tb ≠ Y2.heap.size := by have := htb.lt; omega
    replace htb := htb.more (.cells (madeCells #[.int .i64 0] n) 2)
    have ngygx : gy ≠ Y2.heap.size := by have := hgy.lt; omega
    replace hgy := hgy.more (.cells (madeCells #[.int .i64 0] n) 2)
    have hk := kep_more hH (.cells (madeCells #[.int .i64 0] n) 2)
    refine hK.out _ _ hk (fun hH2 => ?_)
    clear hK K hH hH2; have hH := hk; clear hk
    generalize Y2.heap.size = gx at *
    generalize Y2.alloc _ = Y3 at *
    refine sN 7 hH ?_
    refine sC 9 (fun K hK => ?_)
    have z0 := htb.i (i := 0) rfl; have z1 := htb.i (i := 1) rfl; have z2 := htb.i (i := 2) rfl; have x0 := htb.frz 0; have x1 := htb.frz 1; have x2 := htb.frz 2
    have HT := Lib.hid (sums_start hH ltb lgx lgy htb hgx hgy ntbgx ntbgy ngygx.symm (.slice base n cap) (.slice (some ⟨gx, 0, none⟩) n n) (.slice (some ⟨gy, 0, none⟩) n n))
    clear hgx hgy
    go_simp
    refine hK.out _ _ (by exact HT.out.2.1.kep) (fun hH2 => ?_)
    clear hK K hH hH2 z0 z1 z2 x0 x1 x2 htb
    try simp only [Act.put, List.setIfInBounds_toArray, List.set_cons_zero, List.set_cons_succ]
    refine sE ?_
    go_wp2_with fail
    go_meet
    exact ⟨_, _, _, rfl, HT⟩
 case rest =>
  obtain ⟨tb, gx, gy, rfl, HT⟩ := hcut
  obtain ⟨zt, js, n1, n2⟩ := HT.out
  have t0 := zt.i (i := 0) rfl
  have t1 := zt.i (i := 1) rfl
  have t2 := zt.i (i := 2) rfl
  have CE := Lib.hid (HE.out gx gy _ js)
  clear HE hmk js HT
  go_upto_region 3 with ((with_reducible refine (CE.out).mono ?_); rintro e w4 ⟨rfl, h4⟩; have z4 := h4.fr.zc n1 n2 zt)
  have H4 := Lib.hid h4
  clear t0 t1 t2
  have t1 := z4.i (i := 1) rfl
  have t2 := z4.i (i := 2) rfl
  clear h4 zt z4 CE
  go_quiet (fail)
  go_wp2_with fail
  go_ret2
  exact ⟨_, _, rfl, ⟨(sq_row H4.out.zx HXL.out).kep (kep_drewN (Kep.refl _ _) _), (sq_row H4.out.zy HYL.out).kep (kep_drewN (Kep.refl _ _) _)⟩, kep_drewN H4.out.kep _⟩
end Go.Proofs.YtaknmlohnifcdaaGreatDoor
