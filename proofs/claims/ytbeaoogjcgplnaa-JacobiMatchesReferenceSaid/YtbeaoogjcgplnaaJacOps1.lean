/-
  Package jacobi: the sums' parts.
-/
import Derived.Test.YtbeaoogjcgplnaaJacCon
import Derived.Test.YtbeaoogjcgplnaaJ05FrO
import Derived.Test.YtbeaoogjcgplnaaImpOps
import Derived.Test.YtbeaoogjcgplnaaJ11VClone
import Derived.Test.YtbeaoogjcgplnaaJ09ViewMath
import Derived.Deep.DeepCutAuto
import Derived.Deep.QuietTactic
import Derived.BigQuiet
import Derived.StillTailTactics
namespace Go.Proofs.Ytbeaoogjcgplnaa
open Go.RowKit Go.Lib

/-- Two rows of numbers of the call's own: what a total's functions write into; wa: the world below, wb: the world at their start. -/
structure JS (wa wb w : World) (gx gy : Nat) (xs ys : List Int) : Prop where
  kep : Kep wa.heap.size wa w
  fr : FrO gx gy wb w
  lx : wa.heap.size ≤ gx
  ly : wa.heap.size ≤ gy
  ne : gx ≠ gy
  zx : ZC w gx (ivs xs)
  zy : ZC w gy (ivs ys)
theorem JS.on {wa wb w w' : World} {gx gy : Nat} {xs ys : List Int} (h : JS wa wb w gx gy xs ys) (g : Kep w.heap.size w w') : JS wa wb w' gx gy xs ys :=
  ⟨h.kep.trans (g.mono h.kep.size), h.fr.kep g, h.lx, h.ly, h.ne, h.zx.kep g, h.zy.kep g⟩
theorem JS.setx {wa wb w : World} {gx gy i : Nat} {xs ys : List Int} {a : Int} (h : JS wa wb w gx gy xs ys) (ha : i < xs.length) : JS wa wb (w.setCell ⟨gx, i, none⟩ (.int .i64 a)) gx gy (xs.set i a) ys :=
  ⟨h.kep.setCell h.lx _, h.fr.set1 _, h.lx, h.ly, h.ne, by rw [ivs_set]; exact h.zx.put _ (by rw [ivs_len]; exact ha), h.zy.far1 (fun e => h.ne e.symm) _⟩
theorem JS.sety {wa wb w : World} {gx gy i : Nat} {xs ys : List Int} {a : Int} (h : JS wa wb w gx gy xs ys) (ha : i < ys.length) : JS wa wb (w.setCell ⟨gy, i, none⟩ (.int .i64 a)) gx gy xs (ys.set i a) :=
  ⟨h.kep.setCell h.ly _, h.fr.set2 _, h.lx, h.ly, h.ne, h.zx.far1 h.ne _, by rw [ivs_set]; exact h.zy.put _ (by rw [ivs_len]; exact ha)⟩
theorem JS.start {wa wb w : World} {gx gy : Nat} {xs ys : List Int} (h : JS wa wb w gx gy xs ys) : JS wa w w gx gy xs ys := ⟨h.kep, .refl _ _ _, h.lx, h.ly, h.ne, h.zx, h.zy⟩
theorem JS.join {wa wb w w' : World} {gx gy : Nat} {xs ys xs' ys' : List Int} (h : JS wa wb w gx gy xs ys) (k : JS wa w w' gx gy xs' ys') : JS wa wb w' gx gy xs' ys' := ⟨k.kep, h.fr.trans k.fr, k.lx, k.ly, k.ne, k.zx, k.zy⟩
set_option maxRecDepth 100000 in
set_option maxHeartbeats 4000000 in
theorem jpush {L : List Bd} {xs ys : List Int} {i n : Nat} {x : Bd} {s j nx ny dx dy a b sx sy a' b' : Int} {v : Value} {wa wb w : World} {gx gy cx cy : Nat} (hv : Lst wa v L) (h : JS wa wb w gx gy xs ys) (hx : L[i]? = some x) (ha : xs[i]? = some a) (hb : ys[i]? = some b) (hn : L.length = n)
    (X1 : ICh j x.m nx ny dx dy) (e1 : IntKind.i64.wrap (s * dx) = sx) (e2 : IntKind.i64.wrap (a + sx) = a') (e3 : IntKind.i64.wrap (s * dy) = sy) (e4 : IntKind.i64.wrap (b + sy) = b') :
    Calls Try.prog 32 #[.agg #[v, .slice (some ⟨gx, 0, none⟩) n cx, .slice (some ⟨gy, 0, none⟩) n cy], .int .i64 (i : Int), .int .i64 s, .int .i64 j, .agg #[.int .i32 nx, .int .i32 ny]] w fun e w' => e = .returned (.tuple #[]) ∧ JS wa wb w' gx gy (xs.set i a') (ys.set i b') := by
  obtain ⟨base, cap, rfl⟩ := hv.shape
  obtain ⟨gl, off, rfl, qx⟩ := hv.at_ hx
  have m4 : w.cell? ⟨gl, off + i * 10 + 4, none⟩ = some (.int .i32 x.m) := h.kep.all (qx 4 (by decide))
  have hin : i < n := by rw [← hn]; exact (List.getElem?_eq_some_iff.1 hx).1
  have hxl := (List.getElem?_eq_some_iff.1 ha).1
  have hyl := (List.getElem?_eq_some_iff.1 hb).1
  have i0 : (0 : Int) ≤ (i : Int) := Int.natCast_nonneg _
  have i1 : (i : Int) < (n : Int) := by omega
  have C1 := Lib.hid X1
  have HX := Lib.hid (h.zx.i (ivs_at ha))
  have HY := Lib.hid (h.zy.i (ivs_at hb))
  have H := Lib.hid h
  have hgx := h.zx.lt
  have hgy := h.zy.lt
  clear hv qx X1 hx ha hb h
  rw [hn]
  clear hn
  go_enter Try.func32, Try.ntmps32
  go_upto_region 1 with fail
  generalize hW : World.alloc (World.alloc w _) _ = W1
  have Zt : ZC W1 (w.heap.size) [.slice (some ⟨gl, off, none⟩) n cap, .slice (some ⟨gx, 0, none⟩) n cx, .slice (some ⟨gy, 0, none⟩) n cy] := by rw [← hW]; exact (ZC.more (zc_new' _ _ _ (by first | rfl | simp)) _)
  have Zv : ZC W1 (w.heap.size + 1) [.int .i32 nx, .int .i32 ny] := by rw [← hW]; exact (zc_new' _ _ _ (by first | rfl | simp))
  have gg : Kep w.heap.size w W1 := by rw [← hW]; exact (kep_more (kep_more (Kep.refl _ _) _) _)
  clear hW
  replace m4 := gg.all m4
  have t0 : W1.cell? ⟨w.heap.size, 0, none⟩ = some (.slice (some ⟨gl, off, none⟩) n cap) := Zt.i (i := 0) rfl
  have t1 : W1.cell? ⟨w.heap.size, 1, none⟩ = some (.slice (some ⟨gx, 0, none⟩) n cx) := Zt.i (i := 1) rfl
  have t2 : W1.cell? ⟨w.heap.size, 2, none⟩ = some (.slice (some ⟨gy, 0, none⟩) n cy) := Zt.i (i := 2) rfl
  have v0 : W1.cell? ⟨w.heap.size + 1, 0, none⟩ = some (.int .i32 nx) := Zv.i (i := 0) rfl
  have v1 : W1.cell? ⟨w.heap.size + 1, 1, none⟩ = some (.int .i32 ny) := Zv.i (i := 1) rfl
  clear Zt Zv
  refine wp_region_noPanic ?_
  refine wp_region_held_drew (S := (fun w' => w'.cell? ⟨w.heap.size, 0, none⟩ = some (.slice (some ⟨gl, off, none⟩) n cap) ∧ w'.cell? ⟨w.heap.size, 1, none⟩ = some (.slice (some ⟨gx, 0, none⟩) n cx) ∧ w'.cell? ⟨w.heap.size, 2, none⟩ = some (.slice (some ⟨gy, 0, none⟩) n cy) ∧ w'.cell? ⟨w.heap.size + 1, 0, none⟩ = some (.int .i32 nx) ∧ w'.cell? ⟨w.heap.size + 1, 1, none⟩ = some (.int .i32 ny) ∧ w'.cell? ⟨gl, off + i * 10 + 4, none⟩ = some (.int .i32 x.m) ∧ Kep w.heap.size w w')) (by kernel_rfl) (⟨by rw [World.cell?_drew]; exact t0, by rw [World.cell?_drew]; exact t1, by rw [World.cell?_drew]; exact t2, by rw [World.cell?_drew]; exact v0, by rw [World.cell?_drew]; exact v1, by rw [World.cell?_drew]; exact m4, kep_drew gg⟩) (fun hH => ?_)
  refine rtk 0 (oi := ⟨some 13, .move (.tmp 3), _, _, _, none⟩) (v := ?_) rfl ?_ hH ?_
  rotate_left
  · (intro w hSw; (try dsimp only at hSw); go_simp; (try with_reducible rfl))
  refine rtk 1 (oi := ⟨some 14, .fieldAddr 50 (.tmp 5) 0, _, _, _, none⟩) (v := ?_) rfl ?_ hH ?_
  rotate_left
  · (intro w hSw; (try dsimp only at hSw); go_simp; (try with_reducible rfl))
  refine rtk 2 (oi := ⟨some 15, .load 22 (.tmp 14), _, _, _, none⟩) (v := ?_) rfl ?_ hH ?_
  rotate_left
  · (intro w hSw; (try dsimp only at hSw); go_simp; (try with_reducible rfl))
  refine rtk 3 (oi := ⟨some 16, .move (.tmp 1), _, _, _, none⟩) (v := ?_) rfl ?_ hH ?_
  rotate_left
  · (intro w hSw; (try dsimp only at hSw); go_simp; (try with_reducible rfl))
  try simp only [Act.put, List.setIfInBounds_toArray, List.set_cons_zero, List.set_cons_succ]
  refine rtk 4 (oi := ⟨some 17, .indexAddr 22 (.tmp 15) (.tmp 16), _, _, _, none⟩) (v := ?_) rfl ?_ hH ?_
  rotate_left
  · (intro w hSw; (try dsimp only at hSw); go_simp; (try with_reducible rfl))
  refine rtk 5 (oi := ⟨some 18, .fieldAddr 44 (.tmp 17) 3, _, _, _, none⟩) (v := ?_) rfl ?_ hH ?_
  rotate_left
  · (intro w hSw; (try dsimp only at hSw); go_simp; (try with_reducible rfl))
  refine rtk 6 (oi := ⟨some 19, .load 21 (.tmp 18), _, _, _, none⟩) (v := ?_) rfl ?_ hH ?_
  rotate_left
  · (intro w hSw; (try dsimp only at hSw); go_simp; (try with_reducible rfl))
  refine rtk 7 (oi := ⟨some 20, .load 39 (.tmp 9), _, _, _, none⟩) (v := ?_) rfl ?_ hH ?_
  rotate_left
  · (intro w hSw; (try dsimp only at hSw); go_simp; (try with_reducible rfl))
  try simp only [Act.put, List.setIfInBounds_toArray, List.set_cons_zero, List.set_cons_succ]
  refine wpAnyH_ready (rs := [8]) (by kernel_rfl) (by simp) ?_
  refine AllReadyH.cons (o := ⟨some 21, .call { callee := .value (.func 40), args := #[.tmp 13, .tmp 19, .tmp 20], argTypes := #[2, 21, 39] }, _, _, _, none⟩) rfl (fun K hK => ?_) AllReadyH.nil
  go_simp
  (with_reducible refine (C1.out _).mono ?_); rintro e v1_8 ⟨rfl, g⟩
  refine hK.out _ _ (by (try dsimp only); (go_split_ands; exact ⟨Kep.all g (by assumption), Kep.all g (by assumption), Kep.all g (by assumption), Kep.all g (by assumption), Kep.all g (by assumption), Kep.all g (by assumption), kep_next (by assumption) g⟩)) (fun hH2 => ?_)
  clear hK K hH; have hH := hH2; clear hH2
  refine rtk 9 (oi := ⟨some 12, .move (.tmp 21), _, _, _, none⟩) (v := ?_) rfl ?_ hH ?_
  rotate_left
  · (intro w hSw; (try dsimp only at hSw); go_simp; (try with_reducible rfl))
  refine rtk 10 (oi := ⟨some 22, .extract (.tmp 12) 0, _, _, _, none⟩) (v := ?_) rfl ?_ hH ?_
  rotate_left
  · (intro w hSw; (try dsimp only at hSw); go_simp; (try with_reducible rfl))
  refine rtk 11 (oi := ⟨some 23, .extract (.tmp 12) 1, _, _, _, none⟩) (v := ?_) rfl ?_ hH ?_
  rotate_left
  · (intro w hSw; (try dsimp only at hSw); go_simp; (try with_reducible rfl))
  try simp only [Act.put, List.setIfInBounds_toArray, List.set_cons_zero, List.set_cons_succ]
  refine rtk 12 (oi := ⟨some 10, .assign (.tmp 22), _, _, _, none⟩) (v := ?_) rfl ?_ hH ?_
  rotate_left
  · (intro w hSw; (try dsimp only at hSw); go_simp; (try with_reducible rfl))
  refine rtk 13 (oi := ⟨some 11, .assign (.tmp 23), _, _, _, none⟩) (v := ?_) rfl ?_ hH ?_
  rotate_left
  · (intro w hSw; (try dsimp only at hSw); go_simp; (try with_reducible rfl))
  try simp only [Act.put, List.setIfInBounds_toArray, List.set_cons_zero, List.set_cons_succ]
  refine wpAnyH_done (by kernel_rfl) ?_ _
  refine NoPanic.normal ?_
  clear t0 t1 t2 v0 v1 m4 gg
  obtain ⟨t0, t1, t2, v0, v1, m4, gg⟩ := hH
  have H2 := Lib.hid (H.out.on gg)
  have f0 := gg.all HX.out
  have f1 := (H.out.on gg).zx.frz i
  have hz := (H.out.on gg).zx.lt
  clear m4 t0 v0 v1
  have nz1 : w.heap.size ≠ gx := by omega
  go_upto_region 3 with fail
  generalize hW : World.setCell _ _ _ = W3
  have H3 : Hid (JS wa wb W3 gx gy (xs.set i a') ys) := Lib.hid (by rw [← hW]; exact H2.out.setx hxl)
  replace t2 : W3.cell? ⟨w.heap.size, 2, none⟩ = some (.slice (some ⟨gy, 0, none⟩) n cy) := by rw [← hW]; exact sset_far t2 (fun e => nz1 e.symm)
  have y0 : W3.cell? ⟨gy, i, none⟩ = some (.int .i64 b) := by rw [← hW]; exact sset_far (gg.all HY.out) H.out.ne
  have y1 := H3.out.zy.frz i
  have y2 := H3.out.zy.lt
  clear hW f0 f1 hz t1 gg
  go_wp2_with fail
  go_end0
  exact ⟨rfl, H3.out.sety hyl⟩
/-- The sums behind a further contact. -/
theorem sums_next {f : Ct → Int} {L : List Bd} {C : List Ct} {c : Ct} (hA : Asc L) {ja jb : Nat} {a b : Bd} (ha : L[ja]? = some a) (hb : L[jb]? = some b) (ka : a.k = c.lo) (kb : b.k = c.hi) (hne : ja ≠ jb) :
    ((L.map (sumJ f L C)).set ja (sumJ f L C a - chI (stJ L c) a.m (f c))).set jb (sumJ f L C b + chI (stJ L c) b.m (f c)) = L.map (sumJ f L (C ++ [c])) := by
  have key : ∀ (i j : Nat) (x y : Bd), L[i]? = some x → L[j]? = some y → x.k = y.k → i = j := fun i j x y hx hy e => by
    rcases Nat.lt_trichotomy i j with q | q | q
    · have := asc_lt hA hx hy q; omega
    · exact q
    · have := asc_lt hA hy hx q; omega
  have one : ∀ x, sumJ f L (C ++ [c]) x = sumJ f L C x + conJ f L x c := fun x => by
    rw [sumJ_app]
    show _ + (conJ f L x c + 0) = _
    omega
  have la : ja < L.length := (List.getElem?_eq_some_iff.1 ha).1
  have lb : jb < L.length := (List.getElem?_eq_some_iff.1 hb).1
  have hk : c.lo ≠ c.hi := fun e => hne (key ja jb a b ha hb (by omega))
  refine List.ext_getElem? fun i => ?_
  by_cases q : i = jb
  · subst q
    rw [List.getElem?_set_self (by rw [List.length_set, List.length_map]; exact lb), List.getElem?_map, hb]
    show _ = some (sumJ f L (C ++ [c]) b)
    rw [one]
    unfold conJ
    rw [if_neg (by omega), if_pos kb.symm]
  · rw [List.getElem?_set_ne (fun e => q e.symm)]
    by_cases p : i = ja
    · subst p
      rw [List.getElem?_set_self (by rw [List.length_map]; exact la), List.getElem?_map, ha]
      show _ = some (sumJ f L (C ++ [c]) a)
      rw [one]
      unfold conJ
      rw [if_pos ka.symm]
      congr 1
    · rw [List.getElem?_set_ne (fun e => p e.symm), List.getElem?_map, List.getElem?_map]
      cases hx : L[i]? with
      | none => rfl
      | some x =>
        show some (sumJ f L C x) = some (sumJ f L (C ++ [c]) x)
        rw [one]
        unfold conJ
        rw [if_neg (fun e => p (key i ja x a hx ha (by omega))), if_neg (fun e => q (key i jb x b hx hb (by omega)))]
        congr 1
        omega
set_option maxRecDepth 100000 in
set_option maxHeartbeats 4000000 in
theorem jadd {L : List Bd} {C : List Ct} {c : Ct} (hA : Asc L) (hL : L.length ≤ 40) (hok : ∀ x ∈ L, okI x) (hC : ∀ c ∈ C, RgC L c) (hl : C.length ≤ 100) (hc : RgC L c) {n : Nat} {v : Value} {wa wb w : World} {gx gy cx cy : Nat} (hv : Lst wa v L) (hn : L.length = n) (h : JS wa wb w gx gy (L.map (sumJ (·.nx) L C)) (L.map (sumJ (·.ny) L C))) :
    Calls Try.prog 22 #[.agg #[v, .slice (some ⟨gx, 0, none⟩) n cx, .slice (some ⟨gy, 0, none⟩) n cy], .agg #[.int .u32 c.lo, .int .u32 c.hi, .int .i32 c.nx, .int .i32 c.ny, .int .i32 c.dp]] w fun e w' => e = .returned (.tuple #[]) ∧ JS wa wb w' gx gy (L.map (sumJ (·.nx) L (C ++ [c]))) (L.map (sumJ (·.ny) L (C ++ [c]))) := by
  obtain ⟨x, hx⟩ := Option.isSome_iff_exists.1 hc.lo
  obtain ⟨y, hy⟩ := Option.isSome_iff_exists.1 hc.hi
  have mx := look_some hx
  have my := look_some hy
  obtain ⟨ja, pa, ra, la⟩ := at_of_mem hA mx.1
  obtain ⟨jb, pb, rb, lb⟩ := at_of_mem hA my.1
  rw [mx.2] at ra la
  rw [my.2] at rb lb
  have hlt := hc.lt
  have hne : ja ≠ jb := fun e => by
    rw [e, pb] at pa
    injection pa with pa
    rw [pa] at my
    have := mx.2
    have := my.2
    omega
  have hVB : ∀ x ∈ L, Vb x := fun x hx => vb_of (hok x hx)
  have vx := hVB x mx.1
  have vy := hVB y my.1
  have sb := stJ_bd hVB hc
  have hst : stJ L c = stI c.nx c.ny x y := by unfold stJ; rw [bdK_eq hx, bdK_eq hy]
  obtain ⟨base, cap, rfl⟩ := hv.shape
  have FL : Hid (∀ w', Kep w.heap.size w w' → Calls Try.prog 30 #[.slice base L.length cap, .int .u32 c.lo] w' fun e w'' => e = .returned (.tuple #[.int .i64 (ja : Int), .bool true]) ∧ Kep w'.heap.size w' w'') := Lib.hid fun w' g => by
    have := vfind_some base cap L c.lo w' ((hv.kep h.kep).kep g) (by omega) hA
    rw [ra, la] at this
    exact this
  have FH : Hid (∀ w', Kep w.heap.size w w' → Calls Try.prog 30 #[.slice base L.length cap, .int .u32 c.hi] w' fun e w'' => e = .returned (.tuple #[.int .i64 (jb : Int), .bool true]) ∧ Kep w'.heap.size w' w'') := Lib.hid fun w' g => by
    have := vfind_some base cap L c.hi w' ((hv.kep h.kep).kep g) (by omega) hA
    rw [rb, lb] at this
    exact this
  obtain ⟨j, hj⟩ : ∃ j, j = stJ L c := ⟨_, rfl⟩
  have CS := ist_ok (lo := c.lo) (hi := c.hi) (dp := c.dp) vx vy hc.nx hc.ny
  rw [← hst, ← hj] at CS
  have CS := Lib.hid CS
  have X1 := ich_ok (j := j) (i := x.m) (by rw [hj]; exact sb) ⟨vx.m0, vx.m1⟩ hc.nx hc.ny
  have X2 := ich_ok (j := j) (i := y.m) (by rw [hj]; exact sb) ⟨vy.m0, vy.m1⟩ hc.nx hc.ny
  have bx : ∀ {f : Int}, Nr f → _ := fun {f} q => chI_bd (j := j) (m := x.m) (n := f) (by rw [hj]; exact sb) ⟨vx.m0, vx.m1⟩ q
  have by_ : ∀ {f : Int}, Nr f → _ := fun {f} q => chI_bd (j := j) (m := y.m) (n := f) (by rw [hj]; exact sb) ⟨vy.m0, vy.m1⟩ q
  have b1 := bx hc.nx
  have b2 := bx hc.ny
  have b3 := by_ hc.nx
  have b4 := by_ hc.ny
  have s1 := sumJ_bd (f := (·.nx)) hVB mx.1 hC (fun c h => (hC c h).nx) hl
  have s2 := sumJ_bd (f := (·.ny)) hVB mx.1 hC (fun c h => (hC c h).ny) hl
  have s3 := sumJ_bd (f := (·.nx)) hVB my.1 hC (fun c h => (hC c h).nx) hl
  have s4 := sumJ_bd (f := (·.ny)) hVB my.1 hC (fun c h => (hC c h).ny) hl
  have E1 := sums_next (f := (·.nx)) (C := C) hA pa pb mx.2 my.2 hne
  have E2 := sums_next (f := (·.ny)) (C := C) hA pa pb mx.2 my.2 hne
  rw [← hj] at E1 E2
  have P1 := Lib.hid (fun (w' : World) (h : JS wa w' w' gx gy (L.map (sumJ (·.nx) L C)) (L.map (sumJ (·.ny) L C))) => jpush (s := -1) (cx := cx) (cy := cy) (a' := sumJ (·.nx) L C x - chI j x.m c.nx) (b' := sumJ (·.ny) L C x - chI j x.m c.ny) (sx := -(chI j x.m c.nx)) (sy := -(chI j x.m c.ny)) hv h pa (by rw [List.getElem?_map, pa]; rfl) (by rw [List.getElem?_map, pa]; rfl) hn X1 (by rw [IntKind.wrap_i64]; omega) (by rw [IntKind.wrap_i64]; omega) (by rw [IntKind.wrap_i64]; omega) (by rw [IntKind.wrap_i64]; omega))
  have P2 := Lib.hid (fun (w' : World) (h : JS wa w' w' gx gy ((L.map (sumJ (·.nx) L C)).set ja (sumJ (·.nx) L C x - chI j x.m c.nx)) ((L.map (sumJ (·.ny) L C)).set ja (sumJ (·.ny) L C x - chI j x.m c.ny))) => jpush (s := 1) (cx := cx) (cy := cy) (a' := sumJ (·.nx) L C y + chI j y.m c.nx) (b' := sumJ (·.ny) L C y + chI j y.m c.ny) (sx := chI j y.m c.nx) (sy := chI j y.m c.ny) hv h pb (by rw [List.getElem?_set_ne hne, List.getElem?_map, pb]; rfl) (by rw [List.getElem?_set_ne hne, List.getElem?_map, pb]; rfl) hn X2 (by rw [IntKind.wrap_i64]; omega) (by rw [IntKind.wrap_i64]; omega) (by rw [IntKind.wrap_i64]; omega) (by rw [IntKind.wrap_i64]; omega))
  rw [E1, E2] at P2
  subst hn
  obtain ⟨gl, off, rfl, qx⟩ := hv.at_ pa
  have qy : ∀ q, q < 10 → wa.cell? ⟨gl, off + jb * 10 + q, none⟩ = (vals y)[q]? := by
    obtain ⟨_, _, e, q⟩ := hv.at_ pb
    injection e with e
    injection e with e1 e2
    subst e1 e2
    exact q
  have HQ := Lib.hid (And.intro qx qy)
  have H := Lib.hid h
  have i0 : (0 : Int) ≤ (ja : Int) := Int.natCast_nonneg _
  have i1 : (ja : Int) < (L.length : Int) := by have := (List.getElem?_eq_some_iff.1 pa).1; omega
  have i2 : (0 : Int) ≤ (jb : Int) := Int.natCast_nonneg _
  have i3 : (jb : Int) < (L.length : Int) := by have := (List.getElem?_eq_some_iff.1 pb).1; omega
  have hgx := h.zx.lt
  have hgy := h.zy.lt
  have nx1 : w.heap.size ≠ gx := by omega
  have ny1 : w.heap.size ≠ gy := by omega
  have nx2 : w.heap.size + 1 ≠ gx := by omega
  have ny2 : w.heap.size + 1 ≠ gy := by omega
  clear hv qx qy h hA hok hC hl hc hx hy mx my pa ra la pb rb lb hlt hne hVB vx vy sb hst hj X1 X2 bx by_ b1 b2 b3 b4 s1 s2 s3 s4 E1 E2 hL
  generalize L.map (sumJ (·.nx) L C) = Xs at *
  generalize L.map (sumJ (·.ny) L C) = Ys at *
  generalize L.map (sumJ (·.nx) L (C ++ [c])) = Xt at *
  generalize L.map (sumJ (·.ny) L (C ++ [c])) = Yt at *
  go_enter Try.func22, Try.ntmps22
  go_upto_region 4 with (first
    | ((with_reducible refine (FL.out _ (kep_more (kep_more (Kep.refl _ _) _) _)).mono ?_); rintro e w1 ⟨rfl, g1⟩
       have Zt : ZC w1 (w.heap.size) [.slice (some ⟨gl, off, none⟩) L.length cap, .slice (some ⟨gx, 0, none⟩) L.length cx, .slice (some ⟨gy, 0, none⟩) L.length cy] := ZC.kep (ZC.more (zc_new' _ _ _ (by first | rfl | simp)) _) g1
       have Zc : ZC w1 (w.heap.size + 1) [.int .u32 c.lo, .int .u32 c.hi, .int .i32 c.nx, .int .i32 c.ny, .int .i32 c.dp] := ZC.kep (zc_new' _ _ _ (by first | rfl | simp)) g1
       have gg := kep_next (kep_more (kep_more (Kep.refl _ _) _) _) g1
       have t0 : w1.cell? ⟨w.heap.size, 0, none⟩ = some (.slice (some ⟨gl, off, none⟩) L.length cap) := Zt.i (i := 0) rfl
       have t1 : w1.cell? ⟨w.heap.size, 1, none⟩ = some (.slice (some ⟨gx, 0, none⟩) L.length cx) := Zt.i (i := 1) rfl
       have t2 : w1.cell? ⟨w.heap.size, 2, none⟩ = some (.slice (some ⟨gy, 0, none⟩) L.length cy) := Zt.i (i := 2) rfl
       have zt := Zt.lt
       have c0 : w1.cell? ⟨w.heap.size + 1, 0, none⟩ = some (.int .u32 c.lo) := Zc.i (i := 0) rfl
       have c1 : w1.cell? ⟨w.heap.size + 1, 1, none⟩ = some (.int .u32 c.hi) := Zc.i (i := 1) rfl
       have c2 : w1.cell? ⟨w.heap.size + 1, 2, none⟩ = some (.int .i32 c.nx) := Zc.i (i := 2) rfl
       have c3 : w1.cell? ⟨w.heap.size + 1, 3, none⟩ = some (.int .i32 c.ny) := Zc.i (i := 3) rfl
       have c4 : w1.cell? ⟨w.heap.size + 1, 4, none⟩ = some (.int .i32 c.dp) := Zc.i (i := 4) rfl
       have zc := Zc.lt)
    | ((with_reducible refine (FH.out _ gg).mono ?_); rintro e w2 ⟨rfl, g2⟩
       replace gg := kep_next gg g2
       replace Zt := Zt.kep g2
       replace Zc := Zc.kep g2))
  clear t0 t1 t2 c0 c1 c2 c3 c4
  have t0 : w2.cell? ⟨w.heap.size, 0, none⟩ = some (.slice (some ⟨gl, off, none⟩) L.length cap) := Zt.i (i := 0) rfl
  have t1 : w2.cell? ⟨w.heap.size, 1, none⟩ = some (.slice (some ⟨gx, 0, none⟩) L.length cx) := Zt.i (i := 1) rfl
  have t2 : w2.cell? ⟨w.heap.size, 2, none⟩ = some (.slice (some ⟨gy, 0, none⟩) L.length cy) := Zt.i (i := 2) rfl
  have c0 : w2.cell? ⟨w.heap.size + 1, 0, none⟩ = some (.int .u32 c.lo) := Zc.i (i := 0) rfl
  have c1 : w2.cell? ⟨w.heap.size + 1, 1, none⟩ = some (.int .u32 c.hi) := Zc.i (i := 1) rfl
  have c2 : w2.cell? ⟨w.heap.size + 1, 2, none⟩ = some (.int .i32 c.nx) := Zc.i (i := 2) rfl
  have c3 : w2.cell? ⟨w.heap.size + 1, 3, none⟩ = some (.int .i32 c.ny) := Zc.i (i := 3) rfl
  have c4 : w2.cell? ⟨w.heap.size + 1, 4, none⟩ = some (.int .i32 c.dp) := Zc.i (i := 4) rfl
  have x0 : w2.cell? ⟨gl, off + ja * 10, none⟩ = some (.int .u32 x.k) := gg.all (H.out.kep.all (HQ.out.1 0 (by decide)))
  have x1 : w2.cell? ⟨gl, off + ja * 10 + 1, none⟩ = some (.int .i32 x.r) := gg.all (H.out.kep.all (HQ.out.1 1 (by decide)))
  have x2 : w2.cell? ⟨gl, off + ja * 10 + 2, none⟩ = some (.int .i32 x.ax) := gg.all (H.out.kep.all (HQ.out.1 2 (by decide)))
  have x3 : w2.cell? ⟨gl, off + ja * 10 + 3, none⟩ = some (.int .i32 x.ay) := gg.all (H.out.kep.all (HQ.out.1 3 (by decide)))
  have x4 : w2.cell? ⟨gl, off + ja * 10 + 4, none⟩ = some (.int .i32 x.m) := gg.all (H.out.kep.all (HQ.out.1 4 (by decide)))
  have x5 : w2.cell? ⟨gl, off + ja * 10 + 5, none⟩ = some (.int .i32 x.o) := gg.all (H.out.kep.all (HQ.out.1 5 (by decide)))
  have x6 : w2.cell? ⟨gl, off + ja * 10 + 6, none⟩ = some (.int .i32 x.px) := gg.all (H.out.kep.all (HQ.out.1 6 (by decide)))
  have x7 : w2.cell? ⟨gl, off + ja * 10 + 7, none⟩ = some (.int .i32 x.py) := gg.all (H.out.kep.all (HQ.out.1 7 (by decide)))
  have x8 : w2.cell? ⟨gl, off + ja * 10 + 8, none⟩ = some (.int .i32 x.vx) := gg.all (H.out.kep.all (HQ.out.1 8 (by decide)))
  have x9 : w2.cell? ⟨gl, off + ja * 10 + 9, none⟩ = some (.int .i32 x.vy) := gg.all (H.out.kep.all (HQ.out.1 9 (by decide)))
  have y0 : w2.cell? ⟨gl, off + jb * 10, none⟩ = some (.int .u32 y.k) := gg.all (H.out.kep.all (HQ.out.2 0 (by decide)))
  have y1 : w2.cell? ⟨gl, off + jb * 10 + 1, none⟩ = some (.int .i32 y.r) := gg.all (H.out.kep.all (HQ.out.2 1 (by decide)))
  have y2 : w2.cell? ⟨gl, off + jb * 10 + 2, none⟩ = some (.int .i32 y.ax) := gg.all (H.out.kep.all (HQ.out.2 2 (by decide)))
  have y3 : w2.cell? ⟨gl, off + jb * 10 + 3, none⟩ = some (.int .i32 y.ay) := gg.all (H.out.kep.all (HQ.out.2 3 (by decide)))
  have y4 : w2.cell? ⟨gl, off + jb * 10 + 4, none⟩ = some (.int .i32 y.m) := gg.all (H.out.kep.all (HQ.out.2 4 (by decide)))
  have y5 : w2.cell? ⟨gl, off + jb * 10 + 5, none⟩ = some (.int .i32 y.o) := gg.all (H.out.kep.all (HQ.out.2 5 (by decide)))
  have y6 : w2.cell? ⟨gl, off + jb * 10 + 6, none⟩ = some (.int .i32 y.px) := gg.all (H.out.kep.all (HQ.out.2 6 (by decide)))
  have y7 : w2.cell? ⟨gl, off + jb * 10 + 7, none⟩ = some (.int .i32 y.py) := gg.all (H.out.kep.all (HQ.out.2 7 (by decide)))
  have y8 : w2.cell? ⟨gl, off + jb * 10 + 8, none⟩ = some (.int .i32 y.vx) := gg.all (H.out.kep.all (HQ.out.2 8 (by decide)))
  have y9 : w2.cell? ⟨gl, off + jb * 10 + 9, none⟩ = some (.int .i32 y.vy) := gg.all (H.out.kep.all (HQ.out.2 9 (by decide)))
  clear Zt Zc
  refine wp_region_noPanic ?_
  refine wp_region_held_drew (S := (fun w' => w'.cell? ⟨w.heap.size, 0, none⟩ = some (.slice (some ⟨gl, off, none⟩) L.length cap) ∧ w'.cell? ⟨w.heap.size, 1, none⟩ = some (.slice (some ⟨gx, 0, none⟩) L.length cx) ∧ w'.cell? ⟨w.heap.size, 2, none⟩ = some (.slice (some ⟨gy, 0, none⟩) L.length cy) ∧ w'.cell? ⟨w.heap.size + 1, 0, none⟩ = some (.int .u32 c.lo) ∧ w'.cell? ⟨w.heap.size + 1, 1, none⟩ = some (.int .u32 c.hi) ∧ w'.cell? ⟨w.heap.size + 1, 2, none⟩ = some (.int .i32 c.nx) ∧ w'.cell? ⟨w.heap.size + 1, 3, none⟩ = some (.int .i32 c.ny) ∧ w'.cell? ⟨w.heap.size + 1, 4, none⟩ = some (.int .i32 c.dp) ∧ w'.cell? ⟨gl, off + ja * 10, none⟩ = some (.int .u32 x.k) ∧ w'.cell? ⟨gl, off + ja * 10 + 1, none⟩ = some (.int .i32 x.r) ∧ w'.cell? ⟨gl, off + ja * 10 + 2, none⟩ = some (.int .i32 x.ax) ∧ w'.cell? ⟨gl, off + ja * 10 + 3, none⟩ = some (.int .i32 x.ay) ∧ w'.cell? ⟨gl, off + ja * 10 + 4, none⟩ = some (.int .i32 x.m) ∧ w'.cell? ⟨gl, off + ja * 10 + 5, none⟩ = some (.int .i32 x.o) ∧ w'.cell? ⟨gl, off + ja * 10 + 6, none⟩ = some (.int .i32 x.px) ∧ w'.cell? ⟨gl, off + ja * 10 + 7, none⟩ = some (.int .i32 x.py) ∧ w'.cell? ⟨gl, off + ja * 10 + 8, none⟩ = some (.int .i32 x.vx) ∧ w'.cell? ⟨gl, off + ja * 10 + 9, none⟩ = some (.int .i32 x.vy) ∧ w'.cell? ⟨gl, off + jb * 10, none⟩ = some (.int .u32 y.k) ∧ w'.cell? ⟨gl, off + jb * 10 + 1, none⟩ = some (.int .i32 y.r) ∧ w'.cell? ⟨gl, off + jb * 10 + 2, none⟩ = some (.int .i32 y.ax) ∧ w'.cell? ⟨gl, off + jb * 10 + 3, none⟩ = some (.int .i32 y.ay) ∧ w'.cell? ⟨gl, off + jb * 10 + 4, none⟩ = some (.int .i32 y.m) ∧ w'.cell? ⟨gl, off + jb * 10 + 5, none⟩ = some (.int .i32 y.o) ∧ w'.cell? ⟨gl, off + jb * 10 + 6, none⟩ = some (.int .i32 y.px) ∧ w'.cell? ⟨gl, off + jb * 10 + 7, none⟩ = some (.int .i32 y.py) ∧ w'.cell? ⟨gl, off + jb * 10 + 8, none⟩ = some (.int .i32 y.vx) ∧ w'.cell? ⟨gl, off + jb * 10 + 9, none⟩ = some (.int .i32 y.vy) ∧ Kep w.heap.size w w')) (by kernel_rfl) (⟨by rw [World.cell?_drew]; exact t0, by rw [World.cell?_drew]; exact t1, by rw [World.cell?_drew]; exact t2, by rw [World.cell?_drew]; exact c0, by rw [World.cell?_drew]; exact c1, by rw [World.cell?_drew]; exact c2, by rw [World.cell?_drew]; exact c3, by rw [World.cell?_drew]; exact c4, by rw [World.cell?_drew]; exact x0, by rw [World.cell?_drew]; exact x1, by rw [World.cell?_drew]; exact x2, by rw [World.cell?_drew]; exact x3, by rw [World.cell?_drew]; exact x4, by rw [World.cell?_drew]; exact x5, by rw [World.cell?_drew]; exact x6, by rw [World.cell?_drew]; exact x7, by rw [World.cell?_drew]; exact x8, by rw [World.cell?_drew]; exact x9, by rw [World.cell?_drew]; exact y0, by rw [World.cell?_drew]; exact y1, by rw [World.cell?_drew]; exact y2, by rw [World.cell?_drew]; exact y3, by rw [World.cell?_drew]; exact y4, by rw [World.cell?_drew]; exact y5, by rw [World.cell?_drew]; exact y6, by rw [World.cell?_drew]; exact y7, by rw [World.cell?_drew]; exact y8, by rw [World.cell?_drew]; exact y9, kep_drew gg⟩) (fun hH => ?_)
  refine rtk 0 (oi := ⟨some 33, .load 41 (.tmp 3), _, _, _, none⟩) (v := ?_) rfl ?_ hH ?_
  rotate_left
  · (intro w hSw; (try dsimp only at hSw); go_simp; (try with_reducible rfl))
  refine rtk 1 (oi := ⟨some 34, .fieldAddr 50 (.tmp 2) 0, _, _, _, none⟩) (v := ?_) rfl ?_ hH ?_
  rotate_left
  · (intro w hSw; (try dsimp only at hSw); go_simp; (try with_reducible rfl))
  refine rtk 2 (oi := ⟨some 35, .load 22 (.tmp 34), _, _, _, none⟩) (v := ?_) rfl ?_ hH ?_
  rotate_left
  · (intro w hSw; (try dsimp only at hSw); go_simp; (try with_reducible rfl))
  refine rtk 3 (oi := ⟨some 36, .move (.tmp 4), _, _, _, none⟩) (v := ?_) rfl ?_ hH ?_
  rotate_left
  · (intro w hSw; (try dsimp only at hSw); go_simp; (try with_reducible rfl))
  try simp only [Act.put, List.setIfInBounds_toArray, List.set_cons_zero, List.set_cons_succ]
  refine rtk 4 (oi := ⟨some 37, .indexAddr 22 (.tmp 35) (.tmp 36), _, _, _, none⟩) (v := ?_) rfl ?_ hH ?_
  rotate_left
  · (intro w hSw; (try dsimp only at hSw); go_simp; (try with_reducible rfl))
  refine rtk 5 (oi := ⟨some 38, .load 44 (.tmp 37), _, _, _, none⟩) (v := ?_) rfl ?_ hH ?_
  rotate_left
  · (intro w hSw; (try dsimp only at hSw); go_simp; (try with_reducible rfl))
  refine rtk 6 (oi := ⟨some 39, .fieldAddr 50 (.tmp 2) 0, _, _, _, none⟩) (v := ?_) rfl ?_ hH ?_
  rotate_left
  · (intro w hSw; (try dsimp only at hSw); go_simp; (try with_reducible rfl))
  refine rtk 7 (oi := ⟨some 40, .load 22 (.tmp 39), _, _, _, none⟩) (v := ?_) rfl ?_ hH ?_
  rotate_left
  · (intro w hSw; (try dsimp only at hSw); go_simp; (try with_reducible rfl))
  try simp only [Act.put, List.setIfInBounds_toArray, List.set_cons_zero, List.set_cons_succ]
  refine rtk 8 (oi := ⟨some 41, .move (.tmp 6), _, _, _, none⟩) (v := ?_) rfl ?_ hH ?_
  rotate_left
  · (intro w hSw; (try dsimp only at hSw); go_simp; (try with_reducible rfl))
  refine rtk 9 (oi := ⟨some 42, .indexAddr 22 (.tmp 40) (.tmp 41), _, _, _, none⟩) (v := ?_) rfl ?_ hH ?_
  rotate_left
  · (intro w hSw; (try dsimp only at hSw); go_simp; (try with_reducible rfl))
  refine rtk 10 (oi := ⟨some 43, .load 44 (.tmp 42), _, _, _, none⟩) (v := ?_) rfl ?_ hH ?_
  rotate_left
  · (intro w hSw; (try dsimp only at hSw); go_simp; (try with_reducible rfl))
  try simp only [Act.put, List.setIfInBounds_toArray, List.set_cons_zero, List.set_cons_succ]
  refine wpAnyH_ready (rs := [11]) (by kernel_rfl) (by simp) ?_
  refine AllReadyH.cons (o := ⟨some 44, .call { callee := .value (.func 31), args := #[.tmp 33, .tmp 38, .tmp 43], argTypes := #[41, 44, 44] }, _, _, _, none⟩) rfl (fun K hK => ?_) AllReadyH.nil
  go_simp
  (with_reducible refine (CS.out _).mono ?_); rintro e v4_11 ⟨rfl, g⟩
  refine hK.out _ _ (by (try dsimp only); (go_split_ands; exact ⟨Kep.all g (by assumption), Kep.all g (by assumption), Kep.all g (by assumption), Kep.all g (by assumption), Kep.all g (by assumption), Kep.all g (by assumption), Kep.all g (by assumption), Kep.all g (by assumption), Kep.all g (by assumption), Kep.all g (by assumption), Kep.all g (by assumption), Kep.all g (by assumption), Kep.all g (by assumption), Kep.all g (by assumption), Kep.all g (by assumption), Kep.all g (by assumption), Kep.all g (by assumption), Kep.all g (by assumption), Kep.all g (by assumption), Kep.all g (by assumption), Kep.all g (by assumption), Kep.all g (by assumption), Kep.all g (by assumption), Kep.all g (by assumption), Kep.all g (by assumption), Kep.all g (by assumption), Kep.all g (by assumption), Kep.all g (by assumption), kep_next (by assumption) g⟩)) (fun hH2 => ?_)
  clear hK K hH; have hH := hH2; clear hH2
  refine rtk 12 (oi := ⟨some 8, .assign (.tmp 44), _, _, _, none⟩) (v := ?_) rfl ?_ hH ?_
  rotate_left
  · (intro w hSw; (try dsimp only at hSw); go_simp; (try with_reducible rfl))
  try simp only [Act.put, List.setIfInBounds_toArray, List.set_cons_zero, List.set_cons_succ]
  refine wpAnyH_done (by kernel_rfl) ?_ _
  refine NoPanic.normal ?_
  clear t0 t1 t2 c0 c1 c2 c3 c4 x0 x1 x2 x3 x4 x5 x6 x7 x8 x9 y0 y1 y2 y3 y4 y5 y6 y7 y8 y9 gg
  obtain ⟨t0, t1, t2, c0, c1, c2, c3, c4, x0, x1, x2, x3, x4, x5, x6, x7, x8, x9, y0, y1, y2, y3, y4, y5, y6, y7, y8, y9, gg⟩ := hH
  have HJ1 := Lib.hid (H.out.on gg).start
  clear c0 c1 c4 x0 x1 x2 x3 x4 x5 x6 x7 x8 x9 y0 y1 y2 y3 y4 y5 y6 y7 y8 y9
  go_wp2_with (first
    | ((with_reducible refine (P1.out _ HJ1.out).mono ?_); rintro e w6 ⟨rfl, h6⟩; replace t0 := h6.fr.cell nx1 ny1 t0; replace t1 := h6.fr.cell nx1 ny1 t1; replace t2 := h6.fr.cell nx1 ny1 t2; replace c2 := h6.fr.cell nx2 ny2 c2; replace c3 := h6.fr.cell nx2 ny2 c3; have HJ2 := Lib.hid h6.start; have H6 := Lib.hid h6; clear h6)
    | ((with_reducible refine (P2.out _ HJ2.out).mono ?_); rintro e w7 ⟨rfl, h7⟩; have H7 := Lib.hid h7; clear h7))
  go_end0
  exact ⟨rfl, ((H.out.on gg).join H6.out).join H7.out⟩
end Go.Proofs.Ytbeaoogjcgplnaa
