/-
  Package correct: Shifts.
-/
import Derived.Test.YtlbbacmpdlghaaaCorOps2
import Derived.Test.YtlbbacmpdlghaaaJ09ViewOps
import Derived.Test.YtlbbacmpdlghaaaJ07ViewMath
import Derived.Deep.DeepCutAuto
import Derived.Laws.MakeOwn
import Derived.Laws.OwnMore
import Derived.Deep.QuietTactic
import Derived.BigQuiet
namespace Go.Proofs.Ytlbbacmpdlghaaa
open Go.RowKit Go.Lib

theorem info_shiftC : (Try.prog.info? 50).map (fun i => (i.zero, i.size, i.bytes)) = some (some (.agg #[.int .i64 0, .int .i64 0]), 2, 16) := by kernel_rfl
theorem made_two (z : Value) (N : Nat) : madeCells #[z, z] N = ⟨List.replicate N z⟩ := by
  refine Array.ext' (List.ext_getElem? fun j => ?_)
  by_cases hj : j < N
  · have : j % 2 = 0 ∨ j % 2 = 1 := by omega
    rcases this with e | e <;> simp [madeCells, hj, e]
  · simp [madeCells, hj]
theorem flatS_zero : ∀ n : Nat, flatS (List.replicate n (0, 0)) = List.replicate (n * 2) (.int .i64 0)
  | 0 => rfl
  | n + 1 => by
    have e : flatS (List.replicate (n + 1) (0, 0)) = shv (0, 0) ++ flatS (List.replicate n (0, 0)) := by simp [flatS, List.replicate_succ]
    rw [e, flatS_zero n, show (n + 1) * 2 = n * 2 + 1 + 1 by omega, List.replicate_succ, List.replicate_succ]
    rfl
theorem zc_shift (W : World) (n : Nat) (t : TypeId) : ZC (W.alloc (.cells (madeCells #[.int .i64 0, .int .i64 0] (n * 2)) t)) W.heap.size (flatS (List.replicate n (0, 0))) := by
  rw [made_two, flatS_zero]
  exact zc_new _ _ _
theorem mk_shift (n : Nat) (h : n ≤ 1000) (W : World) : (Instr.makeSlice 44 (.int .i64 (n : Int)) (.int .i64 (n : Int))).run Try.prog W = .ok (.slice (some ⟨W.heap.size, 0, none⟩) n n) (W.alloc (.cells (madeCells #[.int .i64 0, .int .i64 0] (n * 2)) 50)) := by
  obtain ⟨i0, hi, hz0, hz1, hz2⟩ := info_parts info_shiftC
  have r := run_make (P := Try.prog) W 44 50 i0 _ Try.underlying44 hi hz0 .i64 .i64 (n : Int) (n : Int) (by omega) (Int.le_refl _) (by rw [hz2]; omega) (by omega)
  rw [hz1, Int.toNat_natCast] at r
  exact r
theorem sq_shift {w : World} {g cap n : Nat} {D : List Sh} (h : ZC w g (flatS D)) (hn : D.length = n) : Sq shv 2 w (.slice (some ⟨g, 0, none⟩) n cap) D := by
  subst hn
  refine ⟨_, cap, rfl, fun k x hx => ⟨g, 0, rfl, fun i u hu => ?_⟩⟩
  have hi : i < 2 := by
    have := (List.getElem?_eq_some_iff.1 hu).1
    rwa [shv_len] at this
  rw [Nat.zero_add]
  refine h.i ?_
  rw [← hu]
  exact cat_get shv_len D k x hx i hi
theorem shfL_nil (L : List Bd) : shfL L [] = List.replicate L.length (0, 0) := by
  unfold shfL
  rw [show shfB L [] = fun _ => (0, 0) from rfl, List.map_const']
theorem shfL_at {L : List Bd} {C : List Ct} {i : Nat} {x : Bd} (h : L[i]? = some x) : (shfL L C)[i]? = some (shfB L C x) := by
  unfold shfL
  rw [List.getElem?_map, h]
  rfl
/-- The shifts behind a further contact. -/
theorem shfL_next {L : List Bd} {C : List Ct} {c : Ct} (hA : Asc L) {ja jb : Nat} {a b : Bd} (ha : L[ja]? = some a) (hb : L[jb]? = some b) (ka : a.k = c.lo) (kb : b.k = c.hi) (hne : ja ≠ jb) (la : look L c.lo = some a) (lb : look L c.hi = some b) :
    ((shfL L C).set ja ((shfB L C a).1 - shI c.dp a b a.m * c.nx / 65536, (shfB L C a).2 - shI c.dp a b a.m * c.ny / 65536)).set jb ((shfB L C b).1 + shI c.dp a b b.m * c.nx / 65536, (shfB L C b).2 + shI c.dp a b b.m * c.ny / 65536) = shfL L (C ++ [c]) := by
  have key : ∀ (i j : Nat) (x y : Bd), L[i]? = some x → L[j]? = some y → x.k = y.k → i = j := fun i j x y hx hy e => by
    rcases Nat.lt_trichotomy i j with q | q | q
    · have := asc_lt hA hx hy q; omega
    · exact q
    · have := asc_lt hA hy hx q; omega
  have one : ∀ (f : Ct → Int) x, shfI f L (C ++ [c]) x = shfI f L C x + conS f L x c := fun f x => by
    rw [shf_app]
    show _ + (conS f L x c + 0) = _
    omega
  have la' : ja < L.length := (List.getElem?_eq_some_iff.1 ha).1
  have lb' : jb < L.length := (List.getElem?_eq_some_iff.1 hb).1
  have hk : c.lo ≠ c.hi := fun e => hne (key ja jb a b ha hb (by omega))
  have hl : ∀ D, (shfL L D).length = L.length := fun D => by unfold shfL; rw [List.length_map]
  refine List.ext_getElem? fun i => ?_
  by_cases q : i = jb
  · subst q
    rw [List.getElem?_set_self (by rw [List.length_set, hl]; exact lb'), shfL_at hb]
    unfold shfB
    have n1 : ¬ c.lo = b.k := by omega
    rw [one, one, conS_at la lb, conS_at la lb, if_neg n1, if_neg n1, if_pos kb.symm, if_pos kb.symm]
  · rw [List.getElem?_set_ne (fun e => q e.symm)]
    by_cases p : i = ja
    · subst p
      rw [List.getElem?_set_self (by rw [hl]; exact la'), shfL_at ha]
      unfold shfB
      rw [one, one, conS_at la lb, conS_at la lb, if_pos ka.symm, if_pos ka.symm]
      rfl
    · rw [List.getElem?_set_ne (fun e => p e.symm)]
      cases hx : L[i]? with
      | none => unfold shfL; rw [List.getElem?_map, List.getElem?_map, hx]; rfl
      | some x =>
        rw [shfL_at hx, shfL_at hx]
        unfold shfB
        have n1 : ¬ c.lo = x.k := fun e => p (key i ja x a hx ha (by omega))
        have n2 : ¬ c.hi = x.k := fun e => q (key i jb x b hx hb (by omega))
        rw [one, one, conS_at la lb, conS_at la lb, if_neg n1, if_neg n1, if_neg n2, if_neg n2, Int.add_zero, Int.add_zero]
set_option maxRecDepth 100000 in
set_option maxHeartbeats 8000000 in
theorem cshf : CSf := fun v L l C w hv hl A => by
  obtain ⟨base, cap, rfl⟩ := hv.shape
  obtain ⟨bc, cc, rfl, hc⟩ := hl
  have HC := Lib.hid hc
  have HV := Lib.hid hv
  have HA := Lib.hid A
  have h40 := A.vw.len
  have hfew := A.few
  have FND : Hid (∀ (key : Int) (j : Nat) (x : Bd), lessK L key = j → look L key = some x → ∀ w', Kep w.heap.size w w' → Calls Try.prog 27 #[.slice base L.length cap, .int .u32 key] w' fun e w'' => e = .returned (.tuple #[.int .i64 (j : Int), .bool true]) ∧ Kep w'.heap.size w' w'') := Lib.hid fun key j x h1 h2 w' g => by
    have := vfind_some base cap L key w' (hv.kep g) (by omega) A.vw.asc
    rw [h1, h2] at this
    exact this
  have hS0 := shfL_nil L
  clear hc hv A
  obtain ⟨D0, hD0⟩ : ∃ D, D = shfL L [] := ⟨_, rfl⟩
  rw [← hD0] at hS0
  have HD0 := Lib.hid hD0
  clear hD0
  generalize hnl : L.length = n at *
  have HN := Lib.hid hnl
  have HS0 := Lib.hid hS0
  generalize hnc : C.length = nc at *
  have HNC := Lib.hid hnc
  clear hnl hnc hS0
  have hmk := mk_shift n (by omega)
  have hmf : ∀ (fn : Fn) (first cap : Array Value) (w : World), (Instr.makeFunc fn first cap).run Try.prog w = .ok (.func fn first cap) w := fun _ _ _ _ => rfl
  go_enter Try.func18, Try.ntmps18
  go_upto_region 1 with fail
  go_cut [5] (fun s5 wx => ∃ tb ga, s5 = .pointer (some ⟨tb, 0, none⟩) ∧ Hid (ZC wx tb [.slice (some ⟨ga, 0, none⟩) n n] ∧ SX w wx wx ga D0 ∧ tb ≠ ga))
  case first =>
    go_wp2_with fail
    go_meet
    refine ⟨w.heap.size + 1, w.heap.size, by first | rfl | simp, Lib.hid ⟨zc_new' _ _ _ (by first | rfl | simp), ⟨kep_more (kep_more (Kep.refl _ _) _) _, .refl _ _ _, Nat.le_refl _, ?_⟩, by omega⟩⟩
    rw [HS0.out]
    exact (zc_shift w n _).more _
  case rest =>
    obtain ⟨tb, ga, rfl, HT⟩ := hcut
    have nt := HT.out.2.2
    have ht0 : Hid (ZC wc tb [.slice (some ⟨ga, 0, none⟩) n n] ∧ SX w wc wc ga D0) := Lib.hid ⟨HT.out.1, HT.out.2.1⟩
    clear HT hmk HS0
    go_wp2_with fail
    go_loopw [18] (fun i wr => ∃ k : Nat, k ≤ nc ∧ i = .int .i64 k ∧ Hid (ZC wr tb [.slice (some ⟨ga, 0, none⟩) n n] ∧ SX w wr wr ga (shfL L (C.take k)))) (fun i _ => nc - (RowKit.intOf i).toNat)
    case atStart => exact ⟨0, by omega, rfl, by rw [List.take_zero, ← HD0.out]; exact ht0⟩
    case round =>
      obtain ⟨k, hk, rfl, HP⟩ := hrel
      clear ht0 HD0
      by_cases hlt : k < nc
      · have hb : C[k]? = some (C[k]'(by rw [HNC.out]; exact hlt)) := List.getElem?_eq_getElem _
        generalize C[k]'(by rw [HNC.out]; exact hlt) = c at hb
        obtain ⟨gc, oc, rfl, q⟩ := HC.out k c hb
        have hrc := HA.out.rg c (List.mem_of_getElem? hb)
        have HVB := HA.out.vb
        obtain ⟨x, hx⟩ := Option.isSome_iff_exists.1 hrc.lo
        obtain ⟨y, hy⟩ := Option.isSome_iff_exists.1 hrc.hi
        have mx := look_some hx
        have my := look_some hy
        obtain ⟨ja, pa, ra, la⟩ := at_of_mem HA.out.vw.asc mx.1
        obtain ⟨jb, pb, rb, lb⟩ := at_of_mem HA.out.vw.asc my.1
        rw [mx.2] at ra la
        rw [my.2] at rb lb
        have hclt := hrc.lt
        have hne : ja ≠ jb := fun e => by
          rw [e, pb] at pa
          injection pa with pa
          rw [pa] at my
          have := mx.2
          have := my.2
          omega
        have vx := HVB x mx.1
        have vy := HVB y my.1
        have FL := Lib.hid (FND.out c.lo ja x ra la)
        have FH := Lib.hid (FND.out c.hi jb y rb lb)
        have S1 := Lib.hid (csh_ok (lo := c.lo) (hi := c.hi) (nx := c.nx) (ny := c.ny) false vx vy hrc.dp)
        have S2 := Lib.hid (csh_ok (lo := c.lo) (hi := c.hi) (nx := c.nx) (ny := c.ny) true vx vy hrc.dp)
        rw [if_neg (by simp)] at S1
        rw [if_pos rfl] at S2
        have sb := sh_bd hrc.dp vx vy
        have E := Lib.hid (shfL_next (C := C.take k) HA.out.vw.asc pa pb mx.2 my.2 hne hx hy)
        have hC : ∀ c ∈ C.take k, RsC L c := fun c hc => HA.out.rg c (List.mem_of_mem_take hc)
        have hCl : (C.take k).length ≤ 100 := by rw [List.length_take]; omega
        have hAA : ∀ x ∈ L, look L x.k = some x := fun x hx => look_mem HA.out.vw.asc.once hx
        have b1 := shf_bd (f := (·.nx)) hAA HVB mx.1 hC (fun c h => (hC c h).nx) hCl
        have b2 := shf_bd (f := (·.ny)) hAA HVB mx.1 hC (fun c h => (hC c h).ny) hCl
        have b3 := shf_bd (f := (·.nx)) hAA HVB my.1 hC (fun c h => (hC c h).nx) hCl
        have b4 := shf_bd (f := (·.ny)) hAA HVB my.1 hC (fun c h => (hC c h).ny) hCl
        have q1 := (shn_bd sb.1 hrc.nx).2
        have q2 := (shn_bd sb.1 hrc.ny).2
        have q3 := (shn_bd sb.2 hrc.nx).2
        have q4 := (shn_bd sb.2 hrc.ny).2
        have ax := shfL_at (C := C.take k) pa
        have ay := shfL_at (C := C.take k) pb
        have hdl : (shfL L (C.take k)).length = n := by unfold shfL; rw [List.length_map]; exact HN.out
        obtain ⟨s1, hs1⟩ : ∃ s, s = shI c.dp x y x.m := ⟨_, rfl⟩
        obtain ⟨s2, hs2⟩ : ∃ s, s = shI c.dp x y y.m := ⟨_, rfl⟩
        rw [← hs1] at S1 E sb q1 q2
        rw [← hs2] at S2 E sb q3 q4
        have K1 := cfr_ok (n := s1) (p := c.nx) (by omega) hrc.nx
        have K2 := cfr_ok (n := s1) (p := c.ny) (by omega) hrc.ny
        have K3 := cfr_ok (n := s2) (p := c.nx) (by omega) hrc.nx
        have K4 := cfr_ok (n := s2) (p := c.ny) (by omega) hrc.ny
        generalize hP1 : ((shfB L (C.take k) x).1 - s1 * c.nx / 65536, (shfB L (C.take k) x).2 - s1 * c.ny / 65536) = p1 at E
        generalize hP2 : ((shfB L (C.take k) y).1 + s2 * c.nx / 65536, (shfB L (C.take k) y).2 + s2 * c.ny / 65536) = p2 at E
        have P1 := Lib.hid (fun (w' : World) (cb : Nat) (n2 : cb ≠ ga) (h : SX w w' w' ga (shfL L (C.take k))) ht hx hy => cpush (n := n) (ca := n) (tb := tb) (cb := cb) (sg := -1) (nx := c.nx) (ny := c.ny) (a := (shfB L (C.take k) x).1 - s1 * c.nx / 65536) (b := (shfB L (C.take k) x).2 - s1 * c.ny / 65536) (sx := -(s1 * c.nx / 65536)) (sy := -(s1 * c.ny / 65536)) h ax hdl ht hx hy nt n2 K1 K2 (by rw [IntKind.wrap_i64]; omega) (by rw [IntKind.wrap_i64]; unfold shfB; omega) (by rw [IntKind.wrap_i64]; omega) (by rw [IntKind.wrap_i64]; unfold shfB; omega))
        rw [hP1] at P1
        have P2 := Lib.hid (fun (w' : World) (cb : Nat) (n2 : cb ≠ ga) (h : SX w w' w' ga ((shfL L (C.take k)).set ja p1)) ht hx hy => cpush (n := n) (ca := n) (tb := tb) (cb := cb) (sg := 1) (nx := c.nx) (ny := c.ny) (a := (shfB L (C.take k) y).1 + s2 * c.nx / 65536) (b := (shfB L (C.take k) y).2 + s2 * c.ny / 65536) (sx := s2 * c.nx / 65536) (sy := s2 * c.ny / 65536) h (by rw [List.getElem?_set_ne hne]; exact ay) (by rw [List.length_set]; exact hdl) ht hx hy nt n2 K3 K4 (by rw [IntKind.wrap_i64]; omega) (by rw [IntKind.wrap_i64]; unfold shfB; omega) (by rw [IntKind.wrap_i64]; omega) (by rw [IntKind.wrap_i64]; unfold shfB; omega))
        rw [hP2, E.out] at P2
        have TK : Hid (shfL L (C.take (k + 1)) = shfL L (C.take k ++ [c])) := Lib.hid (by rw [List.take_add_one, hb]; rfl)
        obtain ⟨gl, off, rfl, qx⟩ := HV.out.at_ pa
        have qy : ∀ q, q < 10 → w.cell? ⟨gl, off + jb * 10 + q, none⟩ = (vals y)[q]? := by
          obtain ⟨_, _, e, q⟩ := HV.out.at_ pb
          injection e with e
          injection e with e1 e2
          subst e1 e2
          exact q
        have HQ := Lib.hid (And.intro qx qy)
        have i0 : (0 : Int) ≤ (ja : Int) := Int.natCast_nonneg _
        have i1 : (ja : Int) < (n : Int) := by have := (List.getElem?_eq_some_iff.1 pa).1; rw [HN.out] at this; omega
        have i2 : (0 : Int) ≤ (jb : Int) := Int.natCast_nonneg _
        have i3 : (jb : Int) < (n : Int) := by have := (List.getElem?_eq_some_iff.1 pb).1; rw [HN.out] at this; omega
        have j0 : (0 : Int) ≤ (k : Int) := Int.natCast_nonneg _
        have j1 : (k : Int) < (nc : Int) := by omega
        have kp := HP.out.2.kep
        have u0 : wr.cell? ⟨gc, oc + k * 5, none⟩ = some (.int .u32 c.lo) := kp.all (q 0 _ rfl)
        have u1 : wr.cell? ⟨gc, oc + k * 5 + 1, none⟩ = some (.int .u32 c.hi) := kp.all (q 1 _ rfl)
        have u2 : wr.cell? ⟨gc, oc + k * 5 + 2, none⟩ = some (.int .i32 c.nx) := kp.all (q 2 _ rfl)
        have u3 : wr.cell? ⟨gc, oc + k * 5 + 3, none⟩ = some (.int .i32 c.ny) := kp.all (q 3 _ rfl)
        have u4 : wr.cell? ⟨gc, oc + k * 5 + 4, none⟩ = some (.int .i32 c.dp) := kp.all (q 4 _ rfl)
        have hgl := HP.out.2.z.lt
        have hwr := HP.out.1.lt
        clear hb q hrc HVB hx hy mx my pa ra la pb rb lb hclt hne vx vy sb E hC hCl hAA b1 b2 b3 b4 q1 q2 q3 q4 ax ay hdl hs1 hs2 K1 K2 K3 K4 hP1 hP2 qx qy
        generalize shfL L (C.take k) = D at *
        generalize shfL L (C.take k ++ [c]) = D2 at *
        go_upto_region 9 with (first
          | ((with_reducible refine (FL.out _ (kep_more kp _)).mono ?_); rintro e w1 ⟨rfl, g1⟩
             have Zc : ZC w1 (wr.heap.size) [.int .u32 c.lo, .int .u32 c.hi, .int .i32 c.nx, .int .i32 c.ny, .int .i32 c.dp] := ZC.kep (zc_new' _ _ _ (by first | rfl | simp)) g1
             have gg := kep_next (kep_more (Kep.refl _ _) _) g1
             have c0 : w1.cell? ⟨wr.heap.size, 0, none⟩ = some (.int .u32 c.lo) := Zc.i (i := 0) rfl
             have c1 : w1.cell? ⟨wr.heap.size, 1, none⟩ = some (.int .u32 c.hi) := Zc.i (i := 1) rfl
             have c2 : w1.cell? ⟨wr.heap.size, 2, none⟩ = some (.int .i32 c.nx) := Zc.i (i := 2) rfl
             have c3 : w1.cell? ⟨wr.heap.size, 3, none⟩ = some (.int .i32 c.ny) := Zc.i (i := 3) rfl
             have c4 : w1.cell? ⟨wr.heap.size, 4, none⟩ = some (.int .i32 c.dp) := Zc.i (i := 4) rfl
             have zc := Zc.lt)
          | ((with_reducible refine (FH.out _ (kp.trans (gg.mono kp.size))).mono ?_); rintro e w2 ⟨rfl, g2⟩
             replace gg := kep_next gg g2
             replace Zc := Zc.kep g2))
        clear u0 u1 u2 u3 u4 c0 c1 c2 c3 c4 zc
        have n2 : wr.heap.size ≠ ga := by omega
        have HXW : Hid (SX w w2 w2 ga D) := Lib.hid (HP.out.2.on gg).start
        have ZT : Hid (ZC w2 tb [.slice (some ⟨ga, 0, none⟩) n n]) := Lib.hid (HP.out.1.kep gg)
        replace gg := kp.trans (gg.mono kp.size)
        clear HP kp hgl hwr
        generalize wr.heap.size = cb at *
        have c0 : w2.cell? ⟨cb, 0, none⟩ = some (.int .u32 c.lo) := Zc.i (i := 0) rfl
        have c1 : w2.cell? ⟨cb, 1, none⟩ = some (.int .u32 c.hi) := Zc.i (i := 1) rfl
        have c2 : w2.cell? ⟨cb, 2, none⟩ = some (.int .i32 c.nx) := Zc.i (i := 2) rfl
        have c3 : w2.cell? ⟨cb, 3, none⟩ = some (.int .i32 c.ny) := Zc.i (i := 3) rfl
        have c4 : w2.cell? ⟨cb, 4, none⟩ = some (.int .i32 c.dp) := Zc.i (i := 4) rfl
        have x0 : w2.cell? ⟨gl, off + ja * 10, none⟩ = some (.int .u32 x.k) := gg.all (HQ.out.1 0 (by decide))
        have x1 : w2.cell? ⟨gl, off + ja * 10 + 1, none⟩ = some (.int .i32 x.r) := gg.all (HQ.out.1 1 (by decide))
        have x2 : w2.cell? ⟨gl, off + ja * 10 + 2, none⟩ = some (.int .i32 x.ax) := gg.all (HQ.out.1 2 (by decide))
        have x3 : w2.cell? ⟨gl, off + ja * 10 + 3, none⟩ = some (.int .i32 x.ay) := gg.all (HQ.out.1 3 (by decide))
        have x4 : w2.cell? ⟨gl, off + ja * 10 + 4, none⟩ = some (.int .i32 x.m) := gg.all (HQ.out.1 4 (by decide))
        have x5 : w2.cell? ⟨gl, off + ja * 10 + 5, none⟩ = some (.int .i32 x.o) := gg.all (HQ.out.1 5 (by decide))
        have x6 : w2.cell? ⟨gl, off + ja * 10 + 6, none⟩ = some (.int .i32 x.px) := gg.all (HQ.out.1 6 (by decide))
        have x7 : w2.cell? ⟨gl, off + ja * 10 + 7, none⟩ = some (.int .i32 x.py) := gg.all (HQ.out.1 7 (by decide))
        have x8 : w2.cell? ⟨gl, off + ja * 10 + 8, none⟩ = some (.int .i32 x.vx) := gg.all (HQ.out.1 8 (by decide))
        have x9 : w2.cell? ⟨gl, off + ja * 10 + 9, none⟩ = some (.int .i32 x.vy) := gg.all (HQ.out.1 9 (by decide))
        have y0 : w2.cell? ⟨gl, off + jb * 10, none⟩ = some (.int .u32 y.k) := gg.all (HQ.out.2 0 (by decide))
        have y1 : w2.cell? ⟨gl, off + jb * 10 + 1, none⟩ = some (.int .i32 y.r) := gg.all (HQ.out.2 1 (by decide))
        have y2 : w2.cell? ⟨gl, off + jb * 10 + 2, none⟩ = some (.int .i32 y.ax) := gg.all (HQ.out.2 2 (by decide))
        have y3 : w2.cell? ⟨gl, off + jb * 10 + 3, none⟩ = some (.int .i32 y.ay) := gg.all (HQ.out.2 3 (by decide))
        have y4 : w2.cell? ⟨gl, off + jb * 10 + 4, none⟩ = some (.int .i32 y.m) := gg.all (HQ.out.2 4 (by decide))
        have y5 : w2.cell? ⟨gl, off + jb * 10 + 5, none⟩ = some (.int .i32 y.o) := gg.all (HQ.out.2 5 (by decide))
        have y6 : w2.cell? ⟨gl, off + jb * 10 + 6, none⟩ = some (.int .i32 y.px) := gg.all (HQ.out.2 6 (by decide))
        have y7 : w2.cell? ⟨gl, off + jb * 10 + 7, none⟩ = some (.int .i32 y.py) := gg.all (HQ.out.2 7 (by decide))
        have y8 : w2.cell? ⟨gl, off + jb * 10 + 8, none⟩ = some (.int .i32 y.vx) := gg.all (HQ.out.2 8 (by decide))
        have y9 : w2.cell? ⟨gl, off + jb * 10 + 9, none⟩ = some (.int .i32 y.vy) := gg.all (HQ.out.2 9 (by decide))
        clear Zc
        refine wp_region_noPanic ?_
        refine wp_region_held_drew (S := (fun w' => w'.cell? ⟨cb, 0, none⟩ = some (.int .u32 c.lo) ∧ w'.cell? ⟨cb, 1, none⟩ = some (.int .u32 c.hi) ∧ w'.cell? ⟨cb, 2, none⟩ = some (.int .i32 c.nx) ∧ w'.cell? ⟨cb, 3, none⟩ = some (.int .i32 c.ny) ∧ w'.cell? ⟨cb, 4, none⟩ = some (.int .i32 c.dp) ∧ w'.cell? ⟨gl, off + ja * 10, none⟩ = some (.int .u32 x.k) ∧ w'.cell? ⟨gl, off + ja * 10 + 1, none⟩ = some (.int .i32 x.r) ∧ w'.cell? ⟨gl, off + ja * 10 + 2, none⟩ = some (.int .i32 x.ax) ∧ w'.cell? ⟨gl, off + ja * 10 + 3, none⟩ = some (.int .i32 x.ay) ∧ w'.cell? ⟨gl, off + ja * 10 + 4, none⟩ = some (.int .i32 x.m) ∧ w'.cell? ⟨gl, off + ja * 10 + 5, none⟩ = some (.int .i32 x.o) ∧ w'.cell? ⟨gl, off + ja * 10 + 6, none⟩ = some (.int .i32 x.px) ∧ w'.cell? ⟨gl, off + ja * 10 + 7, none⟩ = some (.int .i32 x.py) ∧ w'.cell? ⟨gl, off + ja * 10 + 8, none⟩ = some (.int .i32 x.vx) ∧ w'.cell? ⟨gl, off + ja * 10 + 9, none⟩ = some (.int .i32 x.vy) ∧ w'.cell? ⟨gl, off + jb * 10, none⟩ = some (.int .u32 y.k) ∧ w'.cell? ⟨gl, off + jb * 10 + 1, none⟩ = some (.int .i32 y.r) ∧ w'.cell? ⟨gl, off + jb * 10 + 2, none⟩ = some (.int .i32 y.ax) ∧ w'.cell? ⟨gl, off + jb * 10 + 3, none⟩ = some (.int .i32 y.ay) ∧ w'.cell? ⟨gl, off + jb * 10 + 4, none⟩ = some (.int .i32 y.m) ∧ w'.cell? ⟨gl, off + jb * 10 + 5, none⟩ = some (.int .i32 y.o) ∧ w'.cell? ⟨gl, off + jb * 10 + 6, none⟩ = some (.int .i32 y.px) ∧ w'.cell? ⟨gl, off + jb * 10 + 7, none⟩ = some (.int .i32 y.py) ∧ w'.cell? ⟨gl, off + jb * 10 + 8, none⟩ = some (.int .i32 y.vx) ∧ w'.cell? ⟨gl, off + jb * 10 + 9, none⟩ = some (.int .i32 y.vy) ∧ Kep w.heap.size w w')) (by kernel_rfl) (⟨by rw [World.cell?_drew]; exact c0, by rw [World.cell?_drew]; exact c1, by rw [World.cell?_drew]; exact c2, by rw [World.cell?_drew]; exact c3, by rw [World.cell?_drew]; exact c4, by rw [World.cell?_drew]; exact x0, by rw [World.cell?_drew]; exact x1, by rw [World.cell?_drew]; exact x2, by rw [World.cell?_drew]; exact x3, by rw [World.cell?_drew]; exact x4, by rw [World.cell?_drew]; exact x5, by rw [World.cell?_drew]; exact x6, by rw [World.cell?_drew]; exact x7, by rw [World.cell?_drew]; exact x8, by rw [World.cell?_drew]; exact x9, by rw [World.cell?_drew]; exact y0, by rw [World.cell?_drew]; exact y1, by rw [World.cell?_drew]; exact y2, by rw [World.cell?_drew]; exact y3, by rw [World.cell?_drew]; exact y4, by rw [World.cell?_drew]; exact y5, by rw [World.cell?_drew]; exact y6, by rw [World.cell?_drew]; exact y7, by rw [World.cell?_drew]; exact y8, by rw [World.cell?_drew]; exact y9, kep_drew gg⟩) (fun hH => ?_)
        clear c0 c1 c2 c3 c4 x0 x1 x2 x3 x4 x5 x6 x7 x8 x9 y0 y1 y2 y3 y4 y5 y6 y7 y8 y9 gg
        replace HXW := Lib.hid (HXW.out.on (kep_drew (Kep.refl _ _))).start
        replace ZT := Lib.hid ZT.out.drew
        generalize w2.drew = Y0 at *
        refine rtk 0 (oi := ⟨some 45, .move (.tmp 12), _, _, _, none⟩) (v := ?_) rfl ?_ hH ?_
        rotate_left
        · (intro w hSw; (try dsimp only at hSw); go_simp; (try with_reducible rfl))
        refine rtk 1 (oi := ⟨some 46, .move (.tmp 8), _, _, _, none⟩) (v := ?_) rfl ?_ hH ?_
        rotate_left
        · (intro w hSw; (try dsimp only at hSw); go_simp; (try with_reducible rfl))
        refine rtk 2 (oi := ⟨some 47, .load 37 (.tmp 7), _, _, _, none⟩) (v := ?_) rfl ?_ hH ?_
        rotate_left
        · (intro w hSw; (try dsimp only at hSw); go_simp; (try with_reducible rfl))
        try simp only [Act.put, List.setIfInBounds_toArray, List.set_cons_zero, List.set_cons_succ]
        refine rtk 3 (oi := ⟨some 48, .move (.tmp 0), _, _, _, none⟩) (v := ?_) rfl ?_ hH ?_
        rotate_left
        · (intro w hSw; (try dsimp only at hSw); go_simp; (try with_reducible rfl))
        refine rtk 4 (oi := ⟨some 49, .move (.tmp 8), _, _, _, none⟩) (v := ?_) rfl ?_ hH ?_
        rotate_left
        · (intro w hSw; (try dsimp only at hSw); go_simp; (try with_reducible rfl))
        refine rtk 5 (oi := ⟨some 50, .indexAddr 22 (.tmp 48) (.tmp 49), _, _, _, none⟩) (v := ?_) rfl ?_ hH ?_
        rotate_left
        · (intro w hSw; (try dsimp only at hSw); go_simp; (try with_reducible rfl))
        refine rtk 6 (oi := ⟨some 51, .load 32 (.tmp 50), _, _, _, none⟩) (v := ?_) rfl ?_ hH ?_
        rotate_left
        · (intro w hSw; (try dsimp only at hSw); go_simp; (try with_reducible rfl))
        try simp only [Act.put, List.setIfInBounds_toArray, List.set_cons_zero, List.set_cons_succ]
        refine rtk 7 (oi := ⟨some 52, .move (.tmp 0), _, _, _, none⟩) (v := ?_) rfl ?_ hH ?_
        rotate_left
        · (intro w hSw; (try dsimp only at hSw); go_simp; (try with_reducible rfl))
        refine rtk 8 (oi := ⟨some 53, .move (.tmp 10), _, _, _, none⟩) (v := ?_) rfl ?_ hH ?_
        rotate_left
        · (intro w hSw; (try dsimp only at hSw); go_simp; (try with_reducible rfl))
        refine rtk 9 (oi := ⟨some 54, .indexAddr 22 (.tmp 52) (.tmp 53), _, _, _, none⟩) (v := ?_) rfl ?_ hH ?_
        rotate_left
        · (intro w hSw; (try dsimp only at hSw); go_simp; (try with_reducible rfl))
        refine rtk 10 (oi := ⟨some 55, .load 32 (.tmp 54), _, _, _, none⟩) (v := ?_) rfl ?_ hH ?_
        rotate_left
        · (intro w hSw; (try dsimp only at hSw); go_simp; (try with_reducible rfl))
        try simp only [Act.put, List.setIfInBounds_toArray, List.set_cons_zero, List.set_cons_succ]
        refine wpAnyH_ready (rs := [11]) (by kernel_rfl) (by simp) ?_
        refine AllReadyH.cons (o := ⟨some 56, .call { callee := .value (.func 14), args := #[.tmp 47, .tmp 51, .tmp 55, .const (Value.bool false)], argTypes := #[37, 32, 32, 4] }, _, _, _, none⟩) rfl (fun K hK => ?_) AllReadyH.nil
        go_simp
        (with_reducible refine (S1.out _).mono ?_); rintro e v11 ⟨rfl, g⟩
        replace HXW := Lib.hid (HXW.out.on g).start
        replace ZT := Lib.hid (ZT.out.kep g)
        refine hK.out _ _ (by (try dsimp only); obtain ⟨c0, c1, c2, c3, c4, x0, x1, x2, x3, x4, x5, x6, x7, x8, x9, y0, y1, y2, y3, y4, y5, y6, y7, y8, y9, gg⟩ := id hH; exact ⟨g.all c0, g.all c1, g.all c2, g.all c3, g.all c4, g.all x0, g.all x1, g.all x2, g.all x3, g.all x4, g.all x5, g.all x6, g.all x7, g.all x8, g.all x9, g.all y0, g.all y1, g.all y2, g.all y3, g.all y4, g.all y5, g.all y6, g.all y7, g.all y8, g.all y9, kep_next gg g⟩) (fun hH2 => ?_)
        clear g
        clear hK K hH; have hH := hH2; clear hH2
        try simp only [Act.put, List.setIfInBounds_toArray, List.set_cons_zero, List.set_cons_succ]
        refine wpAnyH_ready (rs := [12]) (by kernel_rfl) (by simp) ?_
        refine AllReadyH.cons (o := ⟨some 57, .call { callee := .value (.tmp 45), args := #[.tmp 46, .const (Value.int IntKind.i64 (-1)), .tmp 56], argTypes := #[3, 2, 2] }, _, _, _, none⟩) rfl (fun K hK => ?_) AllReadyH.nil
        obtain ⟨c0, c1, c2, c3, c4, x0, x1, x2, x3, x4, x5, x6, x7, x8, x9, y0, y1, y2, y3, y4, y5, y6, y7, y8, y9, gg⟩ := id hH
        have t0 := ZT.out.i (i := 0) rfl
        go_simp
        (with_reducible refine (P1.out _ _ n2 HXW.out t0 c2 c3).mono ?_); rintro e v12 ⟨rfl, h6⟩
        have ZT2 := Lib.hid (h6.fr.zc nt nt ZT.out)
        have HX2 := Lib.hid h6.start
        have n3 : gl ≠ ga := by have := HXW.out.lg; have := World.block_lt_of_cell? _ _ (HQ.out.1 0 (by decide)); dsimp only at this; omega
        refine hK.out _ _ (by (try dsimp only); exact ⟨h6.fr.cell n2 n2 c0, h6.fr.cell n2 n2 c1, h6.fr.cell n2 n2 c2, h6.fr.cell n2 n2 c3, h6.fr.cell n2 n2 c4, h6.fr.cell n3 n3 x0, h6.fr.cell n3 n3 x1, h6.fr.cell n3 n3 x2, h6.fr.cell n3 n3 x3, h6.fr.cell n3 n3 x4, h6.fr.cell n3 n3 x5, h6.fr.cell n3 n3 x6, h6.fr.cell n3 n3 x7, h6.fr.cell n3 n3 x8, h6.fr.cell n3 n3 x9, h6.fr.cell n3 n3 y0, h6.fr.cell n3 n3 y1, h6.fr.cell n3 n3 y2, h6.fr.cell n3 n3 y3, h6.fr.cell n3 n3 y4, h6.fr.cell n3 n3 y5, h6.fr.cell n3 n3 y6, h6.fr.cell n3 n3 y7, h6.fr.cell n3 n3 y8, h6.fr.cell n3 n3 y9, h6.kep⟩) (fun hH2 => ?_)
        clear ZT HXW t0 h6 n3 c0 c1 c2 c3 c4 x0 x1 x2 x3 x4 x5 x6 x7 x8 x9 y0 y1 y2 y3 y4 y5 y6 y7 y8 y9 gg
        have ZT := ZT2
        have HXW := HX2
        clear ZT2 HX2
        clear hK K hH; have hH := hH2; clear hH2
        try simp only [Act.put, List.setIfInBounds_toArray, List.set_cons_zero, List.set_cons_succ]
        refine wpAnyH_done (by kernel_rfl) ?_ _
        refine NoPanic.normal ?_
        obtain ⟨c0, c1, c2, c3, c4, x0, x1, x2, x3, x4, x5, x6, x7, x8, x9, y0, y1, y2, y3, y4, y5, y6, y7, y8, y9, gg⟩ := hH
        go_upto_region 10 with fail
        refine wp_region_noPanic ?_
        refine wp_region_held_drew (S := (fun w' => w'.cell? ⟨cb, 0, none⟩ = some (.int .u32 c.lo) ∧ w'.cell? ⟨cb, 1, none⟩ = some (.int .u32 c.hi) ∧ w'.cell? ⟨cb, 2, none⟩ = some (.int .i32 c.nx) ∧ w'.cell? ⟨cb, 3, none⟩ = some (.int .i32 c.ny) ∧ w'.cell? ⟨cb, 4, none⟩ = some (.int .i32 c.dp) ∧ w'.cell? ⟨gl, off + ja * 10, none⟩ = some (.int .u32 x.k) ∧ w'.cell? ⟨gl, off + ja * 10 + 1, none⟩ = some (.int .i32 x.r) ∧ w'.cell? ⟨gl, off + ja * 10 + 2, none⟩ = some (.int .i32 x.ax) ∧ w'.cell? ⟨gl, off + ja * 10 + 3, none⟩ = some (.int .i32 x.ay) ∧ w'.cell? ⟨gl, off + ja * 10 + 4, none⟩ = some (.int .i32 x.m) ∧ w'.cell? ⟨gl, off + ja * 10 + 5, none⟩ = some (.int .i32 x.o) ∧ w'.cell? ⟨gl, off + ja * 10 + 6, none⟩ = some (.int .i32 x.px) ∧ w'.cell? ⟨gl, off + ja * 10 + 7, none⟩ = some (.int .i32 x.py) ∧ w'.cell? ⟨gl, off + ja * 10 + 8, none⟩ = some (.int .i32 x.vx) ∧ w'.cell? ⟨gl, off + ja * 10 + 9, none⟩ = some (.int .i32 x.vy) ∧ w'.cell? ⟨gl, off + jb * 10, none⟩ = some (.int .u32 y.k) ∧ w'.cell? ⟨gl, off + jb * 10 + 1, none⟩ = some (.int .i32 y.r) ∧ w'.cell? ⟨gl, off + jb * 10 + 2, none⟩ = some (.int .i32 y.ax) ∧ w'.cell? ⟨gl, off + jb * 10 + 3, none⟩ = some (.int .i32 y.ay) ∧ w'.cell? ⟨gl, off + jb * 10 + 4, none⟩ = some (.int .i32 y.m) ∧ w'.cell? ⟨gl, off + jb * 10 + 5, none⟩ = some (.int .i32 y.o) ∧ w'.cell? ⟨gl, off + jb * 10 + 6, none⟩ = some (.int .i32 y.px) ∧ w'.cell? ⟨gl, off + jb * 10 + 7, none⟩ = some (.int .i32 y.py) ∧ w'.cell? ⟨gl, off + jb * 10 + 8, none⟩ = some (.int .i32 y.vx) ∧ w'.cell? ⟨gl, off + jb * 10 + 9, none⟩ = some (.int .i32 y.vy) ∧ Kep w.heap.size w w')) (by kernel_rfl) (⟨by rw [World.cell?_drew]; exact c0, by rw [World.cell?_drew]; exact c1, by rw [World.cell?_drew]; exact c2, by rw [World.cell?_drew]; exact c3, by rw [World.cell?_drew]; exact c4, by rw [World.cell?_drew]; exact x0, by rw [World.cell?_drew]; exact x1, by rw [World.cell?_drew]; exact x2, by rw [World.cell?_drew]; exact x3, by rw [World.cell?_drew]; exact x4, by rw [World.cell?_drew]; exact x5, by rw [World.cell?_drew]; exact x6, by rw [World.cell?_drew]; exact x7, by rw [World.cell?_drew]; exact x8, by rw [World.cell?_drew]; exact x9, by rw [World.cell?_drew]; exact y0, by rw [World.cell?_drew]; exact y1, by rw [World.cell?_drew]; exact y2, by rw [World.cell?_drew]; exact y3, by rw [World.cell?_drew]; exact y4, by rw [World.cell?_drew]; exact y5, by rw [World.cell?_drew]; exact y6, by rw [World.cell?_drew]; exact y7, by rw [World.cell?_drew]; exact y8, by rw [World.cell?_drew]; exact y9, kep_drew gg⟩) (fun hH => ?_)
        clear c0 c1 c2 c3 c4 x0 x1 x2 x3 x4 x5 x6 x7 x8 x9 y0 y1 y2 y3 y4 y5 y6 y7 y8 y9 gg
        replace HXW := Lib.hid (HXW.out.on (kep_drew (Kep.refl _ _))).start
        replace ZT := Lib.hid ZT.out.drew
        generalize v12.drew = Y1 at *
        refine rtk 0 (oi := ⟨some 58, .move (.tmp 12), _, _, _, none⟩) (v := ?_) rfl ?_ hH ?_
        rotate_left
        · (intro w hSw; (try dsimp only at hSw); go_simp; (try with_reducible rfl))
        refine rtk 1 (oi := ⟨some 59, .move (.tmp 10), _, _, _, none⟩) (v := ?_) rfl ?_ hH ?_
        rotate_left
        · (intro w hSw; (try dsimp only at hSw); go_simp; (try with_reducible rfl))
        refine rtk 2 (oi := ⟨some 60, .load 37 (.tmp 7), _, _, _, none⟩) (v := ?_) rfl ?_ hH ?_
        rotate_left
        · (intro w hSw; (try dsimp only at hSw); go_simp; (try with_reducible rfl))
        try simp only [Act.put, List.setIfInBounds_toArray, List.set_cons_zero, List.set_cons_succ]
        refine rtk 3 (oi := ⟨some 61, .move (.tmp 0), _, _, _, none⟩) (v := ?_) rfl ?_ hH ?_
        rotate_left
        · (intro w hSw; (try dsimp only at hSw); go_simp; (try with_reducible rfl))
        refine rtk 4 (oi := ⟨some 62, .move (.tmp 8), _, _, _, none⟩) (v := ?_) rfl ?_ hH ?_
        rotate_left
        · (intro w hSw; (try dsimp only at hSw); go_simp; (try with_reducible rfl))
        refine rtk 5 (oi := ⟨some 63, .indexAddr 22 (.tmp 61) (.tmp 62), _, _, _, none⟩) (v := ?_) rfl ?_ hH ?_
        rotate_left
        · (intro w hSw; (try dsimp only at hSw); go_simp; (try with_reducible rfl))
        refine rtk 6 (oi := ⟨some 64, .load 32 (.tmp 63), _, _, _, none⟩) (v := ?_) rfl ?_ hH ?_
        rotate_left
        · (intro w hSw; (try dsimp only at hSw); go_simp; (try with_reducible rfl))
        try simp only [Act.put, List.setIfInBounds_toArray, List.set_cons_zero, List.set_cons_succ]
        refine rtk 7 (oi := ⟨some 65, .move (.tmp 0), _, _, _, none⟩) (v := ?_) rfl ?_ hH ?_
        rotate_left
        · (intro w hSw; (try dsimp only at hSw); go_simp; (try with_reducible rfl))
        refine rtk 8 (oi := ⟨some 66, .move (.tmp 10), _, _, _, none⟩) (v := ?_) rfl ?_ hH ?_
        rotate_left
        · (intro w hSw; (try dsimp only at hSw); go_simp; (try with_reducible rfl))
        refine rtk 9 (oi := ⟨some 67, .indexAddr 22 (.tmp 65) (.tmp 66), _, _, _, none⟩) (v := ?_) rfl ?_ hH ?_
        rotate_left
        · (intro w hSw; (try dsimp only at hSw); go_simp; (try with_reducible rfl))
        refine rtk 10 (oi := ⟨some 68, .load 32 (.tmp 67), _, _, _, none⟩) (v := ?_) rfl ?_ hH ?_
        rotate_left
        · (intro w hSw; (try dsimp only at hSw); go_simp; (try with_reducible rfl))
        try simp only [Act.put, List.setIfInBounds_toArray, List.set_cons_zero, List.set_cons_succ]
        refine wpAnyH_ready (rs := [11]) (by kernel_rfl) (by simp) ?_
        refine AllReadyH.cons (o := ⟨some 69, .call { callee := .value (.func 14), args := #[.tmp 60, .tmp 64, .tmp 68, .const (Value.bool true)], argTypes := #[37, 32, 32, 4] }, _, _, _, none⟩) rfl (fun K hK => ?_) AllReadyH.nil
        go_simp
        (with_reducible refine (S2.out _).mono ?_); rintro e v21 ⟨rfl, g⟩
        replace HXW := Lib.hid (HXW.out.on g).start
        replace ZT := Lib.hid (ZT.out.kep g)
        refine hK.out _ _ (by (try dsimp only); obtain ⟨c0, c1, c2, c3, c4, x0, x1, x2, x3, x4, x5, x6, x7, x8, x9, y0, y1, y2, y3, y4, y5, y6, y7, y8, y9, gg⟩ := id hH; exact ⟨g.all c0, g.all c1, g.all c2, g.all c3, g.all c4, g.all x0, g.all x1, g.all x2, g.all x3, g.all x4, g.all x5, g.all x6, g.all x7, g.all x8, g.all x9, g.all y0, g.all y1, g.all y2, g.all y3, g.all y4, g.all y5, g.all y6, g.all y7, g.all y8, g.all y9, kep_next gg g⟩) (fun hH2 => ?_)
        clear g
        clear hK K hH; have hH := hH2; clear hH2
        try simp only [Act.put, List.setIfInBounds_toArray, List.set_cons_zero, List.set_cons_succ]
        refine wpAnyH_ready (rs := [12]) (by kernel_rfl) (by simp) ?_
        refine AllReadyH.cons (o := ⟨some 70, .call { callee := .value (.tmp 58), args := #[.tmp 59, .const (Value.int IntKind.i64 1), .tmp 69], argTypes := #[3, 2, 2] }, _, _, _, none⟩) rfl (fun K hK => ?_) AllReadyH.nil
        obtain ⟨c0, c1, c2, c3, c4, x0, x1, x2, x3, x4, x5, x6, x7, x8, x9, y0, y1, y2, y3, y4, y5, y6, y7, y8, y9, gg⟩ := id hH
        have t0 := ZT.out.i (i := 0) rfl
        go_simp
        (with_reducible refine (P2.out _ _ n2 HXW.out t0 c2 c3).mono ?_); rintro e v22 ⟨rfl, h6⟩
        have ZT2 := Lib.hid (h6.fr.zc nt nt ZT.out)
        have HX2 := Lib.hid h6.start
        have n3 : gl ≠ ga := by have := HXW.out.lg; have := World.block_lt_of_cell? _ _ (HQ.out.1 0 (by decide)); dsimp only at this; omega
        refine hK.out _ _ (by (try dsimp only); exact ⟨h6.fr.cell n2 n2 c0, h6.fr.cell n2 n2 c1, h6.fr.cell n2 n2 c2, h6.fr.cell n2 n2 c3, h6.fr.cell n2 n2 c4, h6.fr.cell n3 n3 x0, h6.fr.cell n3 n3 x1, h6.fr.cell n3 n3 x2, h6.fr.cell n3 n3 x3, h6.fr.cell n3 n3 x4, h6.fr.cell n3 n3 x5, h6.fr.cell n3 n3 x6, h6.fr.cell n3 n3 x7, h6.fr.cell n3 n3 x8, h6.fr.cell n3 n3 x9, h6.fr.cell n3 n3 y0, h6.fr.cell n3 n3 y1, h6.fr.cell n3 n3 y2, h6.fr.cell n3 n3 y3, h6.fr.cell n3 n3 y4, h6.fr.cell n3 n3 y5, h6.fr.cell n3 n3 y6, h6.fr.cell n3 n3 y7, h6.fr.cell n3 n3 y8, h6.fr.cell n3 n3 y9, h6.kep⟩) (fun hH2 => ?_)
        clear ZT HXW t0 h6 n3 c0 c1 c2 c3 c4 x0 x1 x2 x3 x4 x5 x6 x7 x8 x9 y0 y1 y2 y3 y4 y5 y6 y7 y8 y9 gg
        have ZT := ZT2
        have HXW := HX2
        clear ZT2 HX2
        clear hK K hH; have hH := hH2; clear hH2
        try simp only [Act.put, List.setIfInBounds_toArray, List.set_cons_zero, List.set_cons_succ]
        refine wpAnyH_done (by kernel_rfl) ?_ _
        refine NoPanic.normal ?_
        clear hH
        go_wp2_with fail
        go_roundw
        case rel => exact ⟨k + 1, by omega, by first | rfl | go_num, Lib.hid ⟨ZT.out, by rw [TK.out]; exact HXW.out⟩⟩
        case measure => simp [RowKit.intOf]; omega
      · have i2 : ¬ (k : Int) < (nc : Int) := by omega
        obtain rfl : k = nc := by omega
        have t0 := HP.out.1.i (i := 0) rfl
        have h9 := HP.out.2
        rw [List.take_of_length_le (Nat.le_of_eq HNC.out)] at h9
        have H9 := Lib.hid h9
        clear h9 HP
        go_wp2_with fail
        go_ret
        exact ⟨_, rfl, ⟨sq_shift H9.out.z (by unfold shfL; rw [List.length_map]; exact HN.out), fun b m c e => by injection e with _ e1 e2; omega⟩, H9.out.kep⟩
end Go.Proofs.Ytlbbacmpdlghaaa
