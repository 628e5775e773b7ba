/-
  Package integrate: transform, Gravity, Move.
-/
import Derived.Test.YtlabeelbbkbkaaaIntOps2
import Derived.Test.YtlabeelbbkbkaaaZa
import Derived.Deep.DeepCutAuto
import Derived.Laws.MakeOwn
import Derived.Laws.OwnMore
import Derived.Deep.QuietTactic
import Derived.BigQuiet
namespace Go.Proofs.Ytlabeelbbkbkaaa
open Go.RowKit Go.Lib

def zeroB : Bd := ⟨0, 0, 0, 0, 0, 0, 0, 0, 0, 0⟩
theorem made_body (n : Nat) : madeCells #[.int .u32 0, .int .i32 0, .int .i32 0, .int .i32 0, .int .i32 0, .int .i32 0, .int .i32 0, .int .i32 0, .int .i32 0, .int .i32 0] (n * 10) = ⟨flat (List.replicate n zeroB)⟩ := by
  refine Array.ext' (List.ext_getElem? fun j => ?_)
  have hl : (flat (List.replicate n zeroB)).length = n * 10 := by
    have := cat_len (f := vals) (n := 10) (fun _ => rfl) (List.replicate n zeroB)
    rw [List.length_replicate] at this
    exact this
  by_cases hj : j < n * 10
  · have e := flat_get (List.replicate n zeroB) (j / 10) zeroB (by rw [List.getElem?_replicate, if_pos (by omega)]) (j % 10) (Nat.mod_lt _ (by decide))
    rw [show j / 10 * 10 + j % 10 = j by omega] at e
    refine Eq.trans ?_ e.symm
    have hi : j % 10 < 10 := Nat.mod_lt _ (by decide)
    simp only [madeCells, Array.getElem?_toList, Array.getElem?_map, Array.getElem?_range, hj, if_true, Option.map_some]
    show some ((⟨vals zeroB⟩ : Array Value)[j % 10]!) = _
    generalize j % 10 = i at hi
    have q : i = 0 ∨ i = 1 ∨ i = 2 ∨ i = 3 ∨ i = 4 ∨ i = 5 ∨ i = 6 ∨ i = 7 ∨ i = 8 ∨ i = 9 := by omega
    rcases q with rfl | rfl | rfl | rfl | rfl | rfl | rfl | rfl | rfl | rfl <;> rfl
  · rw [List.getElem?_eq_none (by simp [madeCells]; omega), List.getElem?_eq_none (by rw [hl]; omega)]
theorem mk_body (n : Nat) (h : n ≤ 1000) (W : World) : (Instr.makeSlice 22 (.int .i64 (n : Int)) (.int .i64 (n : Int))).run Try.prog W = .ok (.slice (some ⟨W.heap.size, 0, none⟩) n n) (W.alloc (.cells (madeCells #[.int .u32 0, .int .i32 0, .int .i32 0, .int .i32 0, .int .i32 0, .int .i32 0, .int .i32 0, .int .i32 0, .int .i32 0, .int .i32 0] (n * 10)) 37)) := by
  obtain ⟨i0, hi, hz0, hz1, hz2⟩ := info_parts info_body
  have r := run_make (P := Try.prog) W 22 37 i0 _ Try.underlying22 hi hz0 .i64 .i64 (n : Int) (n : Int) (by omega) (Int.le_refl _) (by rw [hz2]; omega) (by omega)
  rw [hz1, Int.toNat_natCast] at r
  exact r
theorem zc_body (W : World) (n : Nat) (t : TypeId) : ZC (W.alloc (.cells (madeCells #[.int .u32 0, .int .i32 0, .int .i32 0, .int .i32 0, .int .i32 0, .int .i32 0, .int .i32 0, .int .i32 0, .int .i32 0, .int .i32 0] (n * 10)) t)) W.heap.size (flat (List.replicate n zeroB)) := by
  rw [made_body]
  exact zc_new _ _ _
/-- What is made of a list's first k elements, and nothing yet behind them. -/
def mxB (Y : List Bd) (n k : Nat) : List Bd := Y.take k ++ List.replicate (n - k) zeroB
theorem mx_at {Y : List Bd} {n k : Nat} (hY : Y.length = n) (hk : k < n) : (mxB Y n k)[k]? = some zeroB := by
  unfold mxB
  rw [List.getElem?_append_right (by rw [List.length_take]; omega), List.length_take, Nat.min_eq_left (by omega), Nat.sub_self, List.getElem?_replicate, if_pos (by omega)]
theorem mx_set {Y : List Bd} {n k : Nat} {y : Bd} (hY : Y.length = n) (hk : k < n) (hy : Y[k]? = some y) : (mxB Y n k).set k y = mxB Y n (k + 1) := by
  unfold mxB
  have l : (Y.take k).length = k := by rw [List.length_take]; omega
  rw [List.set_append_right _ _ (by omega), l, Nat.sub_self, List.take_add_one, hy, show n - k = n - (k + 1) + 1 by omega, List.replicate_succ, List.set_cons_zero]
  simp
theorem mx_end {Y : List Bd} {n : Nat} (hY : Y.length = n) : mxB Y n n = Y := by unfold mxB; rw [Nat.sub_self, List.replicate_zero, List.append_nil, List.take_of_length_le (by omega)]
theorem flat_lenI (D : List Bd) : (flat D).length = D.length * 10 := cat_len (f := vals) (n := 10) (fun _ => rfl) D
/-- An element of a row of bodies written. -/
theorem set_put (b : Nat) : ∀ (us : List Value) (o : Nat) (vs : List Value) {w : World}, ZC w b vs → o + us.length ≤ vs.length → ZC (setAll w b o us) b (vs.take o ++ us ++ vs.drop (o + us.length))
  | [], o, vs, _, h, _ => by simpa [setAll] using h
  | u :: us, o, vs, w, h, hl => by
    rw [List.length_cons] at hl
    have := set_put b us (o + 1) _ (h.put (i := o) u (by omega)) (by rw [List.length_set]; omega)
    have e : (vs.set o u).take (o + 1) = vs.take o ++ [u] := by
      rw [List.take_add_one, List.getElem?_set_self (by omega), List.take_set_of_le (Nat.le_refl _)]
      rfl
    have e2 : (vs.set o u).drop (o + 1 + us.length) = vs.drop (o + (us.length + 1)) := by
      rw [List.drop_set_of_lt (by omega), show o + 1 + us.length = o + (us.length + 1) by omega]
    rw [e, e2] at this
    simpa [setAll] using this
theorem flat_mid {D : List Bd} {i : Nat} {y : Bd} (hi : i < D.length) : (flat D).take (i * 10) ++ vals y ++ (flat D).drop (i * 10 + 10) = flat (D.set i y) := by
  have e : D.set i y = D.take i ++ y :: D.drop (i + 1) := by rw [List.set_eq_take_append_cons_drop, if_pos hi]
  have f : ∀ A B : List Bd, flat (A ++ B) = flat A ++ flat B := fun A B => by simp [flat]
  have t : ∀ n, n ≤ D.length → (flat D).take (n * 10) = flat (D.take n) := fun n hn => by
    conv => lhs; rw [← List.take_append_drop n D, f]
    rw [List.take_left' (by rw [flat_lenI, List.length_take]; omega)]
  have d : ∀ n, n ≤ D.length → (flat D).drop (n * 10) = flat (D.drop n) := fun n hn => by
    conv => lhs; rw [← List.take_append_drop n D, f]
    rw [List.drop_left' (by rw [flat_lenI, List.length_take]; omega)]
  have g : flat (y :: D.drop (i + 1)) = vals y ++ flat (D.drop (i + 1)) := by simp [flat]
  rw [e, f, g, t i (by omega), show i * 10 + 10 = (i + 1) * 10 by omega, d (i + 1) (by omega), List.append_assoc]
theorem put_body {w : World} {b i : Nat} {D : List Bd} {y : Bd} (h : ZC w b (flat D)) (hi : i < D.length) : ZC (setAll w b (i * 10) (vals y)) b (flat (D.set i y)) := by
  have := set_put b (vals y) (i * 10) _ h (by rw [flat_lenI]; show i * 10 + 10 ≤ _; omega)
  rw [← flat_mid hi]
  exact this
/-- transform at work: wa the world at its start, ga the block of what it makes, cb the flag's. -/
structure TX (wa w : World) (cb ga : Nat) (z : Bool) (D : List Bd) : Prop where
  fl : Flg wa w cb z
  lg : wa.heap.size ≤ ga
  z : ZC w ga (flat D)
theorem TX.next {wa w w' w'' : World} {cb ga n k : Nat} {z c : Bool} {Y : List Bd} {y : Bd} (h : TX wa w cb ga z (mxB Y n k)) (hn : ga ≠ cb) (g : Kep w.heap.size w w') (q : Flg w' w'' cb c) (hY : Y.length = n) (hk : k < n) (hy : Y[k]? = some y) : TX wa (setAll w'' ga (k * 10) (vals y)) cb ga c (mxB Y n (k + 1)) :=
  ⟨Flg.sets h.lg hn _ _ ((h.fl.kep g).trans q), h.lg, by
    rw [← mx_set hY hk hy]
    exact put_body (q.fr.zc hn hn (h.z.kep g)) (List.getElem?_eq_some_iff.1 (mx_at hY hk)).1⟩
set_option maxRecDepth 100000 in
set_option maxHeartbeats 4000000 in
theorem ytrg {L Y : List Bd} {A : List Bool} {n cb : Nat} {v : Value} {wa : World} (hn : L.length = n) (hm : n ≤ 1000) (hY : Y.length = n) (hA : A.length = n) (hv : ∀ z w, Flg wa w cb z → Lst w v L) (c0 : wa.cell? ⟨cb, 0, none⟩ = some (.bool false)) (f0 : wa.frozen? ⟨cb, 0, none⟩ = false)
    (HE : ∀ (k : Nat) x y c, L[k]? = some x → Y[k]? = some y → A[k]? = some c → ∀ z w, Flg wa w cb z → KEl 24 #[.pointer (some ⟨cb, 0, none⟩)] (k : Int) x y c cb w) :
    Calls Try.prog 23 #[v, .func (.func 24) #[] #[.pointer (some ⟨cb, 0, none⟩)]] wa fun e w' => ∃ v', e = .returned v' ∧ Lst w' v' Y ∧ Flg wa w' cb (A.any id) := by
  obtain ⟨base, cap, rfl⟩ := (hv false wa (.self c0 f0)).shape
  have HL := Lib.hid hv
  have HF := Lib.hid HE
  have HN := Lib.hid hn
  have HY := Lib.hid hY
  have HA := Lib.hid hA
  have FS := Lib.hid (Flg.self c0 f0)
  have hcb := World.block_lt_of_cell? _ _ c0
  dsimp only at hcb
  clear hv HE hY hA c0 f0
  rw [hn]
  clear hn
  have hmk := mk_body n hm
  go_enter Try.func23, Try.ntmps23
  go_upto_region 1 with fail
  go_cut [5] (fun s5 wx => ∃ ga, s5 = .slice (some ⟨ga, 0, none⟩) n n ∧ Hid (TX wa wx cb ga false (mxB Y n 0) ∧ ga ≠ cb))
  case first =>
    go_wp2_with fail
    go_meet
    refine ⟨wa.heap.size, rfl, Lib.hid ⟨⟨FS.out.kep (kep_more (Kep.refl _ _) _), Nat.le_refl _, ?_⟩, by omega⟩⟩
    have e : mxB Y n 0 = List.replicate n zeroB := by unfold mxB; rw [List.take_zero, List.nil_append, Nat.sub_zero]
    rw [e]
    exact zc_body wa n _
  case rest =>
    obtain ⟨ga, rfl, HT⟩ := hcut
    have hga := HT.out.2
    have HT0 := Lib.hid HT.out.1
    clear HT hmk FS
    go_wp2_with fail
    go_loopw [13] (fun i wr => ∃ k : Nat, k ≤ n ∧ i = .int .i64 k ∧ Hid (TX wa wr cb ga ((A.take k).any id) (mxB Y n k))) (fun i _ => n - (RowKit.intOf i).toNat)
    case atStart => exact ⟨0, by omega, rfl, HT0⟩
    case round =>
      obtain ⟨k, hk, rfl, HP⟩ := hrel
      clear HT0
      by_cases hlt : k < n
      · have hx : L[k]? = some (L[k]'(by rw [HN.out]; exact hlt)) := List.getElem?_eq_getElem _
        have hy : Y[k]? = some (Y[k]'(by rw [HY.out]; exact hlt)) := List.getElem?_eq_getElem _
        have hc : A[k]? = some (A[k]'(by rw [HA.out]; exact hlt)) := List.getElem?_eq_getElem _
        generalize L[k]'(by rw [HN.out]; exact hlt) = x at hx
        generalize Y[k]'(by rw [HY.out]; exact hlt) = y at hy
        generalize A[k]'(by rw [HA.out]; exact hlt) = c at hc
        have HR := Lib.hid (HF.out k x y c hx hy hc)
        have HTA : Hid ((A.take (k + 1)).any id = ((A.take k).any id || c)) := Lib.hid (takeB hc)
        obtain ⟨g, off, rfl, q⟩ := (HL.out _ _ HP.out.fl).at_ hx
        have Zx : ZE wr g (off + k * 10) [.int .u32 x.k, .int .i32 x.r, .int .i32 x.ax, .int .i32 x.ay, .int .i32 x.m, .int .i32 x.o, .int .i32 x.px, .int .i32 x.py, .int .i32 x.vx, .int .i32 x.vy] := ze_of q
        have HYk := Lib.hid hy
        have i0 : (0 : Int) ≤ (k : Int) := Int.natCast_nonneg _
        have i1 : (k : Int) < (n : Int) := by omega
        have hw := HP.out.fl.fr.size
        clear hx hy hc q
        generalize (A.take k).any id = z at *
        go_upto_region 5 with fail
        generalize hW : World.alloc wr _ = W5
        have Zb : ZA W5 wr.heap.size [.int .u32 x.k, .int .i32 x.r, .int .i32 x.ax, .int .i32 x.ay, .int .i32 x.m, .int .i32 x.o, .int .i32 x.px, .int .i32 x.py, .int .i32 x.vx, .int .i32 x.vy] := by rw [← hW]; exact za_new _ _ _ rfl
        have g5 : Kep wr.heap.size wr W5 := by rw [← hW]; exact kep_more (Kep.refl _ _) _
        have ZB : wr.heap.size < W5.heap.size := by rw [← hW]; simp
        have C1 : Hid (Calls Try.prog 24 #[.int .i64 (k : Int), .agg #[.int .u32 x.k, .int .i32 x.r, .int .i32 x.ax, .int .i32 x.ay, .int .i32 x.m, .int .i32 x.o, .int .i32 x.px, .int .i32 x.py, .int .i32 x.vx, .int .i32 x.vy], .pointer (some ⟨cb, 0, none⟩)] W5 fun e w' => e = .returned (.agg #[.int .u32 y.k, .int .i32 y.r, .int .i32 y.ax, .int .i32 y.ay, .int .i32 y.m, .int .i32 y.o, .int .i32 y.px, .int .i32 y.py, .int .i32 y.vx, .int .i32 y.vy]) ∧ Flg W5 w' cb (z || c)) := Lib.hid (HR.out z W5 (HP.out.fl.kep g5) z (HP.out.fl.kep g5).c (HP.out.fl.kep g5).f)
        clear hW Zx HR
        go_upto_region 6 with (first
          | ((with_reducible refine (C1.out).mono ?_); rintro e w6 ⟨rfl, h6⟩
             have zo := h6.fr.zc hga hga (HP.out.z.kep g5)
             have Fz := zo.frz
             have zl := zo.lt
             have HX : Hid (TX wa (setAll w6 ga (k * 10) [.int .u32 y.k, .int .i32 y.r, .int .i32 y.ax, .int .i32 y.ay, .int .i32 y.m, .int .i32 y.o, .int .i32 y.px, .int .i32 y.py, .int .i32 y.vx, .int .i32 y.vy]) cb ga (z || c) (mxB Y n (k + 1))) := Lib.hid (TX.next HP.out hga g5 h6 HY.out hlt HYk.out)
             have Ze : ZE w6 ga (k * 10) [.int .u32 0, .int .i32 0, .int .i32 0, .int .i32 0, .int .i32 0, .int .i32 0, .int .i32 0, .int .i32 0, .int .i32 0, .int .i32 0] := ze_of (fun i hi => by
               rw [List.getElem?_eq_getElem hi]
               exact zo.i ((flat_get _ k _ (mx_at HY.out hlt) i hi).trans (List.getElem?_eq_getElem hi)))
             clear zo h6))
        simp only [setAll, Nat.add_assoc, Nat.reduceAdd] at HX
        rw [← HTA.out] at HX
        clear Ze Fz zl HTA HP
        go_wp2_with fail
        go_roundw
        case rel => exact ⟨k + 1, by omega, by go_num, HX⟩
        case measure => simp [RowKit.intOf]; omega
      · have i2 : ¬ (k : Int) < (n : Int) := by omega
        obtain rfl : k = n := by omega
        have HE : Hid (Lst wr (.slice (some ⟨ga, 0, none⟩) k k) Y ∧ Flg wa wr cb (A.any id)) := Lib.hid (by
          have h := HP.out
          rw [mx_end HY.out, List.take_of_length_le (Nat.le_of_eq HA.out)] at h
          exact ⟨.inr ⟨ga, 0, k, by rw [HY.out], fun j b hb i hi => by
            have e := flat_get Y j b hb i hi
            rw [Nat.zero_add]
            rw [List.getElem?_eq_getElem (show i < (vals b).length from hi)] at e ⊢
            exact h.z.i e⟩, h.fl⟩)
        clear HP
        go_wp2_with fail
        go_ret
        exact ⟨_, rfl, HE.out⟩
set_option maxRecDepth 100000 in
set_option maxHeartbeats 4000000 in
theorem ytrm {L Y : List Bd} {A : List Bool} {n cb lb : Nat} {v : Value} {wa : World} (hn : L.length = n) (hm : n ≤ 1000) (hY : Y.length = n) (hA : A.length = n) (hv : ∀ z w, Flg wa w cb z → Lst w v L) (c0 : wa.cell? ⟨cb, 0, none⟩ = some (.bool false)) (f0 : wa.frozen? ⟨cb, 0, none⟩ = false)
    (HE : ∀ (k : Nat) x y c, L[k]? = some x → Y[k]? = some y → A[k]? = some c → ∀ z w, Flg wa w cb z → KEl 28 #[.pointer (some ⟨lb, 0, none⟩), .pointer (some ⟨cb, 0, none⟩)] (k : Int) x y c cb w) :
    Calls Try.prog 23 #[v, .func (.func 28) #[] #[.pointer (some ⟨lb, 0, none⟩), .pointer (some ⟨cb, 0, none⟩)]] wa fun e w' => ∃ v', e = .returned v' ∧ Lst w' v' Y ∧ Flg wa w' cb (A.any id) := by
  obtain ⟨base, cap, rfl⟩ := (hv false wa (.self c0 f0)).shape
  have HL := Lib.hid hv
  have HF := Lib.hid HE
  have HN := Lib.hid hn
  have HY := Lib.hid hY
  have HA := Lib.hid hA
  have FS := Lib.hid (Flg.self c0 f0)
  have hcb := World.block_lt_of_cell? _ _ c0
  dsimp only at hcb
  clear hv HE hY hA c0 f0
  rw [hn]
  clear hn
  have hmk := mk_body n hm
  go_enter Try.func23, Try.ntmps23
  go_upto_region 1 with fail
  go_cut [5] (fun s5 wx => ∃ ga, s5 = .slice (some ⟨ga, 0, none⟩) n n ∧ Hid (TX wa wx cb ga false (mxB Y n 0) ∧ ga ≠ cb))
  case first =>
    go_wp2_with fail
    go_meet
    refine ⟨wa.heap.size, rfl, Lib.hid ⟨⟨FS.out.kep (kep_more (Kep.refl _ _) _), Nat.le_refl _, ?_⟩, by omega⟩⟩
    have e : mxB Y n 0 = List.replicate n zeroB := by unfold mxB; rw [List.take_zero, List.nil_append, Nat.sub_zero]
    rw [e]
    exact zc_body wa n _
  case rest =>
    obtain ⟨ga, rfl, HT⟩ := hcut
    have hga := HT.out.2
    have HT0 := Lib.hid HT.out.1
    clear HT hmk FS
    go_wp2_with fail
    go_loopw [13] (fun i wr => ∃ k : Nat, k ≤ n ∧ i = .int .i64 k ∧ Hid (TX wa wr cb ga ((A.take k).any id) (mxB Y n k))) (fun i _ => n - (RowKit.intOf i).toNat)
    case atStart => exact ⟨0, by omega, rfl, HT0⟩
    case round =>
      obtain ⟨k, hk, rfl, HP⟩ := hrel
      clear HT0
      by_cases hlt : k < n
      · have hx : L[k]? = some (L[k]'(by rw [HN.out]; exact hlt)) := List.getElem?_eq_getElem _
        have hy : Y[k]? = some (Y[k]'(by rw [HY.out]; exact hlt)) := List.getElem?_eq_getElem _
        have hc : A[k]? = some (A[k]'(by rw [HA.out]; exact hlt)) := List.getElem?_eq_getElem _
        generalize L[k]'(by rw [HN.out]; exact hlt) = x at hx
        generalize Y[k]'(by rw [HY.out]; exact hlt) = y at hy
        generalize A[k]'(by rw [HA.out]; exact hlt) = c at hc
        have HR := Lib.hid (HF.out k x y c hx hy hc)
        have HTA : Hid ((A.take (k + 1)).any id = ((A.take k).any id || c)) := Lib.hid (takeB hc)
        obtain ⟨g, off, rfl, q⟩ := (HL.out _ _ HP.out.fl).at_ hx
        have Zx : ZE wr g (off + k * 10) [.int .u32 x.k, .int .i32 x.r, .int .i32 x.ax, .int .i32 x.ay, .int .i32 x.m, .int .i32 x.o, .int .i32 x.px, .int .i32 x.py, .int .i32 x.vx, .int .i32 x.vy] := ze_of q
        have HYk := Lib.hid hy
        have i0 : (0 : Int) ≤ (k : Int) := Int.natCast_nonneg _
        have i1 : (k : Int) < (n : Int) := by omega
        have hw := HP.out.fl.fr.size
        clear hx hy hc q
        generalize (A.take k).any id = z at *
        go_upto_region 5 with fail
        generalize hW : World.alloc wr _ = W5
        have Zb : ZA W5 wr.heap.size [.int .u32 x.k, .int .i32 x.r, .int .i32 x.ax, .int .i32 x.ay, .int .i32 x.m, .int .i32 x.o, .int .i32 x.px, .int .i32 x.py, .int .i32 x.vx, .int .i32 x.vy] := by rw [← hW]; exact za_new _ _ _ rfl
        have g5 : Kep wr.heap.size wr W5 := by rw [← hW]; exact kep_more (Kep.refl _ _) _
        have ZB : wr.heap.size < W5.heap.size := by rw [← hW]; simp
        have C1 : Hid (Calls Try.prog 28 #[.int .i64 (k : Int), .agg #[.int .u32 x.k, .int .i32 x.r, .int .i32 x.ax, .int .i32 x.ay, .int .i32 x.m, .int .i32 x.o, .int .i32 x.px, .int .i32 x.py, .int .i32 x.vx, .int .i32 x.vy], .pointer (some ⟨lb, 0, none⟩), .pointer (some ⟨cb, 0, none⟩)] W5 fun e w' => e = .returned (.agg #[.int .u32 y.k, .int .i32 y.r, .int .i32 y.ax, .int .i32 y.ay, .int .i32 y.m, .int .i32 y.o, .int .i32 y.px, .int .i32 y.py, .int .i32 y.vx, .int .i32 y.vy]) ∧ Flg W5 w' cb (z || c)) := Lib.hid (HR.out z W5 (HP.out.fl.kep g5) z (HP.out.fl.kep g5).c (HP.out.fl.kep g5).f)
        clear hW Zx HR
        go_upto_region 6 with (first
          | ((with_reducible refine (C1.out).mono ?_); rintro e w6 ⟨rfl, h6⟩
             have zo := h6.fr.zc hga hga (HP.out.z.kep g5)
             have Fz := zo.frz
             have zl := zo.lt
             have HX : Hid (TX wa (setAll w6 ga (k * 10) [.int .u32 y.k, .int .i32 y.r, .int .i32 y.ax, .int .i32 y.ay, .int .i32 y.m, .int .i32 y.o, .int .i32 y.px, .int .i32 y.py, .int .i32 y.vx, .int .i32 y.vy]) cb ga (z || c) (mxB Y n (k + 1))) := Lib.hid (TX.next HP.out hga g5 h6 HY.out hlt HYk.out)
             have Ze : ZE w6 ga (k * 10) [.int .u32 0, .int .i32 0, .int .i32 0, .int .i32 0, .int .i32 0, .int .i32 0, .int .i32 0, .int .i32 0, .int .i32 0, .int .i32 0] := ze_of (fun i hi => by
               rw [List.getElem?_eq_getElem hi]
               exact zo.i ((flat_get _ k _ (mx_at HY.out hlt) i hi).trans (List.getElem?_eq_getElem hi)))
             clear zo h6))
        simp only [setAll, Nat.add_assoc, Nat.reduceAdd] at HX
        rw [← HTA.out] at HX
        clear Ze Fz zl HTA HP
        go_wp2_with fail
        go_roundw
        case rel => exact ⟨k + 1, by omega, by go_num, HX⟩
        case measure => simp [RowKit.intOf]; omega
      · have i2 : ¬ (k : Int) < (n : Int) := by omega
        obtain rfl : k = n := by omega
        have HE : Hid (Lst wr (.slice (some ⟨ga, 0, none⟩) k k) Y ∧ Flg wa wr cb (A.any id)) := Lib.hid (by
          have h := HP.out
          rw [mx_end HY.out, List.take_of_length_le (Nat.le_of_eq HA.out)] at h
          exact ⟨.inr ⟨ga, 0, k, by rw [HY.out], fun j b hb i hi => by
            have e := flat_get Y j b hb i hi
            rw [Nat.zero_add]
            rw [List.getElem?_eq_getElem (show i < (vals b).length from hi)] at e ⊢
            exact h.z.i e⟩, h.fl⟩)
        clear HP
        go_wp2_with fail
        go_ret
        exact ⟨_, rfl, HE.out⟩
set_option maxRecDepth 100000 in
set_option maxHeartbeats 4000000 in
theorem ygrv : YGr := fun v L w hv hl hok => by
  have hmf : ∀ (fn : Fn) (first cap : Array Value) (w : World), (Instr.makeFunc fn first cap).run Try.prog w = .ok (.func fn first cap) w := fun _ _ _ _ => rfl
  have HT : Hid (Calls Try.prog 23 #[v, .func (.func 24) #[] #[.pointer (some ⟨w.heap.size, 0, none⟩)]] (w.alloc (.cells #[.bool false] 4)) fun e w' => ∃ v', e = .returned v' ∧ Lst w' v' (L.map grvB) ∧ Flg (w.alloc (.cells #[.bool false] 4)) w' w.heap.size (L.any grvC)) := Lib.hid (by
    have z := zc_new w [.bool false] 4
    have e : L.any grvC = (L.map grvC).any id := by rw [List.any_map]; rfl
    rw [e]
    refine ytrg (n := L.length) rfl hl (List.length_map ..) (List.length_map ..) (fun z w' f => hv.kep ((kep_more (Kep.refl w.heap.size w) _).trans (f.fr.down (Nat.le_refl _) (Nat.le_refl _) (by simp)))) (z.i (i := 0) rfl) (z.frz 0) fun k x y c hx hy hc z w' f => ?_
    rw [List.getElem?_map, hx] at hy hc
    injection hy with hy
    injection hc with hc
    subst hy hc
    exact yg (hok x (List.mem_of_getElem? hx)) w')
  clear hv hok hl
  generalize L.any grvC = z at *
  go_enter Try.func11, Try.ntmps11
  go_upto_region 3 with ((with_reducible refine (HT.out).mono ?_); rintro e w2 ⟨v2, rfl, l2, f2⟩; have L2 := Lib.hid l2; have c2 := f2.c; have FK : Hid (Kep w.heap.size w w2) := Lib.hid ((kep_more (Kep.refl w.heap.size w) _).trans (f2.fr.down (Nat.le_refl _) (Nat.le_refl _) (by simp))); clear l2 f2)
  go_quiet (fail)
  go_wp2_with fail
  go_ret2
  exact ⟨_, rfl, L2.out.kep (kep_drewN (Kep.refl _ _) _), kep_drewN FK.out _⟩
set_option maxRecDepth 100000 in
set_option maxHeartbeats 4000000 in
theorem ymov : YMv := fun v L s S w hv hs hl hn hok hsin => by
  have hmf : ∀ (fn : Fn) (first cap : Array Value) (w : World), (Instr.makeFunc fn first cap).run Try.prog w = .ok (.func fn first cap) w := fun _ _ _ _ => rfl
  obtain ⟨bs, cs, rfl, qs⟩ := hs
  have HT : Hid (Calls Try.prog 23 #[v, .func (.func 28) #[] #[.pointer (some ⟨w.heap.size, 0, none⟩), .pointer (some ⟨w.heap.size + 1, 0, none⟩)]] ((w.alloc (.cells #[.slice bs S.length cs] 31)).alloc (.cells #[.bool false] 4)) fun e w' => ∃ v', e = .returned v' ∧ Lst w' v' (mtL L S) ∧ Flg ((w.alloc (.cells #[.slice bs S.length cs] 31)).alloc (.cells #[.bool false] 4)) w' (w.heap.size + 1) ((mtA L S).any id)) := Lib.hid (by
    have zl := (zc_new w [.slice bs S.length cs] 31).more (.cells #[.bool false] 4)
    have z := zc_new' (w.alloc (.cells #[.slice bs S.length cs] 31)) [.bool false] 4 (b := w.heap.size + 1) (by simp)
    refine ytrm (n := L.length) (lb := w.heap.size) rfl hl (mtL_len hn) (mtA_len hn) (fun z w' f => hv.kep ((kep_more (kep_more (Kep.refl w.heap.size w) _) _).trans (f.fr.down (Nat.le_succ _) (Nat.le_succ _) (by simp; omega)))) (z.i (i := 0) rfl) (z.frz 0) fun k x y c hx hy hc z w' f => ?_
    have hk := (List.getElem?_eq_some_iff.1 hx).1
    have hq : S[k]? = some (S[k]'(by omega)) := List.getElem?_eq_getElem _
    generalize S[k]'(by omega) = t at hq
    rw [mtL_at hx hq] at hy
    rw [mtA_at hx hq] at hc
    injection hy with hy
    injection hc with hc
    subst hy hc
    obtain ⟨gs, os, rfl, q⟩ := qs k t hq
    have g : Kep w.heap.size w w' := (kep_more (kep_more (Kep.refl w.heap.size w) _) _).trans (f.fr.down (Nat.le_succ _) (Nat.le_succ _) (by simp; omega))
    exact ym (n := S.length) (by omega) (hok x (List.mem_of_getElem? hx)) (hsin t (List.mem_of_getElem? hq)) w' (f.fr.cell (by omega) (by omega) (zl.i (i := 0) rfl)) (g.all (by simpa using q 0 _ rfl)) (g.all (q 1 _ rfl)))
  clear hv hok hl qs hsin hn
  generalize (mtA L S).any id = z at *
  go_enter Try.func13, Try.ntmps13
  go_upto_region 3 with ((with_reducible refine (HT.out).mono ?_); rintro e w2 ⟨v2, rfl, l2, f2⟩; have L2 := Lib.hid l2; have c2 := f2.c; have FK : Hid (Kep w.heap.size w w2) := Lib.hid ((kep_more (kep_more (Kep.refl w.heap.size w) _) _).trans (f2.fr.down (Nat.le_succ _) (Nat.le_succ _) (by simp; omega))); clear l2 f2)
  go_quiet (fail)
  go_wp2_with fail
  go_ret2
  exact ⟨_, rfl, L2.out.kep (kep_drewN (Kep.refl _ _) _), kep_drewN FK.out _⟩
end Go.Proofs.Ytlabeelbbkbkaaa
