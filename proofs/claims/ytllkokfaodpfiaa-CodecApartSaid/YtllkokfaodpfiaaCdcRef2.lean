/-
  Package codec: the reference's Bytes and Encode.
-/
import Derived.Test.YtllkokfaodpfiaaCdcRef1
import Derived.Test.YtllkokfaodpfiaaStoreLst
import Derived.Deep.DeepCutAuto
import Derived.Deep.QuietTactic
import Derived.BigQuiet
namespace Go.Proofs.Ytllkokfaodpfiaa
open Go.RowKit Go.Lib

theorem enc_next {A0 : List Int} {L : List Bd} {k : Nat} {x : Bd} (h : L[k]? = some x) : A0 ++ (L.take k).flatMap encB ++ w4 x.k ++ w4 x.r ++ w4 x.ax ++ w4 x.ay ++ w4 x.m ++ w4 x.o ++ w4 x.px ++ w4 x.py ++ w4 x.vx ++ w4 x.vy = A0 ++ (L.take (k + 1)).flatMap encB := by
  rw [List.take_add_one, h]
  simp [encB, List.append_assoc]
theorem kep_next' {B : Nat} {a w w' : World} (h : Kep B a w) (g : Kep w.heap.size w w') (hB : B ≤ w.heap.size := by exact h.size) : Kep B a w' := h.trans (g.mono hB)
/-- A conversion of a row of the call's own marks it behind its last cell. -/
theorem froz_new (w : World) (C : Array Value) (t : TypeId) (n : Nat) : (w.alloc (.cells C t)).freeze ⟨w.heap.size, n, none⟩ 1 = w.alloc (.cells C t (n, n + 1)) := by
  have e : ∀ (A : Array Obj) (x : Obj) (f : Obj → Obj), (A.push x).modify A.size f = A.push (f x) := fun A x f => by
    refine Array.ext (by simp) fun i h1 h2 => ?_
    rw [Array.getElem_modify, Array.getElem_push, Array.getElem_push]
    by_cases c : A.size = i
    · subst c
      simp
    · have hi : i < A.size := by simp at h1; omega
      rw [if_neg c, dif_pos hi, dif_pos hi]
  unfold World.freeze
  rw [if_neg (by decide)]
  show ({ w with heap := (w.heap.push (.cells C t)).modify w.heap.size _ } : World) = _
  rw [e]
  rfl
theorem conv_mark (w : World) (a b c d : Int) : (convert 23 23 (.slice (some ⟨w.heap.size, 0, none⟩) 4 4)).run Try.prog (w.alloc (.cells #[.int .u8 a, .int .u8 b, .int .u8 c, .int .u8 d] 5)) = .ok (.slice (some ⟨w.heap.size, 0, none⟩) 4 4) (w.alloc (.cells #[.int .u8 a, .int .u8 b, .int .u8 c, .int .u8 d] 5 (4, 5))) := by
  have hs : ∀ C : Array Value, (w.alloc (.cells C 5)).shape? w.heap.size = some (5, C.size) := fun C => by
    unfold World.shape?
    rw [heap_alloc_new]
  have hf := froz_new w #[.int .u8 a, .int .u8 b, .int .u8 c, .int .u8 d] 5 4
  simp [convert, run_underlying Try.underlying23, run_underlying Try.underlying5, markStringish, hs]
  exact hf
theorem buf_mark4 (w : World) (a b c d : Int) (t : TypeId) : BufB (w.alloc (.cells #[.int .u8 a, .int .u8 b, .int .u8 c, .int .u8 d] t (4, 5))) w.heap.size (.slice (some ⟨w.heap.size, 0, none⟩) 4 4) [a, b, c, d] := by
  have hh := heap_alloc_new w (.cells #[.int .u8 a, .int .u8 b, .int .u8 c, .int .u8 d] t (4, 5))
  have hc : ∀ j, (w.alloc (.cells #[.int .u8 a, .int .u8 b, .int .u8 c, .int .u8 d] t (4, 5))).cell? ⟨w.heap.size, j, none⟩ = (#[Value.int .u8 a, .int .u8 b, .int .u8 c, .int .u8 d] : Array Value)[j]? := fun j => cell_of_row _ _ j _ _ _ hh
  refine ⟨w.heap.size, 4, rfl, Nat.le_refl _, Nat.le_refl _, by unfold maxLen; omega, fun i n hi => ?_, fun i hi => ⟨?_, ?_⟩, by simp⟩
  · rw [hc]
    match i, hi with
    | 0, hi => simp at hi; subst hi; rfl
    | 1, hi => simp at hi; subst hi; rfl
    | 2, hi => simp at hi; subst hi; rfl
    | 3, hi => simp at hi; subst hi; rfl
    | i + 4, hi => simp at hi
  · rw [hc, Array.getElem?_eq_getElem (by simpa using hi)]
    rfl
  · unfold World.frozen?
    rw [hh]
    simp
    omega
theorem w4_ne (n : Int) : w4 n ≠ [] := by simp [w4]
theorem fits_r {x : Bd} (h : Fits x) : (0 ≤ x.k ∧ x.k < 4294967296) ∧ (-2147483648 ≤ x.r ∧ x.r < 2147483648) ∧ (-2147483648 ≤ x.ax ∧ x.ax < 2147483648) ∧ (-2147483648 ≤ x.ay ∧ x.ay < 2147483648) ∧ (-2147483648 ≤ x.m ∧ x.m < 2147483648) ∧ (-2147483648 ≤ x.o ∧ x.o < 2147483648) ∧ (-2147483648 ≤ x.px ∧ x.px < 2147483648) ∧ (-2147483648 ≤ x.py ∧ x.py < 2147483648) ∧ (-2147483648 ≤ x.vx ∧ x.vx < 2147483648) ∧ (-2147483648 ≤ x.vy ∧ x.vy < 2147483648) := by
  obtain ⟨h0, h1, h2, h3, h4, h5, h6, h7, h8, h9⟩ := h
  exact ⟨u32_of h0, s32_of h1, s32_of h2, s32_of h3, s32_of h4, s32_of h5, s32_of h6, s32_of h7, s32_of h8, s32_of h9⟩
theorem info_u8 : (Try.prog.info? 5).map (fun i => (i.zero, i.size, i.bytes)) = some (some (.int .u8 0), 1, 1) := by kernel_rfl
set_option maxRecDepth 100000 in
set_option maxHeartbeats 8000000 in
theorem rby : RBy := fun v L w hv hf hl => by
  obtain ⟨base, cap, rfl⟩ := hv.shape
  have HL := Lib.hid hv
  have HX := Lib.hid hf
  have WN := Lib.hid (fun (n : Int) h => rwo (n := n) h)
  have W1 := Lib.hid (rwo (n := (L.length : Int)) (by omega))
  clear hv hf
  generalize hn : L.length = n at *
  have HN := Lib.hid hn
  clear hn
  have hcv := conv_mark w 66 73 76 49
  go_enter Try.func16, Try.ntmps16
  go_upto_region 2 with (first
    | ((with_reducible refine (W1.out _).mono ?_); rintro e w2 ⟨v2, rfl, b2, g2⟩; have B2 := Lib.hid b2; have G2 := Lib.hid g2; clear b2 g2)
    | (at_builtin; refine wpList_appB (by rfl) _ _ 23 (by rfl) 5 Try.underlying23 info_u8 w.heap.size _ _ _ magic (w4 (n : Int)) (by rfl) ((buf_mark4 w 66 73 76 49 _).kep G2.out) (by rfl) B2.out.sq (w4_ne _) (by simp [magic, w4]) (Nat.le_trans (by simp) G2.out.size) ?_; intro v3 w3 b3 a3; have K3 := Lib.hid (kep_next (kep_more (Kep.refl _ _) _) G2.out |>.trans (a3.kep ((buf_mark4 w 66 73 76 49 _).kep G2.out))); have B3 := Lib.hid b3; clear b3 a3))
  go_wp2_with fail
  go_loopw [3, 4] (fun out i wr => ∃ k : Nat, k ≤ n ∧ i = .int .i64 k ∧ Hid (BufB wr w.heap.size out (magic ++ w4 (n : Int) ++ (L.take k).flatMap encB) ∧ Kep w.heap.size w wr)) (fun _ i _ => n - (RowKit.intOf i).toNat)
  case atStart => exact ⟨0, by omega, rfl, Lib.hid ⟨by rw [List.take_zero, List.flatMap_nil, List.append_nil]; exact B3.out, K3.out⟩⟩
  case round =>
    obtain ⟨k, hk, rfl, HP⟩ := hrel
    clear B3 K3
    by_cases hlt : k < n
    · have hx : L[k]? = some (L[k]'(by rw [HN.out]; exact hlt)) := List.getElem?_eq_getElem _
      generalize L[k]'(by rw [HN.out]; exact hlt) = x at hx
      obtain ⟨g, off, rfl, q⟩ := (HL.out.kep HP.out.2).at_ hx
      have Zx : ZE wr g (off + k * 10) [.int .u32 x.k, .int .i32 x.r, .int .i32 x.ax, .int .i32 x.ay, .int .i32 x.m, .int .i32 x.o, .int .i32 x.px, .int .i32 x.py, .int .i32 x.vx, .int .i32 x.vy] := ze_of q
      obtain ⟨r0, r1, r2, r3, r4, r5, r6, r7, r8, r9⟩ := fits_r (HX.out x (List.mem_of_getElem? hx))
      have e0 : IntKind.i64.wrap x.k = x.k := by rw [IntKind.wrap_i64]; omega
      have e1 : IntKind.i64.wrap x.r = x.r := by rw [IntKind.wrap_i64]; omega
      have e2 : IntKind.i64.wrap x.ax = x.ax := by rw [IntKind.wrap_i64]; omega
      have e3 : IntKind.i64.wrap x.ay = x.ay := by rw [IntKind.wrap_i64]; omega
      have e4 : IntKind.i64.wrap x.m = x.m := by rw [IntKind.wrap_i64]; omega
      have e5 : IntKind.i64.wrap x.o = x.o := by rw [IntKind.wrap_i64]; omega
      have e6 : IntKind.i64.wrap x.px = x.px := by rw [IntKind.wrap_i64]; omega
      have e7 : IntKind.i64.wrap x.py = x.py := by rw [IntKind.wrap_i64]; omega
      have e8 : IntKind.i64.wrap x.vx = x.vx := by rw [IntKind.wrap_i64]; omega
      have e9 : IntKind.i64.wrap x.vy = x.vy := by rw [IntKind.wrap_i64]; omega
      have EN := Lib.hid (enc_next (A0 := magic ++ w4 (n : Int)) hx)
      have i0 : (0 : Int) ≤ (k : Int) := Int.natCast_nonneg _
      have i1 : (k : Int) < (n : Int) := by omega
      have hA : (magic ++ w4 (n : Int) ++ (L.take k).flatMap encB).length ≤ 100000 := by
        rw [List.length_append, List.length_append, flat_enc_len, w4_len, List.length_take]
        show 4 + 4 + _ ≤ _
        omega
      obtain ⟨A, hAe⟩ : ∃ A, A = magic ++ w4 (n : Int) ++ (L.take k).flatMap encB := ⟨_, rfl⟩
      rw [← hAe] at EN hA HP
      clear hAe hx q
      obtain ⟨go, hgo, hg1, hg2⟩ := HP.out.1.own
      go_upto_region 6 with fail
      generalize hW : World.alloc wr _ = W5
      have Zb : ZA W5 wr.heap.size [.int .u32 x.k, .int .i32 x.r, .int .i32 x.ax, .int .i32 x.ay, .int .i32 x.m, .int .i32 x.o, .int .i32 x.px, .int .i32 x.py, .int .i32 x.vx, .int .i32 x.vy] := by rw [← hW]; exact za_new _ _ _ rfl
      have B0 : Hid (BufB W5 w.heap.size _ A ∧ Kep w.heap.size w W5) := Lib.hid (by rw [← hW]; exact ⟨HP.out.1.kep (kep_more (Kep.refl _ _) _), kep_more HP.out.2 _⟩)
      have hlo : wr.heap.size < W5.heap.size := by rw [← hW]; simp
      have hB : w.heap.size ≤ wr.heap.size := HP.out.2.size
      have NE := Lib.hid (show Value.ownBlock _ ≠ some wr.heap.size by rw [hgo]; intro c; injection c with c; omega)
      clear hW HP Zx hgo hg1 hg2
      generalize wr.heap.size = bb at *
      refine wp_region_noPanic ?_
      refine wp_region_held_drew (S := fun w' => ZA w' bb [.int .u32 x.k, .int .i32 x.r, .int .i32 x.ax, .int .i32 x.ay, .int .i32 x.m, .int .i32 x.o, .int .i32 x.px, .int .i32 x.py, .int .i32 x.vx, .int .i32 x.vy]) (by kernel_rfl) (za_kep Zb (kep_drew (Kep.refl _ _))) (fun hH => ?_)
      clear Zb
      replace B0 := Lib.hid (And.intro (B0.out.1.kep (kep_drew (Kep.refl _ _))) (kep_drew B0.out.2))
      replace hlo : bb < W5.drew.heap.size := by simpa using hlo
      generalize W5.drew = Y0 at *
      refine sT 0 hH ?_
      refine sT 1 hH ?_
      refine sN 2 hH ?_
      refine sT 3 hH ?_
      refine sT 6 hH ?_
      refine sN 7 hH ?_
      refine sN 8 hH ?_
      refine sC 4 (fun K hK => ?_)
      go_simp
      (with_reducible refine (WN.out x.k (by omega) _).mono ?_); rintro e U0a ⟨v0a, rfl, b1, g1⟩
      have BD := Lib.hid b1
      replace B0 := Lib.hid (And.intro (B0.out.1.kep g1) (kep_next B0.out.2 g1))
      replace hlo := Nat.lt_of_lt_of_le hlo g1.size
      refine hK.out _ _ (za_kep hH g1) (fun hH2 => ?_)
      clear b1 g1
      clear hK K hH; have hH := hH2; clear hH2
      try simp only [Act.put, List.setIfInBounds_toArray, List.set_cons_zero, List.set_cons_succ]
      refine sC 5 (fun K hK => ?_)
      refine step_appB (by rfl) _ _ 23 (by rfl) 5 Try.underlying23 info_u8 w.heap.size _ _ _ (A) (w4 x.k) (by rfl) B0.out.1 (by rfl) BD.out.sq (w4_ne _) (by (try simp only [List.length_append]); simp only [w4_len]; omega) B0.out.2.size ?_
      intro v0b U0b b1 a1
      have ha := Lib.hid (a1.za NE.out hH)
      replace NE := Lib.hid (a1.ne NE.out hlo)
      replace hlo := Nat.lt_of_lt_of_le hlo a1.size
      replace B0 := Lib.hid (And.intro b1 (B0.out.2.trans (a1.kep B0.out.1)))
      refine hK.out _ _ ha.out (fun hH2 => ?_)
      clear b1 a1 ha BD
      clear hK K hH; have hH := hH2; clear hH2
      try simp only [Act.put, List.setIfInBounds_toArray, List.set_cons_zero, List.set_cons_succ]
      refine sC 9 (fun K hK => ?_)
      go_simp
      (with_reducible refine (WN.out x.r (by omega) _).mono ?_); rintro e U0c ⟨v0c, rfl, b1, g1⟩
      have BD := Lib.hid b1
      replace B0 := Lib.hid (And.intro (B0.out.1.kep g1) (kep_next B0.out.2 g1))
      replace hlo := Nat.lt_of_lt_of_le hlo g1.size
      refine hK.out _ _ (za_kep hH g1) (fun hH2 => ?_)
      clear b1 g1
      clear hK K hH; have hH := hH2; clear hH2
      try simp only [Act.put, List.setIfInBounds_toArray, List.set_cons_zero, List.set_cons_succ]
      refine sC 10 (fun K hK => ?_)
      refine step_appB (by rfl) _ _ 23 (by rfl) 5 Try.underlying23 info_u8 w.heap.size _ _ _ (A ++ w4 x.k) (w4 x.r) (by rfl) B0.out.1 (by rfl) BD.out.sq (w4_ne _) (by (try simp only [List.length_append]); simp only [w4_len]; omega) B0.out.2.size ?_
      intro v0d U0d b1 a1
      have ha := Lib.hid (a1.za NE.out hH)
      replace NE := Lib.hid (a1.ne NE.out hlo)
      replace hlo := Nat.lt_of_lt_of_le hlo a1.size
      replace B0 := Lib.hid (And.intro b1 (B0.out.2.trans (a1.kep B0.out.1)))
      refine hK.out _ _ ha.out (fun hH2 => ?_)
      clear b1 a1 ha BD
      clear hK K hH; have hH := hH2; clear hH2
      try simp only [Act.put, List.setIfInBounds_toArray, List.set_cons_zero, List.set_cons_succ]
      refine sN 11 hH ?_
      refine sE ?_
      have Zb := hH
      clear hH
      generalize U0d = V0 at *
      go_upto_region 7 with fail
      refine wp_region_noPanic ?_
      refine wp_region_held_drew (S := fun w' => ZA w' bb [.int .u32 x.k, .int .i32 x.r, .int .i32 x.ax, .int .i32 x.ay, .int .i32 x.m, .int .i32 x.o, .int .i32 x.px, .int .i32 x.py, .int .i32 x.vx, .int .i32 x.vy]) (by kernel_rfl) (za_kep Zb (kep_drew (Kep.refl _ _))) (fun hH => ?_)
      clear Zb
      replace B0 := Lib.hid (And.intro (B0.out.1.kep (kep_drew (Kep.refl _ _))) (kep_drew B0.out.2))
      replace hlo : bb < V0.drew.heap.size := by simpa using hlo
      generalize V0.drew = Y1 at *
      refine sT 0 hH ?_
      refine sT 1 hH ?_
      refine sN 2 hH ?_
      refine sT 3 hH ?_
      refine sT 4 hH ?_
      refine sN 7 hH ?_
      refine sT 8 hH ?_
      refine sT 9 hH ?_
      refine sN 10 hH ?_
      refine sC 5 (fun K hK => ?_)
      go_simp
      (with_reducible refine (WN.out x.ax (by omega) _).mono ?_); rintro e U1a ⟨v1a, rfl, b1, g1⟩
      have BD := Lib.hid b1
      replace B0 := Lib.hid (And.intro (B0.out.1.kep g1) (kep_next B0.out.2 g1))
      replace hlo := Nat.lt_of_lt_of_le hlo g1.size
      refine hK.out _ _ (za_kep hH g1) (fun hH2 => ?_)
      clear b1 g1
      clear hK K hH; have hH := hH2; clear hH2
      try simp only [Act.put, List.setIfInBounds_toArray, List.set_cons_zero, List.set_cons_succ]
      refine sC 6 (fun K hK => ?_)
      refine step_appB (by rfl) _ _ 23 (by rfl) 5 Try.underlying23 info_u8 w.heap.size _ _ _ (A ++ w4 x.k ++ w4 x.r) (w4 x.ax) (by rfl) B0.out.1 (by rfl) BD.out.sq (w4_ne _) (by (try simp only [List.length_append]); simp only [w4_len]; omega) B0.out.2.size ?_
      intro v1b U1b b1 a1
      have ha := Lib.hid (a1.za NE.out hH)
      replace NE := Lib.hid (a1.ne NE.out hlo)
      replace hlo := Nat.lt_of_lt_of_le hlo a1.size
      replace B0 := Lib.hid (And.intro b1 (B0.out.2.trans (a1.kep B0.out.1)))
      refine hK.out _ _ ha.out (fun hH2 => ?_)
      clear b1 a1 ha BD
      clear hK K hH; have hH := hH2; clear hH2
      try simp only [Act.put, List.setIfInBounds_toArray, List.set_cons_zero, List.set_cons_succ]
      refine sC 11 (fun K hK => ?_)
      go_simp
      (with_reducible refine (WN.out x.ay (by omega) _).mono ?_); rintro e U1c ⟨v1c, rfl, b1, g1⟩
      have BD := Lib.hid b1
      replace B0 := Lib.hid (And.intro (B0.out.1.kep g1) (kep_next B0.out.2 g1))
      replace hlo := Nat.lt_of_lt_of_le hlo g1.size
      refine hK.out _ _ (za_kep hH g1) (fun hH2 => ?_)
      clear b1 g1
      clear hK K hH; have hH := hH2; clear hH2
      try simp only [Act.put, List.setIfInBounds_toArray, List.set_cons_zero, List.set_cons_succ]
      refine sC 12 (fun K hK => ?_)
      refine step_appB (by rfl) _ _ 23 (by rfl) 5 Try.underlying23 info_u8 w.heap.size _ _ _ (A ++ w4 x.k ++ w4 x.r ++ w4 x.ax) (w4 x.ay) (by rfl) B0.out.1 (by rfl) BD.out.sq (w4_ne _) (by (try simp only [List.length_append]); simp only [w4_len]; omega) B0.out.2.size ?_
      intro v1d U1d b1 a1
      have ha := Lib.hid (a1.za NE.out hH)
      replace NE := Lib.hid (a1.ne NE.out hlo)
      replace hlo := Nat.lt_of_lt_of_le hlo a1.size
      replace B0 := Lib.hid (And.intro b1 (B0.out.2.trans (a1.kep B0.out.1)))
      refine hK.out _ _ ha.out (fun hH2 => ?_)
      clear b1 a1 ha BD
      clear hK K hH; have hH := hH2; clear hH2
      try simp only [Act.put, List.setIfInBounds_toArray, List.set_cons_zero, List.set_cons_succ]
      refine sN 13 hH ?_
      refine sE ?_
      have Zb := hH
      clear hH
      generalize U1d = V1 at *
      go_upto_region 8 with fail
      refine wp_region_noPanic ?_
      refine wp_region_held_drew (S := fun w' => ZA w' bb [.int .u32 x.k, .int .i32 x.r, .int .i32 x.ax, .int .i32 x.ay, .int .i32 x.m, .int .i32 x.o, .int .i32 x.px, .int .i32 x.py, .int .i32 x.vx, .int .i32 x.vy]) (by kernel_rfl) (za_kep Zb (kep_drew (Kep.refl _ _))) (fun hH => ?_)
      clear Zb
      replace B0 := Lib.hid (And.intro (B0.out.1.kep (kep_drew (Kep.refl _ _))) (kep_drew B0.out.2))
      replace hlo : bb < V1.drew.heap.size := by simpa using hlo
      generalize V1.drew = Y2 at *
      refine sT 0 hH ?_
      refine sT 1 hH ?_
      refine sN 2 hH ?_
      refine sT 3 hH ?_
      refine sT 6 hH ?_
      refine sN 7 hH ?_
      refine sN 8 hH ?_
      refine sC 4 (fun K hK => ?_)
      go_simp
      (with_reducible refine (WN.out x.m (by omega) _).mono ?_); rintro e U2a ⟨v2a, rfl, b1, g1⟩
      have BD := Lib.hid b1
      replace B0 := Lib.hid (And.intro (B0.out.1.kep g1) (kep_next B0.out.2 g1))
      replace hlo := Nat.lt_of_lt_of_le hlo g1.size
      refine hK.out _ _ (za_kep hH g1) (fun hH2 => ?_)
      clear b1 g1
      clear hK K hH; have hH := hH2; clear hH2
      try simp only [Act.put, List.setIfInBounds_toArray, List.set_cons_zero, List.set_cons_succ]
      refine sC 5 (fun K hK => ?_)
      refine step_appB (by rfl) _ _ 23 (by rfl) 5 Try.underlying23 info_u8 w.heap.size _ _ _ (A ++ w4 x.k ++ w4 x.r ++ w4 x.ax ++ w4 x.ay) (w4 x.m) (by rfl) B0.out.1 (by rfl) BD.out.sq (w4_ne _) (by (try simp only [List.length_append]); simp only [w4_len]; omega) B0.out.2.size ?_
      intro v2b U2b b1 a1
      have ha := Lib.hid (a1.za NE.out hH)
      replace NE := Lib.hid (a1.ne NE.out hlo)
      replace hlo := Nat.lt_of_lt_of_le hlo a1.size
      replace B0 := Lib.hid (And.intro b1 (B0.out.2.trans (a1.kep B0.out.1)))
      refine hK.out _ _ ha.out (fun hH2 => ?_)
      clear b1 a1 ha BD
      clear hK K hH; have hH := hH2; clear hH2
      try simp only [Act.put, List.setIfInBounds_toArray, List.set_cons_zero, List.set_cons_succ]
      refine sC 9 (fun K hK => ?_)
      go_simp
      (with_reducible refine (WN.out x.o (by omega) _).mono ?_); rintro e U2c ⟨v2c, rfl, b1, g1⟩
      have BD := Lib.hid b1
      replace B0 := Lib.hid (And.intro (B0.out.1.kep g1) (kep_next B0.out.2 g1))
      replace hlo := Nat.lt_of_lt_of_le hlo g1.size
      refine hK.out _ _ (za_kep hH g1) (fun hH2 => ?_)
      clear b1 g1
      clear hK K hH; have hH := hH2; clear hH2
      try simp only [Act.put, List.setIfInBounds_toArray, List.set_cons_zero, List.set_cons_succ]
      refine sC 10 (fun K hK => ?_)
      refine step_appB (by rfl) _ _ 23 (by rfl) 5 Try.underlying23 info_u8 w.heap.size _ _ _ (A ++ w4 x.k ++ w4 x.r ++ w4 x.ax ++ w4 x.ay ++ w4 x.m) (w4 x.o) (by rfl) B0.out.1 (by rfl) BD.out.sq (w4_ne _) (by (try simp only [List.length_append]); simp only [w4_len]; omega) B0.out.2.size ?_
      intro v2d U2d b1 a1
      have ha := Lib.hid (a1.za NE.out hH)
      replace NE := Lib.hid (a1.ne NE.out hlo)
      replace hlo := Nat.lt_of_lt_of_le hlo a1.size
      replace B0 := Lib.hid (And.intro b1 (B0.out.2.trans (a1.kep B0.out.1)))
      refine hK.out _ _ ha.out (fun hH2 => ?_)
      clear b1 a1 ha BD
      clear hK K hH; have hH := hH2; clear hH2
      try simp only [Act.put, List.setIfInBounds_toArray, List.set_cons_zero, List.set_cons_succ]
      refine sN 11 hH ?_
      refine sE ?_
      have Zb := hH
      clear hH
      generalize U2d = V2 at *
      go_upto_region 9 with fail
      refine wp_region_noPanic ?_
      refine wp_region_held_drew (S := fun w' => ZA w' bb [.int .u32 x.k, .int .i32 x.r, .int .i32 x.ax, .int .i32 x.ay, .int .i32 x.m, .int .i32 x.o, .int .i32 x.px, .int .i32 x.py, .int .i32 x.vx, .int .i32 x.vy]) (by kernel_rfl) (za_kep Zb (kep_drew (Kep.refl _ _))) (fun hH => ?_)
      clear Zb
      replace B0 := Lib.hid (And.intro (B0.out.1.kep (kep_drew (Kep.refl _ _))) (kep_drew B0.out.2))
      replace hlo : bb < V2.drew.heap.size := by simpa using hlo
      generalize V2.drew = Y3 at *
      refine sT 0 hH ?_
      refine sT 1 hH ?_
      refine sN 2 hH ?_
      refine sT 3 hH ?_
      refine sT 4 hH ?_
      refine sN 7 hH ?_
      refine sT 8 hH ?_
      refine sT 9 hH ?_
      refine sN 10 hH ?_
      refine sC 5 (fun K hK => ?_)
      go_simp
      (with_reducible refine (WN.out x.px (by omega) _).mono ?_); rintro e U3a ⟨v3a, rfl, b1, g1⟩
      have BD := Lib.hid b1
      replace B0 := Lib.hid (And.intro (B0.out.1.kep g1) (kep_next B0.out.2 g1))
      replace hlo := Nat.lt_of_lt_of_le hlo g1.size
      refine hK.out _ _ (za_kep hH g1) (fun hH2 => ?_)
      clear b1 g1
      clear hK K hH; have hH := hH2; clear hH2
      try simp only [Act.put, List.setIfInBounds_toArray, List.set_cons_zero, List.set_cons_succ]
      refine sC 6 (fun K hK => ?_)
      refine step_appB (by rfl) _ _ 23 (by rfl) 5 Try.underlying23 info_u8 w.heap.size _ _ _ (A ++ w4 x.k ++ w4 x.r ++ w4 x.ax ++ w4 x.ay ++ w4 x.m ++ w4 x.o) (w4 x.px) (by rfl) B0.out.1 (by rfl) BD.out.sq (w4_ne _) (by (try simp only [List.length_append]); simp only [w4_len]; omega) B0.out.2.size ?_
      intro v3b U3b b1 a1
      have ha := Lib.hid (a1.za NE.out hH)
      replace NE := Lib.hid (a1.ne NE.out hlo)
      replace hlo := Nat.lt_of_lt_of_le hlo a1.size
      replace B0 := Lib.hid (And.intro b1 (B0.out.2.trans (a1.kep B0.out.1)))
      refine hK.out _ _ ha.out (fun hH2 => ?_)
      clear b1 a1 ha BD
      clear hK K hH; have hH := hH2; clear hH2
      try simp only [Act.put, List.setIfInBounds_toArray, List.set_cons_zero, List.set_cons_succ]
      refine sC 11 (fun K hK => ?_)
      go_simp
      (with_reducible refine (WN.out x.py (by omega) _).mono ?_); rintro e U3c ⟨v3c, rfl, b1, g1⟩
      have BD := Lib.hid b1
      replace B0 := Lib.hid (And.intro (B0.out.1.kep g1) (kep_next B0.out.2 g1))
      replace hlo := Nat.lt_of_lt_of_le hlo g1.size
      refine hK.out _ _ (za_kep hH g1) (fun hH2 => ?_)
      clear b1 g1
      clear hK K hH; have hH := hH2; clear hH2
      try simp only [Act.put, List.setIfInBounds_toArray, List.set_cons_zero, List.set_cons_succ]
      refine sC 12 (fun K hK => ?_)
      refine step_appB (by rfl) _ _ 23 (by rfl) 5 Try.underlying23 info_u8 w.heap.size _ _ _ (A ++ w4 x.k ++ w4 x.r ++ w4 x.ax ++ w4 x.ay ++ w4 x.m ++ w4 x.o ++ w4 x.px) (w4 x.py) (by rfl) B0.out.1 (by rfl) BD.out.sq (w4_ne _) (by (try simp only [List.length_append]); simp only [w4_len]; omega) B0.out.2.size ?_
      intro v3d U3d b1 a1
      have ha := Lib.hid (a1.za NE.out hH)
      replace NE := Lib.hid (a1.ne NE.out hlo)
      replace hlo := Nat.lt_of_lt_of_le hlo a1.size
      replace B0 := Lib.hid (And.intro b1 (B0.out.2.trans (a1.kep B0.out.1)))
      refine hK.out _ _ ha.out (fun hH2 => ?_)
      clear b1 a1 ha BD
      clear hK K hH; have hH := hH2; clear hH2
      try simp only [Act.put, List.setIfInBounds_toArray, List.set_cons_zero, List.set_cons_succ]
      refine sN 13 hH ?_
      refine sE ?_
      have Zb := hH
      clear hH
      generalize U3d = V3 at *
      go_upto_region 10 with fail
      refine wp_region_noPanic ?_
      refine wp_region_held_drew (S := fun w' => ZA w' bb [.int .u32 x.k, .int .i32 x.r, .int .i32 x.ax, .int .i32 x.ay, .int .i32 x.m, .int .i32 x.o, .int .i32 x.px, .int .i32 x.py, .int .i32 x.vx, .int .i32 x.vy]) (by kernel_rfl) (za_kep Zb (kep_drew (Kep.refl _ _))) (fun hH => ?_)
      clear Zb
      replace B0 := Lib.hid (And.intro (B0.out.1.kep (kep_drew (Kep.refl _ _))) (kep_drew B0.out.2))
      replace hlo : bb < V3.drew.heap.size := by simpa using hlo
      generalize V3.drew = Y4 at *
      refine sT 0 hH ?_
      refine sT 1 hH ?_
      refine sN 2 hH ?_
      refine sT 3 hH ?_
      refine sT 4 hH ?_
      refine sN 7 hH ?_
      refine sT 8 hH ?_
      refine sT 9 hH ?_
      refine sN 10 hH ?_
      refine sC 5 (fun K hK => ?_)
      go_simp
      (with_reducible refine (WN.out x.vx (by omega) _).mono ?_); rintro e U4a ⟨v4a, rfl, b1, g1⟩
      have BD := Lib.hid b1
      replace B0 := Lib.hid (And.intro (B0.out.1.kep g1) (kep_next B0.out.2 g1))
      replace hlo := Nat.lt_of_lt_of_le hlo g1.size
      refine hK.out _ _ (za_kep hH g1) (fun hH2 => ?_)
      clear b1 g1
      clear hK K hH; have hH := hH2; clear hH2
      try simp only [Act.put, List.setIfInBounds_toArray, List.set_cons_zero, List.set_cons_succ]
      refine sC 6 (fun K hK => ?_)
      refine step_appB (by rfl) _ _ 23 (by rfl) 5 Try.underlying23 info_u8 w.heap.size _ _ _ (A ++ w4 x.k ++ w4 x.r ++ w4 x.ax ++ w4 x.ay ++ w4 x.m ++ w4 x.o ++ w4 x.px ++ w4 x.py) (w4 x.vx) (by rfl) B0.out.1 (by rfl) BD.out.sq (w4_ne _) (by (try simp only [List.length_append]); simp only [w4_len]; omega) B0.out.2.size ?_
      intro v4b U4b b1 a1
      have ha := Lib.hid (a1.za NE.out hH)
      replace NE := Lib.hid (a1.ne NE.out hlo)
      replace hlo := Nat.lt_of_lt_of_le hlo a1.size
      replace B0 := Lib.hid (And.intro b1 (B0.out.2.trans (a1.kep B0.out.1)))
      refine hK.out _ _ ha.out (fun hH2 => ?_)
      clear b1 a1 ha BD
      clear hK K hH; have hH := hH2; clear hH2
      try simp only [Act.put, List.setIfInBounds_toArray, List.set_cons_zero, List.set_cons_succ]
      refine sC 11 (fun K hK => ?_)
      go_simp
      (with_reducible refine (WN.out x.vy (by omega) _).mono ?_); rintro e U4c ⟨v4c, rfl, b1, g1⟩
      have BD := Lib.hid b1
      replace B0 := Lib.hid (And.intro (B0.out.1.kep g1) (kep_next B0.out.2 g1))
      replace hlo := Nat.lt_of_lt_of_le hlo g1.size
      refine hK.out _ _ (za_kep hH g1) (fun hH2 => ?_)
      clear b1 g1
      clear hK K hH; have hH := hH2; clear hH2
      try simp only [Act.put, List.setIfInBounds_toArray, List.set_cons_zero, List.set_cons_succ]
      refine sC 12 (fun K hK => ?_)
      refine step_appB (by rfl) _ _ 23 (by rfl) 5 Try.underlying23 info_u8 w.heap.size _ _ _ (A ++ w4 x.k ++ w4 x.r ++ w4 x.ax ++ w4 x.ay ++ w4 x.m ++ w4 x.o ++ w4 x.px ++ w4 x.py ++ w4 x.vx) (w4 x.vy) (by rfl) B0.out.1 (by rfl) BD.out.sq (w4_ne _) (by (try simp only [List.length_append]); simp only [w4_len]; omega) B0.out.2.size ?_
      intro v4d U4d b1 a1
      have ha := Lib.hid (a1.za NE.out hH)
      replace NE := Lib.hid (a1.ne NE.out hlo)
      replace hlo := Nat.lt_of_lt_of_le hlo a1.size
      replace B0 := Lib.hid (And.intro b1 (B0.out.2.trans (a1.kep B0.out.1)))
      refine hK.out _ _ ha.out (fun hH2 => ?_)
      clear b1 a1 ha BD
      clear hK K hH; have hH := hH2; clear hH2
      try simp only [Act.put, List.setIfInBounds_toArray, List.set_cons_zero, List.set_cons_succ]
      refine sN 13 hH ?_
      refine sE ?_
      have Zb := hH
      clear hH
      generalize U4d = V4 at *
      rw [EN.out] at B0
      go_wp2_with fail
      go_roundw
      case rel => exact ⟨k + 1, by omega, by go_num, B0⟩
      case measure => simp [RowKit.intOf]; omega
    · obtain rfl : k = n := by omega
      have i2 : ¬ (k : Int) < (k : Int) := by omega
      have HR := Lib.hid (show BufB wr w.heap.size _ (encL L) ∧ Kep w.heap.size w wr by
        have := HP.out
        rw [List.take_of_length_le (by rw [HN.out]; exact Nat.le_refl _)] at this
        unfold encL
        rw [HN.out]
        exact this)
      clear HP
      go_wp2_with fail
      go_ret
      exact ⟨_, rfl, HR.out.1, HR.out.2⟩
end Go.Proofs.Ytllkokfaodpfiaa
