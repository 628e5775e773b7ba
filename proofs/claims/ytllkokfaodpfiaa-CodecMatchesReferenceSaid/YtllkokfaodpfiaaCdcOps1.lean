/-
  Package codec: Size, wordAt, appendWord.
-/
import Derived.Test.YtllkokfaodpfiaaCdcRef2
import Derived.Lib.EndianBits
import Derived.Deep.DeepCutAuto
import Derived.Deep.QuietTactic
import Derived.BigQuiet
namespace Go.Proofs.Ytllkokfaodpfiaa
open Go.RowKit Go.Lib

set_option maxRecDepth 100000 in
set_option maxHeartbeats 2000000 in
theorem csz (n : Nat) (w : World) (h : n ≤ 4096) : Calls Try.prog 15 #[.int .i64 n] w fun e w' => e = .returned (.int .i64 (8 + 40 * (n : Int))) ∧ Kep w.heap.size w w' := by
  have e1 : wrap64 ((n : Int) * 40) = (n : Int) * 40 := by unfold wrap64; omega
  have e2 : wrap64 (8 + (n : Int) * 40) = 8 + 40 * (n : Int) := by unfold wrap64; omega
  have e3 : IntKind.i64.wrap ((n : Int) * 40) = (n : Int) * 40 := by rw [IntKind.wrap_i64]; omega
  have e4 : IntKind.i64.wrap (8 + (n : Int) * 40) = 8 + 40 * (n : Int) := by rw [IntKind.wrap_i64]; omega
  go_enter Try.func15, Try.ntmps15
  go_wp2_with fail
  go_ret
  exact ⟨rfl, Kep.refl _ _⟩
/-- The number of four bytes, by shifts. -/
theorem num_or {a b c d : Int} (ha : 0 ≤ a ∧ a < 256) (hb : 0 ≤ b ∧ b < 256) (hc : 0 ≤ c ∧ c < 256) (hd : 0 ≤ d ∧ d < 256) :
    bits .or .u32 (bits .or .u32 (bits .or .u32 (a * 16777216) (b * 65536)) (c * 256)) d = ((a * 256 + b) * 256 + c) * 256 + d := by
  have j := fun i x y h0 h1 h2 h3 h4 h5 => bits_join .u32 32 (by decide) wraps_u32 i x y h0 h1 h2 h3 h4 h5
  rw [j 24 (a * 16777216) (b * 65536) (by omega) (by omega) (by omega) (by omega) (by omega) (by omega), j 16 _ (c * 256) (by omega) (by omega) (by omega) (by omega) (by omega) (by omega), j 8 _ d (by omega) (by omega) (by omega) (by omega) (by omega) (by omega)]
  omega
set_option maxRecDepth 100000 in
set_option maxHeartbeats 2000000 in
theorem cwa {b : List Int} (hb : Byt b) (hl : 4 ≤ b.length) (v : Value) (w : World) (h : Sq bv 1 w v b) : Calls Try.prog 30 #[v] w fun e w' => e = .returned (.int .u32 (numA b 0)) ∧ Kep w.heap.size w w' := by
  obtain ⟨base, cap, rfl⟩ := h.shape
  obtain ⟨g, off, rfl, c0⟩ := byt_at h (i := 0) (by omega)
  obtain ⟨_, _, e, c1⟩ := byt_at h (i := 1) (by omega)
  injection e with e
  injection e with e1 e2
  subst e1 e2
  obtain ⟨_, _, e, c2⟩ := byt_at h (i := 2) (by omega)
  injection e with e
  injection e with e1 e2
  subst e1 e2
  obtain ⟨_, _, e, c3⟩ := byt_at h (i := 3) (by omega)
  injection e with e
  injection e with e1 e2
  subst e1 e2
  have b0 := gb_byt hb 0
  have b1 := gb_byt hb 1
  have b2 := gb_byt hb 2
  have b3 := gb_byt hb 3
  have E : numA b 0 = ((gb b 0 * 256 + gb b 1) * 256 + gb b 2) * 256 + gb b 3 := rfl
  rw [E, Nat.add_zero] at *
  have hl1 : (1 : Int) < (b.length : Int) := by omega
  have hl2 : (2 : Int) < (b.length : Int) := by omega
  have hl3 : (3 : Int) < (b.length : Int) := by omega
  have hl0 : (0 : Int) < (b.length : Int) := by omega
  generalize gb b 0 = x0 at *
  generalize gb b 1 = x1 at *
  generalize gb b 2 = x2 at *
  generalize gb b 3 = x3 at *
  generalize b.length = n at *
  clear h hb E
  have NO := Lib.hid (num_or b0 b1 b2 b3)
  go_enter Try.func30, Try.ntmps30
  go_upto_region 1 with fail
  go_quiet (fail)
  go_wp2_with fail
  go_ret
  refine ⟨?_, kep_drewN (Kep.refl _ _) _⟩
  show Ending.returned (.int .u32 (bits .or .u32 (bits .or .u32 (bits .or .u32 (x0 * 16777216) (x1 * 65536)) (x2 * 256)) x3)) = _
  rw [NO.out]
set_option maxRecDepth 100000 in
set_option maxHeartbeats 2000000 in
theorem caw {B : Nat} {v : Value} {bs : List Int} {n : Int} {w : World} (h : BufB w B v bs) (hl : bs.length ≤ 100000) (hn : 0 ≤ n ∧ n < 4294967296) (hB : B ≤ w.heap.size) : Calls Try.prog 19 #[v, .int .u32 n] w fun e w' => ∃ v', e = .returned v' ∧ BufB w' B v' (bs ++ w4 n) ∧ Kep B w w' := by
  have H := Lib.hid h
  have e0 := w4_eq (n := n) (a := n / 16777216) (b := n / 65536 % 256) (c := n / 256 % 256) (d := n % 256) (by omega) rfl rfl rfl
  have HW := Lib.hid e0
  clear h e0
  go_enter Try.func19, Try.ntmps19
  go_upto_region 1 with fail
  go_wp2_with (at_builtin; refine wpList_appB (by rfl) _ _ 23 (by rfl) 5 Try.underlying23 info_u8 B _ _ _ bs (w4 n) (by rfl) (H.out.kep (kep_more (Kep.refl _ _) _)) (by rfl) (by rw [HW.out]; exact (buf_new4 _ _ _ _ _ _).sq) (w4_ne _) (by rw [w4_len]; omega) (Nat.le_trans hB (by simp)) ?_; intro v3 w3 b3 a3; have K3 := Lib.hid (((kep_more (Kep.refl _ _) _).mono hB).trans (a3.kep (H.out.kep (kep_more (Kep.refl _ _) _)))); have B3 := Lib.hid b3; clear b3 a3)
  go_ret
  exact ⟨_, rfl, B3.out, K3.out⟩
/-- Numbers as an array. -/
def uA (ns : List Int) : Array Value := ⟨ns.map (fun n => .int .u32 n)⟩
theorem wrap_sgn {n : Int} (h : 0 ≤ n ∧ n < 4294967296) : IntKind.i32.wrap n = sgn n := by
  rw [IntKind.wrap_i32]
  unfold sgn
  split <;> omega
/-- The fields of a body, as numbers without sign. -/
def wds (x : Bd) : List Int := [x.k, x.r % 4294967296, x.ax % 4294967296, x.ay % 4294967296, x.m % 4294967296, x.o % 4294967296, x.px % 4294967296, x.py % 4294967296, x.vx % 4294967296, x.vy % 4294967296]
set_option maxRecDepth 100000 in
set_option maxHeartbeats 2000000 in
theorem cwo (x : Bd) (w : World) : Calls Try.prog 20 #[.agg #[.int .u32 x.k, .int .i32 x.r, .int .i32 x.ax, .int .i32 x.ay, .int .i32 x.m, .int .i32 x.o, .int .i32 x.px, .int .i32 x.py, .int .i32 x.vx, .int .i32 x.vy]] w fun e w' => e = .returned (.agg (uA (wds x))) ∧ Kep w.heap.size w w' := by
  have e1 : IntKind.u32.wrap x.r = x.r % 4294967296 := IntKind.wrap_u32 _
  have e2 : IntKind.u32.wrap x.ax = x.ax % 4294967296 := IntKind.wrap_u32 _
  have e3 : IntKind.u32.wrap x.ay = x.ay % 4294967296 := IntKind.wrap_u32 _
  have e4 : IntKind.u32.wrap x.m = x.m % 4294967296 := IntKind.wrap_u32 _
  have e5 : IntKind.u32.wrap x.o = x.o % 4294967296 := IntKind.wrap_u32 _
  have e6 : IntKind.u32.wrap x.px = x.px % 4294967296 := IntKind.wrap_u32 _
  have e7 : IntKind.u32.wrap x.py = x.py % 4294967296 := IntKind.wrap_u32 _
  have e8 : IntKind.u32.wrap x.vx = x.vx % 4294967296 := IntKind.wrap_u32 _
  have e9 : IntKind.u32.wrap x.vy = x.vy % 4294967296 := IntKind.wrap_u32 _
  go_enter Try.func20, Try.ntmps20
  go_wp2_with fail
  exact bodyPost_ret (v := .agg #[.int .u32 x.k, .int .u32 (x.r % 4294967296), .int .u32 (x.ax % 4294967296), .int .u32 (x.ay % 4294967296), .int .u32 (x.m % 4294967296), .int .u32 (x.o % 4294967296), .int .u32 (x.px % 4294967296), .int .u32 (x.py % 4294967296), .int .u32 (x.vx % 4294967296), .int .u32 (x.vy % 4294967296)]) (by simp [results, Try.results20, go_sem]) rfl ⟨rfl, kep_more (kep_more (Kep.refl _ _) _) _⟩
set_option maxRecDepth 100000 in
set_option maxHeartbeats 2000000 in
theorem cvc {i : Nat} (hi : i = 2 ∨ i = 6 ∨ i = 8) {n0 n1 n2 n3 n4 n5 n6 n7 n8 n9 : Int} (h : ∀ n ∈ [n0, n1, n2, n3, n4, n5, n6, n7, n8, n9], 0 ≤ n ∧ n < 4294967296) (g : Nat) (w : World) (z : ZA w g [.int .u32 n0, .int .u32 n1, .int .u32 n2, .int .u32 n3, .int .u32 n4, .int .u32 n5, .int .u32 n6, .int .u32 n7, .int .u32 n8, .int .u32 n9]) : Calls Try.prog 31 #[.int .i64 (i : Int), .pointer (some ⟨g, 0, none⟩)] w fun e w' => e = .returned (.agg #[.int .i32 (sgn ([n0, n1, n2, n3, n4, n5, n6, n7, n8, n9].getD i 0)), .int .i32 (sgn ([n0, n1, n2, n3, n4, n5, n6, n7, n8, n9].getD (i + 1) 0))]) ∧ Kep w.heap.size w w' := by
  have l := za_lt z
  have ws := Lib.hid (fun n (h : 0 ≤ n ∧ n < 4294967296) => wrap_sgn h)
  rcases hi with rfl | rfl | rfl
  · have c2 := zI z 2
    have c3 := zI z 3
    have e2 := ws.out n2 (h _ (by simp))
    have e3 := ws.out n3 (h _ (by simp))
    clear z h
    go_enter Try.func31, Try.ntmps31
    go_upto_region 1 with fail
    go_region
    go_wp2_with fail
    exact bodyPost_ret (v := .agg #[.int .i32 (sgn n2), .int .i32 (sgn n3)]) (by simp [results, Try.results31, go_sem]) rfl ⟨rfl, kep_drew (kep_more (Kep.refl _ _) _)⟩
  · have c6 := zI z 6
    have c7 := zI z 7
    have e6 := ws.out n6 (h _ (by simp))
    have e7 := ws.out n7 (h _ (by simp))
    clear z h
    go_enter Try.func31, Try.ntmps31
    go_upto_region 1 with fail
    go_region
    go_wp2_with fail
    exact bodyPost_ret (v := .agg #[.int .i32 (sgn n6), .int .i32 (sgn n7)]) (by simp [results, Try.results31, go_sem]) rfl ⟨rfl, kep_drew (kep_more (Kep.refl _ _) _)⟩
  · have c8 := zI z 8
    have c9 := zI z 9
    have e8 := ws.out n8 (h _ (by simp))
    have e9 := ws.out n9 (h _ (by simp))
    clear z h
    go_enter Try.func31, Try.ntmps31
    go_upto_region 1 with fail
    go_region
    go_wp2_with fail
    exact bodyPost_ret (v := .agg #[.int .i32 (sgn n8), .int .i32 (sgn n9)]) (by simp [results, Try.results31, go_sem]) rfl ⟨rfl, kep_drew (kep_more (Kep.refl _ _) _)⟩
theorem za_far {w : World} {b c : Nat} {vs : List Value} (h : ZA w c vs) (n : c ≠ b) (l : List Value) (o : Nat) : ZA (setAll w b o l) c vs := fun i hi => by
  have e := h i hi
  rw [List.getElem?_eq_getElem hi] at e ⊢
  exact setAll_far b l o w n e
abbrev KVc (i a b : Int) (l : List Value) (g : Nat) : Prop := ∀ w, ZA w g l → Calls Try.prog 31 #[.int .i64 i, .pointer (some ⟨g, 0, none⟩)] w fun e w' => e = .returned (.agg #[.int .i32 a, .int .i32 b]) ∧ Kep w.heap.size w w'
set_option maxRecDepth 100000 in
set_option maxHeartbeats 4000000 in
theorem cbo {n0 n1 n2 n3 n4 n5 n6 n7 n8 n9 : Int} (h : ∀ n ∈ [n0, n1, n2, n3, n4, n5, n6, n7, n8, n9], 0 ≤ n ∧ n < 4294967296) (w : World) : Calls Try.prog 22 #[.agg #[.int .u32 n0, .int .u32 n1, .int .u32 n2, .int .u32 n3, .int .u32 n4, .int .u32 n5, .int .u32 n6, .int .u32 n7, .int .u32 n8, .int .u32 n9]] w fun e w' => e = .returned (.agg #[.int .u32 n0, .int .i32 (sgn n1), .int .i32 (sgn n2), .int .i32 (sgn n3), .int .i32 (sgn n4), .int .i32 (sgn n5), .int .i32 (sgn n6), .int .i32 (sgn n7), .int .i32 (sgn n8), .int .i32 (sgn n9)]) ∧ Kep w.heap.size w w' := by
  have V2 : Hid (KVc 2 (sgn n2) (sgn n3) [.int .u32 n0, .int .u32 n1, .int .u32 n2, .int .u32 n3, .int .u32 n4, .int .u32 n5, .int .u32 n6, .int .u32 n7, .int .u32 n8, .int .u32 n9] w.heap.size) := Lib.hid fun W z => cvc (.inl rfl) h w.heap.size W z
  have V6 : Hid (KVc 6 (sgn n6) (sgn n7) [.int .u32 n0, .int .u32 n1, .int .u32 n2, .int .u32 n3, .int .u32 n4, .int .u32 n5, .int .u32 n6, .int .u32 n7, .int .u32 n8, .int .u32 n9] w.heap.size) := Lib.hid fun W z => cvc (.inr (.inl rfl)) h w.heap.size W z
  have V8 : Hid (KVc 8 (sgn n8) (sgn n9) [.int .u32 n0, .int .u32 n1, .int .u32 n2, .int .u32 n3, .int .u32 n4, .int .u32 n5, .int .u32 n6, .int .u32 n7, .int .u32 n8, .int .u32 n9] w.heap.size) := Lib.hid fun W z => cvc (.inr (.inr rfl)) h w.heap.size W z
  have e1 := wrap_sgn (h n1 (by simp))
  have e4 := wrap_sgn (h n4 (by simp))
  have e5 := wrap_sgn (h n5 (by simp))
  have hmf : ∀ (fn : Fn) (first cap : Array Value) (w : World), (Instr.makeFunc fn first cap).run Try.prog w = .ok (.func fn first cap) w := fun _ _ _ _ => rfl
  clear h
  · go_enter Try.func22, Try.ntmps22
    go_upto_region 2 with fail
    generalize hW : World.alloc _ _ = W
    have Zb : ZC W w.heap.size [.int .u32 n0, .int .u32 n1, .int .u32 n2, .int .u32 n3, .int .u32 n4, .int .u32 n5, .int .u32 n6, .int .u32 n7, .int .u32 n8, .int .u32 n9] := by rw [← hW]; exact (zc_new' _ _ _ rfl).more _
    have Zr : ZC W (w.heap.size + 1) [.int .u32 0, .int .i32 0, .int .i32 0, .int .i32 0, .int .i32 0, .int .i32 0, .int .i32 0, .int .i32 0, .int .i32 0, .int .i32 0] := by rw [← hW]; exact zc_new' _ _ _ (by simp)
    have gg : Kep w.heap.size w W := by rw [← hW]; exact kep_more (kep_more (Kep.refl _ _) _) _
    clear hW
    refine wp_region_noPanic ?_
    refine wp_region_held_drew (S := fun w' => ZA w' w.heap.size [.int .u32 n0, .int .u32 n1, .int .u32 n2, .int .u32 n3, .int .u32 n4, .int .u32 n5, .int .u32 n6, .int .u32 n7, .int .u32 n8, .int .u32 n9]) (by kernel_rfl) (za_kep (za_of Zb) (kep_drew (Kep.refl _ _))) (fun hH => ?_)
    replace Zr := Zr.drew
    replace gg := kep_drew gg
    clear Zb
    generalize W.drew = Y0 at *
    refine sT 0 hH ?_
    refine sT 1 hH ?_
    refine sT 2 hH ?_
    refine sT 3 hH ?_
    refine sN 4 hH ?_
    refine sT 5 hH ?_
    refine sT 7 hH ?_
    refine sT 8 hH ?_
    refine sN 9 hH ?_
    refine sT 10 hH ?_
    refine sT 11 hH ?_
    refine sN 12 hH ?_
    refine sT 13 hH ?_
    refine sN 15 hH ?_
    refine sC 6 (fun K hK => ?_)
    go_simp
    (with_reducible refine (V2.out _ hH).mono ?_); rintro e U1 ⟨rfl, g1⟩
    replace Zr := Zr.kep g1
    replace gg := kep_next gg g1
    refine hK.out _ _ (za_kep hH g1) (fun hH2 => ?_)
    clear g1
    clear hK K hH; have hH := hH2; clear hH2
    try simp only [Act.put, List.setIfInBounds_toArray, List.set_cons_zero, List.set_cons_succ]
    refine sC 14 (fun K hK => ?_)
    go_simp
    (with_reducible refine (V6.out _ hH).mono ?_); rintro e U2 ⟨rfl, g1⟩
    replace Zr := Zr.kep g1
    replace gg := kep_next gg g1
    refine hK.out _ _ (za_kep hH g1) (fun hH2 => ?_)
    clear g1
    clear hK K hH; have hH := hH2; clear hH2
    try simp only [Act.put, List.setIfInBounds_toArray, List.set_cons_zero, List.set_cons_succ]
    refine sC 16 (fun K hK => ?_)
    go_simp
    (with_reducible refine (V8.out _ hH).mono ?_); rintro e U3 ⟨rfl, g1⟩
    replace Zr := Zr.kep g1
    replace gg := kep_next gg g1
    refine hK.out _ _ (za_kep hH g1) (fun hH2 => ?_)
    clear g1
    clear hK K hH; have hH := hH2; clear hH2
    try simp only [Act.put, List.setIfInBounds_toArray, List.set_cons_zero, List.set_cons_succ]
    refine sN 17 hH ?_
    have x0 := Zr.i (i := 0) rfl
    have q0 := Zr.frz 0
    have x1 := Zr.i (i := 1) rfl
    have q1 := Zr.frz 1
    have x2 := Zr.i (i := 2) rfl
    have q2 := Zr.frz 2
    have x3 := Zr.i (i := 3) rfl
    have q3 := Zr.frz 3
    have x4 := Zr.i (i := 4) rfl
    have q4 := Zr.frz 4
    have x5 := Zr.i (i := 5) rfl
    have q5 := Zr.frz 5
    have x6 := Zr.i (i := 6) rfl
    have q6 := Zr.frz 6
    have x7 := Zr.i (i := 7) rfl
    have q7 := Zr.frz 7
    have x8 := Zr.i (i := 8) rfl
    have q8 := Zr.frz 8
    have x9 := Zr.i (i := 9) rfl
    have q9 := Zr.frz 9
    have hst := Zr.set [.int .u32 n0, .int .i32 (sgn n1), .int .i32 (sgn n2), .int .i32 (sgn n3), .int .i32 (sgn n4), .int .i32 (sgn n5), .int .i32 (sgn n6), .int .i32 (sgn n7), .int .i32 (sgn n8), .int .i32 (sgn n9)] (by simp)
    simp only [setAll, Nat.zero_add, Nat.reduceAdd] at hst
    have hz := za_far hH (b := w.heap.size + 1) (by omega) [.int .u32 n0, .int .i32 (sgn n1), .int .i32 (sgn n2), .int .i32 (sgn n3), .int .i32 (sgn n4), .int .i32 (sgn n5), .int .i32 (sgn n6), .int .i32 (sgn n7), .int .i32 (sgn n8), .int .i32 (sgn n9)] 0
    simp only [setAll, Nat.zero_add, Nat.reduceAdd] at hz
    have HZ := Lib.hid hz
    have HS := Lib.hid hst
    have GG := Lib.hid (kep_setAll (b := w.heap.size + 1) (by omega) [.int .u32 n0, .int .i32 (sgn n1), .int .i32 (sgn n2), .int .i32 (sgn n3), .int .i32 (sgn n4), .int .i32 (sgn n5), .int .i32 (sgn n6), .int .i32 (sgn n7), .int .i32 (sgn n8), .int .i32 (sgn n9)] 0 gg)
    clear hz hst gg Zr
    refine sC 18 (fun K hK => ?_)
    go_simp
    refine hK.out _ _ HZ.out (fun hH2 => ?_)
    clear hK K hH; have hH := hH2; clear hH2
    try simp only [Act.put, List.setIfInBounds_toArray, List.set_cons_zero, List.set_cons_succ]
    refine sE ?_
    clear x0 q0 x1 q1 x2 q2 x3 q3 x4 q4 x5 q5 x6 q6 x7 q7 x8 q8 x9 q9 HZ hH
    generalize hU : World.setCell _ _ _ = U4 at *
    have gg := GG.out
    have hst := HS.out
    simp only [setAll, Nat.zero_add, Nat.reduceAdd] at gg
    rw [hU] at gg
    clear hU GG HS V2 V6 V8 hmf e1 e4 e5
    have y0 := hst.i (i := 0) rfl
    have y1 := hst.i (i := 1) rfl
    have y2 := hst.i (i := 2) rfl
    have y3 := hst.i (i := 3) rfl
    have y4 := hst.i (i := 4) rfl
    have y5 := hst.i (i := 5) rfl
    have y6 := hst.i (i := 6) rfl
    have y7 := hst.i (i := 7) rfl
    have y8 := hst.i (i := 8) rfl
    have y9 := hst.i (i := 9) rfl
    go_wp2_with fail
    exact bodyPost_ret (v := .agg #[.int .u32 n0, .int .i32 (sgn n1), .int .i32 (sgn n2), .int .i32 (sgn n3), .int .i32 (sgn n4), .int .i32 (sgn n5), .int .i32 (sgn n6), .int .i32 (sgn n7), .int .i32 (sgn n8), .int .i32 (sgn n9)]) (by simp [results, Try.results22, go_sem, y0, y1, y2, y3, y4, y5, y6, y7, y8, y9]) rfl ⟨rfl, gg⟩
end Go.Proofs.Ytllkokfaodpfiaa
