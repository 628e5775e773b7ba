/-
  Package store: the law StoreRemoves.
-/
import Derived.Test.YtfkieieedljodaaStoreAwake
namespace Go.Proofs.Ytfkieieedljodaa
open Go.RowKit Go.Lib Go.Maps

theorem Lst.at_ {w : World} {base : Option Addr} {n cap k : Nat} {L : List Bd} {b : Bd} (h : Lst w (.slice base n cap) L) (hb : L[k]? = some b) : ∃ g off, base = some ⟨g, off, none⟩ ∧ ∀ i, i < 10 → w.cell? ⟨g, off + k * 10 + i, none⟩ = (vals b)[i]? := by
  rcases h with ⟨rfl, _⟩ | ⟨g, off, c, e, hc⟩
  · simp at hb
  · injection e with e1 e2 e3
    exact ⟨g, off, e1, hc k b hb⟩
theorem put_back {m : List Bd} {b : Bd} (hm : Asc m) (hn : look m b.k = none) : put (put m b false) (bare b.k) true = m := by
  refine asc_ext (put_asc (put_asc hm b false) _ true) hm fun key => ?_
  rw [look_gone (put_asc hm b false), look_put hm]
  show (if b.k = key then none else _) = _
  by_cases c : b.k = key
  · rw [if_pos c, ← c, hn]
  · rw [if_neg c, if_neg c]
theorem put_again {m : List Bd} {b : Bd} (hm : Asc m) : put (put m (bare b.k) true) b false = put m b false := by
  refine asc_ext (put_asc (put_asc hm _ true) b false) (put_asc hm b false) fun key => ?_
  rw [look_put (put_asc hm _ true), look_put hm, look_gone hm]
  show (if b.k = key then _ else if b.k = key then none else _) = _
  by_cases c : b.k = key
  · rw [if_pos c, if_pos c]
  · rw [if_neg c, if_neg c, if_neg c]
theorem gone_len {m : List Bd} {key : Int} : (put m (bare key) true).length ≤ m.length := by rw [put_gone]; exact List.length_filter_le _ _
theorem look_bare {m : List Bd} {b : Bd} (hm : Asc m) : look (put m (bare b.k) true) b.k = none := by
  rw [look_gone hm]; exact if_pos rfl
theorem bad_body {b : Bd} {c : Int} (h : chkB b = c) : Rckb b c := rckb h

set_option maxRecDepth 100000 in
set_option maxHeartbeats 4000000 in
theorem removes_long (base : Option Addr) (cap : Nat) (L : List Bd) (w : World) (b : Bd) (hlen : 100 < L.length) : Calls Try.prog 7 #[.slice base L.length cap, Value.agg #[Value.int .u32 b.k, Value.int .i32 b.r, Value.int .i32 b.ax, Value.int .i32 b.ay, Value.int .i32 b.m, Value.int .i32 b.o, Value.int .i32 b.px, Value.int .i32 b.py, Value.int .i32 b.vx, Value.int .i32 b.vy]] w (fun e w' => e = .returned (.bool true) ∧ Kep w.heap.size w w') := by
  have AW := Lib.hid store_awake
  have hl : (100 : Int) < (L.length : Int) := by omega
  generalize L.length = n at *
  go_enter Try.func7, Try.ntmps7
  go_wp2_with (first
    | ((with_reducible refine (AW.out _).mono ?_); rintro e w2 ⟨rfl, k2⟩; have K2 := Lib.hid (K1.out.next k2))
    | ((with_reducible refine (AW.out _).mono ?_); rintro e w1 ⟨rfl, k1⟩; have K1 := Lib.hid ((Kep.made w _).next k1)))
  go_ret
  exact ⟨rfl, K2.out⟩
set_option maxRecDepth 100000 in
set_option maxHeartbeats 4000000 in
theorem removes_bad (base : Option Addr) (cap : Nat) (L : List Bd) (w : World) (b : Bd) (hlen : L.length ≤ 100) (c : Int) (hc : chkB b = c) (h0 : c ≠ 0) : Calls Try.prog 7 #[.slice base L.length cap, Value.agg #[Value.int .u32 b.k, Value.int .i32 b.r, Value.int .i32 b.ax, Value.int .i32 b.ay, Value.int .i32 b.m, Value.int .i32 b.o, Value.int .i32 b.px, Value.int .i32 b.py, Value.int .i32 b.vx, Value.int .i32 b.vy]] w (fun e w' => e = .returned (.bool true) ∧ Kep w.heap.size w w') := by
  have AW := Lib.hid store_awake
  have CK := Lib.hid (bad_body hc)
  have hl : (L.length : Int) ≤ 100 := by omega
  have hc' : (c != 0) = true := bne_iff_ne.2 h0
  generalize L.length = n at *
  clear hc h0
  go_enter Try.func7, Try.ntmps7
  go_wp2_with (first
    | ((with_reducible refine (CK.out _).mono ?_); rintro e w3 ⟨rfl, g3⟩; have K3 := Lib.hid (K1.out.next (Kep.of_grown g3)))
    | ((with_reducible refine (AW.out _).mono ?_); rintro e w2 ⟨rfl, k2⟩; have K2 := Lib.hid (K3.out.next k2))
    | ((with_reducible refine (AW.out _).mono ?_); rintro e w1 ⟨rfl, k1⟩; have K1 := Lib.hid ((Kep.made w _).next k1); have y0 : w1.cell? ⟨w.heap.size, 0, none⟩ = some (Value.int .u32 b.k) := k1.all (by rw [World.cell?_alloc_at _ _ _ _ rfl]; rfl); have y1 : w1.cell? ⟨w.heap.size, 1, none⟩ = some (Value.int .i32 b.r) := k1.all (by rw [World.cell?_alloc_at _ _ _ _ rfl]; rfl); have y2 : w1.cell? ⟨w.heap.size, 2, none⟩ = some (Value.int .i32 b.ax) := k1.all (by rw [World.cell?_alloc_at _ _ _ _ rfl]; rfl); have y3 : w1.cell? ⟨w.heap.size, 3, none⟩ = some (Value.int .i32 b.ay) := k1.all (by rw [World.cell?_alloc_at _ _ _ _ rfl]; rfl); have y4 : w1.cell? ⟨w.heap.size, 4, none⟩ = some (Value.int .i32 b.m) := k1.all (by rw [World.cell?_alloc_at _ _ _ _ rfl]; rfl); have y5 : w1.cell? ⟨w.heap.size, 5, none⟩ = some (Value.int .i32 b.o) := k1.all (by rw [World.cell?_alloc_at _ _ _ _ rfl]; rfl); have y6 : w1.cell? ⟨w.heap.size, 6, none⟩ = some (Value.int .i32 b.px) := k1.all (by rw [World.cell?_alloc_at _ _ _ _ rfl]; rfl); have y7 : w1.cell? ⟨w.heap.size, 7, none⟩ = some (Value.int .i32 b.py) := k1.all (by rw [World.cell?_alloc_at _ _ _ _ rfl]; rfl); have y8 : w1.cell? ⟨w.heap.size, 8, none⟩ = some (Value.int .i32 b.vx) := k1.all (by rw [World.cell?_alloc_at _ _ _ _ rfl]; rfl); have y9 : w1.cell? ⟨w.heap.size, 9, none⟩ = some (Value.int .i32 b.vy) := k1.all (by rw [World.cell?_alloc_at _ _ _ _ rfl]; rfl)))
  go_ret
  exact ⟨rfl, K2.out⟩
set_option maxRecDepth 100000 in
set_option maxHeartbeats 4000000 in
theorem removes_new (base : Option Addr) (cap : Nat) (L : List Bd) (w : World) (h : Lst w (.slice base L.length cap) L) (hF : ∀ x ∈ L, Fits x) (b : Bd) (hb : Fits b) (hlen : L.length ≤ 100) (hc : chkB b = 0) (hlk : look (allL L) b.k = none) : Calls Try.prog 7 #[.slice base L.length cap, Value.agg #[Value.int .u32 b.k, Value.int .i32 b.r, Value.int .i32 b.ax, Value.int .i32 b.ay, Value.int .i32 b.m, Value.int .i32 b.o, Value.int .i32 b.px, Value.int .i32 b.py, Value.int .i32 b.vx, Value.int .i32 b.vy]] w (fun e w' => e = .returned (.bool true) ∧ Kep w.heap.size w w') := by
  have HCB := Lib.hid hc
  have AW := Lib.hid store_awake
  have CK := Lib.hid (bad_body hc)
  have HB := Lib.hid hb
  have HF := Lib.hid hF
  obtain ⟨n, hn⟩ : ∃ n, n = L.length := ⟨_, rfl⟩
  have HN := Lib.hid hn.symm
  have hl : (n : Int) ≤ 100 := by omega
  rw [← hn] at h ⊢
  have H := Lib.hid h
  have HQ := Lib.hid (allL_asc L)
  have HLK := Lib.hid hlk
  clear hn hc h hb hF hlk hlen
  go_enter Try.func7, Try.ntmps7
  go_wp2_with (first
    | ((with_reducible refine (AW.out _).mono ?_); rintro e w1 ⟨rfl, k1⟩; have K1 := Lib.hid ((Kep.made w _).next k1); have y0 : w1.cell? ⟨w.heap.size, 0, none⟩ = some (Value.int .u32 b.k) := k1.all (by rw [World.cell?_alloc_at _ _ _ _ rfl]; rfl); have y1 : w1.cell? ⟨w.heap.size, 1, none⟩ = some (Value.int .i32 b.r) := k1.all (by rw [World.cell?_alloc_at _ _ _ _ rfl]; rfl); have y2 : w1.cell? ⟨w.heap.size, 2, none⟩ = some (Value.int .i32 b.ax) := k1.all (by rw [World.cell?_alloc_at _ _ _ _ rfl]; rfl); have y3 : w1.cell? ⟨w.heap.size, 3, none⟩ = some (Value.int .i32 b.ay) := k1.all (by rw [World.cell?_alloc_at _ _ _ _ rfl]; rfl); have y4 : w1.cell? ⟨w.heap.size, 4, none⟩ = some (Value.int .i32 b.m) := k1.all (by rw [World.cell?_alloc_at _ _ _ _ rfl]; rfl); have y5 : w1.cell? ⟨w.heap.size, 5, none⟩ = some (Value.int .i32 b.o) := k1.all (by rw [World.cell?_alloc_at _ _ _ _ rfl]; rfl); have y6 : w1.cell? ⟨w.heap.size, 6, none⟩ = some (Value.int .i32 b.px) := k1.all (by rw [World.cell?_alloc_at _ _ _ _ rfl]; rfl); have y7 : w1.cell? ⟨w.heap.size, 7, none⟩ = some (Value.int .i32 b.py) := k1.all (by rw [World.cell?_alloc_at _ _ _ _ rfl]; rfl); have y8 : w1.cell? ⟨w.heap.size, 8, none⟩ = some (Value.int .i32 b.vx) := k1.all (by rw [World.cell?_alloc_at _ _ _ _ rfl]; rfl); have y9 : w1.cell? ⟨w.heap.size, 9, none⟩ = some (Value.int .i32 b.vy) := k1.all (by rw [World.cell?_alloc_at _ _ _ _ rfl]; rfl))
    | ((with_reducible refine (CK.out _).mono ?_); rintro e w2 ⟨rfl, g2⟩; have K2 := Lib.hid (K1.out.next (Kep.of_grown g2)); replace y0 := kept_cell g2 y0; replace y1 := kept_cell g2 y1; replace y2 := kept_cell g2 y2; replace y3 := kept_cell g2 y3; replace y4 := kept_cell g2 y4; replace y5 := kept_cell g2 y5; replace y6 := kept_cell g2 y6; replace y7 := kept_cell g2 y7; replace y8 := kept_cell g2 y8; replace y9 := kept_cell g2 y9))
  have lb : w.heap.size < w2.heap.size := World.block_lt_of_cell? _ _ y0
  have S0 := Lib.hid (fresh_new w2)
  go_loopw [6] (fun i wr => ∃ k : Nat, k ≤ n ∧ i = .int .i64 k ∧ Hid (Fresh w2.heap.size wr w2.heap.size (allL (L.take k)) ∧ Kep w2.heap.size w2 wr)) (fun i _ => n - (RowKit.intOf i).toNat)
  case atStart => exact ⟨0, Nat.zero_le _, rfl, Lib.hid ⟨by simpa [allL] using S0.out, Kep.made _ _⟩⟩
  case round =>
    obtain ⟨k, hk, rfl, HK⟩ := hrel
    have KW := Lib.hid (K2.out.trans (HK.out.2.mono K2.out.size))
    by_cases hlt : k < n
    · have hb : L[k]? = some (L[k]'(by rw [HN.out]; exact hlt)) := List.getElem?_eq_getElem _
      generalize L[k]'(by rw [HN.out]; exact hlt) = x at hb
      obtain ⟨g, off, hbase, hc⟩ := Lst.at_ H.out hb
      subst hbase
      obtain ⟨x0, x1, x2, x3, x4, x5, x6, x7, x8, x9⟩ := old_cells KW.out hc
      have C := Lib.hid (fadd HK.out.1 x (HF.out x (List.mem_of_getElem? hb)))
      have HX := Lib.hid (allL_take hb)
      clear hb hc
      go_wp2_with ((with_reducible refine (C.out).mono ?_); rintro e w3 ⟨rfl, s3, k3⟩; replace s3 := Lib.hid s3; replace k3 := Lib.hid k3)
      go_roundw
      case rel => exact ⟨k + 1, by omega, by go_num, Lib.hid ⟨by rw [HX.out]; exact s3.out, HK.out.2.trans k3.out⟩⟩
      case measure => simp [RowKit.intOf]; omega
    · have S1 : Hid (Fresh w2.heap.size wr w2.heap.size (allL L)) := Lib.hid (by have := HK.out.1; rw [List.take_of_length_le (by rw [HN.out]; omega)] at this; exact this)
      have KR := Lib.hid HK.out.2
      clear HK
      obtain ⟨hA, hM⟩ := HQ.out
      have E1 := add_is HCB.out HLK.out (by have := HN.out; omega)
      have E2 := remove_is (m := put (allL L) b false) (key := b.k) (by rw [look_put hA, if_pos rfl]; simp)
      rw [put_back hA HLK.out] at E2
      have A1 : Hid (∀ w' v, Sep w2.heap.size w' w2.heap.size (allL L) v (allL L) → Calls Try.prog 9 #[.pointer (some ⟨w2.heap.size, 0, none⟩), Value.agg #[Value.int .u32 b.k, Value.int .i32 b.r, Value.int .i32 b.ax, Value.int .i32 b.ay, Value.int .i32 b.m, Value.int .i32 b.o, Value.int .i32 b.px, Value.int .i32 b.py, Value.int .i32 b.vx, Value.int .i32 b.vy]] w' (SDone w2.heap.size w' w2.heap.size 0 (put (allL L) b false) v (allL L))) := Lib.hid fun w' v q => by have := sadd q b HB.out; rw [E1.1, E1.2] at this; exact this
      have R1 : Hid (∀ w' v, Sep w2.heap.size w' w2.heap.size (put (allL L) b false) v (allL L) → Calls Try.prog 11 #[.pointer (some ⟨w2.heap.size, 0, none⟩), .int .u32 b.k] w' (SDone w2.heap.size w' w2.heap.size 0 (allL L) v (allL L))) := Lib.hid fun w' v q => by have := sremove q (wf_u32 HB.out); rw [E2.1, E2.2] at this; exact this
      have AL := Lib.hid (all_any _ L wr (H.out.kep KW.out) (by have := HN.out; omega))
      have FI : Hid (∀ w' v, Lst w' v (allL L) → Calls Try.prog 16 #[v, .int .u32 b.k] w' fun e w'' => e = .returned (.int .i64 (-1)) ∧ w' = w'') := Lib.hid fun w' v q => by have := find_any v (allL L) b.k w' q (by have := HN.out; omega); rw [place_none HLK.out] at this; exact this
      have HL1 : Hid ((allL L).length ≤ 1000000000) := Lib.hid (by have := HN.out; omega)
      replace y0 := KR.out.holds lb y0; replace y1 := KR.out.holds lb y1; replace y2 := KR.out.holds lb y2; replace y3 := KR.out.holds lb y3; replace y4 := KR.out.holds lb y4; replace y5 := KR.out.holds lb y5; replace y6 := KR.out.holds lb y6; replace y7 := KR.out.holds lb y7; replace y8 := KR.out.holds lb y8; replace y9 := KR.out.holds lb y9
      clear E1 E2 hA hM HQ HLK HF HB HN
      go_wp2_with (first
    | ((with_reducible refine (AL.out).mono ?_); rintro e w4 ⟨v4, rfl, ⟨l4, n4⟩, k4⟩; have K4 := Lib.hid k4; have S4 := Lib.hid (Sep.of_new S1.out k4 l4 n4); replace y0 := k4.all y0; replace y1 := k4.all y1; replace y2 := k4.all y2; replace y3 := k4.all y3; replace y4 := k4.all y4; replace y5 := k4.all y5; replace y6 := k4.all y6; replace y7 := k4.all y7; replace y8 := k4.all y8; replace y9 := k4.all y9; clear l4 k4 n4)
    | ((with_reducible refine (FI.out _ _ S4.out.lst).mono ?_); rintro e w5 ⟨rfl, rfl⟩)
    | ((with_reducible refine (A1.out _ _ S4.out).mono ?_); rintro e w6 ⟨rfl, s6, k6⟩; have S6 := Lib.hid s6; have K6 := Lib.hid k6; have lc := Nat.lt_of_lt_of_le lb S4.out.1; replace y0 := k6.holds lb y0; replace y1 := k6.holds lb y1; replace y2 := k6.holds lb y2; replace y3 := k6.holds lb y3; replace y4 := k6.holds lb y4; replace y5 := k6.holds lb y5; replace y6 := k6.holds lb y6; replace y7 := k6.holds lb y7; replace y8 := k6.holds lb y8; replace y9 := k6.holds lb y9; clear s6 k6)
    | ((with_reducible refine (R1.out _ _ S6.out).mono ?_); rintro e w7 ⟨rfl, s7, k7⟩; have S7 := Lib.hid s7; have K7 := Lib.hid k7; clear s7 k7)
    | ((with_reducible refine (fbodies S7.out.fresh).mono ?_); rintro e w8 ⟨v8, rfl, o8, k8⟩; have O8 := Lib.hid o8; have K8 := Lib.hid k8; clear o8 k8)
    | ((with_reducible refine (same_any _ _ _ _ O8.out.lst (S7.out.lst.kep K8.out) HL1.out).mono ?_); rintro e w9 ⟨rfl, k9⟩; have K9 := Lib.hid k9; clear k9))
      go_ret
      exact ⟨rfl, ((((KW.out.next K4.out).trans (K6.out.mono K2.out.size)).trans (K7.out.mono K2.out.size)).next K8.out).next K9.out⟩
set_option maxRecDepth 100000 in
set_option maxHeartbeats 4000000 in
theorem removes_has (base : Option Addr) (cap : Nat) (L : List Bd) (w : World) (h : Lst w (.slice base L.length cap) L) (hF : ∀ x ∈ L, Fits x) (b : Bd) (hb : Fits b) (hlen : L.length ≤ 100) (hc : chkB b = 0) (hlk : look (allL L) b.k ≠ none) : Calls Try.prog 7 #[.slice base L.length cap, Value.agg #[Value.int .u32 b.k, Value.int .i32 b.r, Value.int .i32 b.ax, Value.int .i32 b.ay, Value.int .i32 b.m, Value.int .i32 b.o, Value.int .i32 b.px, Value.int .i32 b.py, Value.int .i32 b.vx, Value.int .i32 b.vy]] w (fun e w' => e = .returned (.bool true) ∧ Kep w.heap.size w w') := by
  have HCB := Lib.hid hc
  have AW := Lib.hid store_awake
  have CK := Lib.hid (bad_body hc)
  have HB := Lib.hid hb
  have HF := Lib.hid hF
  obtain ⟨n, hn⟩ : ∃ n, n = L.length := ⟨_, rfl⟩
  have HN := Lib.hid hn.symm
  have hl : (n : Int) ≤ 100 := by omega
  rw [← hn] at h ⊢
  have H := Lib.hid h
  have HQ := Lib.hid (allL_asc L)
  have HLK := Lib.hid hlk
  clear hn hc h hb hF hlk hlen
  go_enter Try.func7, Try.ntmps7
  go_wp2_with (first
    | ((with_reducible refine (AW.out _).mono ?_); rintro e w1 ⟨rfl, k1⟩; have K1 := Lib.hid ((Kep.made w _).next k1); have y0 : w1.cell? ⟨w.heap.size, 0, none⟩ = some (Value.int .u32 b.k) := k1.all (by rw [World.cell?_alloc_at _ _ _ _ rfl]; rfl); have y1 : w1.cell? ⟨w.heap.size, 1, none⟩ = some (Value.int .i32 b.r) := k1.all (by rw [World.cell?_alloc_at _ _ _ _ rfl]; rfl); have y2 : w1.cell? ⟨w.heap.size, 2, none⟩ = some (Value.int .i32 b.ax) := k1.all (by rw [World.cell?_alloc_at _ _ _ _ rfl]; rfl); have y3 : w1.cell? ⟨w.heap.size, 3, none⟩ = some (Value.int .i32 b.ay) := k1.all (by rw [World.cell?_alloc_at _ _ _ _ rfl]; rfl); have y4 : w1.cell? ⟨w.heap.size, 4, none⟩ = some (Value.int .i32 b.m) := k1.all (by rw [World.cell?_alloc_at _ _ _ _ rfl]; rfl); have y5 : w1.cell? ⟨w.heap.size, 5, none⟩ = some (Value.int .i32 b.o) := k1.all (by rw [World.cell?_alloc_at _ _ _ _ rfl]; rfl); have y6 : w1.cell? ⟨w.heap.size, 6, none⟩ = some (Value.int .i32 b.px) := k1.all (by rw [World.cell?_alloc_at _ _ _ _ rfl]; rfl); have y7 : w1.cell? ⟨w.heap.size, 7, none⟩ = some (Value.int .i32 b.py) := k1.all (by rw [World.cell?_alloc_at _ _ _ _ rfl]; rfl); have y8 : w1.cell? ⟨w.heap.size, 8, none⟩ = some (Value.int .i32 b.vx) := k1.all (by rw [World.cell?_alloc_at _ _ _ _ rfl]; rfl); have y9 : w1.cell? ⟨w.heap.size, 9, none⟩ = some (Value.int .i32 b.vy) := k1.all (by rw [World.cell?_alloc_at _ _ _ _ rfl]; rfl))
    | ((with_reducible refine (CK.out _).mono ?_); rintro e w2 ⟨rfl, g2⟩; have K2 := Lib.hid (K1.out.next (Kep.of_grown g2)); replace y0 := kept_cell g2 y0; replace y1 := kept_cell g2 y1; replace y2 := kept_cell g2 y2; replace y3 := kept_cell g2 y3; replace y4 := kept_cell g2 y4; replace y5 := kept_cell g2 y5; replace y6 := kept_cell g2 y6; replace y7 := kept_cell g2 y7; replace y8 := kept_cell g2 y8; replace y9 := kept_cell g2 y9))
  have lb : w.heap.size < w2.heap.size := World.block_lt_of_cell? _ _ y0
  have S0 := Lib.hid (fresh_new w2)
  go_loopw [6] (fun i wr => ∃ k : Nat, k ≤ n ∧ i = .int .i64 k ∧ Hid (Fresh w2.heap.size wr w2.heap.size (allL (L.take k)) ∧ Kep w2.heap.size w2 wr)) (fun i _ => n - (RowKit.intOf i).toNat)
  case atStart => exact ⟨0, Nat.zero_le _, rfl, Lib.hid ⟨by simpa [allL] using S0.out, Kep.made _ _⟩⟩
  case round =>
    obtain ⟨k, hk, rfl, HK⟩ := hrel
    have KW := Lib.hid (K2.out.trans (HK.out.2.mono K2.out.size))
    by_cases hlt : k < n
    · have hb : L[k]? = some (L[k]'(by rw [HN.out]; exact hlt)) := List.getElem?_eq_getElem _
      generalize L[k]'(by rw [HN.out]; exact hlt) = x at hb
      obtain ⟨g, off, hbase, hc⟩ := Lst.at_ H.out hb
      subst hbase
      obtain ⟨x0, x1, x2, x3, x4, x5, x6, x7, x8, x9⟩ := old_cells KW.out hc
      have C := Lib.hid (fadd HK.out.1 x (HF.out x (List.mem_of_getElem? hb)))
      have HX := Lib.hid (allL_take hb)
      clear hb hc
      go_wp2_with ((with_reducible refine (C.out).mono ?_); rintro e w3 ⟨rfl, s3, k3⟩; replace s3 := Lib.hid s3; replace k3 := Lib.hid k3)
      go_roundw
      case rel => exact ⟨k + 1, by omega, by go_num, Lib.hid ⟨by rw [HX.out]; exact s3.out, HK.out.2.trans k3.out⟩⟩
      case measure => simp [RowKit.intOf]; omega
    · have S1 : Hid (Fresh w2.heap.size wr w2.heap.size (allL L)) := Lib.hid (by have := HK.out.1; rw [List.take_of_length_le (by rw [HN.out]; omega)] at this; exact this)
      have KR := Lib.hid HK.out.2
      clear HK
      obtain ⟨hA, hM⟩ := HQ.out
      have E0 := add_dup_is HCB.out HLK.out
      have E1 := remove_is HLK.out
      have E2 := add_is (m := (put (allL L) (bare b.k) true)) HCB.out (look_bare hA) (by have := gone_len (m := allL L) (key := b.k); have := HN.out; omega)
      rw [put_again hA] at E2
      have A0 : Hid (∀ w' v, Sep w2.heap.size w' w2.heap.size (allL L) v (allL L) → Calls Try.prog 9 #[.pointer (some ⟨w2.heap.size, 0, none⟩), Value.agg #[Value.int .u32 b.k, Value.int .i32 b.r, Value.int .i32 b.ax, Value.int .i32 b.ay, Value.int .i32 b.m, Value.int .i32 b.o, Value.int .i32 b.px, Value.int .i32 b.py, Value.int .i32 b.vx, Value.int .i32 b.vy]] w' (SDone w2.heap.size w' w2.heap.size 10 (allL L) v (allL L))) := Lib.hid fun w' v q => by have := sadd q b HB.out; rw [E0.1, E0.2] at this; exact this
      have R1 : Hid (∀ w' v, Sep w2.heap.size w' w2.heap.size (allL L) v (allL L) → Calls Try.prog 11 #[.pointer (some ⟨w2.heap.size, 0, none⟩), .int .u32 b.k] w' (SDone w2.heap.size w' w2.heap.size 0 (put (allL L) (bare b.k) true) v (allL L))) := Lib.hid fun w' v q => by have := sremove q (wf_u32 HB.out); rw [E1.1, E1.2] at this; exact this
      have A2 : Hid (∀ w' v, Sep w2.heap.size w' w2.heap.size (put (allL L) (bare b.k) true) v (allL L) → Calls Try.prog 9 #[.pointer (some ⟨w2.heap.size, 0, none⟩), Value.agg #[Value.int .u32 b.k, Value.int .i32 b.r, Value.int .i32 b.ax, Value.int .i32 b.ay, Value.int .i32 b.m, Value.int .i32 b.o, Value.int .i32 b.px, Value.int .i32 b.py, Value.int .i32 b.vx, Value.int .i32 b.vy]] w' (SDone w2.heap.size w' w2.heap.size 0 (put (allL L) b false) v (allL L))) := Lib.hid fun w' v q => by have := sadd q b HB.out; rw [E2.1, E2.2] at this; exact this
      have AL := Lib.hid (all_any _ L wr (H.out.kep KW.out) (by have := HN.out; omega))
      have HLm : (allL L).length ≤ 1000000000 := by have := HN.out; omega
      have FI := Lib.hid (fun w' v (q : Lst w' v (allL L)) => find_any v (allL L) b.k w' q HLm)
      have PU := Lib.hid (fun w' v (q : Lst w' v (allL L)) => put_any v (allL L) b false w' q HLm)
      have HL1 : Hid ((put (allL L) b false).length ≤ 1000000000) := Lib.hid (by have := (put_len hA b).2; have := HN.out; omega)
      have hp := place_some HLK.out
      generalize place (allL L) b.k 0 = p at FI hp
      replace y0 := KR.out.holds lb y0; replace y1 := KR.out.holds lb y1; replace y2 := KR.out.holds lb y2; replace y3 := KR.out.holds lb y3; replace y4 := KR.out.holds lb y4; replace y5 := KR.out.holds lb y5; replace y6 := KR.out.holds lb y6; replace y7 := KR.out.holds lb y7; replace y8 := KR.out.holds lb y8; replace y9 := KR.out.holds lb y9
      clear E0 E1 E2 hA hM HQ HLK HF HB HN HLm
      go_wp2_with (first
    | ((with_reducible refine (AL.out).mono ?_); rintro e w4 ⟨v4, rfl, ⟨l4, n4⟩, k4⟩; have K4 := Lib.hid k4; have S4 := Lib.hid (Sep.of_new S1.out k4 l4 n4); replace y0 := k4.all y0; replace y1 := k4.all y1; replace y2 := k4.all y2; replace y3 := k4.all y3; replace y4 := k4.all y4; replace y5 := k4.all y5; replace y6 := k4.all y6; replace y7 := k4.all y7; replace y8 := k4.all y8; replace y9 := k4.all y9; clear l4 k4 n4)
    | ((with_reducible refine (FI.out _ _ S4.out.lst).mono ?_); rintro e w5 ⟨rfl, rfl⟩))
      have S5 := Lib.hid (S4.out.kep (Kep.refl _ w4).drew)
      go_region_held3 (fun w' => w'.cell? ⟨w.heap.size, 0, none⟩ = some (Value.int .u32 b.k) ∧ w'.cell? ⟨w.heap.size, 1, none⟩ = some (Value.int .i32 b.r) ∧ w'.cell? ⟨w.heap.size, 2, none⟩ = some (Value.int .i32 b.ax) ∧ w'.cell? ⟨w.heap.size, 3, none⟩ = some (Value.int .i32 b.ay) ∧ w'.cell? ⟨w.heap.size, 4, none⟩ = some (Value.int .i32 b.m) ∧ w'.cell? ⟨w.heap.size, 5, none⟩ = some (Value.int .i32 b.o) ∧ w'.cell? ⟨w.heap.size, 6, none⟩ = some (Value.int .i32 b.px) ∧ w'.cell? ⟨w.heap.size, 7, none⟩ = some (Value.int .i32 b.py) ∧ w'.cell? ⟨w.heap.size, 8, none⟩ = some (Value.int .i32 b.vx) ∧ w'.cell? ⟨w.heap.size, 9, none⟩ = some (Value.int .i32 b.vy))
        (first
          | with_reducible assumption
          | (refine ⟨?_, ?_, ?_, ?_, ?_, ?_, ?_, ?_, ?_, ?_⟩ <;> (rw [World.cell?_drew]; with_reducible assumption))
          | (refine ⟨?_, ?_, ?_, ?_, ?_, ?_, ?_, ?_, ?_, ?_⟩ <;> with_reducible assumption))
        (first
    | ((with_reducible refine (A0.out _ _ S5.out).mono ?_); rintro e w6 ⟨rfl, s6, k6⟩; have S6 := Lib.hid s6; have K6 := Lib.hid k6; replace y0 := k6.holds lb y0; replace y1 := k6.holds lb y1; replace y2 := k6.holds lb y2; replace y3 := k6.holds lb y3; replace y4 := k6.holds lb y4; replace y5 := k6.holds lb y5; replace y6 := k6.holds lb y6; replace y7 := k6.holds lb y7; replace y8 := k6.holds lb y8; replace y9 := k6.holds lb y9; clear s6 k6)
    | ((with_reducible refine (R1.out _ _ S6.out).mono ?_); rintro e w7 ⟨rfl, s7, k7⟩; have S7 := Lib.hid s7; have K7 := Lib.hid k7; replace y0 := k7.holds lb y0; replace y1 := k7.holds lb y1; replace y2 := k7.holds lb y2; replace y3 := k7.holds lb y3; replace y4 := k7.holds lb y4; replace y5 := k7.holds lb y5; replace y6 := k7.holds lb y6; replace y7 := k7.holds lb y7; replace y8 := k7.holds lb y8; replace y9 := k7.holds lb y9; clear s7 k7)
    | ((with_reducible refine (A2.out _ _ S7.out).mono ?_); rintro e w8 ⟨rfl, s8, k8⟩; have S8 := Lib.hid s8; have K8 := Lib.hid k8; replace y0 := k8.holds lb y0; replace y1 := k8.holds lb y1; replace y2 := k8.holds lb y2; replace y3 := k8.holds lb y3; replace y4 := k8.holds lb y4; replace y5 := k8.holds lb y5; replace y6 := k8.holds lb y6; replace y7 := k8.holds lb y7; replace y8 := k8.holds lb y8; replace y9 := k8.holds lb y9; clear s8 k8)
    | ((with_reducible refine (fbodies S8.out.fresh).mono ?_); rintro e w9 ⟨v9, rfl, o9, k9⟩; have O9 := Lib.hid o9; have K9 := Lib.hid k9; replace y0 := k9.all y0; replace y1 := k9.all y1; replace y2 := k9.all y2; replace y3 := k9.all y3; replace y4 := k9.all y4; replace y5 := k9.all y5; replace y6 := k9.all y6; replace y7 := k9.all y7; replace y8 := k9.all y8; replace y9 := k9.all y9; clear o9 k9)
    | ((with_reducible refine (PU.out _ _ (S8.out.lst.kep K9.out)).mono ?_); rintro e w10 ⟨v10, rfl, ⟨l10, n10⟩, k10⟩; have L10 := Lib.hid l10; have K10 := Lib.hid k10; replace y0 := k10.all y0; replace y1 := k10.all y1; replace y2 := k10.all y2; replace y3 := k10.all y3; replace y4 := k10.all y4; replace y5 := k10.all y5; replace y6 := k10.all y6; replace y7 := k10.all y7; replace y8 := k10.all y8; replace y9 := k10.all y9; clear l10 n10 k10)
    | ((with_reducible refine (same_any _ _ _ _ (O9.out.lst.kep K10.out) L10.out HL1.out).mono ?_); rintro e w11 ⟨rfl, k11⟩; have K11 := Lib.hid k11; replace y0 := k11.all y0; replace y1 := k11.all y1; replace y2 := k11.all y2; replace y3 := k11.all y3; replace y4 := k11.all y4; replace y5 := k11.all y5; replace y6 := k11.all y6; replace y7 := k11.all y7; replace y8 := k11.all y8; replace y9 := k11.all y9; clear k11))
      go_wp2
      go_ret
      exact ⟨rfl, (((((((KW.out.next K4.out).trans (Kep.refl _ _).drew).trans (K6.out.mono K2.out.size)).trans (K7.out.mono K2.out.size)).trans (K8.out.mono K2.out.size)).next K9.out).next K10.out).next K11.out⟩
theorem removes_all (v : Value) (L : List Bd) (b : Bd) (w : World) (h : Lst w v L) (hF : ∀ x ∈ L, Fits x) (hb : Fits b) : Calls Try.prog 7 #[v, Value.agg #[Value.int .u32 b.k, Value.int .i32 b.r, Value.int .i32 b.ax, Value.int .i32 b.ay, Value.int .i32 b.m, Value.int .i32 b.o, Value.int .i32 b.px, Value.int .i32 b.py, Value.int .i32 b.vx, Value.int .i32 b.vy]] w (fun e w' => e = .returned (.bool true) ∧ Kep w.heap.size w w') := by
  obtain ⟨base, cap, rfl⟩ := h.shape
  by_cases hlen : 100 < L.length
  · exact removes_long base cap L w b hlen
  · by_cases hc : chkB b = 0
    · by_cases hlk : look (allL L) b.k = none
      · exact removes_new base cap L w h hF b hb (by omega) hc hlk
      · exact removes_has base cap L w h hF b hb (by omega) hc hlk
    · exact removes_bad base cap L w b (by omega) _ rfl hc
end Go.Proofs.Ytfkieieedljodaa
