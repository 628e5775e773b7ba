/-
  Package store: the law StoreOrder, walked.
-/
import Derived.Test.YtfkieieedljodaaStoreOrd0
import Derived.Deep.RegionHeld3
namespace Go.Proofs.Ytfkieieedljodaa
open Go.RowKit Go.Lib Go.Maps

/-- No key twice among the first a. -/
def Dist (L : List Bd) (a : Nat) : Prop := ∀ (i j : Nat) (x y : Bd), i < a → j < i → L[i]? = some x → L[j]? = some y → x.k ≠ y.k
theorem Dist.inj {L : List Bd} (h : Dist L L.length) (a c : Nat) (x y : Bd) (hx : L[a]? = some x) (hy : L[c]? = some y) (e : x.k = y.k) : a = c := by
  have la := (List.getElem?_eq_some_iff.1 hx).1
  have lc := (List.getElem?_eq_some_iff.1 hy).1
  rcases Nat.lt_trichotomy a c with q | q | q
  · exact absurd e.symm (h c a y x lc q hy hx)
  · exact q
  · exact absurd e (h a c x y la q hx hy)

set_option maxRecDepth 100000 in
set_option maxHeartbeats 4000000 in
theorem order_long (base : Option Addr) (cap n : Nat) (tu : Int) (w : World) (hlen : (100 : Int) < (n : Int)) : Calls Try.prog 4 #[.slice base n cap, .int .u8 tu] w (fun e w' => e = .returned (.bool true) ∧ Kep w.heap.size w w') := by
  have AW := Lib.hid store_awake
  go_enter Try.func4, Try.ntmps4
  go_wp2_with (first
    | ((with_reducible refine (AW.out _).mono ?_); rintro e w2 ⟨rfl, k2⟩; have K2 := Lib.hid (K1.out.next k2))
    | ((with_reducible refine (AW.out _).mono ?_); rintro e w1 ⟨rfl, k1⟩; have K1 := Lib.hid (k1)))
  go_ret
  exact ⟨rfl, K2.out⟩
set_option maxRecDepth 100000 in
set_option maxHeartbeats 4000000 in
theorem order_none (base : Option Addr) (cap : Nat) (tu : Int) (w : World) : Calls Try.prog 4 #[.slice base 0 cap, .int .u8 tu] w (fun e w' => e = .returned (.bool true) ∧ Kep w.heap.size w w') := by
  have AW := Lib.hid store_awake
  go_enter Try.func4, Try.ntmps4
  go_wp2_with (first
    | ((with_reducible refine (AW.out _).mono ?_); rintro e w2 ⟨rfl, k2⟩; have K2 := Lib.hid (K1.out.next k2))
    | ((with_reducible refine (AW.out _).mono ?_); rintro e w1 ⟨rfl, k1⟩; have K1 := Lib.hid (k1)))
  go_ret
  exact ⟨rfl, K2.out⟩
set_option maxRecDepth 100000 in
set_option maxHeartbeats 4000000 in
theorem order_main (base : Option Addr) (cap : Nat) (L : List Bd) (w : World) (h : Lst w (.slice base L.length cap) L) (hF : ∀ x ∈ L, Fits x) (hlen : L.length ≤ 100) (h0 : 1 ≤ L.length) (tu : Int) (ht : 0 ≤ tu ∧ tu < 256) : Calls Try.prog 4 #[.slice base L.length cap, .int .u8 tu] w (fun e w' => e = .returned (.bool true) ∧ Kep w.heap.size w w') := by
  have AW := Lib.hid store_awake
  have HF := Lib.hid hF
  obtain ⟨n, hn⟩ : ∃ n, n = L.length := ⟨_, rfl⟩
  have HN := Lib.hid hn.symm
  have hl : (n : Int) ≤ 100 := by omega
  have hl1 : (1 : Int) ≤ (n : Int) := by omega
  have hz : ((n : Int) == 0) = false := beq_eq_false_iff_ne.2 (by omega)
  rw [← hn] at h ⊢
  have H := Lib.hid h
  obtain ⟨kt, hkt⟩ : ∃ kt : Nat, tu.tmod (n : Int) = (kt : Int) := ⟨(tu.tmod (n : Int)).toNat, by rw [Int.toNat_of_nonneg (Int.tmod_nonneg _ ht.1)]⟩
  have hkn : kt < n := by have := Int.tmod_lt_of_pos tu (show (0 : Int) < (n : Int) by omega); omega
  clear hn h hF hlen h0
  go_enter Try.func4, Try.ntmps4
  go_wp2_with ((with_reducible refine (AW.out _).mono ?_); rintro e w2 ⟨rfl, k1⟩; have K2 := Lib.hid k1; clear k1)
  go_loopw [5] (fun i wr => ∃ a : Nat, a ≤ n ∧ i = .int .i64 a ∧ Hid (Dist L a ∧ Kep w2.heap.size w2 wr)) (fun i _ => n - (RowKit.intOf i).toNat)
  case atStart => exact ⟨0, Nat.zero_le _, rfl, Lib.hid ⟨fun i j x y hi => by omega, Kep.refl _ _⟩⟩
  case round =>
    obtain ⟨wa, hwa⟩ : ∃ x, x = wr := ⟨_, rfl⟩
    subst hwa
    obtain ⟨a, ha, rfl, HK⟩ := hrel
    by_cases hlt : a < n
    · have hx : L[a]? = some (L[a]'(by rw [HN.out]; exact hlt)) := List.getElem?_eq_getElem _
      generalize L[a]'(by rw [HN.out]; exact hlt) = x at hx
      have HX := Lib.hid hx
      obtain ⟨g, off, hbase, _⟩ := Lst.at_ H.out hx
      subst hbase
      clear hx
      go_wp2
      go_loopw [6] (fun i wr => ∃ c : Nat, c ≤ a ∧ i = .int .i64 c ∧ Hid ((∀ (j : Nat) (y : Bd), j < c → L[j]? = some y → x.k ≠ y.k) ∧ Kep w2.heap.size w2 wr)) (fun i _ => a - (RowKit.intOf i).toNat)
      case atStart => exact ⟨0, Nat.zero_le _, rfl, Lib.hid ⟨fun j y hj => by omega, HK.out.2⟩⟩
      case round =>
        obtain ⟨wc, hwc⟩ : ∃ x, x = wr := ⟨_, rfl⟩
        subst hwc
        obtain ⟨c, hc, rfl, HJ⟩ := hrel
        by_cases hlc : c < a
        · have hy : L[c]? = some (L[c]'(by rw [HN.out]; omega)) := List.getElem?_eq_getElem _
          generalize L[c]'(by rw [HN.out]; omega) = y at hy
          have HY := Lib.hid hy
          have KC := K2.out.trans (HJ.out.2.mono K2.out.size)
          obtain ⟨g1, off1, hb1, hc1⟩ := Lst.at_ (H.out.kep KC) HX.out
          obtain ⟨g2, off2, hb2, hc2⟩ := Lst.at_ (H.out.kep KC) hy
          cases hb1
          cases hb2
          have x0 : wc.cell? ⟨g, off + a * 10, none⟩ = some (.int .u32 x.k) := hc1 0 (by omega)
          have y0 : wc.cell? ⟨g, off + c * 10, none⟩ = some (.int .u32 y.k) := hc2 0 (by omega)
          have a0 : (0 : Int) ≤ (a : Int) := Int.natCast_nonneg _
          have a1 : (a : Int) < (n : Int) := by omega
          have c0 : (0 : Int) ≤ (c : Int) := Int.natCast_nonneg _
          have c1 : (c : Int) < (n : Int) := by omega
          clear hc1 hc2 hy KC
          obtain ⟨xk, hxk⟩ : ∃ z, z = x.k := ⟨_, rfl⟩
          obtain ⟨yk, hyk⟩ : ∃ z, z = y.k := ⟨_, rfl⟩
          rw [← hxk] at x0
          rw [← hyk] at y0
          have HE := Lib.hid (And.intro hxk hyk)
          clear hxk hyk
          by_cases e : xk = yk
          · subst e
            go_wp2_with fail
            go_quiet (fail)
            go_wp2
            go_ret
            exact ⟨rfl, (K2.out.trans (HJ.out.2.mono K2.out.size)).drewN _⟩
          · have e2 : (xk == yk) = false := beq_eq_false_iff_ne.2 e
            go_wp2_with fail
            go_quiet (fail)
            go_wp2_with fail
            go_roundw
            case rel => exact ⟨c + 1, by omega, by go_num, Lib.hid ⟨fun j z hj hz' => by
                by_cases q : j = c
                · subst q
                  have q2 := HY.out
                  rw [hz'] at q2
                  cases q2
                  rw [← HE.out.1, ← HE.out.2]; exact e
                · exact HJ.out.1 j z (by omega) hz', HJ.out.2.drewN _⟩⟩
            case measure => simp [RowKit.intOf]; omega
        · obtain rfl : c = a := by omega
          go_wp2
          go_roundw
          case rel => exact ⟨c + 1, by omega, by go_num, Lib.hid ⟨fun i j x' y hi hj hx' hy => by
              by_cases q : i = c
              · subst q
                have q2 := HX.out
                rw [hx'] at q2
                cases q2
                exact HJ.out.1 j y hj hy
              · exact HK.out.1 i j x' y (by omega) hj hx' hy, HJ.out.2⟩⟩
          case measure => simp [RowKit.intOf]; omega
    · obtain rfl : a = n := by omega
      have KW := Lib.hid (K2.out.trans (HK.out.2.mono K2.out.size))
      have HD : Hid (∀ (i c : Nat) (x y : Bd), L[i]? = some x → L[c]? = some y → x.k = y.k → i = c) := Lib.hid (by have := HK.out.1; rw [← HN.out] at this; exact this.inj)
      have T0 := Lib.hid (twin_new wa)
      clear HK
      go_wp2
      go_loopw [10] (fun i wr => ∃ (c : Nat) (m1 m2 : List Bd), c ≤ a ∧ i = .int .i64 c ∧ Hid (Twin wa.heap.size wr wa.heap.size (wa.heap.size + 1) m1 m2 ∧ SetTo L id c m1 ∧ SetTo L (turn a kt) c m2 ∧ Kep wa.heap.size wa wr)) (fun i _ => a - (RowKit.intOf i).toNat)
      case atStart => exact ⟨0, [], [], Nat.zero_le _, rfl, Lib.hid ⟨T0.out, ⟨by simp, fun x => by simp⟩, ⟨by simp, fun x => by simp⟩, (Kep.made _ _).next (Kep.made _ _)⟩⟩
      case round =>
        obtain ⟨wd, hwd⟩ : ∃ x, x = wr := ⟨_, rfl⟩
        subst hwd
        obtain ⟨c, m1, m2, hc, rfl, HK⟩ := hrel
        by_cases hlc : c < a
        · obtain ⟨q, hq⟩ : ∃ q, q = turn a kt c := ⟨_, rfl⟩
          have hqa : q < a := by rw [hq]; exact turn_lt hkn
          have hx : L[c]? = some (L[c]'(by rw [HN.out]; exact hlc)) := List.getElem?_eq_getElem _
          generalize L[c]'(by rw [HN.out]; exact hlc) = x at hx
          have hy : L[q]? = some (L[q]'(by rw [HN.out]; exact hqa)) := List.getElem?_eq_getElem _
          generalize L[q]'(by rw [HN.out]; exact hqa) = y at hy
          have KC := KW.out.trans (HK.out.2.2.2.mono KW.out.size)
          obtain ⟨g, off, hb1, hc1⟩ := Lst.at_ (H.out.kep KC) hx
          obtain ⟨g2, off2, hb2, hc2⟩ := Lst.at_ (H.out.kep KC) hy
          subst hb1
          cases hb2
          obtain ⟨x0, x1, x2, x3, x4, x5, x6, x7, x8, x9⟩ := old_cells (Kep.refl _ _) hc1
          obtain ⟨y0, y1, y2, y3, y4, y5, y6, y7, y8, y9⟩ := old_cells (Kep.refl _ _) hc2
          have lg : g < wd.heap.size := World.block_lt_of_cell? _ _ x0
          have ei : ((a : Int) - 1 - (c : Int) + (kt : Int)).tmod (a : Int) = (q : Int) := by rw [hq]; exact turn_mod hkn hlc
          have E1 := HK.out.2.1.next HK.out.1.first.asc.1 hlc (by omega) (fun _ _ _ _ e => e) HD.out hx
          have E2 := HK.out.2.2.1.next HK.out.1.second.asc.1 hlc (by omega) (fun i j hi hj e => turn_inj hi hj e) HD.out (by rw [← hq]; exact hy)
          have TD := Lib.hid ((HK.out.1.boxes (.cells #[Value.int .u32 x.k, Value.int .i32 x.r, Value.int .i32 x.ax, Value.int .i32 x.ay, Value.int .i32 x.m, Value.int .i32 x.o, Value.int .i32 x.px, Value.int .i32 x.py, Value.int .i32 x.vx, Value.int .i32 x.vy] 32) (.cells #[Value.int .u32 y.k, Value.int .i32 y.r, Value.int .i32 y.ax, Value.int .i32 y.ay, Value.int .i32 y.m, Value.int .i32 y.o, Value.int .i32 y.px, Value.int .i32 y.py, Value.int .i32 y.vx, Value.int .i32 y.vy] 32)).kep (Kep.refl _ _).drew)
          have A1 : Hid (∀ w', Two wa.heap.size w' wa.heap.size (wa.heap.size + 1) m1 m2 wd.heap.size (wd.heap.size + 1) → Calls Try.prog 9 #[.pointer (some ⟨wa.heap.size, 0, none⟩), Value.agg #[Value.int .u32 x.k, Value.int .i32 x.r, Value.int .i32 x.ax, Value.int .i32 x.ay, Value.int .i32 x.m, Value.int .i32 x.o, Value.int .i32 x.px, Value.int .i32 x.py, Value.int .i32 x.vx, Value.int .i32 x.vy]] w' (TDone wa.heap.size w' wa.heap.size (wa.heap.size + 1) (chkB x) (addL m1 x) m2 wd.heap.size (wd.heap.size + 1))) := Lib.hid fun w' z => by have := tadd z x (HF.out x (List.mem_of_getElem? hx)); rw [E1.1] at this; exact this
          have A2 : Hid (∀ w', Two wa.heap.size w' wa.heap.size (wa.heap.size + 1) (addL m1 x) m2 wd.heap.size (wd.heap.size + 1) → Calls Try.prog 9 #[.pointer (some ⟨wa.heap.size + 1, 0, none⟩), Value.agg #[Value.int .u32 y.k, Value.int .i32 y.r, Value.int .i32 y.ax, Value.int .i32 y.ay, Value.int .i32 y.m, Value.int .i32 y.o, Value.int .i32 y.px, Value.int .i32 y.py, Value.int .i32 y.vx, Value.int .i32 y.vy]] w' (TDone wa.heap.size w' wa.heap.size (wa.heap.size + 1) (chkB y) (addL m1 x) (addL m2 y) wd.heap.size (wd.heap.size + 1))) := Lib.hid fun w' z => by have := tadd2 z y (HF.out y (List.mem_of_getElem? hy)); rw [E2.1] at this; exact this
          have CK1 := Lib.hid (bad_body (b := x) (c := chkB x) rfl)
          have CK2 := Lib.hid (bad_body (b := y) (c := chkB y) rfl)
          have G1 := Lib.hid E1.2
          have G2 := Lib.hid E2.2
          have KX := Lib.hid HK.out.2.2.2
          have KM : Hid (Kep wd.heap.size wd ((wd.alloc (.cells #[Value.int .u32 x.k, Value.int .i32 x.r, Value.int .i32 x.ax, Value.int .i32 x.ay, Value.int .i32 x.m, Value.int .i32 x.o, Value.int .i32 x.px, Value.int .i32 x.py, Value.int .i32 x.vx, Value.int .i32 x.vy] 32)).alloc (.cells #[Value.int .u32 y.k, Value.int .i32 y.r, Value.int .i32 y.ax, Value.int .i32 y.ay, Value.int .i32 y.m, Value.int .i32 y.o, Value.int .i32 y.px, Value.int .i32 y.py, Value.int .i32 y.vx, Value.int .i32 y.vy] 32)).drew) := Lib.hid ((Kep.made wd _).next (Kep.made _ _)).drew
          generalize chkB x = cx at A1 CK1
          generalize chkB y = cy at A2 CK2
          have a0 : (0 : Int) ≤ (c : Int) := Int.natCast_nonneg _
          have a1 : (c : Int) < (a : Int) := by omega
          have a2 : (0 : Int) ≤ (q : Int) := Int.natCast_nonneg _
          have a3 : (q : Int) < (a : Int) := by omega
          have b0 : ((wd.alloc (.cells #[Value.int .u32 x.k, Value.int .i32 x.r, Value.int .i32 x.ax, Value.int .i32 x.ay, Value.int .i32 x.m, Value.int .i32 x.o, Value.int .i32 x.px, Value.int .i32 x.py, Value.int .i32 x.vx, Value.int .i32 x.vy] 32)).alloc (.cells #[Value.int .u32 y.k, Value.int .i32 y.r, Value.int .i32 y.ax, Value.int .i32 y.ay, Value.int .i32 y.m, Value.int .i32 y.o, Value.int .i32 y.px, Value.int .i32 y.py, Value.int .i32 y.vx, Value.int .i32 y.vy] 32)).drew.cell? ⟨wd.heap.size, 0, none⟩ = some (Value.int .u32 x.k) := by rw [World.cell?_drew, World.cell?_alloc_past _ _ _ (by simp), World.cell?_alloc_at _ _ _ _ rfl]; rfl
          have b1 : ((wd.alloc (.cells #[Value.int .u32 x.k, Value.int .i32 x.r, Value.int .i32 x.ax, Value.int .i32 x.ay, Value.int .i32 x.m, Value.int .i32 x.o, Value.int .i32 x.px, Value.int .i32 x.py, Value.int .i32 x.vx, Value.int .i32 x.vy] 32)).alloc (.cells #[Value.int .u32 y.k, Value.int .i32 y.r, Value.int .i32 y.ax, Value.int .i32 y.ay, Value.int .i32 y.m, Value.int .i32 y.o, Value.int .i32 y.px, Value.int .i32 y.py, Value.int .i32 y.vx, Value.int .i32 y.vy] 32)).drew.cell? ⟨wd.heap.size, 1, none⟩ = some (Value.int .i32 x.r) := by rw [World.cell?_drew, World.cell?_alloc_past _ _ _ (by simp), World.cell?_alloc_at _ _ _ _ rfl]; rfl
          have b2 : ((wd.alloc (.cells #[Value.int .u32 x.k, Value.int .i32 x.r, Value.int .i32 x.ax, Value.int .i32 x.ay, Value.int .i32 x.m, Value.int .i32 x.o, Value.int .i32 x.px, Value.int .i32 x.py, Value.int .i32 x.vx, Value.int .i32 x.vy] 32)).alloc (.cells #[Value.int .u32 y.k, Value.int .i32 y.r, Value.int .i32 y.ax, Value.int .i32 y.ay, Value.int .i32 y.m, Value.int .i32 y.o, Value.int .i32 y.px, Value.int .i32 y.py, Value.int .i32 y.vx, Value.int .i32 y.vy] 32)).drew.cell? ⟨wd.heap.size, 2, none⟩ = some (Value.int .i32 x.ax) := by rw [World.cell?_drew, World.cell?_alloc_past _ _ _ (by simp), World.cell?_alloc_at _ _ _ _ rfl]; rfl
          have b3 : ((wd.alloc (.cells #[Value.int .u32 x.k, Value.int .i32 x.r, Value.int .i32 x.ax, Value.int .i32 x.ay, Value.int .i32 x.m, Value.int .i32 x.o, Value.int .i32 x.px, Value.int .i32 x.py, Value.int .i32 x.vx, Value.int .i32 x.vy] 32)).alloc (.cells #[Value.int .u32 y.k, Value.int .i32 y.r, Value.int .i32 y.ax, Value.int .i32 y.ay, Value.int .i32 y.m, Value.int .i32 y.o, Value.int .i32 y.px, Value.int .i32 y.py, Value.int .i32 y.vx, Value.int .i32 y.vy] 32)).drew.cell? ⟨wd.heap.size, 3, none⟩ = some (Value.int .i32 x.ay) := by rw [World.cell?_drew, World.cell?_alloc_past _ _ _ (by simp), World.cell?_alloc_at _ _ _ _ rfl]; rfl
          have b4 : ((wd.alloc (.cells #[Value.int .u32 x.k, Value.int .i32 x.r, Value.int .i32 x.ax, Value.int .i32 x.ay, Value.int .i32 x.m, Value.int .i32 x.o, Value.int .i32 x.px, Value.int .i32 x.py, Value.int .i32 x.vx, Value.int .i32 x.vy] 32)).alloc (.cells #[Value.int .u32 y.k, Value.int .i32 y.r, Value.int .i32 y.ax, Value.int .i32 y.ay, Value.int .i32 y.m, Value.int .i32 y.o, Value.int .i32 y.px, Value.int .i32 y.py, Value.int .i32 y.vx, Value.int .i32 y.vy] 32)).drew.cell? ⟨wd.heap.size, 4, none⟩ = some (Value.int .i32 x.m) := by rw [World.cell?_drew, World.cell?_alloc_past _ _ _ (by simp), World.cell?_alloc_at _ _ _ _ rfl]; rfl
          have b5 : ((wd.alloc (.cells #[Value.int .u32 x.k, Value.int .i32 x.r, Value.int .i32 x.ax, Value.int .i32 x.ay, Value.int .i32 x.m, Value.int .i32 x.o, Value.int .i32 x.px, Value.int .i32 x.py, Value.int .i32 x.vx, Value.int .i32 x.vy] 32)).alloc (.cells #[Value.int .u32 y.k, Value.int .i32 y.r, Value.int .i32 y.ax, Value.int .i32 y.ay, Value.int .i32 y.m, Value.int .i32 y.o, Value.int .i32 y.px, Value.int .i32 y.py, Value.int .i32 y.vx, Value.int .i32 y.vy] 32)).drew.cell? ⟨wd.heap.size, 5, none⟩ = some (Value.int .i32 x.o) := by rw [World.cell?_drew, World.cell?_alloc_past _ _ _ (by simp), World.cell?_alloc_at _ _ _ _ rfl]; rfl
          have b6 : ((wd.alloc (.cells #[Value.int .u32 x.k, Value.int .i32 x.r, Value.int .i32 x.ax, Value.int .i32 x.ay, Value.int .i32 x.m, Value.int .i32 x.o, Value.int .i32 x.px, Value.int .i32 x.py, Value.int .i32 x.vx, Value.int .i32 x.vy] 32)).alloc (.cells #[Value.int .u32 y.k, Value.int .i32 y.r, Value.int .i32 y.ax, Value.int .i32 y.ay, Value.int .i32 y.m, Value.int .i32 y.o, Value.int .i32 y.px, Value.int .i32 y.py, Value.int .i32 y.vx, Value.int .i32 y.vy] 32)).drew.cell? ⟨wd.heap.size, 6, none⟩ = some (Value.int .i32 x.px) := by rw [World.cell?_drew, World.cell?_alloc_past _ _ _ (by simp), World.cell?_alloc_at _ _ _ _ rfl]; rfl
          have b7 : ((wd.alloc (.cells #[Value.int .u32 x.k, Value.int .i32 x.r, Value.int .i32 x.ax, Value.int .i32 x.ay, Value.int .i32 x.m, Value.int .i32 x.o, Value.int .i32 x.px, Value.int .i32 x.py, Value.int .i32 x.vx, Value.int .i32 x.vy] 32)).alloc (.cells #[Value.int .u32 y.k, Value.int .i32 y.r, Value.int .i32 y.ax, Value.int .i32 y.ay, Value.int .i32 y.m, Value.int .i32 y.o, Value.int .i32 y.px, Value.int .i32 y.py, Value.int .i32 y.vx, Value.int .i32 y.vy] 32)).drew.cell? ⟨wd.heap.size, 7, none⟩ = some (Value.int .i32 x.py) := by rw [World.cell?_drew, World.cell?_alloc_past _ _ _ (by simp), World.cell?_alloc_at _ _ _ _ rfl]; rfl
          have b8 : ((wd.alloc (.cells #[Value.int .u32 x.k, Value.int .i32 x.r, Value.int .i32 x.ax, Value.int .i32 x.ay, Value.int .i32 x.m, Value.int .i32 x.o, Value.int .i32 x.px, Value.int .i32 x.py, Value.int .i32 x.vx, Value.int .i32 x.vy] 32)).alloc (.cells #[Value.int .u32 y.k, Value.int .i32 y.r, Value.int .i32 y.ax, Value.int .i32 y.ay, Value.int .i32 y.m, Value.int .i32 y.o, Value.int .i32 y.px, Value.int .i32 y.py, Value.int .i32 y.vx, Value.int .i32 y.vy] 32)).drew.cell? ⟨wd.heap.size, 8, none⟩ = some (Value.int .i32 x.vx) := by rw [World.cell?_drew, World.cell?_alloc_past _ _ _ (by simp), World.cell?_alloc_at _ _ _ _ rfl]; rfl
          have b9 : ((wd.alloc (.cells #[Value.int .u32 x.k, Value.int .i32 x.r, Value.int .i32 x.ax, Value.int .i32 x.ay, Value.int .i32 x.m, Value.int .i32 x.o, Value.int .i32 x.px, Value.int .i32 x.py, Value.int .i32 x.vx, Value.int .i32 x.vy] 32)).alloc (.cells #[Value.int .u32 y.k, Value.int .i32 y.r, Value.int .i32 y.ax, Value.int .i32 y.ay, Value.int .i32 y.m, Value.int .i32 y.o, Value.int .i32 y.px, Value.int .i32 y.py, Value.int .i32 y.vx, Value.int .i32 y.vy] 32)).drew.cell? ⟨wd.heap.size, 9, none⟩ = some (Value.int .i32 x.vy) := by rw [World.cell?_drew, World.cell?_alloc_past _ _ _ (by simp), World.cell?_alloc_at _ _ _ _ rfl]; rfl
          have d0 : ((wd.alloc (.cells #[Value.int .u32 x.k, Value.int .i32 x.r, Value.int .i32 x.ax, Value.int .i32 x.ay, Value.int .i32 x.m, Value.int .i32 x.o, Value.int .i32 x.px, Value.int .i32 x.py, Value.int .i32 x.vx, Value.int .i32 x.vy] 32)).alloc (.cells #[Value.int .u32 y.k, Value.int .i32 y.r, Value.int .i32 y.ax, Value.int .i32 y.ay, Value.int .i32 y.m, Value.int .i32 y.o, Value.int .i32 y.px, Value.int .i32 y.py, Value.int .i32 y.vx, Value.int .i32 y.vy] 32)).drew.cell? ⟨wd.heap.size + 1, 0, none⟩ = some (Value.int .u32 y.k) := by rw [World.cell?_drew, World.cell?_alloc_at _ _ _ _ (by simp)]; rfl
          have d1 : ((wd.alloc (.cells #[Value.int .u32 x.k, Value.int .i32 x.r, Value.int .i32 x.ax, Value.int .i32 x.ay, Value.int .i32 x.m, Value.int .i32 x.o, Value.int .i32 x.px, Value.int .i32 x.py, Value.int .i32 x.vx, Value.int .i32 x.vy] 32)).alloc (.cells #[Value.int .u32 y.k, Value.int .i32 y.r, Value.int .i32 y.ax, Value.int .i32 y.ay, Value.int .i32 y.m, Value.int .i32 y.o, Value.int .i32 y.px, Value.int .i32 y.py, Value.int .i32 y.vx, Value.int .i32 y.vy] 32)).drew.cell? ⟨wd.heap.size + 1, 1, none⟩ = some (Value.int .i32 y.r) := by rw [World.cell?_drew, World.cell?_alloc_at _ _ _ _ (by simp)]; rfl
          have d2 : ((wd.alloc (.cells #[Value.int .u32 x.k, Value.int .i32 x.r, Value.int .i32 x.ax, Value.int .i32 x.ay, Value.int .i32 x.m, Value.int .i32 x.o, Value.int .i32 x.px, Value.int .i32 x.py, Value.int .i32 x.vx, Value.int .i32 x.vy] 32)).alloc (.cells #[Value.int .u32 y.k, Value.int .i32 y.r, Value.int .i32 y.ax, Value.int .i32 y.ay, Value.int .i32 y.m, Value.int .i32 y.o, Value.int .i32 y.px, Value.int .i32 y.py, Value.int .i32 y.vx, Value.int .i32 y.vy] 32)).drew.cell? ⟨wd.heap.size + 1, 2, none⟩ = some (Value.int .i32 y.ax) := by rw [World.cell?_drew, World.cell?_alloc_at _ _ _ _ (by simp)]; rfl
          have d3 : ((wd.alloc (.cells #[Value.int .u32 x.k, Value.int .i32 x.r, Value.int .i32 x.ax, Value.int .i32 x.ay, Value.int .i32 x.m, Value.int .i32 x.o, Value.int .i32 x.px, Value.int .i32 x.py, Value.int .i32 x.vx, Value.int .i32 x.vy] 32)).alloc (.cells #[Value.int .u32 y.k, Value.int .i32 y.r, Value.int .i32 y.ax, Value.int .i32 y.ay, Value.int .i32 y.m, Value.int .i32 y.o, Value.int .i32 y.px, Value.int .i32 y.py, Value.int .i32 y.vx, Value.int .i32 y.vy] 32)).drew.cell? ⟨wd.heap.size + 1, 3, none⟩ = some (Value.int .i32 y.ay) := by rw [World.cell?_drew, World.cell?_alloc_at _ _ _ _ (by simp)]; rfl
          have d4 : ((wd.alloc (.cells #[Value.int .u32 x.k, Value.int .i32 x.r, Value.int .i32 x.ax, Value.int .i32 x.ay, Value.int .i32 x.m, Value.int .i32 x.o, Value.int .i32 x.px, Value.int .i32 x.py, Value.int .i32 x.vx, Value.int .i32 x.vy] 32)).alloc (.cells #[Value.int .u32 y.k, Value.int .i32 y.r, Value.int .i32 y.ax, Value.int .i32 y.ay, Value.int .i32 y.m, Value.int .i32 y.o, Value.int .i32 y.px, Value.int .i32 y.py, Value.int .i32 y.vx, Value.int .i32 y.vy] 32)).drew.cell? ⟨wd.heap.size + 1, 4, none⟩ = some (Value.int .i32 y.m) := by rw [World.cell?_drew, World.cell?_alloc_at _ _ _ _ (by simp)]; rfl
          have d5 : ((wd.alloc (.cells #[Value.int .u32 x.k, Value.int .i32 x.r, Value.int .i32 x.ax, Value.int .i32 x.ay, Value.int .i32 x.m, Value.int .i32 x.o, Value.int .i32 x.px, Value.int .i32 x.py, Value.int .i32 x.vx, Value.int .i32 x.vy] 32)).alloc (.cells #[Value.int .u32 y.k, Value.int .i32 y.r, Value.int .i32 y.ax, Value.int .i32 y.ay, Value.int .i32 y.m, Value.int .i32 y.o, Value.int .i32 y.px, Value.int .i32 y.py, Value.int .i32 y.vx, Value.int .i32 y.vy] 32)).drew.cell? ⟨wd.heap.size + 1, 5, none⟩ = some (Value.int .i32 y.o) := by rw [World.cell?_drew, World.cell?_alloc_at _ _ _ _ (by simp)]; rfl
          have d6 : ((wd.alloc (.cells #[Value.int .u32 x.k, Value.int .i32 x.r, Value.int .i32 x.ax, Value.int .i32 x.ay, Value.int .i32 x.m, Value.int .i32 x.o, Value.int .i32 x.px, Value.int .i32 x.py, Value.int .i32 x.vx, Value.int .i32 x.vy] 32)).alloc (.cells #[Value.int .u32 y.k, Value.int .i32 y.r, Value.int .i32 y.ax, Value.int .i32 y.ay, Value.int .i32 y.m, Value.int .i32 y.o, Value.int .i32 y.px, Value.int .i32 y.py, Value.int .i32 y.vx, Value.int .i32 y.vy] 32)).drew.cell? ⟨wd.heap.size + 1, 6, none⟩ = some (Value.int .i32 y.px) := by rw [World.cell?_drew, World.cell?_alloc_at _ _ _ _ (by simp)]; rfl
          have d7 : ((wd.alloc (.cells #[Value.int .u32 x.k, Value.int .i32 x.r, Value.int .i32 x.ax, Value.int .i32 x.ay, Value.int .i32 x.m, Value.int .i32 x.o, Value.int .i32 x.px, Value.int .i32 x.py, Value.int .i32 x.vx, Value.int .i32 x.vy] 32)).alloc (.cells #[Value.int .u32 y.k, Value.int .i32 y.r, Value.int .i32 y.ax, Value.int .i32 y.ay, Value.int .i32 y.m, Value.int .i32 y.o, Value.int .i32 y.px, Value.int .i32 y.py, Value.int .i32 y.vx, Value.int .i32 y.vy] 32)).drew.cell? ⟨wd.heap.size + 1, 7, none⟩ = some (Value.int .i32 y.py) := by rw [World.cell?_drew, World.cell?_alloc_at _ _ _ _ (by simp)]; rfl
          have d8 : ((wd.alloc (.cells #[Value.int .u32 x.k, Value.int .i32 x.r, Value.int .i32 x.ax, Value.int .i32 x.ay, Value.int .i32 x.m, Value.int .i32 x.o, Value.int .i32 x.px, Value.int .i32 x.py, Value.int .i32 x.vx, Value.int .i32 x.vy] 32)).alloc (.cells #[Value.int .u32 y.k, Value.int .i32 y.r, Value.int .i32 y.ax, Value.int .i32 y.ay, Value.int .i32 y.m, Value.int .i32 y.o, Value.int .i32 y.px, Value.int .i32 y.py, Value.int .i32 y.vx, Value.int .i32 y.vy] 32)).drew.cell? ⟨wd.heap.size + 1, 8, none⟩ = some (Value.int .i32 y.vx) := by rw [World.cell?_drew, World.cell?_alloc_at _ _ _ _ (by simp)]; rfl
          have d9 : ((wd.alloc (.cells #[Value.int .u32 x.k, Value.int .i32 x.r, Value.int .i32 x.ax, Value.int .i32 x.ay, Value.int .i32 x.m, Value.int .i32 x.o, Value.int .i32 x.px, Value.int .i32 x.py, Value.int .i32 x.vx, Value.int .i32 x.vy] 32)).alloc (.cells #[Value.int .u32 y.k, Value.int .i32 y.r, Value.int .i32 y.ax, Value.int .i32 y.ay, Value.int .i32 y.m, Value.int .i32 y.o, Value.int .i32 y.px, Value.int .i32 y.py, Value.int .i32 y.vx, Value.int .i32 y.vy] 32)).drew.cell? ⟨wd.heap.size + 1, 9, none⟩ = some (Value.int .i32 y.vy) := by rw [World.cell?_drew, World.cell?_alloc_at _ _ _ _ (by simp)]; rfl
          clear E1 E2 hx hy hc1 hc2 KC hq HK
          go_wp2_with fail
          go_region_held3 (fun w' => w'.cell? ⟨wd.heap.size, 0, none⟩ = some (Value.int .u32 x.k) ∧ w'.cell? ⟨wd.heap.size, 1, none⟩ = some (Value.int .i32 x.r) ∧ w'.cell? ⟨wd.heap.size, 2, none⟩ = some (Value.int .i32 x.ax) ∧ w'.cell? ⟨wd.heap.size, 3, none⟩ = some (Value.int .i32 x.ay) ∧ w'.cell? ⟨wd.heap.size, 4, none⟩ = some (Value.int .i32 x.m) ∧ w'.cell? ⟨wd.heap.size, 5, none⟩ = some (Value.int .i32 x.o) ∧ w'.cell? ⟨wd.heap.size, 6, none⟩ = some (Value.int .i32 x.px) ∧ w'.cell? ⟨wd.heap.size, 7, none⟩ = some (Value.int .i32 x.py) ∧ w'.cell? ⟨wd.heap.size, 8, none⟩ = some (Value.int .i32 x.vx) ∧ w'.cell? ⟨wd.heap.size, 9, none⟩ = some (Value.int .i32 x.vy) ∧ w'.cell? ⟨wd.heap.size + 1, 0, none⟩ = some (Value.int .u32 y.k) ∧ w'.cell? ⟨wd.heap.size + 1, 1, none⟩ = some (Value.int .i32 y.r) ∧ w'.cell? ⟨wd.heap.size + 1, 2, none⟩ = some (Value.int .i32 y.ax) ∧ w'.cell? ⟨wd.heap.size + 1, 3, none⟩ = some (Value.int .i32 y.ay) ∧ w'.cell? ⟨wd.heap.size + 1, 4, none⟩ = some (Value.int .i32 y.m) ∧ w'.cell? ⟨wd.heap.size + 1, 5, none⟩ = some (Value.int .i32 y.o) ∧ w'.cell? ⟨wd.heap.size + 1, 6, none⟩ = some (Value.int .i32 y.px) ∧ w'.cell? ⟨wd.heap.size + 1, 7, none⟩ = some (Value.int .i32 y.py) ∧ w'.cell? ⟨wd.heap.size + 1, 8, none⟩ = some (Value.int .i32 y.vx) ∧ w'.cell? ⟨wd.heap.size + 1, 9, none⟩ = some (Value.int .i32 y.vy))
            (first
              | with_reducible assumption
              | (refine ⟨?_, ?_, ?_, ?_, ?_, ?_, ?_, ?_, ?_, ?_, ?_, ?_, ?_, ?_, ?_, ?_, ?_, ?_, ?_, ?_⟩ <;> (rw [World.cell?_drew]; with_reducible assumption))
              | (refine ⟨?_, ?_, ?_, ?_, ?_, ?_, ?_, ?_, ?_, ?_, ?_, ?_, ?_, ?_, ?_, ?_, ?_, ?_, ?_, ?_⟩ <;> with_reducible assumption))
            (first
            | ((with_reducible refine (A1.out _ TD.out).mono ?_); rintro e w7 ⟨rfl, t7, k7, hb7, hd7⟩; have T7 := Lib.hid t7; have K7 := Lib.hid k7; replace b0 := hb7 _ _ b0; replace d0 := hd7 _ _ d0; replace b1 := hb7 _ _ b1; replace d1 := hd7 _ _ d1; replace b2 := hb7 _ _ b2; replace d2 := hd7 _ _ d2; replace b3 := hb7 _ _ b3; replace d3 := hd7 _ _ d3; replace b4 := hb7 _ _ b4; replace d4 := hd7 _ _ d4; replace b5 := hb7 _ _ b5; replace d5 := hd7 _ _ d5; replace b6 := hb7 _ _ b6; replace d6 := hd7 _ _ d6; replace b7 := hb7 _ _ b7; replace d7 := hd7 _ _ d7; replace b8 := hb7 _ _ b8; replace d8 := hd7 _ _ d8; replace b9 := hb7 _ _ b9; replace d9 := hd7 _ _ d9; clear t7 k7 hb7 hd7)
            | ((with_reducible refine (CK1.out _).mono ?_); rintro e w8 ⟨rfl, g8⟩; have T8 := Lib.hid (T7.out.kep (Kep.of_grown g8)); have K8 := Lib.hid (Kep.of_grown g8); replace b0 := kept_cell g8 b0; replace d0 := kept_cell g8 d0; replace b1 := kept_cell g8 b1; replace d1 := kept_cell g8 d1; replace b2 := kept_cell g8 b2; replace d2 := kept_cell g8 d2; replace b3 := kept_cell g8 b3; replace d3 := kept_cell g8 d3; replace b4 := kept_cell g8 b4; replace d4 := kept_cell g8 d4; replace b5 := kept_cell g8 b5; replace d5 := kept_cell g8 d5; replace b6 := kept_cell g8 b6; replace d6 := kept_cell g8 d6; replace b7 := kept_cell g8 b7; replace d7 := kept_cell g8 d7; replace b8 := kept_cell g8 b8; replace d8 := kept_cell g8 d8; replace b9 := kept_cell g8 b9; replace d9 := kept_cell g8 d9; clear g8)
            | ((with_reducible refine (A2.out _ T8.out).mono ?_); rintro e w9 ⟨rfl, t9, k9, hb9, hd9⟩; have T9 := Lib.hid t9; have K9 := Lib.hid k9; replace b0 := hb9 _ _ b0; replace d0 := hd9 _ _ d0; replace b1 := hb9 _ _ b1; replace d1 := hd9 _ _ d1; replace b2 := hb9 _ _ b2; replace d2 := hd9 _ _ d2; replace b3 := hb9 _ _ b3; replace d3 := hd9 _ _ d3; replace b4 := hb9 _ _ b4; replace d4 := hd9 _ _ d4; replace b5 := hb9 _ _ b5; replace d5 := hd9 _ _ d5; replace b6 := hb9 _ _ b6; replace d6 := hd9 _ _ d6; replace b7 := hb9 _ _ b7; replace d7 := hd9 _ _ d7; replace b8 := hb9 _ _ b8; replace d8 := hd9 _ _ d8; replace b9 := hb9 _ _ b9; replace d9 := hd9 _ _ d9; clear t9 k9 hb9 hd9)
            | ((with_reducible refine (CK2.out _).mono ?_); rintro e w10 ⟨rfl, g10⟩; have T10 := Lib.hid (T9.out.kep (Kep.of_grown g10)); have K10 := Lib.hid (Kep.of_grown g10); replace b0 := kept_cell g10 b0; replace d0 := kept_cell g10 d0; replace b1 := kept_cell g10 b1; replace d1 := kept_cell g10 d1; replace b2 := kept_cell g10 b2; replace d2 := kept_cell g10 d2; replace b3 := kept_cell g10 b3; replace d3 := kept_cell g10 d3; replace b4 := kept_cell g10 b4; replace d4 := kept_cell g10 d4; replace b5 := kept_cell g10 b5; replace d5 := kept_cell g10 d5; replace b6 := kept_cell g10 b6; replace d6 := kept_cell g10 d6; replace b7 := kept_cell g10 b7; replace d7 := kept_cell g10 d7; replace b8 := kept_cell g10 b8; replace d8 := kept_cell g10 d8; replace b9 := kept_cell g10 b9; replace d9 := kept_cell g10 d9; clear g10))
          go_wp2_with fail
          go_roundw
          case rel => exact ⟨c + 1, _, _, by omega, by go_num, Lib.hid ⟨T10.out.twin, G1.out, G2.out, ((((KX.out.trans (KM.out.mono KX.out.size)).trans K7.out).trans (K8.out.mono (Nat.le_trans KX.out.size (Nat.le_trans KM.out.size K7.out.size)))).trans K9.out).trans (K10.out.mono (Nat.le_trans KX.out.size (Nat.le_trans KM.out.size (Nat.le_trans K7.out.size (Nat.le_trans K8.out.size K9.out.size)))))⟩⟩
          case measure => simp [RowKit.intOf]; omega
        · obtain rfl : c = a := by omega
          obtain ⟨tw, s1, s2, kx⟩ := HK.out
          have hm : m1 = m2 := SetTo.same hkn s1 s2 tw.first.asc.1 tw.second.asc.1
          subst hm
          have HL1 : Hid (m1.length ≤ 1000000000) := Lib.hid (by have := s1.1; omega)
          have TW := Lib.hid tw
          have KX := Lib.hid kx
          clear tw s1 s2 kx HK
          go_wp2_with (first
            | ((with_reducible refine (fbodies TW.out.first).mono ?_); rintro e w8 ⟨v8, rfl, o8, k8⟩; have O8 := Lib.hid o8; have K8 := Lib.hid k8; clear o8 k8)
            | ((with_reducible refine (fbodies (TW.out.second.kep K8.out)).mono ?_); rintro e w9 ⟨v9, rfl, o9, k9⟩; have O9 := Lib.hid o9; have K9 := Lib.hid k9; clear o9 k9)
            | ((with_reducible refine (same_any _ _ _ _ (O8.out.lst.kep K9.out) O9.out.lst HL1.out).mono ?_); rintro e w10 ⟨rfl, k10⟩; have K10 := Lib.hid k10; clear k10))
          go_ret
          exact ⟨rfl, (((KW.out.trans (KX.out.mono KW.out.size)).next K8.out).next K9.out).next K10.out⟩
theorem order_all (v : Value) (L : List Bd) (tu : Int) (w : World) (h : Lst w v L) (hF : ∀ x ∈ L, Fits x) (ht : 0 ≤ tu ∧ tu < 256) : Calls Try.prog 4 #[v, .int .u8 tu] w (fun e w' => e = .returned (.bool true) ∧ Kep w.heap.size w w') := by
  obtain ⟨base, cap, rfl⟩ := h.shape
  by_cases hlen : 100 < L.length
  · exact order_long base cap L.length tu w (by omega)
  · by_cases h0 : L.length = 0
    · rw [h0]; exact order_none base cap tu w
    · exact order_main base cap L w h hF (by omega) (by omega) tu ht
end Go.Proofs.Ytfkieieedljodaa
