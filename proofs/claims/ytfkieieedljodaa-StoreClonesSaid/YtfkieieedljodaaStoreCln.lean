/-
  Package store: the law StoreClones.
-/
import Derived.Test.YtfkieieedljodaaStoreRem
namespace Go.Proofs.Ytfkieieedljodaa
open Go.RowKit Go.Lib Go.Maps

/-- Cells written: none is gone, none is frozen. -/
def Wrt (w w' : World) : Prop := ∀ p : Addr, ((w.cell? p).isSome = true → (w'.cell? p).isSome = true) ∧ w'.frozen? p = w.frozen? p
theorem Wrt.refl (w : World) : Wrt w w := fun _ => ⟨id, rfl⟩
theorem Wrt.set {w w' : World} (h : Wrt w w') (p : Addr) (u : Value) : Wrt w (w'.setCell p u) := fun q => ⟨fun e => setc_some p q u ((h q).1 e), (World.frozen?_setCell _ _ _ _).trans (h q).2⟩
theorem Own.new {w : World} {B n cap : Nat} {base : Option Addr} {L : List Bd} (h : Own w B (.slice base n cap) L) {g off : Nat} (e : base = some ⟨g, off, none⟩) : B ≤ g ∧ g < w.heap.size ∧ ∀ j, w.frozen? ⟨g, j, none⟩ = false := h.2 g (by rw [e]; rfl)

set_option maxRecDepth 100000 in
set_option maxHeartbeats 4000000 in
theorem clones_long (base : Option Addr) (cap : Nat) (L : List Bd) (w : World) (b : Bd) (hlen : 100 < L.length) : Calls Try.prog 6 #[.slice base L.length cap, Value.agg #[Value.int .u32 b.k, Value.int .i32 b.r, Value.int .i32 b.ax, Value.int .i32 b.ay, Value.int .i32 b.m, Value.int .i32 b.o, Value.int .i32 b.px, Value.int .i32 b.py, Value.int .i32 b.vx, Value.int .i32 b.vy]] w (fun e w' => e = .returned (.bool true) ∧ Kep w.heap.size w w') := by
  have AW := Lib.hid store_awake
  have hl : (100 : Int) < (L.length : Int) := by omega
  generalize L.length = n at *
  go_enter Try.func6, Try.ntmps6
  go_wp2_with (first
    | ((with_reducible refine (AW.out _).mono ?_); rintro e w2 ⟨rfl, k2⟩; have K2 := Lib.hid (K1.out.next k2))
    | ((with_reducible refine (AW.out _).mono ?_); rintro e w1 ⟨rfl, k1⟩; have K1 := Lib.hid ((Kep.made w _).next k1)))
  go_ret
  exact ⟨rfl, K2.out⟩
set_option maxRecDepth 100000 in
set_option maxHeartbeats 4000000 in
theorem clones_main (base : Option Addr) (cap : Nat) (L : List Bd) (w : World) (h : Lst w (.slice base L.length cap) L) (hF : ∀ x ∈ L, Fits x) (b : Bd) (hb : Fits b) (hlen : L.length ≤ 100) : Calls Try.prog 6 #[.slice base L.length cap, Value.agg #[Value.int .u32 b.k, Value.int .i32 b.r, Value.int .i32 b.ax, Value.int .i32 b.ay, Value.int .i32 b.m, Value.int .i32 b.o, Value.int .i32 b.px, Value.int .i32 b.py, Value.int .i32 b.vx, Value.int .i32 b.vy]] w (fun e w' => e = .returned (.bool true) ∧ Kep w.heap.size w w') := by
  have AW := Lib.hid store_awake
  have HB := Lib.hid hb
  have HF := Lib.hid hF
  obtain ⟨n, hn⟩ : ∃ n, n = L.length := ⟨_, rfl⟩
  have HN := Lib.hid hn.symm
  have hl : (n : Int) ≤ 100 := by omega
  rw [← hn] at h ⊢
  have H := Lib.hid h
  have HQ := Lib.hid (allL_asc L)
  clear hn h hb hF hlen
  go_enter Try.func6, Try.ntmps6
  go_wp2_with ((with_reducible refine (AW.out _).mono ?_); rintro e w2 ⟨rfl, k1⟩; have K2 := Lib.hid ((Kep.made w _).next k1); have y0 : w2.cell? ⟨w.heap.size, 0, none⟩ = some (Value.int .u32 b.k) := k1.all (by rw [World.cell?_alloc_at _ _ _ _ rfl]; rfl); have y1 : w2.cell? ⟨w.heap.size, 1, none⟩ = some (Value.int .i32 b.r) := k1.all (by rw [World.cell?_alloc_at _ _ _ _ rfl]; rfl); have y2 : w2.cell? ⟨w.heap.size, 2, none⟩ = some (Value.int .i32 b.ax) := k1.all (by rw [World.cell?_alloc_at _ _ _ _ rfl]; rfl); have y3 : w2.cell? ⟨w.heap.size, 3, none⟩ = some (Value.int .i32 b.ay) := k1.all (by rw [World.cell?_alloc_at _ _ _ _ rfl]; rfl); have y4 : w2.cell? ⟨w.heap.size, 4, none⟩ = some (Value.int .i32 b.m) := k1.all (by rw [World.cell?_alloc_at _ _ _ _ rfl]; rfl); have y5 : w2.cell? ⟨w.heap.size, 5, none⟩ = some (Value.int .i32 b.o) := k1.all (by rw [World.cell?_alloc_at _ _ _ _ rfl]; rfl); have y6 : w2.cell? ⟨w.heap.size, 6, none⟩ = some (Value.int .i32 b.px) := k1.all (by rw [World.cell?_alloc_at _ _ _ _ rfl]; rfl); have y7 : w2.cell? ⟨w.heap.size, 7, none⟩ = some (Value.int .i32 b.py) := k1.all (by rw [World.cell?_alloc_at _ _ _ _ rfl]; rfl); have y8 : w2.cell? ⟨w.heap.size, 8, none⟩ = some (Value.int .i32 b.vx) := k1.all (by rw [World.cell?_alloc_at _ _ _ _ rfl]; rfl); have y9 : w2.cell? ⟨w.heap.size, 9, none⟩ = some (Value.int .i32 b.vy) := k1.all (by rw [World.cell?_alloc_at _ _ _ _ rfl]; rfl))
  have lb : w.heap.size < w2.heap.size := World.block_lt_of_cell? _ _ y0
  have S0 := Lib.hid (fresh_new w2)
  go_loopw [6] (fun i wr => ∃ k : Nat, k ≤ n ∧ i = .int .i64 k ∧ Hid (Fresh w2.heap.size wr w2.heap.size (allL (L.take k)) ∧ Kep w2.heap.size w2 wr)) (fun i _ => n - (RowKit.intOf i).toNat)
  case atStart => exact ⟨0, Nat.zero_le _, rfl, Lib.hid ⟨by simpa [allL] using S0.out, Kep.made _ _⟩⟩
  case round =>
    obtain ⟨k, hk, rfl, HK⟩ := hrel
    have KW := Lib.hid (K2.out.trans (HK.out.2.mono K2.out.size))
    by_cases hlt : k < n
    · have hb : L[k]? = some (L[k]'(by rw [HN.out]; exact hlt)) := List.getElem?_eq_getElem _
      generalize L[k]'(by rw [HN.out]; exact hlt) = x at hb
      obtain ⟨g, off, hbase, hc⟩ := Lst.at_ H.out hb
      subst hbase
      obtain ⟨x0, x1, x2, x3, x4, x5, x6, x7, x8, x9⟩ := old_cells KW.out hc
      have C := Lib.hid (fadd HK.out.1 x (HF.out x (List.mem_of_getElem? hb)))
      have HX := Lib.hid (allL_take hb)
      clear hb hc
      go_wp2_with ((with_reducible refine (C.out).mono ?_); rintro e w3 ⟨rfl, s3, k3⟩; replace s3 := Lib.hid s3; replace k3 := Lib.hid k3)
      go_roundw
      case rel => exact ⟨k + 1, by omega, by go_num, Lib.hid ⟨by rw [HX.out]; exact s3.out, HK.out.2.trans k3.out⟩⟩
      case measure => simp [RowKit.intOf]; omega
    · have S1 : Hid (Fresh w2.heap.size wr w2.heap.size (allL L)) := Lib.hid (by have := HK.out.1; rw [List.take_of_length_le (by rw [HN.out]; omega)] at this; exact this)
      have KR := Lib.hid HK.out.2
      clear HK
      have AL := Lib.hid (all_any _ L wr (H.out.kep KW.out) (by have := HN.out; omega))
      generalize allL L = m at S1 AL HQ
      obtain ⟨q, hq⟩ : ∃ q, q = m.length := ⟨_, rfl⟩
      have HM := Lib.hid hq.symm
      have HL1 : Hid (m.length ≤ 1000000000) := Lib.hid (by have := HQ.out.2; have := HN.out; omega)
      have hq1 : (q : Int) ≤ 100 := by have := HQ.out.2; have := HN.out; have := HM.out; omega
      clear hq
      replace y0 := KR.out.holds lb y0
      replace y1 := KR.out.holds lb y1
      replace y2 := KR.out.holds lb y2
      replace y3 := KR.out.holds lb y3
      replace y4 := KR.out.holds lb y4
      replace y5 := KR.out.holds lb y5
      replace y6 := KR.out.holds lb y6
      replace y7 := KR.out.holds lb y7
      replace y8 := KR.out.holds lb y8
      replace y9 := KR.out.holds lb y9
      go_wp2_with (first
        | ((with_reducible refine (AL.out).mono ?_); rintro e w4 ⟨v4, rfl, ⟨l4, n4⟩, k4⟩; have K4 := Lib.hid k4; have S4 := Lib.hid (Sep.of_new S1.out k4 l4 n4); replace y0 := k4.all y0; replace y1 := k4.all y1; replace y2 := k4.all y2; replace y3 := k4.all y3; replace y4 := k4.all y4; replace y5 := k4.all y5; replace y6 := k4.all y6; replace y7 := k4.all y7; replace y8 := k4.all y8; replace y9 := k4.all y9; have lc : w.heap.size < w4.heap.size := World.block_lt_of_cell? _ _ y0; obtain ⟨base4, cap4, hv4⟩ := l4.shape; rw [HM.out] at hv4; subst hv4; clear l4 k4 n4)
        | ((with_reducible refine (fclone S4.out.fresh).mono ?_); rintro e w5 ⟨nb, rfl, t5, k5⟩; have T5 := Lib.hid t5; have K5 := Lib.hid k5; have S5 := Lib.hid (S4.out.kep k5); clear t5 k5)
        | ((with_reducible refine (fbodies T5.out).mono ?_); rintro e w6 ⟨v6, rfl, o6, k6⟩; obtain ⟨base6, cap6, hv6⟩ := o6.lst.shape; rw [HM.out] at hv6; subst hv6; have O6 := Lib.hid o6; have K6 := Lib.hid k6; clear o6 k6)
        | ((with_reducible refine (same_any _ _ _ _ O6.out.lst (S5.out.lst.kep K6.out) HL1.out).mono ?_); rintro e w7 ⟨rfl, k7⟩; have K7 := Lib.hid k7; clear k7))
      go_loopw [10] (fun i wr2 => ∃ k : Nat, k ≤ q ∧ i = .int .i64 k ∧ Hid (Kep w5.heap.size w7 wr2 ∧ Wrt w7 wr2)) (fun i _ => q - (RowKit.intOf i).toNat)
      case atStart => exact ⟨0, Nat.zero_le _, rfl, Lib.hid ⟨Kep.refl _ _, Wrt.refl _⟩⟩
      case round =>
        obtain ⟨wr2, hwr2⟩ : ∃ x, x = wr := ⟨_, rfl⟩
        subst hwr2
        obtain ⟨k2, hk2, rfl, HJ2⟩ := hrel
        by_cases hlt2 : k2 < q
        · have hb : m[k2]? = some (m[k2]'(by rw [HM.out]; exact hlt2)) := List.getElem?_eq_getElem _
          generalize m[k2]'(by rw [HM.out]; exact hlt2) = x at hb
          obtain ⟨g, off, hbase, hc⟩ := Lst.at_ O6.out.lst hb
          obtain ⟨hg1, hg2, hg3⟩ := O6.out.new hbase
          subst hbase
          have x1 : w7.cell? ⟨g, off + k2 * 10 + 1, none⟩ = some (.int .i32 x.r) := K7.out.all (hc 1 (by omega))
          obtain ⟨u, hu⟩ := Option.isSome_iff_exists.1 ((HJ2.out.2 ⟨g, off + k2 * 10 + 1, none⟩).1 (by rw [x1]; rfl))
          have hz : wr2.frozen? ⟨g, off + k2 * 10 + 1, none⟩ = false := (HJ2.out.2 _).2.trans ((K7.out.frozen (p := ⟨g, off + k2 * 10 + 1, none⟩) hg2).trans (hg3 _))
          clear hb hc x1 hg3
          go_wp2
          go_roundw
          case rel => exact ⟨k2 + 1, by omega, by go_num, Lib.hid ⟨HJ2.out.1.setCell hg1 _, HJ2.out.2.set _ _⟩⟩
          case measure => simp [RowKit.intOf]; omega
        · have K8 := Lib.hid HJ2.out.1
          have K58 : Hid (Kep w5.heap.size w5 wr2) := Lib.hid (((K6.out.next K7.out)).trans K8.out)
          have KT : Hid (Kep w4.heap.size w4 wr2) := Lib.hid (K5.out.trans (K58.out.mono K5.out.size))
          have T8 := Lib.hid (T5.out.kep K58.out)
          replace y0 := KT.out.all y0
          replace y1 := KT.out.all y1
          replace y2 := KT.out.all y2
          replace y3 := KT.out.all y3
          replace y4 := KT.out.all y4
          replace y5 := KT.out.all y5
          replace y6 := KT.out.all y6
          replace y7 := KT.out.all y7
          replace y8 := KT.out.all y8
          replace y9 := KT.out.all y9
          clear HJ2
          go_wp2_with (first
            | ((with_reducible refine (fremove T8.out (wf_u32 HB.out)).mono ?_); rintro e w9 ⟨rfl, s9, k9⟩; have T9 := Lib.hid s9; have K9 := Lib.hid k9; replace y0 := k9.holds lc y0; replace y1 := k9.holds lc y1; replace y2 := k9.holds lc y2; replace y3 := k9.holds lc y3; replace y4 := k9.holds lc y4; replace y5 := k9.holds lc y5; replace y6 := k9.holds lc y6; replace y7 := k9.holds lc y7; replace y8 := k9.holds lc y8; replace y9 := k9.holds lc y9; generalize removeE m b.k = c9; clear s9 k9)
            | ((with_reducible refine (fadd T9.out b HB.out).mono ?_); rintro e w10 ⟨rfl, s10, k10⟩; have T10 := Lib.hid s10; have K10 := Lib.hid k10; clear s10 k10))
          have KY : Hid (Kep w4.heap.size w4 w10) := Lib.hid (KT.out.trans (K9.out.trans K10.out))
          go_loopw [11] (fun i wr3 => ∃ k : Nat, k ≤ q ∧ i = .int .i64 k ∧ Hid ((∃ mt, Fresh w4.heap.size wr3 nb mt) ∧ Kep w4.heap.size w10 wr3)) (fun i _ => q - (RowKit.intOf i).toNat)
          case atStart => exact ⟨0, Nat.zero_le _, rfl, Lib.hid ⟨⟨_, T10.out⟩, Kep.refl _ _⟩⟩
          case round =>
            obtain ⟨wr3, hwr3⟩ : ∃ x, x = wr := ⟨_, rfl⟩
            subst hwr3
            obtain ⟨k3, hk3, rfl, HJ⟩ := hrel
            by_cases hlt3 : k3 < q
            · have hb : m[k3]? = some (m[k3]'(by rw [HM.out]; exact hlt3)) := List.getElem?_eq_getElem _
              generalize m[k3]'(by rw [HM.out]; exact hlt3) = x at hb
              obtain ⟨mt, fm⟩ := HJ.out.1
              obtain ⟨g, off, hbase, hc⟩ := Lst.at_ (S4.out.kep (KY.out.trans HJ.out.2)).lst hb
              subst hbase
              have x0 := hc 0 (by omega)
              have C := Lib.hid (fremove fm (wf_u32 (S4.out.fresh.asc.2.2 x (List.mem_of_getElem? hb))))
              have x1 : wr3.cell? ⟨g, off + k3 * 10, none⟩ = some (.int .u32 x.k) := x0
              clear hb hc fm x0
              go_wp2_with ((with_reducible refine (C.out).mono ?_); rintro e w15 ⟨rfl, s15, k15⟩; replace s15 := Lib.hid s15; replace k15 := Lib.hid k15)
              go_roundw
              case rel => exact ⟨k3 + 1, by omega, by go_num, Lib.hid ⟨⟨_, s15.out⟩, HJ.out.2.trans k15.out⟩⟩
              case measure => simp [RowKit.intOf]; omega
            · have KZ := Lib.hid HJ.out.2
              have LN := Lib.hid (fun w' (f : Fresh w2.heap.size w' w2.heap.size m) => by have := flen f; rw [HM.out] at this; exact this)
              have KX : Hid (Kep w4.heap.size w4 wr3) := Lib.hid (KY.out.trans KZ.out)
              have S11 := Lib.hid (S4.out.kep KX.out)
              clear HJ
              go_wp2_with (first
                | ((with_reducible refine (fbodies S11.out.fresh).mono ?_); rintro e w12 ⟨v12, rfl, o12, k12⟩; have O12 := Lib.hid o12; have K12 := Lib.hid k12; clear o12 k12)
                | ((with_reducible refine (same_any _ _ _ _ O12.out.lst (S11.out.lst.kep K12.out) HL1.out).mono ?_); rintro e w13 ⟨rfl, k13⟩; have K13 := Lib.hid k13; clear k13)
                | ((with_reducible refine (LN.out _ (S11.out.fresh.kep (K12.out.next K13.out))).mono ?_); rintro e w14 ⟨rfl, rfl⟩))
              go_ret
              exact ⟨rfl, ((((KW.out.next K4.out).next KX.out).next K12.out).next K13.out)⟩
theorem clones_all (v : Value) (L : List Bd) (b : Bd) (w : World) (h : Lst w v L) (hF : ∀ x ∈ L, Fits x) (hb : Fits b) : Calls Try.prog 6 #[v, Value.agg #[Value.int .u32 b.k, Value.int .i32 b.r, Value.int .i32 b.ax, Value.int .i32 b.ay, Value.int .i32 b.m, Value.int .i32 b.o, Value.int .i32 b.px, Value.int .i32 b.py, Value.int .i32 b.vx, Value.int .i32 b.vy]] w (fun e w' => e = .returned (.bool true) ∧ Kep w.heap.size w w') := by
  obtain ⟨base, cap, rfl⟩ := h.shape
  by_cases hlen : 100 < L.length
  · exact clones_long base cap L w b hlen
  · exact clones_main base cap L w h hF b hb (by omega)
end Go.Proofs.Ytfkieieedljodaa
