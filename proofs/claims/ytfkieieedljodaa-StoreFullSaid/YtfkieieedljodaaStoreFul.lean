/-
  Package store: the law StoreFull.
-/
import Derived.Test.YtfkieieedljodaaStoreMat
namespace Go.Proofs.Ytfkieieedljodaa
open Go.RowKit Go.Lib Go.Maps

/-- The j-th key. -/
def kk (key d : Int) (j : Nat) : Int := (key + j * d) % 4294967296
theorem mul_le {j : Nat} {d : Int} (hj : j ≤ 4096) (h0 : 1 ≤ d) (h1 : d ≤ 256) : 0 ≤ (j : Int) * d ∧ (j : Int) * d ≤ 1048576 := by
  have a := Int.mul_nonneg (Int.natCast_nonneg j) (show 0 ≤ d by omega)
  have b : (j : Int) * d ≤ 4096 * 256 := Int.mul_le_mul (by omega) h1 (by omega) (by omega)
  omega
theorem kk_inj {key d : Int} {i j : Nat} (hi : i ≤ 4096) (hj : j ≤ 4096) (h0 : 1 ≤ d) (h1 : d ≤ 256) (e : kk key d i = kk key d j) : i = j := by
  have a := mul_le hi h0 h1
  have b := mul_le hj h0 h1
  unfold kk at e
  have q : (i : Int) * d = (j : Int) * d := by
    generalize (i : Int) * d = x at *
    generalize (j : Int) * d = y at *
    omega
  have := Int.eq_of_mul_eq_mul_right (show d ≠ 0 by omega) q
  omega
theorem kk_wf (key d : Int) (j : Nat) : (Lit.int .u32 (kk key d j)).wf = true := by
  unfold kk
  have h : 0 ≤ (key + j * d) % 4294967296 ∧ (key + j * d) % 4294967296 < 4294967296 := ⟨Int.emod_nonneg _ (by decide), Int.emod_lt_of_pos _ (by decide)⟩
  generalize (key + j * d) % 4294967296 = x at h
  have a : IntKind.u32.min = 0 := rfl
  have b : IntKind.u32.max = 4294967295 := rfl
  simp only [Lit.wf, Bool.and_eq_true, decide_eq_true_eq, a, b]
  omega
theorem kfits (key d : Int) (j : Nat) : Fits ⟨kk key d j, 65536, 0, 0, 0, 0, 0, 0, 0, 0⟩ := ⟨kk_wf key d j, rfl, rfl, rfl, rfl, rfl, rfl, rfl, rfl, rfl⟩
/-- The store after k bodies. -/
def FullTo (key d : Int) (k : Nat) (m : List Bd) : Prop := m.length = k ∧ ∀ x, x ∈ m ↔ ∃ j, j < k ∧ x = ⟨kk key d j, 65536, 0, 0, 0, 0, 0, 0, 0, 0⟩
theorem FullTo.no {key d : Int} {k j : Nat} {m : List Bd} (h : FullTo key d k m) (hj : k ≤ j) (hj2 : j ≤ 4096) (h0 : 1 ≤ d) (h1 : d ≤ 256) : look m (kk key d j) = none := look_none.2 fun y hy e => by
  obtain ⟨i, hi, rfl⟩ := (h.2 y).1 hy
  have := kk_inj (by omega) hj2 h0 h1 e
  omega
theorem FullTo.yes {key d : Int} {k j : Nat} {m : List Bd} (h : FullTo key d k m) (ha : Asc m) (hj : j < k) : look m (kk key d j) = some ⟨kk key d j, 65536, 0, 0, 0, 0, 0, 0, 0, 0⟩ := look_mem (b := ⟨kk key d j, 65536, 0, 0, 0, 0, 0, 0, 0, 0⟩) ha.once ((h.2 _).2 ⟨j, hj, rfl⟩)
theorem FullTo.next {key d : Int} {k : Nat} {m : List Bd} (h : FullTo key d k m) (ha : Asc m) (hk : k < 4096) (h0 : 1 ≤ d) (h1 : d ≤ 256) : FullTo key d (k + 1) (put m ⟨kk key d k, 65536, 0, 0, 0, 0, 0, 0, 0, 0⟩ false) := by
  have hn := h.no (Nat.le_refl _) (by omega) h0 h1
  refine ⟨by rw [(put_len ha _).1 hn, h.1], fun x => ?_⟩
  rw [mem_put ha]
  constructor
  · rintro (rfl | ⟨hx, _⟩)
    · exact ⟨k, by omega, rfl⟩
    · obtain ⟨j, hj, e⟩ := (h.2 x).1 hx
      exact ⟨j, by omega, e⟩
  · rintro ⟨j, hj, rfl⟩
    by_cases c : j = k
    · subst c; exact .inl rfl
    · exact .inr ⟨(h.2 _).2 ⟨j, by omega, rfl⟩, fun e => c (kk_inj (by omega) (by omega) h0 h1 e)⟩
theorem chk_plain (x : Int) : chkB ⟨x, 65536, 0, 0, 0, 0, 0, 0, 0, 0⟩ = 0 := show chk 65536 0 0 0 0 0 0 0 0 = 0 by decide
theorem chk_none (x : Int) : chkB ⟨x, 0, 0, 0, 0, 0, 0, 0, 0, 0⟩ = 4 := show chk 0 0 0 0 0 0 0 0 0 = 4 by decide
theorem gone_len' {m : List Bd} {b : Bd} (ha : Asc m) (h : look m b.k = some b) : (put m (bare b.k) true).length + 1 = m.length := by
  have e : put m b false = m := asc_ext (put_asc ha b false) ha fun key => by
    rw [look_put ha]
    by_cases c : b.k = key
    · rw [if_pos c, ← c, h]
    · rw [if_neg c]
  have q := put_again (b := b) ha
  rw [e] at q
  have := (put_len (put_asc ha (bare b.k) true) b).1 (look_bare ha)
  rw [q] at this
  omega
theorem Fresh.sep {B sb : Nat} {w : World} {m : List Bd} (h : Fresh B w sb m) : Sep B w sb m (.slice none 0 0) [] := by
  obtain ⟨hB, S, s, hS⟩ := h
  exact ⟨hB, S, s, hS, .inl ⟨rfl, none, 0, rfl⟩, fun g e => by cases e⟩
def Apart (B : Nat) (w : World) (sb : Nat) (m : List Bd) (p : Nat) : Prop := SepP B w sb m (.slice none 0 0) [] p
theorem Apart.fresh {B sb p : Nat} {w : World} {m : List Bd} (h : Apart B w sb m p) : Fresh B w sb m := by
  obtain ⟨hB, _, S, s, hS, _⟩ := h
  exact ⟨hB, S, s, hS⟩
def ADone (B : Nat) (w : World) (sb : Nat) (c : Int) (m : List Bd) (p : Nat) (e : Ending) (w' : World) : Prop := e = .returned (.int .i64 c) ∧ Apart B w' sb m p ∧ Kep B w w' ∧ ∀ (i : Nat) (u : Value), w.cell? ⟨p, i, none⟩ = some u → w'.cell? ⟨p, i, none⟩ = some u
theorem Done.apart {B sb p : Nat} {w w' : World} {S : Nat → Prop} {c : Int} {m : List Bd} {e : Ending} (h : Done w sb S c m e w') (hB : B ≤ w.heap.size) (hp : p < w.heap.size) (hS : ∀ k, S k → B ≤ k) (np : ¬ S p) : ADone B w sb c m p e w' := by
  obtain ⟨h1, ⟨hB', _, _⟩, h3⟩ := h.fresh hB hS
  obtain ⟨_, h2, h4⟩ := h
  refine ⟨h1, ⟨hB', Nat.lt_of_lt_of_le hp h4.size, _, h2, fun k hk => ?_, .inl ⟨rfl, none, 0, rfl⟩, fun g e => by (cases e), ?_⟩, h3, fun i u hu => (World.cell?_of_block (h4.block p hp np)).trans hu⟩
  · rcases hk with hk | hk
    · exact hS k hk
    · omega
  · rintro (q | q)
    · exact np q
    · omega
theorem aadd {B sb p : Nat} {w : World} {m : List Bd} (h : Apart B w sb m p) (b : Bd) (hb : Fits b) : Calls Try.prog 9 #[Value.pointer (some ⟨sb, 0, none⟩), Value.agg #[Value.int .u32 b.k, Value.int .i32 b.r, Value.int .i32 b.ax, Value.int .i32 b.ay, Value.int .i32 b.m, Value.int .i32 b.o, Value.int .i32 b.px, Value.int .i32 b.py, Value.int .i32 b.vx, Value.int .i32 b.vy]] w (ADone B w sb (addE m b) (addL m b) p) := by
  obtain ⟨hB, hp, S, s, hS, _, _, np⟩ := h
  exact (add_any s b hb).mono fun e w' q => q.apart hB hp hS np
theorem aremove {B sb p : Nat} {w : World} {m : List Bd} (h : Apart B w sb m p) {key : Int} (hk : (Lit.int .u32 key).wf = true) : Calls Try.prog 11 #[Value.pointer (some ⟨sb, 0, none⟩), .int .u32 key] w (ADone B w sb (removeE m key) (removeL m key) p) := by
  obtain ⟨hB, hp, S, s, hS, _, _, np⟩ := h
  exact (remove_any s hk).mono fun e w' q => q.apart hB hp hS np
abbrev AAdd (B sb : Nat) (k r c : Int) (m m' : List Bd) : Prop := ∀ w p, Apart B w sb m p → Calls Try.prog 9 #[Value.pointer (some ⟨sb, 0, none⟩), Value.agg #[Value.int .u32 k, Value.int .i32 r, Value.int .i32 0, Value.int .i32 0, Value.int .i32 0, Value.int .i32 0, Value.int .i32 0, Value.int .i32 0, Value.int .i32 0, Value.int .i32 0]] w (ADone B w sb c m' p)
theorem aadd_is {B sb : Nat} {k r c : Int} {m m' : List Bd} (hf : Fits ⟨k, r, 0, 0, 0, 0, 0, 0, 0, 0⟩) (h : addE m ⟨k, r, 0, 0, 0, 0, 0, 0, 0, 0⟩ = c ∧ addL m ⟨k, r, 0, 0, 0, 0, 0, 0, 0, 0⟩ = m') : AAdd B sb k r c m m' := fun w p q => by
  have := aadd q ⟨k, r, 0, 0, 0, 0, 0, 0, 0, 0⟩ hf
  rw [h.1, h.2] at this
  exact this

set_option maxRecDepth 100000 in
set_option maxHeartbeats 4000000 in
theorem full_all (key step : Int) (h0 : 0 ≤ key ∧ key < 4294967296) (h1 : 0 ≤ step ∧ step < 256) (w : World) : Calls Try.prog 5 #[.int .u32 key, .int .u8 step] w (fun e w' => e = .returned (.bool true) ∧ Kep w.heap.size w w') := by
  have AW := Lib.hid store_awake
  obtain ⟨d, hd⟩ : ∃ d, step + 1 = d := ⟨_, rfl⟩
  have hd0 : 1 ≤ d := by omega
  have hd1 : d ≤ 256 := by omega
  go_enter Try.func5, Try.ntmps5
  go_wp2_with ((with_reducible refine (AW.out _).mono ?_); rintro e w2 ⟨rfl, k1⟩; have K2 := Lib.hid k1; clear k1)
  have S0 := Lib.hid (fresh_new w2)
  go_loopw [7] (fun i wr => ∃ (k : Nat) (m : List Bd), k ≤ 4096 ∧ i = .int .u32 k ∧ Hid (Fresh w2.heap.size wr w2.heap.size m ∧ FullTo key d k m ∧ Kep w2.heap.size w2 wr)) (fun i _ => 4096 - (RowKit.intOf i).toNat)
  case atStart => exact ⟨0, [], Nat.zero_le _, rfl, Lib.hid ⟨S0.out, ⟨rfl, fun x => by simp⟩, Kep.made _ _⟩⟩
  case round =>
    obtain ⟨k, m, hk, rfl, HK⟩ := hrel
    by_cases hlt : k < 4096
    · have hlt' : (k : Int) < 4096 := by omega
      have ml := mul_le (j := k) (by omega) hd0 hd1
      obtain ⟨kd, hkd⟩ : ∃ kd, kd = (k : Int) * d := ⟨_, rfl⟩
      have e1 : IntKind.u32.wrap ((k : Int) * d) = kd := by rw [← hkd]; rw [← hkd] at ml; simp [IntKind.wrap, IntKind.bits, IntKind.signed]; omega
      obtain ⟨x, hx⟩ : ∃ x, x = kk key d k := ⟨_, rfl⟩
      have e2 : IntKind.u32.wrap (key + kd) = x := by rw [hx, hkd]; simp [IntKind.wrap, IntKind.bits, IntKind.signed, kk]
      have E := add_is (m := m) (b := ⟨x, 65536, 0, 0, 0, 0, 0, 0, 0, 0⟩) (chk_plain x) (by rw [hx]; exact HK.out.2.1.no (Nat.le_refl _) (by omega) hd0 hd1) (by have := HK.out.2.1.1; omega)
      have C : Hid (Calls Try.prog 9 #[.pointer (some ⟨w2.heap.size, 0, none⟩), Value.agg #[Value.int .u32 x, Value.int .i32 65536, Value.int .i32 0, Value.int .i32 0, Value.int .i32 0, Value.int .i32 0, Value.int .i32 0, Value.int .i32 0, Value.int .i32 0, Value.int .i32 0]] wr (FDone w2.heap.size wr w2.heap.size 0 (put m ⟨x, 65536, 0, 0, 0, 0, 0, 0, 0, 0⟩ false))) := Lib.hid (by have := fadd HK.out.1 ⟨x, 65536, 0, 0, 0, 0, 0, 0, 0, 0⟩ (by rw [hx]; exact kfits key d k); rw [E.1, E.2] at this; exact this)
      have HX := Lib.hid hx
      have hd0' := Lib.hid hd0
      clear E hx hkd ml
      go_wp2_with ((with_reducible refine (C.out).mono ?_); rintro e w3 ⟨rfl, s3, k3⟩; replace s3 := Lib.hid s3; replace k3 := Lib.hid k3)
      go_roundw
      case rel => exact ⟨k + 1, _, by omega, by go_num, Lib.hid ⟨s3.out, by rw [HX.out]; exact HK.out.2.1.next HK.out.1.asc.1 hlt hd0'.out hd1, HK.out.2.2.trans k3.out⟩⟩
      case measure => simp [RowKit.intOf]; omega
    · obtain rfl : k = 4096 := by omega
      obtain ⟨s1, ft, kr⟩ := HK.out
      have hA := s1.asc.1
      have hlen := ft.1
      have ml := mul_le (j := 4096) (Nat.le_refl _) hd0 hd1
      have ms := mul_le (j := 7) (by decide) hd0 hd1
      obtain ⟨md, hmd⟩ : ∃ x, x = 4096 * d := ⟨_, rfl⟩
      obtain ⟨sd, hsd⟩ : ∃ x, x = 7 * d := ⟨_, rfl⟩
      have e1 : IntKind.u32.wrap (4096 * d) = md := by rw [← hmd]; simp [IntKind.wrap, IntKind.bits, IntKind.signed]; omega
      have e3 : IntKind.u32.wrap (7 * d) = sd := by rw [← hsd]; simp [IntKind.wrap, IntKind.bits, IntKind.signed]; omega
      obtain ⟨xm, hxm⟩ : ∃ x, x = kk key d 4096 := ⟨_, rfl⟩
      obtain ⟨x7, hx7⟩ : ∃ x, x = kk key d 7 := ⟨_, rfl⟩
      have e2 : IntKind.u32.wrap (key + md) = xm := by rw [hxm, hmd]; simp [IntKind.wrap, IntKind.bits, IntKind.signed, kk]
      have e4 : IntKind.u32.wrap (key + sd) = x7 := by rw [hx7, hsd]; simp [IntKind.wrap, IntKind.bits, IntKind.signed, kk]
      have ek : kk key d 0 = key := by simp [kk]; omega
      have ne7 : xm ≠ x7 := fun e => by
        rw [hxm, hx7] at e
        have := kk_inj (Nat.le_refl _) (by decide) hd0 hd1 e
        omega
      have lm : look m xm = none := by rw [hxm]; exact ft.no (Nat.le_refl _) (Nat.le_refl _) hd0 hd1
      have lk : look m key ≠ none := by rw [← ek, ft.yes hA (by decide)]; simp
      have l7 : look m x7 = some ⟨x7, 65536, 0, 0, 0, 0, 0, 0, 0, 0⟩ := by rw [hx7]; exact ft.yes hA (by decide)
      have F7 : Fits ⟨x7, 65536, 0, 0, 0, 0, 0, 0, 0, 0⟩ := by rw [hx7]; exact kfits key d 7
      have FM : Fits ⟨xm, 65536, 0, 0, 0, 0, 0, 0, 0, 0⟩ := by rw [hxm]; exact kfits key d 4096
      have FM0 : Fits ⟨xm, 0, 0, 0, 0, 0, 0, 0, 0, 0⟩ := ⟨FM.1, rfl, rfl, rfl, rfl, rfl, rfl, rfl, rfl, rfl⟩
      have FK : Fits ⟨key, 65536, 0, 0, 0, 0, 0, 0, 0, 0⟩ := by rw [← ek]; exact kfits key d 0
      obtain ⟨m1, hm1⟩ : ∃ x, x = put m (bare x7) true := ⟨_, rfl⟩
      obtain ⟨m2, hm2⟩ : ∃ x, x = put m1 ⟨xm, 65536, 0, 0, 0, 0, 0, 0, 0, 0⟩ false := ⟨_, rfl⟩
      have hA1 : Asc m1 := by rw [hm1]; exact put_asc hA _ true
      have g1 : m1.length + 1 = m.length := by rw [hm1]; exact gone_len' (b := ⟨x7, 65536, 0, 0, 0, 0, 0, 0, 0, 0⟩) hA l7
      have lm1 : look m1 xm = none := by rw [hm1, look_gone hA]; show (if x7 = xm then none else look m xm) = none; rw [if_neg (fun e => ne7 e.symm)]; exact lm
      have g2 : m2.length = m1.length + 1 := by rw [hm2]; exact (put_len hA1 _).1 lm1
      have l72 : look m2 x7 = none := by rw [hm2, look_put hA1]; show (if xm = x7 then _ else look m1 x7) = none; rw [if_neg ne7, hm1, look_gone hA]; exact if_pos rfl
      have A1 : Hid (AAdd w2.heap.size w2.heap.size xm 65536 12 m m) := Lib.hid (aadd_is FM (add_full_is (chk_plain xm) lm (by omega)))
      have A2 : Hid (AAdd w2.heap.size w2.heap.size key 65536 10 m m) := Lib.hid (aadd_is FK (add_dup_is (chk_plain key) lk))
      have A3 : Hid (AAdd w2.heap.size w2.heap.size xm 0 4 m m) := Lib.hid (aadd_is FM0 (add_bad_is (chk_none xm) (by decide)))
      have A4 : Hid (AAdd w2.heap.size w2.heap.size xm 65536 0 m1 m2) := Lib.hid (aadd_is FM (by rw [hm2]; exact add_is (chk_plain xm) lm1 (by omega)))
      have A5 : Hid (AAdd w2.heap.size w2.heap.size x7 65536 12 m2 m2) := Lib.hid (aadd_is F7 (add_full_is (chk_plain x7) l72 (by omega)))
      have RM : Hid (∀ w' p, Apart w2.heap.size w' w2.heap.size m p → Calls Try.prog 11 #[.pointer (some ⟨w2.heap.size, 0, none⟩), .int .u32 x7] w' (ADone w2.heap.size w' w2.heap.size 0 m1 p)) := Lib.hid fun w' p q => by
        have := aremove q (key := x7) F7.1
        rw [(remove_is (by rw [l7]; simp)).1, (remove_is (by rw [l7]; simp)).2, ← hm1] at this
        exact this
      have LN : Hid (∀ w', Fresh w2.heap.size w' w2.heap.size m → Calls Try.prog 17 #[.pointer (some ⟨w2.heap.size, 0, none⟩)] w' fun e w'' => e = .returned (.int .i64 4096) ∧ w' = w'') := Lib.hid fun w' q => by have := flen q; rw [hlen] at this; exact this
      have LN2 : Hid (∀ w', Fresh w2.heap.size w' w2.heap.size m2 → Calls Try.prog 17 #[.pointer (some ⟨w2.heap.size, 0, none⟩)] w' fun e w'' => e = .returned (.int .i64 4096) ∧ w' = w'') := Lib.hid fun w' q => by have := flen q; rw [show m2.length = 4096 by omega] at this; exact this
      have P0 : Hid (Apart w2.heap.size (wr.alloc (.cells #[Value.int .u32 xm, Value.int .i32 65536, Value.int .i32 0, Value.int .i32 0, Value.int .i32 0, Value.int .i32 0, Value.int .i32 0, Value.int .i32 0, Value.int .i32 0, Value.int .i32 0] 32)) w2.heap.size m wr.heap.size) := Lib.hid (s1.sep.box _)
      have KR := Lib.hid kr
      have y0 : (wr.alloc (.cells #[Value.int .u32 xm, Value.int .i32 65536, Value.int .i32 0, Value.int .i32 0, Value.int .i32 0, Value.int .i32 0, Value.int .i32 0, Value.int .i32 0, Value.int .i32 0, Value.int .i32 0] 32)).cell? ⟨wr.heap.size, 0, none⟩ = some (Value.int .u32 xm) := by rw [World.cell?_alloc_at _ _ _ _ rfl]; rfl
      have y1 : (wr.alloc (.cells #[Value.int .u32 xm, Value.int .i32 65536, Value.int .i32 0, Value.int .i32 0, Value.int .i32 0, Value.int .i32 0, Value.int .i32 0, Value.int .i32 0, Value.int .i32 0, Value.int .i32 0] 32)).cell? ⟨wr.heap.size, 1, none⟩ = some (Value.int .i32 65536) := by rw [World.cell?_alloc_at _ _ _ _ rfl]; rfl
      have y2 : (wr.alloc (.cells #[Value.int .u32 xm, Value.int .i32 65536, Value.int .i32 0, Value.int .i32 0, Value.int .i32 0, Value.int .i32 0, Value.int .i32 0, Value.int .i32 0, Value.int .i32 0, Value.int .i32 0] 32)).cell? ⟨wr.heap.size, 2, none⟩ = some (Value.int .i32 0) := by rw [World.cell?_alloc_at _ _ _ _ rfl]; rfl
      have y3 : (wr.alloc (.cells #[Value.int .u32 xm, Value.int .i32 65536, Value.int .i32 0, Value.int .i32 0, Value.int .i32 0, Value.int .i32 0, Value.int .i32 0, Value.int .i32 0, Value.int .i32 0, Value.int .i32 0] 32)).cell? ⟨wr.heap.size, 3, none⟩ = some (Value.int .i32 0) := by rw [World.cell?_alloc_at _ _ _ _ rfl]; rfl
      have y4 : (wr.alloc (.cells #[Value.int .u32 xm, Value.int .i32 65536, Value.int .i32 0, Value.int .i32 0, Value.int .i32 0, Value.int .i32 0, Value.int .i32 0, Value.int .i32 0, Value.int .i32 0, Value.int .i32 0] 32)).cell? ⟨wr.heap.size, 4, none⟩ = some (Value.int .i32 0) := by rw [World.cell?_alloc_at _ _ _ _ rfl]; rfl
      have y5 : (wr.alloc (.cells #[Value.int .u32 xm, Value.int .i32 65536, Value.int .i32 0, Value.int .i32 0, Value.int .i32 0, Value.int .i32 0, Value.int .i32 0, Value.int .i32 0, Value.int .i32 0, Value.int .i32 0] 32)).cell? ⟨wr.heap.size, 5, none⟩ = some (Value.int .i32 0) := by rw [World.cell?_alloc_at _ _ _ _ rfl]; rfl
      have y6 : (wr.alloc (.cells #[Value.int .u32 xm, Value.int .i32 65536, Value.int .i32 0, Value.int .i32 0, Value.int .i32 0, Value.int .i32 0, Value.int .i32 0, Value.int .i32 0, Value.int .i32 0, Value.int .i32 0] 32)).cell? ⟨wr.heap.size, 6, none⟩ = some (Value.int .i32 0) := by rw [World.cell?_alloc_at _ _ _ _ rfl]; rfl
      have y7 : (wr.alloc (.cells #[Value.int .u32 xm, Value.int .i32 65536, Value.int .i32 0, Value.int .i32 0, Value.int .i32 0, Value.int .i32 0, Value.int .i32 0, Value.int .i32 0, Value.int .i32 0, Value.int .i32 0] 32)).cell? ⟨wr.heap.size, 7, none⟩ = some (Value.int .i32 0) := by rw [World.cell?_alloc_at _ _ _ _ rfl]; rfl
      have y8 : (wr.alloc (.cells #[Value.int .u32 xm, Value.int .i32 65536, Value.int .i32 0, Value.int .i32 0, Value.int .i32 0, Value.int .i32 0, Value.int .i32 0, Value.int .i32 0, Value.int .i32 0, Value.int .i32 0] 32)).cell? ⟨wr.heap.size, 8, none⟩ = some (Value.int .i32 0) := by rw [World.cell?_alloc_at _ _ _ _ rfl]; rfl
      have y9 : (wr.alloc (.cells #[Value.int .u32 xm, Value.int .i32 65536, Value.int .i32 0, Value.int .i32 0, Value.int .i32 0, Value.int .i32 0, Value.int .i32 0, Value.int .i32 0, Value.int .i32 0, Value.int .i32 0] 32)).cell? ⟨wr.heap.size, 9, none⟩ = some (Value.int .i32 0) := by rw [World.cell?_alloc_at _ _ _ _ rfl]; rfl
      have KM := Lib.hid (Kep.made wr (.cells #[Value.int .u32 xm, Value.int .i32 65536, Value.int .i32 0, Value.int .i32 0, Value.int .i32 0, Value.int .i32 0, Value.int .i32 0, Value.int .i32 0, Value.int .i32 0, Value.int .i32 0] 32))
      clear HK s1 ft kr hA hlen ml ms hmd hsd hxm hx7 ek ne7 lm lk l7 F7 FM FM0 FK hm1 hm2 hA1 g1 lm1 g2 l72
      go_wp2_with (first
        | ((with_reducible refine (LN2.out _ P8.out.fresh).mono ?_); rintro e w' ⟨rfl, rfl⟩)
        | ((with_reducible refine (LN.out _ P0.out.fresh).mono ?_); rintro e w' ⟨rfl, rfl⟩)
        | ((with_reducible refine (A1.out _ _ P0.out).mono ?_); rintro e w4 ⟨rfl, p4, k4, b4⟩; have P4 := Lib.hid p4; have K4 := Lib.hid k4; replace y0 := b4 _ _ y0; replace y1 := b4 _ _ y1; replace y2 := b4 _ _ y2; replace y3 := b4 _ _ y3; replace y4 := b4 _ _ y4; replace y5 := b4 _ _ y5; replace y6 := b4 _ _ y6; replace y7 := b4 _ _ y7; replace y8 := b4 _ _ y8; replace y9 := b4 _ _ y9; clear p4 k4 b4)
        | ((with_reducible refine (A2.out _ _ P4.out).mono ?_); rintro e w5 ⟨rfl, p5, k5, b5⟩; have P5 := Lib.hid p5; have K5 := Lib.hid k5; replace y0 := b5 _ _ y0; replace y1 := b5 _ _ y1; replace y2 := b5 _ _ y2; replace y3 := b5 _ _ y3; replace y4 := b5 _ _ y4; replace y5 := b5 _ _ y5; replace y6 := b5 _ _ y6; replace y7 := b5 _ _ y7; replace y8 := b5 _ _ y8; replace y9 := b5 _ _ y9; clear p5 k5 b5)
        | ((with_reducible refine (A3.out _ _ P5.out).mono ?_); rintro e w6 ⟨rfl, p6, k6, b6⟩; have P6 := Lib.hid p6; have K6 := Lib.hid k6; replace y0 := b6 _ _ y0; replace y1 := b6 _ _ y1; replace y2 := b6 _ _ y2; replace y3 := b6 _ _ y3; replace y4 := b6 _ _ y4; replace y5 := b6 _ _ y5; replace y6 := b6 _ _ y6; replace y7 := b6 _ _ y7; replace y8 := b6 _ _ y8; replace y9 := b6 _ _ y9; clear p6 k6 b6)
        | ((with_reducible refine (RM.out _ _ P6.out).mono ?_); rintro e w7 ⟨rfl, p7, k7, b7⟩; have P7 := Lib.hid p7; have K7 := Lib.hid k7; replace y0 := b7 _ _ y0; replace y1 := b7 _ _ y1; replace y2 := b7 _ _ y2; replace y3 := b7 _ _ y3; replace y4 := b7 _ _ y4; replace y5 := b7 _ _ y5; replace y6 := b7 _ _ y6; replace y7 := b7 _ _ y7; replace y8 := b7 _ _ y8; replace y9 := b7 _ _ y9; clear p7 k7 b7)
        | ((with_reducible refine (A4.out _ _ P7.out).mono ?_); rintro e w8 ⟨rfl, p8, k8, b8⟩; have P8 := Lib.hid p8; have K8 := Lib.hid k8; replace y0 := b8 _ _ y0; replace y1 := b8 _ _ y1; replace y2 := b8 _ _ y2; replace y3 := b8 _ _ y3; replace y4 := b8 _ _ y4; replace y5 := b8 _ _ y5; replace y6 := b8 _ _ y6; replace y7 := b8 _ _ y7; replace y8 := b8 _ _ y8; replace y9 := b8 _ _ y9; clear p8 k8 b8)
        | ((with_reducible refine (A5.out _ _ P8.out).mono ?_); rintro e w9 ⟨rfl, p9, k9, b9⟩; have P9 := Lib.hid p9; have K9 := Lib.hid k9; replace y0 := b9 _ _ y0; replace y1 := b9 _ _ y1; replace y2 := b9 _ _ y2; replace y3 := b9 _ _ y3; replace y4 := b9 _ _ y4; replace y5 := b9 _ _ y5; replace y6 := b9 _ _ y6; replace y7 := b9 _ _ y7; replace y8 := b9 _ _ y8; replace y9 := b9 _ _ y9; clear p9 k9 b9))
      go_ret
      exact ⟨rfl, K2.out.trans (((((((KR.out.trans (KM.out.mono KR.out.size)).trans K4.out).trans K5.out).trans K6.out).trans K7.out).trans K8.out).trans K9.out |>.mono K2.out.size)⟩
end Go.Proofs.Ytfkieieedljodaa
