import Derived.Test.YtaknmlohnifcdaaGreatDoorJ10MSortKit
import Derived.Test.YtaknmlohnifcdaaGreatDoorMGridSort0
import Derived.Laws.Bits64b
set_option maxHeartbeats 8000000
set_option maxRecDepth 100000
section
namespace Go.Proofs.YtaknmlohnifcdaaGreatDoor
open Go.Shelf Go.RowKit Go.Lib Go.Sort

structure UW (w0 : World) (g o N : Nat) (d : Array Int) (c s : Nat) (W : World) : Prop where
 aw : AW w0 g o N d W
 cnt : W.cell? ⟨c, 0, none⟩ = some (.int .u64 s)
 fz : W.frozen? ⟨c, 0, none⟩ = false
 new : w0.heap.size ≤ c
 gl : g < w0.heap.size
 lt : s < 18446744073709551616
variable {w0 W : World} {g o N : Nat} {d : Array Int} {c s : Nat}
theorem AW.gl (h : AW w0 g o N d W) : g < w0.heap.size := by obtain ⟨d0, R, _⟩ := h.row; exact R.hblk
theorem UW.draws (h : UW w0 g o N d c s W) (n : Nat) : UW w0 g o N d c s (W.drewN n) := ⟨h.aw.draws n, h.cnt, h.fz, h.new, h.gl, h.lt⟩
theorem UW.bump (h : UW w0 g o N d c s W) (t : Nat) (ht : t < 18446744073709551616) : UW w0 g o N d c t (W.setCell ⟨c, 0, none⟩ (.int .u64 t)) :=
 ⟨⟨h.aw.sw.setCell_new c 0 _ h.new, h.aw.sz, h.aw.row⟩, World.cell?_setCell_same' _ _ _ (by rw [h.cnt]; rfl), by rw [World.frozen?_setCell]; exact h.fz, h.new, h.gl, ht⟩
theorem UW.start (h : AW w0 g o N d W) (n : Nat) (hn : n < 18446744073709551616) (T : TypeId) : UW w0 g o N d W.heap.size n (W.alloc (.cells #[.int .u64 n] T)) :=
 ⟨⟨h.sw.alloc _, h.sz, h.row⟩, by simp, by simp, h.sw.le, h.gl, hn⟩
theorem UW.swapD (h : UW w0 g o N d c s W) {G : Nat → Int} (hG : ∀ t, G t = d[t]!) {i j : Nat} (hi : i < N) (hj : j < N) :
 UW w0 g o N (swp d i j) c s ((W.setCell ⟨g, o + i, none⟩ (.int .u32 (G j))).setCell ⟨g, o + j, none⟩ (.int .u32 (G i))).drew := by
 have hne : c ≠ g := fun e => by have := h.new; have := h.gl; omega
 have q := box_kept_swap1 hne h.cnt h.fz (o + i) (o + j) (.int .u32 (G j)) (.int .u32 (G i))
 exact ⟨h.aw.swapD hG hi hj, q.1, q.2, h.new, h.gl, h.lt⟩
theorem unext_any (w : World) (c X : Nat) (hX : X < 18446744073709551616) (hc : w.cell? ⟨c, 0, none⟩ = some (.int .u64 X)) (hf : w.frozen? ⟨c, 0, none⟩ = false) :
 Calls Tryz.prog 204 #[.pointer (some ⟨c, 0, none⟩)] w fun e w' => ∃ Y : Nat, e = .returned (.int .u64 Y) ∧ Y < 18446744073709551616 ∧ w' = (w.setCell ⟨c, 0, none⟩ (.int .u64 Y)).drewN 3 := by
 have h := AnyF.xorshift_Next (P := Tryz.prog) (ρ := sortP_ren) { sortP with } c 0 X hX w hc hf
 exact h.mono fun e w' ⟨h1, h2⟩ => ⟨_, h1, xorNextN_lt X hX, h2⟩
theorem upow_any (n : Nat) (hn : n < 4611686018427387904) (w : World) :
 Calls Tryz.prog 203 #[.int .i64 n] w fun e w' => e = .returned (.int .u64 ((1 <<< bitsLen n : Nat) : Int)) ∧ w' = w :=
 AnyF.nextPowerOfTwo (P := Tryz.prog) (ρ := sortP_ren) { sortP with } n hn w
theorem ubrk_any (w0 : World) (g o N cap a b : Nat) (d : Array Int) (w : World) (h : AW w0 g o N d w) (hab : a + 8 ≤ b) (hb : b ≤ N) (hN : N < 4611686018427387904) :
 Calls Tryz.prog 196 #[.slice (some ⟨g, o, none⟩) N cap, .int .i64 a, .int .i64 b] w fun e w' => e = .returned (.tuple #[]) ∧ ∃ d', PermIn a b d d' ∧ AW w0 g o N d' w' := by
 obtain ⟨n, hn⟩ : ∃ n, n = b - a := ⟨_, rfl⟩
 obtain ⟨q, hq⟩ : ∃ q, q = n / 4 := ⟨_, rfl⟩
 obtain ⟨M, hM⟩ : ∃ M : Nat, M = 1 <<< bitsLen n := ⟨_, rfl⟩
 have hM1 : 1 ≤ M := by rw [hM, Nat.one_shiftLeft]; exact Nat.two_pow_pos _
 have hM2 : M ≤ 2 * n := by rw [hM, Nat.one_shiftLeft]; exact two_pow_bitsLen_le (by omega)
 have CP := Lib.hid (fun W => upow_any n (by omega) W)
 rw [← hM] at CP
 have e1 : (b : Int) - (a : Int) = (n : Int) := by omega
 have e2 : (n : Int).tdiv 4 = (q : Int) := by rw [Int.tdiv_eq_ediv_of_nonneg (by omega)]; omega
 have hq2 : 2 ≤ q ∧ 4 * q ≤ n := by omega
 have e3 : IntKind.u64.wrap (n : Int) = (n : Int) := by rw [IntKind.wrap_u64]; omega
 have HST := Lib.hid (UW.start h n (by omega) 260)
 have hnb : a + n = b := by omega
 clear h hn hq hM
 go_enter Tryz.func196, Tryz.ntmps196
 go_wp2_with (first | ((with_reducible refine (CP.out _).mono ?_); rintro e w1 ⟨rfl, rfl⟩))
 go_loopg [9] 4 (fun k vi wr => ∃ (t R i : Nat) (dk : Array Int), vi = .int .i64 i ∧ a + q * 2 + t = i + 1 ∧ t ≤ 3 ∧ 4 ≤ k + t ∧ Hid (PermIn a b d dk) ∧ Hid (UW w0 g o N dk w.heap.size R wr))
 case atStart => exact ⟨0, n, a + q * 2 - 1, d, by first | (congr 1; omega) | go_num, by omega, by omega, by omega, Lib.hid (permIn_refl _ _ _), HST⟩
 case round =>
  obtain ⟨t, R, i, dk, rfl, hi, ht, hk, HP, HA⟩ := hrel
  clear HST
  by_cases hlt : t < 3
  ·have i1 : (i : Int) ≤ (a : Int) + (q : Int) * 2 + 1 := by omega
   have C := Lib.hid (unext_any _ _ R HA.out.lt HA.out.cnt HA.out.fz)
   go_upto_if 43 with ((with_reducible refine (C.out).mono ?_); rintro e w1 ⟨Y, rfl, hY, hw1⟩; have HB : Hid (UW w0 g o N dk w.heap.size Y w1) := Lib.hid (by rw [hw1]; exact (HA.out.bump Y hY).draws 3); clear hw1; obtain ⟨O, hO⟩ : ∃ O : Nat, O = Y &&& (M - 1) := ⟨_, rfl⟩; have lO : O ≤ M - 1 := (by rw [hO]; exact Nat.and_le_right); have eAnd : bits .and .u64 (Y : Int) ((M : Int) - 1) = (O : Int) := (by rw [show ((M : Int) - 1) = ((M - 1 : Nat) : Int) by omega, bits_and_u64_nat _ _ hY (by omega), hO]); clear hO)
   obtain ⟨G, hG⟩ := AW.name dk
   have hc := HB.out.aw.cell hG
   have hf := HB.out.aw.fz
   have HG := Lib.hid hG
   clear hG eAnd C
   by_cases hLO : n ≤ O
   ·have zz : (O : Int) - (n : Int) = ((O - n : Nat) : Int) := by omega
    have hz : O - n < n := by omega
    by_cases hEq : i = a + (O - n)
    ·have HC := Lib.hid (HB.out.swapD HG.out (i := a + (O - n)) (j := a + (O - n)) (by omega) (by omega))
     have HQ : Hid (PermIn a b d (swp dk (a + (O - n)) (a + (O - n)))) := Lib.hid (permIn_trans _ _ _ _ _ HP.out (swp_permIn dk a b (a + (O - n)) (a + (O - n)) (by omega) (by omega) (by omega) (by omega) (by rw [HA.out.aw.sz]; exact hb)))
     subst hEq
     go_wp2_with fail
     go_region
     all_goals go_wp2
     go_roundg (4 - (t + 1))
     case measure => omega
     case rel => exact ⟨t + 1, Y, a + (O - n) + 1, _, by first | rfl | go_num, by omega, by omega, by omega, HQ, HC⟩
    ·have HC := Lib.hid (HB.out.swapD HG.out (i := i) (j := a + (O - n)) (by omega) (by omega))
     have HQ : Hid (PermIn a b d (swp dk i (a + (O - n)))) := Lib.hid (permIn_trans _ _ _ _ _ HP.out (swp_permIn dk a b i (a + (O - n)) (by omega) (by omega) (by omega) (by omega) (by rw [HA.out.aw.sz]; exact hb)))
     go_wp2_with fail
     go_region
     all_goals go_wp2
     go_roundg (4 - (t + 1))
     case measure => omega
     case rel => exact ⟨t + 1, Y, i + 1, _, by first | rfl | go_num, by omega, by omega, by omega, HQ, HC⟩
   ·skip
    have hz : O < n := by omega
    by_cases hEq : i = a + (O)
    ·have HC := Lib.hid (HB.out.swapD HG.out (i := a + (O)) (j := a + (O)) (by omega) (by omega))
     have HQ : Hid (PermIn a b d (swp dk (a + (O)) (a + (O)))) := Lib.hid (permIn_trans _ _ _ _ _ HP.out (swp_permIn dk a b (a + (O)) (a + (O)) (by omega) (by omega) (by omega) (by omega) (by rw [HA.out.aw.sz]; exact hb)))
     subst hEq
     go_wp2_with fail
     go_region
     all_goals go_wp2
     go_roundg (4 - (t + 1))
     case measure => omega
     case rel => exact ⟨t + 1, Y, a + (O) + 1, _, by first | rfl | go_num, by omega, by omega, by omega, HQ, HC⟩
    ·have HC := Lib.hid (HB.out.swapD HG.out (i := i) (j := a + (O)) (by omega) (by omega))
     have HQ : Hid (PermIn a b d (swp dk i (a + (O)))) := Lib.hid (permIn_trans _ _ _ _ _ HP.out (swp_permIn dk a b i (a + (O)) (by omega) (by omega) (by omega) (by omega) (by rw [HA.out.aw.sz]; exact hb)))
     go_wp2_with fail
     go_region
     all_goals go_wp2
     go_roundg (4 - (t + 1))
     case measure => omega
     case rel => exact ⟨t + 1, Y, i + 1, _, by first | rfl | go_num, by omega, by omega, by omega, HQ, HC⟩
  ·have i1 : ¬ (i : Int) ≤ (a : Int) + (q : Int) * 2 + 1 := by omega
   go_wp2
   go_end0
   exact ⟨rfl, dk, HP.out, HA.out.aw⟩
end Go.Proofs.YtaknmlohnifcdaaGreatDoor
end
section
namespace Go.Proofs.YtaknmlohnifcdaaGreatDoor
open Go.RowKit Go.Lib Go.Sort

def DD (N : Nat) (d : Array Int) : Prop := (d.extract 0 N).toList.Nodup
theorem DD.perm {N a b : Nat} {d d' : Array Int} (h : DD N d) (hp : PermIn a b d d') (hb : b ≤ N) (hN : N ≤ d.size) : DD N d' :=
 (permIn_mono d d' a b 0 N (Nat.zero_le _) hb hN hp).2.2.nodup_iff.2 h
theorem DD.ne {N : Nat} {d : Array Int} (h : DD N d) (hN : N ≤ d.size) {i j : Nat} (hij : i < j) (hj : j < N) : d[i]! ≠ d[j]! := by
 unfold DD at h
 rw [extract_toList d 0 N hN] at h
 have q := List.pairwise_iff_getElem.1 h i j (by simp; omega) (by simp; omega) hij
 simpa using q
theorem DD.lt {N a p : Nat} {d : Array Int} (h : DD N d) (hN : N ≤ d.size) (ha : 0 < a) (hap : a ≤ p) (hp : p < N) (hb : ltInt d[p]! d[a - 1]! = false) : ltInt d[a - 1]! d[p]! = true := by
 have := h.ne hN (i := a - 1) (j := p) (by omega) hp
 unfold ltInt at *
 simp at *
 omega
def Srt (a b : Nat) (d : Array Int) (R : Array Int) : Prop := PermIn a b d R ∧ SortedIn ltInt a b R
structure PQ (w0 : World) (g o N a b : Nat) (d : Array Int) (a' b' : Nat) (e : Array Int) (W : World) : Prop where
 aw : AW w0 g o N e W
 bel : Go.Sort.Below ltInt a' b' e
 dd : DD N e
 red : ∀ R, PermIn a' b' e R → SortedIn ltInt a' b' R → Srt a b d R
theorem PQ.on {w0 : World} {g o N a b : Nat} {d : Array Int} {a' b' : Nat} {e e2 : Array Int} {W W2 : World} (h : PQ w0 g o N a b d a' b' e W) (hp : PermIn a' b' e e2) (hb : b' ≤ N) (k : AW w0 g o N e2 W2) : PQ w0 g o N a b d a' b' e2 W2 :=
 ⟨k, h.bel.perm (by rw [h.aw.sz]; exact hb) hp, h.dd.perm hp hb (Nat.le_of_eq h.aw.sz.symm), fun R hR hs => h.red R (permIn_trans _ _ _ _ _ hp hR) hs⟩
theorem PQ.done {w0 : World} {g o N a b : Nat} {d : Array Int} {a' b' : Nat} {e e2 : Array Int} {W W2 : World} (h : PQ w0 g o N a b d a' b' e W) (hp : PermIn a' b' e e2) (hs : SortedIn ltInt a' b' e2) (k : AW w0 g o N e2 W2) : ∃ R, Srt a b d R ∧ AW w0 g o N R W2 :=
 ⟨e2, h.red _ hp hs, k⟩
structure PP (w0 : World) (g o N a b : Nat) (d : Array Int) (a' b' m : Nat) (e : Array Int) (W : World) : Prop where
 aw : AW w0 g o N e W
 b1 : Go.Sort.Below ltInt a' m e
 b2 : Go.Sort.Below ltInt (m + 1) b' e
 dd : DD N e
 left : ∀ L W2, PermIn a' m e L → SortedIn ltInt a' m L → AW w0 g o N L W2 → PQ w0 g o N a b d (m + 1) b' L W2
 right : ∀ L W2, PermIn (m + 1) b' e L → SortedIn ltInt (m + 1) b' L → AW w0 g o N L W2 → PQ w0 g o N a b d a' m L W2
theorem PQ.part {w0 : World} {g o N a b : Nat} {d : Array Int} {a' b' pv : Nat} {e : Array Int} {W : World} (h : PQ w0 g o N a b d a' b' e W) (h1 : a' ≤ pv) (h2 : pv < b') (hb : b' ≤ N) :
 ∃ m e4, m = (partition ltInt e a' b' pv).1 ∧ e4 = (partition ltInt e a' b' pv).2.2 ∧ a' ≤ m ∧ m < b' ∧ ∀ W2, AW w0 g o N e4 W2 → PP w0 g o N a b d a' b' m e4 W2 := by
 have hbs : b' ≤ e.size := by rw [h.aw.sz]; exact hb
 obtain ⟨q1, q2, q3, q4, q5, q6, q7⟩ := round_part swo_ltInt (partition_holds ltInt) h1 h2 hbs h.bel (Prod.ext rfl (Prod.ext rfl rfl) : partition ltInt e a' b' pv = ((partition ltInt e a' b' pv).1, (partition ltInt e a' b' pv).2.1, (partition ltInt e a' b' pv).2.2))
 have hp := (partition_holds ltInt swo_ltInt e a' b' pv h1 h2 hbs).2.2.1
 refine ⟨_, _, rfl, rfl, q1, q2, fun W2 k => ?_⟩
 generalize (partition ltInt e a' b' pv).2.2 = e4 at *
 generalize (partition ltInt e a' b' pv).1 = m at *
 have d4 := h.dd.perm hp hb (Nat.le_of_eq h.aw.sz.symm)
 have s4 : N ≤ e4.size := Nat.le_of_eq k.sz.symm
 refine ⟨k, q4, q5, d4, fun L W3 hL hs kL => ?_, fun L W3 hL hs kL => ?_⟩
 ·obtain ⟨r1, r2⟩ := q6 L hL hs
  exact ⟨kL, r1, d4.perm hL (by omega) s4, fun R hR hs2 => by have := r2 R hR hs2; exact h.red R this.1 this.2⟩
 ·obtain ⟨r1, r2⟩ := q7 L hL hs
  exact ⟨kL, r1, d4.perm hL hb s4, fun R hR hs2 => by have := r2 R hR hs2; exact h.red R this.1 this.2⟩
theorem int_tdiv8 (n : Nat) : (n : Int).tdiv 8 = ((n / 8 : Nat) : Int) := by rw [Int.tdiv_eq_ediv_of_nonneg (by omega)]; omega
theorem updq_any (w0 : World) (g o N cap : Nat) (hN : N < 4611686018427387904) : ∀ (n a b lim : Nat) (d : Array Int) (w : World), b - a ≤ n → a ≤ b → b ≤ N → lim ≤ 1000 → AW w0 g o N d w → Go.Sort.Below ltInt a b d → DD N d →
 Calls Tryz.prog 174 #[.slice (some ⟨g, o, none⟩) N cap, .int .i64 a, .int .i64 b, .int .i64 lim] w fun e w' => e = .returned (.tuple #[]) ∧ ∃ R, Srt a b d R ∧ AW w0 g o N R w' := by
 intro n
 induction n using Nat.strongRecOn with
 | _ n IH =>
 intro a b lim d w hn hab hb hlim h hB hD
 have HI := Lib.hid (fun (x y l : Nat) (e : Array Int) (W : World) (q : y - x < n) (q1 : x ≤ y) (q2 : y ≤ N) (q3 : l ≤ 1000) (k : AW w0 g o N e W) (kb : Go.Sort.Below ltInt x y e) (kd : DD N e) => IH (y - x) q x y l e W (Nat.le_refl _) q1 q2 q3 k kb kd)
 have C1 := Lib.hid (fun (x y : Nat) (e : Array Int) (W : World) (k : AW w0 g o N e W) (q1 : x ≤ y) (q2 : y ≤ N) => uins_any w0 g o N cap x y e W k q1 q2 hN)
 have C2 := Lib.hid (fun (x y : Nat) (e : Array Int) (W : World) (k : AW w0 g o N e W) (q1 : x ≤ y) (q2 : y ≤ N) => uheap_any w0 g o N cap x y e W k q1 q2 hN)
 have C3 := Lib.hid (fun (x y : Nat) (e : Array Int) (W : World) (k : AW w0 g o N e W) (q1 : x + 8 ≤ y) (q2 : y ≤ N) => ubrk_any w0 g o N cap x y e W k q1 q2 hN)
 have C4 := Lib.hid (fun (x y : Nat) (e : Array Int) (W : World) (k : AW w0 g o N e W) (q1 : x + 8 ≤ y) (q2 : y ≤ N) => upiv_any w0 g o N cap x y e W k q1 q2 hN)
 have C5 := Lib.hid (fun (x y : Nat) (e : Array Int) (W : World) (k : AW w0 g o N e W) (q1 : x ≤ y) (q2 : y ≤ N) => urev_any w0 g o N cap x y e W k q1 q2 hN)
 have C6 := Lib.hid (fun (x y : Nat) (e : Array Int) (W : World) (k : AW w0 g o N e W) (q1 : x < y) (q2 : y ≤ N) => upins_any w0 g o N cap x y e W k q1 q2 hN)
 have C7 := Lib.hid (fun (x y p : Nat) (e : Array Int) (W : World) (k : AW w0 g o N e W) (q0 : x ≤ p) (q1 : p < y) (q2 : y ≤ N) => upart_any w0 g o N cap x y p e W k q0 q1 q2 hN)
 have H0 : Hid (PQ w0 g o N a b d a b d w) := Lib.hid ⟨h, hB, hD, fun R h1 h2 => ⟨h1, h2⟩⟩
 clear h hB hD IH
 go_enter Tryz.func174, Tryz.ntmps174
 go_wp2
 go_loopg [1, 2, 3, 8, 9] (b - a + 1) (fun k v1 v2 v3 v8 v9 wr => ∃ (x y l : Nat) (wb wp : Bool) (e : Array Int), v1 = .int .i64 x ∧ v2 = .int .i64 y ∧ v3 = .int .i64 l ∧ v8 = .bool wb ∧ v9 = .bool wp ∧ x ≤ y ∧ y ≤ N ∧ l ≤ 1000 ∧ y - x + 1 ≤ k ∧ y - x ≤ n ∧ Hid (PQ w0 g o N a b d x y e wr))
 case atStart => exact ⟨a, b, lim, true, true, d, rfl, rfl, rfl, rfl, rfl, hab, hb, hlim, Nat.le_refl _, hn, H0⟩
 case round =>
  obtain ⟨x, y, l, wb, wp, e0, rfl, rfl, rfl, rfl, rfl, hxy, hyN, hl, hk, hn2, HQ⟩ := hrel
  clear H0 hn hab hb hlim lim
  obtain ⟨m, hm⟩ : ∃ m, m = y - x := ⟨_, rfl⟩
  have ezm : (y : Int) - (x : Int) = (m : Int) := by omega
  by_cases h12 : m ≤ 12
  ·have CI := Lib.hid (C1.out x y e0 wr HQ.out.aw hxy hyN)
   go_wp2_with ((with_reducible refine (CI.out).mono ?_); rintro e w1 ⟨rfl, k1⟩)
   (try simp only [Exit.inBlock, Exit.then]); refine bodyPost_ret (results_none rfl _ _ _) rfl ?_
   have q := insertionSort_holds swo_ltInt e0 x y hxy (by rw [HQ.out.aw.sz]; exact hyN)
   exact ⟨rfl, HQ.out.done q.1 q.2 k1⟩
  ·by_cases hl0 : l = 0
   ·subst hl0
    have CI := Lib.hid (C2.out x y e0 wr HQ.out.aw hxy hyN)
    go_wp2_with ((with_reducible refine (CI.out).mono ?_); rintro e w1 ⟨rfl, k1⟩)
    (try simp only [Exit.inBlock, Exit.then]); refine bodyPost_ret (results_none rfl _ _ _) rfl ?_
    have q := heapSort_holds swo_ltInt e0 x y hxy (by rw [HQ.out.aw.sz]; exact hyN)
    exact ⟨rfl, HQ.out.done q.1 q.2 k1⟩
   ·have hlz : ((l : Int) == 0) = false := by simp; omega
    have hlz2 : ¬ (l : Int) = 0 := by omega
    go_upto_if 35 with fail
    go_cut [3] (fun v3 wx => ∃ (l : Nat) (e1 : Array Int), v3 = .int .i64 l ∧ l ≤ 1000 ∧ Hid (PQ w0 g o N a b d x y e1 wx))
    case first =>
     cases wb with
     | false =>
       have CI := Lib.hid (C3.out x y e0 wr HQ.out.aw (by omega) hyN)
       go_wp2_with ((with_reducible refine (CI.out).mono ?_); rintro e w1 ⟨rfl, e1, p1, k1⟩)
       go_meet
       case rel => exact ⟨l - 1, e1, by first | rfl | go_num | (congr 1; omega), by omega, Lib.hid (HQ.out.on p1 hyN k1)⟩
     | true =>
       go_wp2
       go_meet
       case rel => exact ⟨l, e0, rfl, hl, HQ⟩
    case rest =>
     clear HQ hlz hlz2 hl0 hl
     clear l e0
     obtain ⟨l, e0, rfl, hl, HQ⟩ := hcut
     have CI := Lib.hid (C4.out x y e0 wc HQ.out.aw (by omega) hyN)
     go_upto_if 50 with ((with_reducible refine (CI.out).mono ?_); rintro e w1 ⟨p, v, rfl, hp1, hp2, hv, k1⟩)
     have HQ1 := Lib.hid (HQ.out.on (permIn_refl _ _ _) hyN k1)
     clear HQ CI k1
     go_cut [11, 12] (fun v11 v12 wx => ∃ (p v : Nat) (e1 : Array Int), v11 = .int .i64 p ∧ v12 = .int .i64 v ∧ x ≤ p ∧ p < y ∧ v ≤ 2 ∧ Hid (PQ w0 g o N a b d x y e1 wx))
     case first =>
      by_cases hv2 : v = 2
      ·subst hv2
       have CI := Lib.hid (C5.out x y e0 w1 HQ1.out.aw hxy hyN)
       go_wp2_with ((with_reducible refine (CI.out).mono ?_); rintro e w2 ⟨rfl, e1, p1, k1⟩)
       go_meet
       case rel => exact ⟨(y - 1) - (p - x), 1, e1, by first | rfl | go_num | (congr 1; omega), rfl, by omega, by omega, by omega, Lib.hid (HQ1.out.on p1 hyN k1)⟩
      ·have hvz : ((v : Int) == 2) = false := by simp; omega
       have hvz2 : ¬ (v : Int) = 2 := by omega
       go_wp2
       go_meet
       case rel => exact ⟨p, v, e0, rfl, rfl, hp1, hp2, hv, HQ1⟩
     case rest =>
      clear HQ1 hp1 hp2 hv
      clear p v e0 w1
      obtain ⟨p, v, e0, rfl, rfl, hp1, hp2, hv, HQ⟩ := hcut
      go_upto_region 15 with fail
      go_cut [68] (fun v68 wx => ∃ z : Bool, v68 = .bool z ∧ Hid (PQ w0 g o N a b d x y e0 wx))
      case first =>
       cases wb
       ·go_wp2_with fail
        go_meet
        case rel => exact ⟨_, rfl, HQ⟩
       ·cases wp
        ·go_wp2_with fail
         go_meet
         case rel => exact ⟨_, rfl, HQ⟩
        ·go_wp2_with fail
         go_meet
         case rel => exact ⟨_, rfl, HQ⟩
      case rest =>
       clear HQ
       obtain ⟨z, rfl, HQ⟩ := hcut
       go_upto_if 68 with fail
       go_cut [] (fun wx => ∃ e1, Hid (PQ w0 g o N a b d x y e1 wx))
       case first =>
        cases z with
        | true =>
          have CI := C6.out x y e0 wc HQ.out.aw (by omega) hyN
          have q := partialInsertionSort_holds swo_ltInt e0 x y (by omega) (by rw [HQ.out.aw.sz]; exact hyN) HQ.out.bel
          generalize partialInsertionSort ltInt e0 x y = P at CI q
          have HP := Lib.hid q
          clear q
          obtain ⟨e1, z⟩ := P
          dsimp only at CI HP
          have CT := Lib.hid CI
          clear CI
          cases z with
          | true =>
            go_wp2_with ((with_reducible refine (CT.out).mono ?_); rintro e w2 ⟨rfl, k1⟩)
            (try simp only [Exit.inBlock, Exit.then]); refine bodyPost_ret (results_none rfl _ _ _) rfl ?_
            exact ⟨rfl, HQ.out.done HP.out.1 (HP.out.2 (by trivial)) k1⟩
          | false =>
            go_wp2_with ((with_reducible refine (CT.out).mono ?_); rintro e w2 ⟨rfl, k1⟩)
            go_meet
            case rel => exact ⟨e1, Lib.hid (HQ.out.on HP.out.1 hyN k1)⟩
        | false =>
          go_wp2
          go_meet
          case rel => exact ⟨e0, HQ⟩
       case rest =>
        clear HQ
        clear e0
        obtain ⟨e0, HQ⟩ := hcut
        go_upto_region 17 with fail
        go_cut [87] (fun v87 wx => v87 = .bool false ∧ Hid (PQ w0 g o N a b d x y e0 wx))
        case first =>
         obtain ⟨G, hG⟩ := AW.name e0
         have hc := HQ.out.aw.cell hG
         have hf := HQ.out.aw.fz
         have HG := Lib.hid hG
         clear hG
         by_cases hx0 : 0 < x
         ·have hlt : ltInt (G (x - 1)) (G p) = true := by
           rw [HG.out, HG.out]
           refine HQ.out.dd.lt (Nat.le_of_eq HQ.out.aw.sz.symm) hx0 hp1 (by omega) ?_
           rcases HQ.out.bel with q | q
           ·omega
           ·exact q p hp1 hp2
          go_wp2_with fail
          go_quiet (first | (go_at_call 169; refine Calls.quiet_of_same (uless_any _ _ _)))
          go_wp2_with fail
          go_meet
          case rel => exact ⟨by first | rfl | simp [hlt], Lib.hid (HQ.out.on (permIn_refl _ _ _) hyN (HQ.out.aw.draws nq))⟩
         ·obtain rfl : x = 0 := by omega
          go_wp2_with fail
          go_quiet (first | (go_at_call 169; refine Calls.quiet_of_same (uless_any _ _ _)))
          go_wp2_with fail
          go_meet
          case rel => exact ⟨by first | rfl | simp, Lib.hid (HQ.out.on (permIn_refl _ _ _) hyN (HQ.out.aw.draws nq))⟩
        case rest =>
         clear HQ
         obtain ⟨rfl, HQ⟩ := hcut
         obtain ⟨m1, e4, hm1, he4, hm2, hm3, HPP⟩ := HQ.out.part hp1 hp2 hyN
         have CI := C7.out x y p e0 wc HQ.out.aw hp1 hp2 hyN
         rw [← hm1, ← he4] at CI
         have CT := Lib.hid CI
         have HP := Lib.hid HPP
         clear CI hm1 he4 HPP HQ
         clear e0
         go_upto_if 113 with ((with_reducible refine (CT.out).mono ?_); rintro e w2 ⟨⟨z, rfl⟩, k1⟩)
         have HM := Lib.hid (HP.out w2 k1)
         clear HP CT k1
         have t1 : (m : Int).tdiv 8 = ((m / 8 : Nat) : Int) := int_tdiv8 m
         obtain ⟨ll, hll⟩ : ∃ ll : Nat, ll = m1 - x := ⟨_, rfl⟩
         obtain ⟨rl, hrl⟩ : ∃ rl : Nat, rl = y - m1 := ⟨_, rfl⟩
         have u1 : (m1 : Int) - (x : Int) = (ll : Int) := by omega
         have u2 : (y : Int) - (m1 : Int) = (rl : Int) := by omega
         by_cases hlr : ll < rl
         ·have CI := Lib.hid (HI.out x m1 l e4 w2 (by omega) hm2 (by omega) hl HM.out.aw HM.out.b1 HM.out.dd)
          go_wp2_with ((with_reducible refine (CI.out).mono ?_); rintro e w3 ⟨rfl, R, ⟨r1, r2⟩, k2⟩)
          go_roundg (y - (m1 + 1) + 1)
          case measure => omega
          case rel => exact ⟨m1 + 1, y, l, _, z, R, by first | rfl | go_num, rfl, rfl, rfl, rfl, by omega, hyN, hl, by omega, by omega, Lib.hid (HM.out.left R w3 r1 r2 k2)⟩
         ·have CI := HI.out (m1 + 1) y l e4 w2 (by omega) (by omega) hyN hl HM.out.aw HM.out.b2 HM.out.dd
          rw [show ((m1 + 1 : Nat) : Int) = (m1 : Int) + 1 by omega] at CI
          have CT := Lib.hid CI
          clear CI
          go_wp2_with ((with_reducible refine (CT.out).mono ?_); rintro e w3 ⟨rfl, R, ⟨r1, r2⟩, k2⟩)
          go_roundg (m1 - x + 1)
          case measure => omega
          case rel => exact ⟨x, m1, l, _, z, R, rfl, rfl, rfl, rfl, rfl, by omega, by omega, hl, by omega, by omega, Lib.hid (HM.out.right R w3 r1 r2 k2)⟩
end Go.Proofs.YtaknmlohnifcdaaGreatDoor
end
section
namespace Go.Proofs.YtaknmlohnifcdaaGreatDoor
open Go.Shelf Go.RowKit Go.Lib Go.Sort

theorem usort_any (g o cap : Nat) (d : Array Int) (w : World) (hh : Holds ku w g o d) (hg : g < w.heap.size) (hN : d.size < 4611686018427387904) (hd : d.toList.Nodup) :
 Calls Tryz.prog 143 #[.slice (some ⟨g, o, none⟩) d.size cap] w fun e w' => e = .returned (.tuple #[]) ∧ ∃ R, Srt 0 d.size d R ∧ AW w g o d.size R w' := by
 have hA : AW w g o d.size d w := ⟨SW.start hh, rfl, d, ⟨fun _ => rfl, hh, hg⟩, rfl⟩
 have hD : DD d.size d := by unfold DD; rw [Array.extract_eq_self_of_le (Nat.le_refl _)]; exact hd
 have hb : bitsLen d.size ≤ 62 := (bitsLen_le_iff d.size 62).2 (by omega)
 have C : Hid (Calls Tryz.prog 174 #[.slice (some ⟨g, o, none⟩) d.size cap, .int .i64 0, .int .i64 d.size, .int .i64 (bitsLen d.size : Nat)] w fun e w' => e = .returned (.tuple #[]) ∧ ∃ R, Srt 0 d.size d R ∧ AW w g o d.size R w') := Lib.hid (updq_any w g o d.size cap hN d.size 0 d.size (bitsLen d.size) d w (by omega) (Nat.zero_le _) (Nat.le_refl _) (by omega) hA (.inl rfl) hD)
 obtain ⟨l, hl⟩ : ∃ l, l = bitsLen d.size := ⟨_, rfl⟩
 rw [← hl] at C hb
 have e3 : IntKind.u64.wrap (d.size : Int) = (d.size : Int) := by rw [IntKind.wrap_u64]; omega
 have CL : Hid (∀ W, Calls Tryz.prog 146 #[.int .u64 (d.size : Int)] W fun e w' => e = .returned (.int .i64 l) ∧ w' = W) := Lib.hid fun W => by
  have h := Any.bits_Len (SlLaysF0.n15.bits (P := Tryz.prog) (ρ := sortP_ren) { sortP with }) (d.size : Int) W (by omega) (by omega)
  rw [Int.toNat_natCast, bitLen_eq _ (by omega), ← hl] at h
  exact h
 generalize d.size = N at *
 clear hh hA hD hl
 go_enter Tryz.func143, Tryz.ntmps143
 go_wp2_with (first | ((with_reducible refine (CL.out _).mono ?_); rintro e w1 ⟨rfl, rfl⟩) | ((with_reducible refine (C.out).mono ?_); rintro e w1 ⟨rfl, k1⟩))
 go_end0
 exact ⟨rfl, k1⟩
end Go.Proofs.YtaknmlohnifcdaaGreatDoor
end
