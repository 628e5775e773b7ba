import Derived.Test.YtaknmlohnifcdaaGreatDoorProg
import Derived.Shelf.SlSortCmp.Kit1
import Derived.Sort.LotA
import Derived.Sort.LotB
import Derived.Sort.LotC
import Derived.Sort.LotD3
import Derived.WalkKit
import Derived.BigGuard
import Derived.BigCall
import Derived.CellFam
import Derived.BigQuiet
import Derived.Deep.LoopGhost
import Derived.Deep.DeepCutAuto
import Derived.Deep.CutBlock
import Derived.Lib.Hide
set_option maxHeartbeats 4000000
set_option maxRecDepth 100000
section
namespace Go.Proofs.YtaknmlohnifcdaaGreatDoor
open Go.RowKit Go.Lib Go.Sort

abbrev ku : Int → Value := Value.int .u32
structure AW (w0 : World) (g o N : Nat) (d : Array Int) (W : World) : Prop where
 sw : SW ku w0 g o d W
 sz : d.size = N
 row : ∃ d0, Row1 ku w0 g o d0 ∧ d0.size = N
variable {w0 W : World} {g o N : Nat} {d : Array Int}
theorem AW.holds (h : AW w0 g o N d W) : Holds ku W g o d := by
 obtain ⟨d0, R, e⟩ := h.row
 exact h.sw.holds R.hblk R.hH (h.sz.trans e.symm)
theorem AW.cell (h : AW w0 g o N d W) {G : Nat → Int} (hG : ∀ t, G t = d[t]!) : ∀ t, t < N → W.cell? ⟨g, o + t, none⟩ = some (.int .u32 (G t)) := fun t ht => by
 rw [hG]; exact (h.holds t (by rw [h.sz]; exact ht)).1
theorem AW.fz (h : AW w0 g o N d W) : ∀ t, t < N → W.frozen? ⟨g, o + t, none⟩ = false := fun t ht => (h.holds t (by rw [h.sz]; exact ht)).2
theorem AW.draws (h : AW w0 g o N d W) (n : Nat) : AW w0 g o N d (W.drewN n) := ⟨h.sw.drewN n, h.sz, h.row⟩
theorem AW.swap (h : AW w0 g o N d W) {G : Nat → Int} (hG : ∀ t, G t = d[t]!) {i j : Nat} (hi : i < N) (hj : j < N) :
 AW w0 g o N (swp d i j) ((W.setCell ⟨g, o + i, none⟩ (.int .u32 (G j))).setCell ⟨g, o + j, none⟩ (.int .u32 (G i))) := by
 obtain ⟨d0, R, e⟩ := h.row
 rw [hG, hG]
 exact ⟨h.sw.swap R.hblk i j (by rw [h.sz]; exact hi) (by rw [h.sz]; exact hj), by rw [size_swp]; exact h.sz, h.row⟩
theorem AW.swapD (h : AW w0 g o N d W) {G : Nat → Int} (hG : ∀ t, G t = d[t]!) {i j : Nat} (hi : i < N) (hj : j < N) :
 AW w0 g o N (swp d i j) ((W.setCell ⟨g, o + i, none⟩ (.int .u32 (G j))).setCell ⟨g, o + j, none⟩ (.int .u32 (G i))).drew := (h.swap hG hi hj).draws 1
theorem AW.name (d : Array Int) : ∃ G : Nat → Int, ∀ t, G t = d[t]! := ⟨fun t => d[t]!, fun _ => rfl⟩

theorem uless_any (x y : Int) (w : World) : Calls Tryz.prog 169 #[.int .u32 x, .int .u32 y] w fun e w' => e = .returned (.bool (ltInt x y)) ∧ w' = w := by
 unfold ltInt
 by_cases c : x < y
 ·rw [decide_eq_true c]
  go_enter Tryz.func169, Tryz.ntmps169
  go_wp2
  go_ret
  exact ⟨rfl, rfl⟩
 ·rw [decide_eq_false c]
  go_enter Tryz.func169, Tryz.ntmps169
  go_wp2
  go_ret
  exact ⟨rfl, rfl⟩
end Go.Proofs.YtaknmlohnifcdaaGreatDoor
end
section
namespace Go.Proofs.YtaknmlohnifcdaaGreatDoor
open Go.RowKit Go.Lib Go.Sort

theorem insInner_on (a j : Nat) (d : Array Int) (hj : a < j) (hl : ltInt d[j]! d[j - 1]! = true) : insInner ltInt a j d = insInner ltInt a (j - 1) (swp d j (j - 1)) := by
 obtain ⟨k, rfl⟩ : ∃ k, j = k + 1 := ⟨j - 1, by omega⟩
 rw [insInner]
 simp only [Nat.add_sub_cancel] at hl ⊢
 rw [if_pos (by simp [hl]; omega)]
theorem insInner_off (a j : Nat) (d : Array Int) (h : j ≤ a ∨ ltInt d[j]! d[j - 1]! = false) : insInner ltInt a j d = d := by
 cases j with
 | zero => rfl
 | succ k =>
   rw [insInner]
   simp only [Nat.add_sub_cancel] at h
   rw [if_neg]
   rcases h with h | h
   ·simp; omega
   ·simp [h]
theorem uins_any (w0 : World) (g o N cap a b : Nat) (d : Array Int) (w : World) (h : AW w0 g o N d w) (hab : a ≤ b) (hb : b ≤ N) (hN : N < 4611686018427387904) :
 Calls Tryz.prog 194 #[.slice (some ⟨g, o, none⟩) N cap, .int .i64 a, .int .i64 b] w fun e w' => e = .returned (.tuple #[]) ∧ AW w0 g o N (insertionSort ltInt d a b) w' := by
 have H0 := Lib.hid h
 clear h
 go_enter Tryz.func194, Tryz.ntmps194
 go_wp2
 go_loopg [6] (b + 1) (fun k vi wr => ∃ (i : Nat) (dk : Array Int), vi = .int .i64 i ∧ a < i ∧ i ≤ b + 1 ∧ b + 1 - i ≤ k ∧ Hid (AW w0 g o N dk wr) ∧ Hid (insOuter ltInt a b i dk = insOuter ltInt a b (a + 1) d))
 case atStart => exact ⟨a + 1, d, by go_num, by omega, by omega, by omega, H0, rfl⟩
 case round =>
  obtain ⟨i, dk, rfl, hai, hib, hk, HA, HO⟩ := hrel
  clear H0
  by_cases hlt : i < b
  ·go_wp2
   go_loopg [7] (i + 1) (fun k2 vj wr2 => ∃ (j : Nat) (dj : Array Int), vj = .int .i64 j ∧ a ≤ j ∧ j ≤ i ∧ j + 1 ≤ k2 ∧ Hid (AW w0 g o N dj wr2) ∧ Hid (insInner ltInt a j dj = insInner ltInt a i dk))
   case atStart => exact ⟨i, dk, rfl, by omega, Nat.le_refl _, by omega, HA, rfl⟩
   case round =>
    obtain ⟨j, dj, rfl, haj, hji, hk2, HB, HI⟩ := hrel
    have OUT : Hid ((j ≤ a ∨ ltInt dj[j]! dj[j - 1]! = false) → insOuter ltInt a b (i + 1) dj = insOuter ltInt a b (a + 1) d) := Lib.hid fun q => by
     have e : insOuter ltInt a b i dk = insOuter ltInt a b (i + 1) (insInner ltInt a i dk) := by rw [insOuter, if_pos hlt]
     rw [← HO.out, e, ← HI.out, insInner_off _ _ _ q]
    clear HA HO
    obtain ⟨G, hG⟩ := AW.name dj
    have hc := HB.out.cell hG
    have hf := HB.out.fz
    have HG := Lib.hid hG
    clear hG
    by_cases hja : a < j
    ·go_wp2_with fail
     go_quiet (first | (go_at_call 169; refine Calls.quiet_of_same (uless_any _ _ _)))
     cases hl : ltInt (G j) (G (j - 1)) with
     | true =>
       go_wp2
       go_region
       all_goals go_wp2
       go_roundg j
       case measure => omega
       case rel =>
        refine ⟨j - 1, swp dj j (j - 1), by first | rfl | go_num, by omega, by omega, by omega, ?_, ?_⟩
        ·exact Lib.hid ((HB.out.draws (nq + 1)).swap HG.out (by omega) (by omega))
        ·exact Lib.hid (by rw [← HI.out, insInner_on a j dj hja (by rw [← HG.out, ← HG.out]; exact hl)])
     | false =>
       go_wp2
       go_roundg (b - i)
       case measure => omega
       case rel => exact ⟨i + 1, dj, by first | rfl | go_num, by omega, by omega, by omega, Lib.hid (HB.out.draws nq), Lib.hid (OUT.out (.inr (by rw [← HG.out, ← HG.out]; exact hl)))⟩
    ·go_wp2_with fail
     go_quiet (first | (go_at_call 169; refine Calls.quiet_of_same (uless_any _ _ _)))
     go_wp2
     go_roundg (b - i)
     case measure => omega
     case rel => exact ⟨i + 1, dj, by first | rfl | go_num, by omega, by omega, by omega, Lib.hid (HB.out.draws nq), Lib.hid (OUT.out (.inl (by omega)))⟩
  ·go_wp2
   go_end0
   refine ⟨rfl, ?_⟩
   have e : insOuter ltInt a b i dk = dk := by rw [insOuter, if_neg hlt]
   unfold insertionSort
   rw [← HO.out, e]
   exact HA.out
end Go.Proofs.YtaknmlohnifcdaaGreatDoor
end
section
namespace Go.Proofs.YtaknmlohnifcdaaGreatDoor
open Go.RowKit Go.Lib Go.Sort

theorem sift_end (hi f r : Nat) (d : Array Int) (h : hi ≤ 2 * r + 1) : siftDown ltInt hi f r d = d := by
 rw [siftDown, dif_pos h]
theorem sift_round (hi f r c : Nat) (d : Array Int) (h : 2 * r + 1 < hi) (hc : c = (if 2 * r + 1 + 1 < hi ∧ ltInt d[f + (2 * r + 1)]! d[f + (2 * r + 1) + 1]! = true then 2 * r + 2 else 2 * r + 1)) :
 siftDown ltInt hi f r d = if ltInt d[f + r]! d[f + c]! = true then siftDown ltInt hi f c (swp d (f + r) (f + c)) else d := by
 rw [siftDown, dif_neg (by omega)]
 by_cases q : 2 * r + 1 + 1 < hi ∧ ltInt d[f + (2 * r + 1)]! d[f + (2 * r + 1) + 1]! = true
 ·rw [if_pos q] at hc
  subst hc
  rw [if_pos (by simp [q.1, q.2])]
  cases hl : ltInt d[f + r]! d[f + (2 * r + 2)]! with
  | true => simp; intro; omega
  | false => simp
 ·rw [if_neg q] at hc
  subst hc
  rw [if_neg (by simpa using q)]
  cases hl : ltInt d[f + r]! d[f + (2 * r + 1)]! with
  | true => simp
  | false => simp
theorem usift_any (w0 : World) (g o N cap lo hi f : Nat) (d : Array Int) (w : World) (h : AW w0 g o N d w) (hf0 : f + hi ≤ N) (hN : N < 4611686018427387904) (hlo : lo ≤ N) :
 Calls Tryz.prog 209 #[.slice (some ⟨g, o, none⟩) N cap, .int .i64 lo, .int .i64 hi, .int .i64 f] w fun e w' => e = .returned (.tuple #[]) ∧ AW w0 g o N (siftDown ltInt hi f lo d) w' := by
 have H0 := Lib.hid h
 clear h
 go_enter Tryz.func209, Tryz.ntmps209
 go_wp2
 go_loopg [8] (hi + 1) (fun k vr wr => ∃ (r : Nat) (dk : Array Int), vr = .int .i64 r ∧ r ≤ N ∧ hi + 1 ≤ k + r ∧ Hid (AW w0 g o N dk wr) ∧ Hid (siftDown ltInt hi f r dk = siftDown ltInt hi f lo d))
 case atStart => exact ⟨lo, d, rfl, hlo, by omega, H0, rfl⟩
 case round =>
  obtain ⟨r, dk, rfl, hr, hk, HA, HO⟩ := hrel
  clear H0
  obtain ⟨G, hG⟩ := AW.name dk
  have hc := HA.out.cell hG
  have hf := HA.out.fz
  have HG := Lib.hid hG
  clear hG
  by_cases hlt : 2 * r + 1 < hi
  ·have z1 : IntKind.i64.wrap (2 * (r : Int) + 1) = 2 * (r : Int) + 1 := by rw [IntKind.wrap_i64]; omega
   have z2 : IntKind.i64.wrap (2 * (r : Int) + 1 + 1) = 2 * (r : Int) + 1 + 1 := by rw [IntKind.wrap_i64]; omega
   by_cases hl2 : 2 * r + 1 + 1 < hi
   ·have q1 : decide (2 * (r : Int) + 1 + 1 < (hi : Int)) = true := decide_eq_true (by omega)
    go_wp2_with fail
    go_quiet (first | (go_at_call 169; refine Calls.quiet_of_same (uless_any _ _ _)))
    cases hl : ltInt (G (f + (2 * r + 1))) (G (f + (2 * r + 1) + 1)) with
    | true =>
      have HB := Lib.hid (HA.out.draws nq)
      clear hc hf HA
      generalize wr.drewN nq = wq at HB ⊢
      have hc := HB.out.cell HG.out
      have hf := HB.out.fz
      have HS := Lib.hid (sift_round hi f r (2 * r + 2) dk hlt (by rw [if_pos ⟨hl2, by rw [← HG.out, ← HG.out]; exact hl⟩]))
      go_upto_region 5 with fail
      go_quiet (first | (go_at_call 169; refine Calls.quiet_of_same (uless_any _ _ _)))
      cases hm : ltInt (G (f + r)) (G (f + (2 * r + 2))) with
      | true =>
        go_wp2
        go_region
        all_goals go_wp2
        go_roundg (hi - r)
        case measure => omega
        case rel =>
         refine ⟨2 * r + 2, swp dk (f + r) (f + (2 * r + 2)), by first | rfl | go_num, by omega, by omega, Lib.hid ((HB.out.draws (nq + 1)).swap HG.out (by omega) (by omega)), Lib.hid ?_⟩
         rw [← HO.out, HS.out, if_pos (by rw [← HG.out, ← HG.out]; exact hm)]
      | false =>
        go_wp2
        (try simp only [Exit.inBlock, Exit.then]); refine bodyPost_ret (results_none rfl _ _ _) rfl ?_
        refine ⟨rfl, ?_⟩
        rw [← HO.out, HS.out, if_neg (by rw [← HG.out, ← HG.out]; simp [hm])]
        exact HB.out.draws nq
    | false =>
      have HB := Lib.hid (HA.out.draws nq)
      clear hc hf HA
      generalize wr.drewN nq = wq at HB ⊢
      have hc := HB.out.cell HG.out
      have hf := HB.out.fz
      have HS := Lib.hid (sift_round hi f r (2 * r + 1) dk hlt (by rw [if_neg (fun q => by have q2 := q.2; rw [← HG.out, ← HG.out, hl] at q2; cases q2)]))
      go_upto_region 5 with fail
      go_quiet (first | (go_at_call 169; refine Calls.quiet_of_same (uless_any _ _ _)))
      cases hm : ltInt (G (f + r)) (G (f + (2 * r + 1))) with
      | true =>
        go_wp2
        go_region
        all_goals go_wp2
        go_roundg (hi - r)
        case measure => omega
        case rel =>
         refine ⟨2 * r + 1, swp dk (f + r) (f + (2 * r + 1)), by first | rfl | go_num, by omega, by omega, Lib.hid ((HB.out.draws (nq + 1)).swap HG.out (by omega) (by omega)), Lib.hid ?_⟩
         rw [← HO.out, HS.out, if_pos (by rw [← HG.out, ← HG.out]; exact hm)]
      | false =>
        go_wp2
        (try simp only [Exit.inBlock, Exit.then]); refine bodyPost_ret (results_none rfl _ _ _) rfl ?_
        refine ⟨rfl, ?_⟩
        rw [← HO.out, HS.out, if_neg (by rw [← HG.out, ← HG.out]; simp [hm])]
        exact HB.out.draws nq
   ·have q1 : decide (2 * (r : Int) + 1 + 1 < (hi : Int)) = false := decide_eq_false (by omega)
    go_wp2_with fail
    go_quiet (first | (go_at_call 169; refine Calls.quiet_of_same (uless_any _ _ _)))
    have HB := Lib.hid (HA.out.draws nq)
    clear hc hf HA
    generalize wr.drewN nq = wq at HB ⊢
    have hc := HB.out.cell HG.out
    have hf := HB.out.fz
    have HS := Lib.hid (sift_round hi f r (2 * r + 1) dk hlt (by rw [if_neg (fun q => hl2 q.1)]))
    go_upto_region 5 with fail
    go_quiet (first | (go_at_call 169; refine Calls.quiet_of_same (uless_any _ _ _)))
    cases hm : ltInt (G (f + r)) (G (f + (2 * r + 1))) with
    | true =>
      go_wp2
      go_region
      all_goals go_wp2
      go_roundg (hi - r)
      case measure => omega
      case rel =>
       refine ⟨2 * r + 1, swp dk (f + r) (f + (2 * r + 1)), by first | rfl | go_num, by omega, by omega, Lib.hid ((HB.out.draws (nq + 1)).swap HG.out (by omega) (by omega)), Lib.hid ?_⟩
       rw [← HO.out, HS.out, if_pos (by rw [← HG.out, ← HG.out]; exact hm)]
    | false =>
      go_wp2
      (try simp only [Exit.inBlock, Exit.then]); refine bodyPost_ret (results_none rfl _ _ _) rfl ?_
      refine ⟨rfl, ?_⟩
      rw [← HO.out, HS.out, if_neg (by rw [← HG.out, ← HG.out]; simp [hm])]
      exact HB.out.draws nq
  ·go_wp2
   go_end0
   refine ⟨rfl, ?_⟩
   rw [← HO.out, sift_end _ _ _ _ (by omega)]
   exact HA.out
theorem usift_0 (w0 : World) (g o N cap hi f : Nat) (d : Array Int) (w : World) (h : AW w0 g o N d w) (hf0 : f + hi ≤ N) (hN : N < 4611686018427387904) :
 Calls Tryz.prog 209 #[.slice (some ⟨g, o, none⟩) N cap, .int .i64 0, .int .i64 hi, .int .i64 f] w fun e w' => e = .returned (.tuple #[]) ∧ AW w0 g o N (siftDown ltInt hi f 0 d) w' :=
 usift_any w0 g o N cap 0 hi f d w h hf0 hN (Nat.zero_le _)
theorem usift_00 (w0 : World) (g o N cap f : Nat) (d : Array Int) (w : World) (h : AW w0 g o N d w) (hf0 : f ≤ N) (hN : N < 4611686018427387904) :
 Calls Tryz.prog 209 #[.slice (some ⟨g, o, none⟩) N cap, .int .i64 0, .int .i64 0, .int .i64 f] w fun e w' => e = .returned (.tuple #[]) ∧ AW w0 g o N (siftDown ltInt 0 f 0 d) w' :=
 usift_any w0 g o N cap 0 0 f d w h hf0 hN (Nat.zero_le _)
theorem half_of {a b : Nat} (hab : a ≤ b) : ((b : Int) - (a : Int) - 1).tdiv 2 = (((b - a - 1) / 2 + 1 : Nat) : Int) - 1 := by
 by_cases h : a = b
 ·subst h
  have : ((a : Int) - (a : Int) - 1) = -1 := by omega
  rw [this]
  simp
 ·rw [Int.tdiv_eq_ediv_of_nonneg (by omega)]
  omega
theorem uheap_any (w0 : World) (g o N cap a b : Nat) (d : Array Int) (w : World) (h : AW w0 g o N d w) (hab : a ≤ b) (hb : b ≤ N) (hN : N < 4611686018427387904) :
 Calls Tryz.prog 195 #[.slice (some ⟨g, o, none⟩) N cap, .int .i64 a, .int .i64 b] w fun e w' => e = .returned (.tuple #[]) ∧ AW w0 g o N (heapSort ltInt d a b) w' := by
 have H0 := Lib.hid h
 have CS := Lib.hid (fun (dk : Array Int) (lo hi : Nat) (W : World) (hW : AW w0 g o N dk W) (hh : a + hi ≤ N) (hl : lo ≤ N) => usift_any w0 g o N cap lo hi a dk W hW hh hN hl)
 clear h
 obtain ⟨n, hn⟩ : ∃ n, n = b - a := ⟨_, rfl⟩
 have e1 : (b : Int) - (a : Int) = (n : Int) := by omega
 have hh : ((b : Int) - (a : Int) - 1).tdiv 2 = (((b - a - 1) / 2 + 1 : Nat) : Int) - 1 := half_of hab
 obtain ⟨m, hm⟩ : ∃ m, m = (n - 1) / 2 + 1 := ⟨_, rfl⟩
 rw [← hn, ← hm, e1] at hh
 have hm2 : m ≤ n + 1 := by omega
 have HM : Hid (heapSort ltInt d a b = heapPop ltInt a n (heapBuild ltInt n a m d)) := Lib.hid (by unfold heapSort; rw [← hn, ← hm])
 have HN := Lib.hid hn
 have hnN : a + n ≤ N := by omega
 clear hn hm
 go_enter Tryz.func195, Tryz.ntmps195
 go_wp2
 go_loopg [9] m (fun k vi wr => ∃ dk : Array Int, vi = .int .i64 ((k : Int) - 1) ∧ k ≤ m ∧ Hid (AW w0 g o N dk wr) ∧ Hid (heapBuild ltInt n a k dk = heapBuild ltInt n a m d))
 case atStart => exact ⟨d, rfl, Nat.le_refl _, H0, rfl⟩
 case round =>
  obtain ⟨dk, rfl, hk, HA, HO⟩ := hrel
  clear H0
  cases gk with
  | succ k =>
    have C := Lib.hid (CS.out dk k n wr HA.out (by omega) (by omega))
    go_wp2_with ((with_reducible refine (C.out).mono ?_); rintro e w1 ⟨rfl, k1⟩)
    go_roundg k
    case measure => omega
    case rel => exact ⟨_, by first | rfl | go_num, by omega, Lib.hid k1, HO⟩
  | zero =>
    go_wp2
    go_loopg [10] n (fun k vi w2 => ∃ dj : Array Int, vi = .int .i64 ((k : Int) - 1) ∧ k ≤ n ∧ Hid (AW w0 g o N dj w2) ∧ Hid (heapPop ltInt a k dj = heapPop ltInt a n (heapBuild ltInt n a m d)))
    case atStart => exact ⟨dk, rfl, Nat.le_refl _, HA, Lib.hid (by rw [← HO.out]; rfl)⟩
    case round =>
     obtain ⟨dj, rfl, hk2, HB, HP⟩ := hrel
     clear HA HO
     cases gk with
     | succ k =>
       obtain ⟨G, hG⟩ := AW.name dj
       have hc := HB.out.cell hG
       have hf := HB.out.fz
       have HG := Lib.hid hG
       clear hG
       by_cases hk0 : k = 0
       ·subst hk0
        have HC := Lib.hid (HB.out.swapD HG.out (i := a) (j := a) (by omega) (by omega))
        go_wp2_with fail
        go_region
        have C := Lib.hid (usift_00 w0 g o N cap a _ _ HC.out (by omega) hN)
        go_wp2_with ((with_reducible refine (C.out).mono ?_); rintro e w3 ⟨rfl, k1⟩)
        go_roundg 0
        case measure => omega
        case rel => exact ⟨_, by first | rfl | go_num, by omega, Lib.hid k1, HP⟩
       ·have HC := Lib.hid (HB.out.swapD HG.out (i := a) (j := a + k) (by omega) (by omega))
        go_wp2_with fail
        go_region
        have C := Lib.hid (usift_0 w0 g o N cap k a _ _ HC.out (by omega) hN)
        go_wp2_with ((with_reducible refine (C.out).mono ?_); rintro e w3 ⟨rfl, k1⟩)
        go_roundg k
        case measure => omega
        case rel => exact ⟨_, by first | rfl | go_num, by omega, Lib.hid k1, HP⟩
     | zero =>
       go_wp2
       go_end0
       refine ⟨rfl, ?_⟩
       have e : heapPop ltInt a 0 dj = dj := rfl
       rw [HM.out, ← HP.out, e]
       exact HB.out
end Go.Proofs.YtaknmlohnifcdaaGreatDoor
end
section
namespace Go.Proofs.YtaknmlohnifcdaaGreatDoor
open Go.RowKit Go.Lib Go.Sort

structure CW (w0 : World) (g o N : Nat) (d : Array Int) (c s : Nat) (W : World) : Prop where
 aw : AW w0 g o N d W
 cnt : W.cell? ⟨c, 0, none⟩ = some (.int .i64 s)
 fz : W.frozen? ⟨c, 0, none⟩ = false
 new : w0.heap.size ≤ c
variable {w0 W : World} {g o N : Nat} {d : Array Int} {c s : Nat}
theorem CW.draws (h : CW w0 g o N d c s W) (n : Nat) : CW w0 g o N d c s (W.drewN n) := ⟨h.aw.draws n, h.cnt, h.fz, h.new⟩
theorem CW.bump (h : CW w0 g o N d c s W) (t : Nat) : CW w0 g o N d c t (W.setCell ⟨c, 0, none⟩ (.int .i64 t)) :=
 ⟨⟨h.aw.sw.setCell_new c 0 _ h.new, h.aw.sz, h.aw.row⟩, World.cell?_setCell_same' _ _ _ (by rw [h.cnt]; rfl), by rw [World.frozen?_setCell]; exact h.fz, h.new⟩
theorem CW.start (h : AW w0 g o N d W) (T : TypeId) : CW w0 g o N d W.heap.size 0 (W.alloc (.cells #[.int .i64 0] T)) :=
 ⟨⟨h.sw.alloc _, h.sz, h.row⟩, by simp, by simp, h.sw.le⟩
theorem uord_any (w0 : World) (g o N cap a b c s : Nat) (d : Array Int) (w : World) (h : CW w0 g o N d c s w) (ha : a < N) (hb : b < N) (hs : s ≤ 1000) :
 Calls Tryz.prog 213 #[.slice (some ⟨g, o, none⟩) N cap, .int .i64 a, .int .i64 b, .pointer (some ⟨c, 0, none⟩)] w fun e w' => ∃ x y t : Nat, e = .returned (.tuple #[.int .i64 x, .int .i64 y]) ∧ ((x = a ∧ y = b) ∨ (x = b ∧ y = a)) ∧ t ≤ s + 1 ∧ CW w0 g o N d c t w' := by
 obtain ⟨G, hG⟩ := AW.name d
 have hc := h.aw.cell hG
 have hf := h.aw.fz
 have y0 := h.cnt
 have y1 := h.fz
 have H0 := Lib.hid h
 clear h hG
 go_enter Tryz.func213, Tryz.ntmps213
 go_wp2_with fail
 go_quiet (first | (go_at_call 169; refine Calls.quiet_of_same (uless_any _ _ _)))
 cases hl : ltInt (G b) (G a) with
 | true =>
   go_wp2
   exact bodyPost_ret (v := .tuple #[.int .i64 b, .int .i64 a]) (by simp [results, Tryz.results213, go_sem]) rfl ⟨b, a, s + 1, rfl, .inr ⟨rfl, rfl⟩, Nat.le_refl _, (H0.out.draws nq).bump (s + 1)⟩
 | false =>
   go_wp2
   exact bodyPost_ret (v := .tuple #[.int .i64 a, .int .i64 b]) (by simp [results, Tryz.results213, go_sem]) rfl ⟨a, b, s, rfl, .inl ⟨rfl, rfl⟩, Nat.le_succ _, H0.out.draws nq⟩
theorem umed_any (w0 : World) (g o N cap a b c k s : Nat) (d : Array Int) (w : World) (h : CW w0 g o N d k s w) (ha : a < N) (hb : b < N) (hc : c < N) (hs : s ≤ 900) :
 Calls Tryz.prog 211 #[.slice (some ⟨g, o, none⟩) N cap, .int .i64 a, .int .i64 b, .int .i64 c, .pointer (some ⟨k, 0, none⟩)] w fun e w' => ∃ x t : Nat, e = .returned (.int .i64 x) ∧ (x = a ∨ x = b ∨ x = c) ∧ t ≤ s + 3 ∧ CW w0 g o N d k t w' := by
 have CS := Lib.hid (fun (x y t : Nat) (W : World) (hW : CW w0 g o N d k t W) (hx : x < N) (hy : y < N) (ht : t ≤ 1000) => uord_any w0 g o N cap x y k t d W hW hx hy ht)
 have C1 := Lib.hid (CS.out a b s w h ha hb (by omega))
 have tk1 : True := trivial
 have tk2 : True := trivial
 have tk3 : True := trivial
 go_enter Tryz.func211, Tryz.ntmps211
 go_wp2_with (first
  | (have _t := tk1; (with_reducible refine (C1.out).mono ?_); rintro e w1 ⟨x1, z1, t1, rfl, hx1, ht1, k1⟩; have C2 := Lib.hid (CS.out z1 c t1 w1 k1 (by omega) hc (by omega)); clear tk1)
  | (have _t := tk2; (with_reducible refine (C2.out).mono ?_); rintro e w2 ⟨x2, z2, t2, rfl, hx2, ht2, k2⟩; have C3 := Lib.hid (CS.out x1 x2 t2 w2 k2 (by omega) (by omega) (by omega)); clear tk2)
  | (have _t := tk3; (with_reducible refine (C3.out).mono ?_); rintro e w3 ⟨x3, z3, t3, rfl, hx3, ht3, k3⟩; clear tk3))
 go_ret
 exact ⟨z3, t3, rfl, by omega, by omega, k3⟩
theorem uadj_any (w0 : World) (g o N cap a k s : Nat) (d : Array Int) (w : World) (h : CW w0 g o N d k s w) (ha : 0 < a) (hb : a + 1 < N) (hs : s ≤ 900) (hN : N < 4611686018427387904) :
 Calls Tryz.prog 210 #[.slice (some ⟨g, o, none⟩) N cap, .int .i64 a, .pointer (some ⟨k, 0, none⟩)] w fun e w' => ∃ x t : Nat, e = .returned (.int .i64 x) ∧ (x = a - 1 ∨ x = a ∨ x = a + 1) ∧ t ≤ s + 3 ∧ CW w0 g o N d k t w' := by
 have C0 := umed_any w0 g o N cap (a - 1) a (a + 1) k s d w h (by omega) (by omega) (by omega) hs
 rw [show ((a - 1 : Nat) : Int) = (a : Int) - 1 by omega, show ((a + 1 : Nat) : Int) = (a : Int) + 1 by omega] at C0
 have C := Lib.hid C0
 clear C0
 go_enter Tryz.func210, Tryz.ntmps210
 go_wp2_with ((with_reducible refine (C.out).mono ?_); rintro e w1 ⟨x1, t1, rfl, hx1, ht1, k1⟩)
 go_ret
 exact ⟨x1, t1, rfl, hx1, ht1, k1⟩
theorem upiv_any (w0 : World) (g o N cap a b : Nat) (d : Array Int) (w : World) (h : AW w0 g o N d w) (hab : a + 8 ≤ b) (hb : b ≤ N) (hN : N < 4611686018427387904) :
 Calls Tryz.prog 197 #[.slice (some ⟨g, o, none⟩) N cap, .int .i64 a, .int .i64 b] w fun e w' => ∃ p v : Nat, e = .returned (.tuple #[.int .i64 p, .int .i64 v]) ∧ a ≤ p ∧ p < b ∧ v ≤ 2 ∧ AW w0 g o N d w' := by
 obtain ⟨n, hn⟩ : ∃ n, n = b - a := ⟨_, rfl⟩
 obtain ⟨q, hq⟩ : ∃ q, q = n / 4 := ⟨_, rfl⟩
 have e1 : (b : Int) - (a : Int) = (n : Int) := by omega
 have e2 : (n : Int).tdiv 4 = (q : Int) := by rw [Int.tdiv_eq_ediv_of_nonneg (by omega)]; omega
 have hq2 : 2 ≤ q ∧ 4 * q ≤ n := by omega
 have CM := Lib.hid (fun (x y z t : Nat) (W : World) (hW : CW w0 g o N d w.heap.size t W) (hx : x < N) (hy : y < N) (hz : z < N) (ht : t ≤ 900) => umed_any w0 g o N cap x y z w.heap.size t d W hW hx hy hz ht)
 have CA := Lib.hid (fun (x t : Nat) (W : World) (hW : CW w0 g o N d w.heap.size t W) (hx : 0 < x) (hy : x + 1 < N) (ht : t ≤ 900) => uadj_any w0 g o N cap x w.heap.size t d W hW hx hy ht hN)
 have HST := Lib.hid (CW.start h 3)
 have hnb : a + n = b := by omega
 clear h hn hq
 have tk1 : True := trivial
 have tk2 : True := trivial
 have tk3 : True := trivial
 have tk4 : True := trivial
 by_cases h50 : 50 ≤ n
 ·have C0 := CA.out (a + q) 0 _ HST.out (by omega) (by omega) (by omega)
  have z1 : (a : Int) + (q : Int) = ((a + q : Nat) : Int) := by omega
  have z2 : (a : Int) + (q : Int) * 2 = ((a + q * 2 : Nat) : Int) := by omega
  have z3 : (a : Int) + (q : Int) * 3 = ((a + q * 3 : Nat) : Int) := by omega
  have zz1 : a + q < N ∧ a ≤ a + q ∧ a + q + 1 < b ∧ a < a + q := by omega
  have zz2 : a + q * 2 < N ∧ a ≤ a + q * 2 ∧ a + q * 2 + 1 < b ∧ a < a + q * 2 := by omega
  have zz3 : a + q * 3 < N ∧ a ≤ a + q * 3 ∧ a + q * 3 + 1 < b ∧ a < a + q * 3 := by omega
  generalize a + q = p1 at *
  generalize a + q * 2 = p2 at *
  generalize a + q * 3 = p3 at *
  have C1 := Lib.hid C0
  clear C0
  go_enter Tryz.func197, Tryz.ntmps197
  go_wp2_with (first
   | (have _t := tk1; (with_reducible refine (C1.out).mono ?_); rintro e w1 ⟨x1, t1, rfl, hx1, ht1, k1⟩; have C2 := Lib.hid (CA.out p2 t1 w1 k1 (by omega) (by omega) (by omega)); clear tk1)
   | (have _t := tk2; (with_reducible refine (C2.out).mono ?_); rintro e w2 ⟨x2, t2, rfl, hx2, ht2, k2⟩; have C3 := Lib.hid (CA.out p3 t2 w2 k2 (by omega) (by omega) (by omega)); clear tk2)
   | (have _t := tk3; (with_reducible refine (C3.out).mono ?_); rintro e w3 ⟨x3, t3, rfl, hx3, ht3, k3⟩; have C4 := Lib.hid (CM.out x1 x2 x3 t3 w3 k3 (by omega) (by omega) (by omega) (by omega)); clear tk3)
   | (have _t := tk4; (with_reducible refine (C4.out).mono ?_); rintro e w4 ⟨x4, t4, rfl, hx4, ht4, k4⟩; have y0 := k4.cnt; clear tk4))
  all_goals (try simp only [Exit.inBlock, Exit.then])
  all_goals first
   | (refine bodyPost_ret (v := .tuple #[.int .i64 x4, .int .i64 1]) ?_ rfl ⟨x4, 1, rfl, by omega, by omega, by omega, k4.aw⟩; simp [results, Tryz.results197, go_sem]; done)
   | (refine bodyPost_ret (v := .tuple #[.int .i64 x4, .int .i64 2]) ?_ rfl ⟨x4, 2, rfl, by omega, by omega, by omega, k4.aw⟩; simp [results, Tryz.results197, go_sem]; done)
   | (refine bodyPost_ret (v := .tuple #[.int .i64 x4, .int .i64 0]) ?_ rfl ⟨x4, 0, rfl, by omega, by omega, by omega, k4.aw⟩; simp [results, Tryz.results197, go_sem]; done)
 ·have C0 := CM.out (a + q) (a + q * 2) (a + q * 3) 0 _ HST.out (by omega) (by omega) (by omega) (by omega)
  have z1 : (a : Int) + (q : Int) = ((a + q : Nat) : Int) := by omega
  have z2 : (a : Int) + (q : Int) * 2 = ((a + q * 2 : Nat) : Int) := by omega
  have z3 : (a : Int) + (q : Int) * 3 = ((a + q * 3 : Nat) : Int) := by omega
  have zz1 : a ≤ a + q ∧ a + q < b := by omega
  have zz2 : a ≤ a + q * 2 ∧ a + q * 2 < b := by omega
  have zz3 : a ≤ a + q * 3 ∧ a + q * 3 < b := by omega
  generalize a + q = p1 at *
  generalize a + q * 2 = p2 at *
  generalize a + q * 3 = p3 at *
  have C4 := Lib.hid C0
  clear C0
  go_enter Tryz.func197, Tryz.ntmps197
  go_wp2_with ((with_reducible refine (C4.out).mono ?_); rintro e w4 ⟨x4, t4, rfl, hx4, ht4, k4⟩; have y0 := k4.cnt)
  all_goals (try simp only [Exit.inBlock, Exit.then])
  all_goals first
   | (refine bodyPost_ret (v := .tuple #[.int .i64 x4, .int .i64 1]) ?_ rfl ⟨x4, 1, rfl, by omega, by omega, by omega, k4.aw⟩; simp [results, Tryz.results197, go_sem]; done)
   | (refine bodyPost_ret (v := .tuple #[.int .i64 x4, .int .i64 2]) ?_ rfl ⟨x4, 2, rfl, by omega, by omega, by omega, k4.aw⟩; simp [results, Tryz.results197, go_sem]; done)
   | (refine bodyPost_ret (v := .tuple #[.int .i64 x4, .int .i64 0]) ?_ rfl ⟨x4, 0, rfl, by omega, by omega, by omega, k4.aw⟩; simp [results, Tryz.results197, go_sem]; done)
theorem urev_any (w0 : World) (g o N cap a b : Nat) (d : Array Int) (w : World) (h : AW w0 g o N d w) (hab : a ≤ b) (hb : b ≤ N) (hN : N < 4611686018427387904) :
 Calls Tryz.prog 198 #[.slice (some ⟨g, o, none⟩) N cap, .int .i64 a, .int .i64 b] w fun e w' => e = .returned (.tuple #[]) ∧ ∃ d', PermIn a b d d' ∧ AW w0 g o N d' w' := by
 have H0 := Lib.hid h
 clear h
 go_enter Tryz.func198, Tryz.ntmps198
 go_wp2
 go_loopg [6, 7] (b + 1) (fun k vi vj wr => ∃ (i : Nat) (j : Int) (dk : Array Int), vi = .int .i64 i ∧ vj = .int .i64 j ∧ a ≤ i ∧ i ≤ b ∧ i + j = (a : Int) + b - 1 ∧ b + 1 - i ≤ k ∧ Hid (PermIn a b d dk) ∧ Hid (AW w0 g o N dk wr))
 case atStart => exact ⟨a, (b : Int) - 1, d, rfl, rfl, Nat.le_refl _, hab, by omega, by omega, Lib.hid (permIn_refl _ _ _), H0⟩
 case round =>
  obtain ⟨i, j, dk, rfl, rfl, hai, hib, hij, hk, HP, HA⟩ := hrel
  clear H0
  by_cases hlt : (i : Int) < j
  ·obtain ⟨m, rfl⟩ : ∃ m : Nat, j = (m : Int) := ⟨j.toNat, by omega⟩
   obtain ⟨G, hG⟩ := AW.name dk
   have hc := HA.out.cell hG
   have hf := HA.out.fz
   have HG := Lib.hid hG
   clear hG
   have hmN : m < b := by omega
   have him : i < m := by omega
   have HB := Lib.hid (HA.out.swapD HG.out (i := i) (j := m) (by omega) (by omega))
   have HQ : Hid (PermIn a b d (swp dk i m)) := Lib.hid (permIn_trans _ _ _ _ _ HP.out (swp_permIn dk a b i m hai (by omega) (by omega) hmN (by rw [HA.out.sz]; exact hb)))
   go_wp2_with fail
   go_region
   all_goals go_wp2
   go_roundg (b - i)
   case measure => omega
   case rel => exact ⟨i + 1, (m : Int) - 1, _, by first | rfl | go_num, by first | rfl | go_num, by omega, by omega, by omega, by omega, HQ, HB⟩
  ·go_wp2
   go_end0
   exact ⟨rfl, dk, HP.out, HA.out⟩
end Go.Proofs.YtaknmlohnifcdaaGreatDoor
end
section
namespace Go.Proofs.YtaknmlohnifcdaaGreatDoor
open Go.RowKit Go.Lib Go.Sort

theorem scanUp_on (p : Int → Bool) (d : Array Int) (j i : Nat) (h : i ≤ j) (hp : p d[i]! = true) : scanUp p d j i = scanUp p d j (i + 1) := by
 rw [scanUp, if_pos (by simp [h, hp])]
theorem scanUp_off (p : Int → Bool) (d : Array Int) (j i : Nat) (h : ¬ i ≤ j ∨ p d[i]! = false) : scanUp p d j i = i := by
 rw [scanUp, if_neg]
 rcases h with h | h <;> simp [h]
theorem scanDown_on (p : Int → Bool) (d : Array Int) (j i : Nat) (h1 : 1 ≤ j) (h : i ≤ j) (hp : p d[j]! = true) : scanDown p d i j = scanDown p d i (j - 1) := by
 obtain ⟨k, rfl⟩ : ∃ k, j = k + 1 := ⟨j - 1, by omega⟩
 rw [scanDown, if_pos (by simp [h, hp])]
 rfl
theorem scanDown_off (p : Int → Bool) (d : Array Int) (j i : Nat) (h : ¬ i ≤ j ∨ p d[j]! = false) : scanDown p d i j = j := by
 cases j with
 | zero => rfl
 | succ k =>
   rw [scanDown, if_neg]
   rcases h with h | h <;> simp [h]
def someB (e : Ending) (q : Nat) : Prop := ∃ z : Bool, e = .returned (.tuple #[.int .i64 q, .bool z])
def fU (d : Array Int) (a : Nat) : Int → Bool := fun x => ltInt x d[a]!
def fD (d : Array Int) (a : Nat) : Int → Bool := fun x => !ltInt x d[a]!
theorem part_go (a i j p q : Nat) (d : Array Int) (hp : p = scanUp (fU d a) d j i) (hq : q = scanDown (fD d a) d p j) (h : p ≤ q) : partLoop ltInt a i j d = partLoop ltInt a (p + 1) (q - 1) (swp d p q) := by
 rw [partLoop_eq]
 unfold fU at hp
 unfold fD at hq
 simp only [← hp, ← hq]
 rw [if_neg (by omega)]
theorem part_ne (a i j p q : Nat) (d : Array Int) (hp : p = scanUp (fU d a) d j i) (hq : q = scanDown (fD d a) d p j) (h0 : 0 < i) (h : p ≤ q) : p < q := by
 have h1 := scanUp_spec (fU d a) d j _ i rfl
 have h2 := scanDown_spec (fD d a) d p j
 rw [← hp] at h1
 rw [← hq] at h2
 by_cases c : p = q
 ·exfalso
  subst c
  have e1 := h1.2.2.2 h2.1
  have e2 := h2.2.2.2 (Nat.le_refl _) (by omega)
  unfold fU at e1
  unfold fD at e2
  rw [e1] at e2
  cases e2
 ·omega
theorem part_end (a i j p q : Nat) (d : Array Int) (hp : p = scanUp (fU d a) d j i) (hq : q = scanDown (fD d a) d p j) (h : ¬ p ≤ q) : partLoop ltInt a i j d = (q, d) := by
 rw [partLoop_eq]
 unfold fU at hp
 unfold fD at hq
 simp only [← hp, ← hq]
 rw [if_pos (by omega)]
theorem upart_any (w0 : World) (g o N cap a b pv : Nat) (d : Array Int) (w : World) (h : AW w0 g o N d w) (hap : a ≤ pv) (hpb : pv < b) (hb : b ≤ N) (hN : N < 4611686018427387904) :
 Calls Tryz.prog 201 #[.slice (some ⟨g, o, none⟩) N cap, .int .i64 a, .int .i64 b, .int .i64 pv] w fun e w' => someB e (partition ltInt d a b pv).1 ∧ AW w0 g o N (partition ltInt d a b pv).2.2 w' := by
 rw [partition_fst, partition_arr]
 obtain ⟨G, hG⟩ := AW.name d
 have hc := h.cell hG
 have hf := h.fz
 have H1 := Lib.hid (h.swapD hG (i := a) (j := pv) (by omega) (by omega))
 obtain ⟨dk, hdk⟩ : ∃ dk, dk = swp d a pv := ⟨_, rfl⟩
 rw [← hdk] at H1 ⊢
 obtain ⟨T, hT⟩ : ∃ T, T = partLoop ltInt a (a + 1) (b - 1) dk := ⟨_, rfl⟩
 rw [← hT]
 obtain ⟨i, hi⟩ : ∃ i : Nat, i = a + 1 := ⟨_, rfl⟩
 obtain ⟨j, hj⟩ : ∃ j : Nat, j = b - 1 := ⟨_, rfl⟩
 have HT : Hid (partLoop ltInt a i j dk = T) := Lib.hid (by rw [hT, hi, hj])
 have ezi : ((a : Int) + 1) = (i : Int) := by omega
 have ezj : ((b : Int) - 1) = (j : Int) := by omega
 have hia : a < i := by omega
 have hij : i ≤ j + 1 := by omega
 have hjb : j < b := by omega
 clear h hG hT hdk hi hj
 go_enter Tryz.func201, Tryz.ntmps201
 go_upto_region 1 with fail
 go_cut [] (fun wx => Hid (AW w0 g o N dk wx))
 case first =>
  by_cases heq : a = pv
  ·subst heq
   go_region
   go_wp2_with fail
   go_meet
   case rel => exact H1
  ·go_region
   go_wp2_with fail
   go_meet
   case rel => exact H1
 case rest =>
  clear hc hf H1 G
  go_upto_block 0 with fail
  go_cut [10] (fun v wx => ∃ p : Nat, v = .int .i64 p ∧ i ≤ p ∧ p ≤ j + 1 ∧ Hid (p = scanUp (fU dk a) dk j i) ∧ Hid (AW w0 g o N dk wx))
  case first =>
   go_wp2_with fail
   go_loopg [10] (j + 2) (fun k v wr => ∃ p : Nat, v = .int .i64 p ∧ i ≤ p ∧ p ≤ j + 1 ∧ j + 2 ≤ k + p ∧ Hid (scanUp (fU dk a) dk j p = scanUp (fU dk a) dk j i) ∧ Hid (AW w0 g o N dk wr))
   case atStart => exact ⟨i, by first | rfl | go_num, by omega, by omega, by omega, rfl, hcut⟩
   case round =>
    obtain ⟨p, rfl, h1, h2, hk, HS, HA⟩ := hrel
    obtain ⟨G, hG⟩ := AW.name dk
    have hc := HA.out.cell hG
    have hf := HA.out.fz
    have HG := Lib.hid hG
    clear hG
    by_cases hle : p ≤ j
    ·go_wp2_with fail
     go_quiet (first | (go_at_call 169; refine Calls.quiet_of_same (uless_any _ _ _)))
     cases hl : ltInt (G p) (G a) with
     | true =>
       go_wp2
       go_roundg (j + 1 - p)
       case measure => omega
       case rel => exact ⟨p + 1, by first | rfl | go_num, by omega, by omega, by omega, Lib.hid ((scanUp_on _ dk j p hle (by unfold fU; rw [← HG.out, ← HG.out, hl] <;> rfl)).symm.trans HS.out), Lib.hid (HA.out.draws nq)⟩
     | false =>
       go_wp2
       go_meet
       case rel => exact ⟨p, by first | rfl | go_num, by omega, by omega, Lib.hid ((scanUp_off _ dk j p (.inr (by unfold fU; rw [← HG.out, ← HG.out, hl] <;> rfl))).symm.trans HS.out), Lib.hid (HA.out.draws nq)⟩
    ·go_wp2_with fail
     go_quiet (first | (go_at_call 169; refine Calls.quiet_of_same (uless_any _ _ _)))
     go_wp2
     go_meet
     case rel => exact ⟨p, by first | rfl | go_num, by omega, by omega, Lib.hid ((scanUp_off _ dk j p (.inl hle)).symm.trans HS.out), Lib.hid (HA.out.draws nq)⟩
  case rest =>
   obtain ⟨p, rfl, hip, hpj, HP, HU⟩ := hcut
   go_upto_block 2 with fail
   go_cut [11] (fun v wx => ∃ q : Nat, v = .int .i64 q ∧ p ≤ q + 1 ∧ q ≤ j ∧ Hid (q = scanDown (fD dk a) dk p j) ∧ Hid (AW w0 g o N dk wx))
   case first =>
    go_wp2_with fail
    go_loopg [11] (j + 1) (fun k v wr => ∃ q : Nat, v = .int .i64 q ∧ p ≤ q + 1 ∧ q ≤ j ∧ q + 1 ≤ k ∧ Hid (scanDown (fD dk a) dk p q = scanDown (fD dk a) dk p j) ∧ Hid (AW w0 g o N dk wr))
    case atStart => exact ⟨j, by first | rfl | go_num, by omega, by omega, by omega, rfl, HU⟩
    case round =>
     obtain ⟨q, rfl, h1, h2, hk, HS, HA⟩ := hrel
     obtain ⟨G, hG⟩ := AW.name dk
     have hc := HA.out.cell hG
     have hf := HA.out.fz
     have HG := Lib.hid hG
     clear hG
     by_cases hle : p ≤ q
     ·go_wp2_with fail
      go_quiet (first | (go_at_call 169; refine Calls.quiet_of_same (uless_any _ _ _)))
      cases hl : ltInt (G q) (G a) with
      | false =>
        go_wp2
        go_roundg (q)
        case measure => omega
        case rel => exact ⟨q - 1, by first | rfl | go_num, by omega, by omega, by omega, Lib.hid ((scanDown_on _ dk q p (by omega) hle (by unfold fD; rw [← HG.out, ← HG.out, hl] <;> rfl)).symm.trans HS.out), Lib.hid (HA.out.draws nq)⟩
      | true =>
        go_wp2
        go_meet
        case rel => exact ⟨q, by first | rfl | go_num, by omega, by omega, Lib.hid ((scanDown_off _ dk q p (.inr (by unfold fD; rw [← HG.out, ← HG.out, hl] <;> rfl))).symm.trans HS.out), Lib.hid (HA.out.draws nq)⟩
     ·go_wp2_with fail
      go_quiet (first | (go_at_call 169; refine Calls.quiet_of_same (uless_any _ _ _)))
      go_wp2
      go_meet
      case rel => exact ⟨q, by first | rfl | go_num, by omega, by omega, Lib.hid ((scanDown_off _ dk q p (.inl hle)).symm.trans HS.out), Lib.hid (HA.out.draws nq)⟩
   case rest =>
    obtain ⟨q, rfl, hpq, hqj, HQ, HB⟩ := hcut
    clear HU
    clear ezi ezj
    by_cases hlt : p ≤ q
    ·have hpq2 := part_ne a i j p q dk HP.out HQ.out (by omega) hlt
     have HT2 : Hid (partLoop ltInt a (p + 1) (q - 1) (swp dk p q) = T) := Lib.hid ((part_go a i j p q dk HP.out HQ.out hlt).symm.trans HT.out)
     go_upto_region 10 with fail
     go_cut [] (fun wx => Hid (AW w0 g o N (swp dk p q) wx))
     case first =>
      obtain ⟨G, hG⟩ := AW.name dk
      have hc := HB.out.cell hG
      have hf := HB.out.fz
      have HG := Lib.hid hG
      clear hG
      have HC := Lib.hid (HB.out.swapD HG.out (i := p) (j := q) (by omega) (by omega))
      go_region
      go_wp2_with fail
      go_meet
      case rel => exact HC
     case rest =>
      go_wp2
      go_loopg [10, 11] b (fun k v10 v11 wr => ∃ (i j : Nat) (dk : Array Int), v10 = .int .i64 i ∧ v11 = .int .i64 j ∧ a < i ∧ i ≤ j + 1 ∧ j < b ∧ j + 1 ≤ k + i ∧ Hid (partLoop ltInt a i j dk = T) ∧ Hid (AW w0 g o N dk wr))
      case atStart => exact ⟨p + 1, q - 1, swp dk p q, by first | rfl | go_num, by first | rfl | go_num | (congr 1; omega), by omega, by omega, by omega, by omega, HT2, hcut⟩
      case round =>
       clear HT HP HQ HB HT2 hcut hlt hip hpj hpq hqj hia hij hjb
       obtain ⟨i, j, dk, rfl, rfl, hia, hij, hjb, hk0, HT, HA0⟩ := hrel
       go_upto_block 6 with fail
       go_cut [10] (fun v wx => ∃ p : Nat, v = .int .i64 p ∧ i ≤ p ∧ p ≤ j + 1 ∧ Hid (p = scanUp (fU dk a) dk j i) ∧ Hid (AW w0 g o N dk wx))
       case first =>
        go_wp2_with fail
        go_loopg [10] (j + 2) (fun k v wr => ∃ p : Nat, v = .int .i64 p ∧ i ≤ p ∧ p ≤ j + 1 ∧ j + 2 ≤ k + p ∧ Hid (scanUp (fU dk a) dk j p = scanUp (fU dk a) dk j i) ∧ Hid (AW w0 g o N dk wr))
        case atStart => exact ⟨i, by first | rfl | go_num, by omega, by omega, by omega, rfl, HA0⟩
        case round =>
         obtain ⟨p, rfl, h1, h2, hk, HS, HA⟩ := hrel
         obtain ⟨G, hG⟩ := AW.name dk
         have hc := HA.out.cell hG
         have hf := HA.out.fz
         have HG := Lib.hid hG
         clear hG
         by_cases hle : p ≤ j
         ·go_wp2_with fail
          go_quiet (first | (go_at_call 169; refine Calls.quiet_of_same (uless_any _ _ _)))
          cases hl : ltInt (G p) (G a) with
          | true =>
            go_wp2
            go_roundg (j + 1 - p)
            case measure => omega
            case rel => exact ⟨p + 1, by first | rfl | go_num, by omega, by omega, by omega, Lib.hid ((scanUp_on _ dk j p hle (by unfold fU; rw [← HG.out, ← HG.out, hl] <;> rfl)).symm.trans HS.out), Lib.hid (HA.out.draws nq)⟩
          | false =>
            go_wp2
            go_meet
            case rel => exact ⟨p, by first | rfl | go_num, by omega, by omega, Lib.hid ((scanUp_off _ dk j p (.inr (by unfold fU; rw [← HG.out, ← HG.out, hl] <;> rfl))).symm.trans HS.out), Lib.hid (HA.out.draws nq)⟩
         ·go_wp2_with fail
          go_quiet (first | (go_at_call 169; refine Calls.quiet_of_same (uless_any _ _ _)))
          go_wp2
          go_meet
          case rel => exact ⟨p, by first | rfl | go_num, by omega, by omega, Lib.hid ((scanUp_off _ dk j p (.inl hle)).symm.trans HS.out), Lib.hid (HA.out.draws nq)⟩
       case rest =>
        obtain ⟨p, rfl, hip, hpj, HP, HU⟩ := hcut
        go_upto_block 8 with fail
        go_cut [11] (fun v wx => ∃ q : Nat, v = .int .i64 q ∧ p ≤ q + 1 ∧ q ≤ j ∧ Hid (q = scanDown (fD dk a) dk p j) ∧ Hid (AW w0 g o N dk wx))
        case first =>
         go_wp2_with fail
         go_loopg [11] (j + 1) (fun k v wr => ∃ q : Nat, v = .int .i64 q ∧ p ≤ q + 1 ∧ q ≤ j ∧ q + 1 ≤ k ∧ Hid (scanDown (fD dk a) dk p q = scanDown (fD dk a) dk p j) ∧ Hid (AW w0 g o N dk wr))
         case atStart => exact ⟨j, by first | rfl | go_num, by omega, by omega, by omega, rfl, HU⟩
         case round =>
          obtain ⟨q, rfl, h1, h2, hk, HS, HA⟩ := hrel
          obtain ⟨G, hG⟩ := AW.name dk
          have hc := HA.out.cell hG
          have hf := HA.out.fz
          have HG := Lib.hid hG
          clear hG
          by_cases hle : p ≤ q
          ·go_wp2_with fail
           go_quiet (first | (go_at_call 169; refine Calls.quiet_of_same (uless_any _ _ _)))
           cases hl : ltInt (G q) (G a) with
           | false =>
             go_wp2
             go_roundg (q)
             case measure => omega
             case rel => exact ⟨q - 1, by first | rfl | go_num, by omega, by omega, by omega, Lib.hid ((scanDown_on _ dk q p (by omega) hle (by unfold fD; rw [← HG.out, ← HG.out, hl] <;> rfl)).symm.trans HS.out), Lib.hid (HA.out.draws nq)⟩
           | true =>
             go_wp2
             go_meet
             case rel => exact ⟨q, by first | rfl | go_num, by omega, by omega, Lib.hid ((scanDown_off _ dk q p (.inr (by unfold fD; rw [← HG.out, ← HG.out, hl] <;> rfl))).symm.trans HS.out), Lib.hid (HA.out.draws nq)⟩
          ·go_wp2_with fail
           go_quiet (first | (go_at_call 169; refine Calls.quiet_of_same (uless_any _ _ _)))
           go_wp2
           go_meet
           case rel => exact ⟨q, by first | rfl | go_num, by omega, by omega, Lib.hid ((scanDown_off _ dk q p (.inl hle)).symm.trans HS.out), Lib.hid (HA.out.draws nq)⟩
        case rest =>
         obtain ⟨q, rfl, hpq, hqj, HQ, HB⟩ := hcut
         clear HU
         by_cases hlt : p ≤ q
         ·have hpq2 := part_ne a i j p q dk HP.out HQ.out (by omega) hlt
          have HT2 : Hid (partLoop ltInt a (p + 1) (q - 1) (swp dk p q) = T) := Lib.hid ((part_go a i j p q dk HP.out HQ.out hlt).symm.trans HT.out)
          go_upto_region 18 with fail
          go_cut [] (fun wx => Hid (AW w0 g o N (swp dk p q) wx))
          case first =>
           obtain ⟨G, hG⟩ := AW.name dk
           have hc := HB.out.cell hG
           have hf := HB.out.fz
           have HG := Lib.hid hG
           clear hG
           have HC := Lib.hid (HB.out.swapD HG.out (i := p) (j := q) (by omega) (by omega))
           go_region
           go_wp2_with fail
           go_meet
           case rel => exact HC
          case rest =>
           go_wp2
           go_roundg (q - p - 1)
           case measure => omega
           case rel => exact ⟨p + 1, q - 1, swp dk p q, by first | rfl | go_num, by first | rfl | go_num | (congr 1; omega), by omega, by omega, by omega, by omega, HT2, hcut⟩
         ·skip
          have ET := part_end a i j p q dk HP.out HQ.out hlt
          rw [HT.out] at ET
          subst ET
          have hqa : a ≤ q := by omega
          go_upto_region 21 with fail
          go_cut [] (fun wx => Hid (AW w0 g o N (swp dk q a) wx))
          case first =>
           obtain ⟨G, hG⟩ := AW.name dk
           have hc := HB.out.cell hG
           have hf := HB.out.fz
           have HG := Lib.hid hG
           clear hG
           have HC := Lib.hid (HB.out.swapD HG.out (i := q) (j := a) (by omega) (by omega))
           by_cases heq : q = a
           ·subst heq
            go_region
            go_wp2_with fail
            go_meet
            case rel => exact HC
           ·go_region
            go_wp2_with fail
            go_meet
            case rel => exact HC
          case rest =>
           go_wp2
           exact bodyPost_ret (v := .tuple #[.int .i64 q, .bool false]) (by simp [results, Tryz.results201, go_sem]) rfl ⟨⟨false, rfl⟩, hcut.out⟩
    ·skip
     have ET := part_end a i j p q dk HP.out HQ.out hlt
     rw [HT.out] at ET
     subst ET
     have hqa : a ≤ q := by omega
     go_upto_region 8 with fail
     go_cut [] (fun wx => Hid (AW w0 g o N (swp dk q a) wx))
     case first =>
      obtain ⟨G, hG⟩ := AW.name dk
      have hc := HB.out.cell hG
      have hf := HB.out.fz
      have HG := Lib.hid hG
      clear hG
      have HC := Lib.hid (HB.out.swapD HG.out (i := q) (j := a) (by omega) (by omega))
      by_cases heq : q = a
      ·subst heq
       go_region
       go_wp2_with fail
       go_meet
       case rel => exact HC
      ·go_region
       go_wp2_with fail
       go_meet
       case rel => exact HC
     case rest =>
      go_wp2
      exact bodyPost_ret (v := .tuple #[.int .i64 q, .bool true]) (by simp [results, Tryz.results201, go_sem]) rfl ⟨⟨true, rfl⟩, hcut.out⟩
end Go.Proofs.YtaknmlohnifcdaaGreatDoor
end
section
namespace Go.Proofs.YtaknmlohnifcdaaGreatDoor
open Go.RowKit Go.Lib Go.Sort

theorem scanS_on (d : Array Int) (b i : Nat) (h : i < b) (hp : ltInt d[i]! d[i - 1]! = false) : scanSorted ltInt d b i = scanSorted ltInt d b (i + 1) := by
 rw [scanSorted, if_pos (by simp [h, hp])]
theorem scanS_off (d : Array Int) (b i : Nat) (h : ¬ i < b ∨ ltInt d[i]! d[i - 1]! = true) : scanSorted ltInt d b i = i := by
 rw [scanSorted, if_neg]
 rcases h with h | h <;> simp [h]
theorem shD_on (d : Array Int) (j : Nat) (hp : ltInt d[j + 1]! d[j]! = true) : shiftDown ltInt (j + 1) d = shiftDown ltInt j (swp d (j + 1) j) := by
 rw [shiftDown, if_neg (by simp [hp])]
theorem shD_off (d : Array Int) (j : Nat) (hp : ltInt d[j + 1]! d[j]! = false) : shiftDown ltInt (j + 1) d = d := by
 rw [shiftDown, if_pos (by simp [hp])]
theorem shU_on (d : Array Int) (b j : Nat) (h : j < b) (hp : ltInt d[j]! d[j - 1]! = true) : shiftUp ltInt b j d = shiftUp ltInt b (j + 1) (swp d j (j - 1)) := by
 rw [shiftUp, if_pos h, if_neg (by simp [hp])]
theorem shU_off (d : Array Int) (b j : Nat) (h : ¬ j < b ∨ ltInt d[j]! d[j - 1]! = false) : shiftUp ltInt b j d = d := by
 rw [shiftUp]
 by_cases c : j < b
 ·rw [if_pos c, if_pos (by rcases h with h | h; exact absurd c h; simp [h])]
 ·rw [if_neg c]
theorem pins_step (a b s i i2 : Nat) (d : Array Int) (h : i2 = scanSorted ltInt d b i) : partialIns ltInt a b (s + 1) i d = if i2 = b then (d, true) else if b - a < 50 then (d, false) else partialIns ltInt a b s i2 (fixUp ltInt b i2 (fixDown ltInt a i2 (swp d i2 (i2 - 1)))) := by
 rw [partialIns_succ, ← h]
theorem upins_any (w0 : World) (g o N cap a b : Nat) (d : Array Int) (w : World) (h : AW w0 g o N d w) (hab : a < b) (hb : b ≤ N) (hN : N < 4611686018427387904) :
 Calls Tryz.prog 199 #[.slice (some ⟨g, o, none⟩) N cap, .int .i64 a, .int .i64 b] w fun e w' => e = .returned (.bool (partialInsertionSort ltInt d a b).2) ∧ AW w0 g o N (partialInsertionSort ltInt d a b).1 w' := by
 obtain ⟨T, hT⟩ : ∃ T, T = partialInsertionSort ltInt d a b := ⟨_, rfl⟩
 rw [← hT]
 have H0 := Lib.hid h
 have HT0 : Hid (partialIns ltInt a b 5 (a + 1) d = T) := Lib.hid (by rw [hT]; rfl)
 clear h hT
 go_enter Tryz.func199, Tryz.ntmps199
 go_wp2
 go_loopg [7, 8] 6 (fun k v7 v8 wr => ∃ (i t : Nat) (dk : Array Int), v7 = .int .i64 i ∧ v8 = .int .i64 t ∧ a < i ∧ i ≤ b ∧ t ≤ 5 ∧ 6 ≤ k + t ∧ Hid (partialIns ltInt a b (5 - t) i dk = T) ∧ Hid (AW w0 g o N dk wr))
 case atStart => exact ⟨a + 1, 0, d, by first | rfl | go_num, rfl, by omega, by omega, by omega, by omega, HT0, H0⟩
 case round =>
  obtain ⟨i, t, dk, rfl, rfl, hai, hib, ht, hk0, HT, HA0⟩ := hrel
  clear H0 HT0
  by_cases ht5 : t < 5
  ·have HT2 : Hid (partialIns ltInt a b ((5 - (t + 1)) + 1) i dk = T) := Lib.hid (by rw [← HT.out]; congr 1; omega)
   clear HT
   go_upto_block 2 with fail
   go_cut [7] (fun v wx => ∃ p : Nat, v = .int .i64 p ∧ i ≤ p ∧ p ≤ b ∧ Hid (p = scanSorted ltInt dk b i) ∧ Hid (AW w0 g o N dk wx))
   case first =>
    go_wp2_with fail
    go_loopg [7] (b + 1) (fun k v wr => ∃ p : Nat, v = .int .i64 p ∧ i ≤ p ∧ p ≤ b ∧ b + 1 ≤ k + p ∧ Hid (scanSorted ltInt dk b p = scanSorted ltInt dk b i) ∧ Hid (AW w0 g o N dk wr))
    case atStart => exact ⟨i, by first | rfl | go_num, by omega, by omega, by omega, rfl, HA0⟩
    case round =>
     obtain ⟨p, rfl, h1, h2, hk, HS, HA⟩ := hrel
     obtain ⟨G, hG⟩ := AW.name dk
     have hc := HA.out.cell hG
     have hf := HA.out.fz
     have HG := Lib.hid hG
     clear hG
     by_cases hle : p < b
     ·go_wp2_with fail
      go_quiet (first | (go_at_call 169; refine Calls.quiet_of_same (uless_any _ _ _)))
      cases hl : ltInt (G p) (G (p - 1)) with
      | false =>
        go_wp2
        go_roundg (b - p)
        case measure => omega
        case rel => exact ⟨p + 1, by first | rfl | go_num, by omega, by omega, by omega, Lib.hid ((scanS_on dk b p hle (by rw [← HG.out, ← HG.out, hl])).symm.trans HS.out), Lib.hid (HA.out.draws nq)⟩
      | true =>
        go_wp2
        go_meet
        case rel => exact ⟨p, by first | rfl | go_num, by omega, by omega, Lib.hid ((scanS_off dk b p (.inr (by rw [← HG.out, ← HG.out, hl]))).symm.trans HS.out), Lib.hid (HA.out.draws nq)⟩
     ·go_wp2_with fail
      go_quiet (first | (go_at_call 169; refine Calls.quiet_of_same (uless_any _ _ _)))
      go_wp2
      go_meet
      case rel => exact ⟨p, by first | rfl | go_num, by omega, by omega, Lib.hid ((scanS_off dk b p (.inl hle)).symm.trans HS.out), Lib.hid (HA.out.draws nq)⟩
   case rest =>
    obtain ⟨p, rfl, hip, hpb, HP, HB⟩ := hcut
    have HST := Lib.hid ((pins_step a b (5 - (t + 1)) i p dk HP.out).symm.trans HT2.out)
    clear HT2 HP
    by_cases hpe : p = b
    ·have ET := HST.out
     rw [if_pos hpe] at ET
     subst ET
     subst hpe
     go_wp2
     (try simp only [Exit.inBlock, Exit.then])
     exact bodyPost_ret (v := .bool true) (by simp [results, Tryz.results199, go_sem]) rfl ⟨rfl, HB.out⟩
    ·by_cases h50 : b - a < 50
     ·have ET := HST.out
      rw [if_neg hpe, if_pos h50] at ET
      subst ET
      have hne : ((p : Int) == (b : Int)) = false := by simp; omega
      go_wp2
      (try simp only [Exit.inBlock, Exit.then])
      exact bodyPost_ret (v := .bool false) (by simp [results, Tryz.results199, go_sem]) rfl ⟨rfl, HB.out⟩
     ·have ET := HST.out
      rw [if_neg hpe, if_neg h50] at ET
      have HT3 := Lib.hid ET
      clear ET HST
      have hne : ((p : Int) == (b : Int)) = false := by simp; omega
      go_upto_region 11 with fail
      go_cut [] (fun wx => Hid (AW w0 g o N (swp dk p (p - 1)) wx))
      case first =>
       obtain ⟨G, hG⟩ := AW.name dk
       have hc := HB.out.cell hG
       have hf := HB.out.fz
       have HG := Lib.hid hG
       clear hG
       have HC := Lib.hid (HB.out.swapD HG.out (i := p) (j := p - 1) (by omega) (by omega))
       go_region
       go_wp2_with fail
       go_meet
       case rel => exact HC
      case rest =>
       clear HB
       obtain ⟨d1, hd1⟩ : ∃ d1, d1 = swp dk p (p - 1) := ⟨_, rfl⟩
       rw [← hd1] at hcut HT3
       clear hd1
       have HE := hcut
       clear hcut
       go_upto_if 61 with fail
       go_cut [] (fun wx => Hid (AW w0 g o N (fixDown ltInt a p d1) wx))
       case first =>
        by_cases h2 : p - a ≥ 2
        ·have HX : Hid (fixDown ltInt a p d1 = shiftDown ltInt (p - 1) d1) := Lib.hid (by unfold fixDown; rw [if_pos h2])
         go_wp2
         go_loopg [9] p (fun k v wr => ∃ (j : Nat) (dj : Array Int), v = .int .i64 j ∧ j < p ∧ j + 1 ≤ k ∧ Hid (shiftDown ltInt j dj = fixDown ltInt a p d1) ∧ Hid (AW w0 g o N dj wr))
         case atStart => exact ⟨p - 1, d1, by first | rfl | go_num | (congr 1; omega), by omega, by omega, Lib.hid HX.out.symm, HE⟩
         case round =>
          obtain ⟨j, dj, rfl, hjp, hk, HS, HF⟩ := hrel
          cases j with
          | zero =>
            go_wp2
            go_meet
            case rel => exact Lib.hid (by rw [← HS.out]; exact HF.out)
          | succ j =>
            obtain ⟨G, hG⟩ := AW.name dj
            have hc := HF.out.cell hG
            have hf := HF.out.fz
            have HG := Lib.hid hG
            clear hG
            have j1 : (1 : Int) ≤ ((j + 1 : Nat) : Int) := by omega
            go_wp2_with fail
            go_quiet (first | (go_at_call 169; refine Calls.quiet_of_same (uless_any _ _ _)))
            cases hl : ltInt (G (j + 1)) (G j) with
            | true =>
              go_wp2
              go_region
              all_goals go_wp2
              go_roundg (j + 1)
              case measure => omega
              case rel => exact ⟨j, swp dj (j + 1) j, by first | rfl | go_num, by omega, by omega, Lib.hid ((shD_on dj j (by rw [← HG.out, ← HG.out, hl])).symm.trans HS.out), Lib.hid ((HF.out.draws (nq + 1)).swap HG.out (by omega) (by omega))⟩
            | false =>
              go_wp2
              go_meet
              case rel => exact Lib.hid (by rw [← HS.out, shD_off dj j (by rw [← HG.out, ← HG.out, hl])]; exact HF.out.draws nq)
        ·have HX : Hid (fixDown ltInt a p d1 = d1) := Lib.hid (by unfold fixDown; rw [if_neg h2])
         go_wp2
         go_meet
         case rel => exact Lib.hid (by rw [HX.out]; exact HE.out)
       case rest =>
        clear HE
        obtain ⟨d2, hd2⟩ : ∃ d2, d2 = fixDown ltInt a p d1 := ⟨_, rfl⟩
        rw [← hd2] at hcut HT3
        clear hd2
        have HE := hcut
        clear hcut
        go_upto_if 98 with fail
        have RND : ∀ wx, AW w0 g o N (fixUp ltInt b p d2) wx → Hid (AW w0 g o N (fixUp ltInt b p d2) wx) := fun _ q => Lib.hid q
        have HRN := Lib.hid RND
        clear RND
        ·by_cases h2 : b - p ≥ 2
         ·have HX : Hid (fixUp ltInt b p d2 = shiftUp ltInt b (p + 1) d2) := Lib.hid (by unfold fixUp; rw [if_pos h2])
          go_wp2
          go_loopg [10] (b + 1) (fun k v wr => ∃ (j : Nat) (dj : Array Int), v = .int .i64 j ∧ p < j ∧ j ≤ b ∧ b + 1 ≤ k + j ∧ Hid (shiftUp ltInt b j dj = fixUp ltInt b p d2) ∧ Hid (AW w0 g o N dj wr))
          case atStart => exact ⟨p + 1, d2, by first | rfl | go_num, by omega, by omega, by omega, Lib.hid HX.out.symm, HE⟩
          case round =>
           obtain ⟨j, dj, rfl, hpj, hjb, hk, HS, HF⟩ := hrel
           obtain ⟨G, hG⟩ := AW.name dj
           have hc := HF.out.cell hG
           have hf := HF.out.fz
           have HG := Lib.hid hG
           clear hG
           by_cases hlt : j < b
           ·go_wp2_with fail
            go_quiet (first | (go_at_call 169; refine Calls.quiet_of_same (uless_any _ _ _)))
            cases hl : ltInt (G j) (G (j - 1)) with
            | true =>
              go_wp2
              go_region
              all_goals go_wp2
              go_roundg (b - j)
              case measure => omega
              case rel => exact ⟨j + 1, swp dj j (j - 1), by first | rfl | go_num, by omega, by omega, by omega, Lib.hid ((shU_on dj b j hlt (by rw [← HG.out, ← HG.out, hl])).symm.trans HS.out), Lib.hid ((HF.out.draws (nq + 1)).swap HG.out (by omega) (by omega))⟩
            | false =>
              go_wp2
              go_roundg (5 - t)
              case measure => omega
              case rel => exact ⟨p, t + 1, _, rfl, by first | rfl | go_num, by omega, by omega, by omega, by omega, HT3, HRN.out _ (by rw [← HS.out, shU_off dj b j (.inr (by rw [← HG.out, ← HG.out, hl]))]; exact HF.out.draws nq)⟩
           ·go_wp2
            go_roundg (5 - t)
            case measure => omega
            case rel => exact ⟨p, t + 1, _, rfl, by first | rfl | go_num, by omega, by omega, by omega, by omega, HT3, HRN.out _ (by rw [← HS.out, shU_off dj b j (.inl hlt)]; exact HF.out)⟩
         ·have HX : Hid (fixUp ltInt b p d2 = d2) := Lib.hid (by unfold fixUp; rw [if_neg h2])
          go_wp2
          go_roundg (5 - t)
          case measure => omega
          case rel => exact ⟨p, t + 1, _, rfl, by first | rfl | go_num, by omega, by omega, by omega, by omega, HT3, HRN.out _ (by rw [HX.out]; exact HE.out)⟩
  ·obtain rfl : t = 5 := by omega
   have ET := HT.out
   have e0 : partialIns ltInt a b (5 - 5) i dk = (dk, false) := rfl
   rw [e0] at ET
   subst ET
   go_wp2
   exact bodyPost_ret (v := .bool false) (by simp [results, Tryz.results199, go_sem]) rfl ⟨rfl, HA0.out⟩
end Go.Proofs.YtaknmlohnifcdaaGreatDoor
end
