import Derived.Test.YtnmnbogjnjbopaaDoorProg
import Derived.Shelf.SlSortCmp.Kit1
import Derived.Sort.LotA
import Derived.Sort.LotB
import Derived.Sort.LotC
import Derived.Sort.LotD3
import Derived.WalkKit
import Derived.BigGuard
import Derived.BigCall
import Derived.CellFam
import Derived.BigQuiet
import Derived.Deep.LoopGhost
import Derived.Deep.DeepCutAuto
import Derived.Deep.CutBlock
import Derived.Lib.Hide
import Derived.Shelf.SlGeneric
import Derived.Shelf.SlSortCmp.WholeK
import Derived.Laws.Bits64b

/-! SortLow: SortKit, SortIns, SortHeap, SortPiv, GridSort0, SortBrk. -/

section
/-
  The library's sort of a slice of uint32: the word on the world that all its functions keep, and the comparison.
-/
namespace Go.Proofs.YtnmnbogjnjbopaaDoor
open Go.RowKit Go.Lib Go.Sort

abbrev ku : Int → Value := Value.int .u32
/-- A slice's N cells from place o of block g on hold d; nothing else of the first world has turned. -/
structure AW (w0 : World) (g o N : Nat) (d : Array Int) (W : World) : Prop where
  sw : SW ku w0 g o d W
  sz : d.size = N
  row : ∃ d0, Row1 ku w0 g o d0 ∧ d0.size = N
variable {w0 W : World} {g o N : Nat} {d : Array Int}
theorem AW.holds (h : AW w0 g o N d W) : Holds ku W g o d := by
  obtain ⟨d0, R, e⟩ := h.row
  exact h.sw.holds R.hblk R.hH (h.sz.trans e.symm)
theorem AW.cell (h : AW w0 g o N d W) {G : Nat → Int} (hG : ∀ t, G t = d[t]!) : ∀ t, t < N → W.cell? ⟨g, o + t, none⟩ = some (.int .u32 (G t)) := fun t ht => by
  rw [hG]; exact (h.holds t (by rw [h.sz]; exact ht)).1
theorem AW.fz (h : AW w0 g o N d W) : ∀ t, t < N → W.frozen? ⟨g, o + t, none⟩ = false := fun t ht => (h.holds t (by rw [h.sz]; exact ht)).2
theorem AW.draws (h : AW w0 g o N d W) (n : Nat) : AW w0 g o N d (W.drewN n) := ⟨h.sw.drewN n, h.sz, h.row⟩
theorem AW.swap (h : AW w0 g o N d W) {G : Nat → Int} (hG : ∀ t, G t = d[t]!) {i j : Nat} (hi : i < N) (hj : j < N) :
    AW w0 g o N (swp d i j) ((W.setCell ⟨g, o + i, none⟩ (.int .u32 (G j))).setCell ⟨g, o + j, none⟩ (.int .u32 (G i))) := by
  obtain ⟨d0, R, e⟩ := h.row
  rw [hG, hG]
  exact ⟨h.sw.swap R.hblk i j (by rw [h.sz]; exact hi) (by rw [h.sz]; exact hj), by rw [size_swp]; exact h.sz, h.row⟩
theorem AW.swapD (h : AW w0 g o N d W) {G : Nat → Int} (hG : ∀ t, G t = d[t]!) {i j : Nat} (hi : i < N) (hj : j < N) :
    AW w0 g o N (swp d i j) ((W.setCell ⟨g, o + i, none⟩ (.int .u32 (G j))).setCell ⟨g, o + j, none⟩ (.int .u32 (G i))).drew := (h.swap hG hi hj).draws 1
theorem AW.name (d : Array Int) : ∃ G : Nat → Int, ∀ t, G t = d[t]! := ⟨fun t => d[t]!, fun _ => rfl⟩

theorem uless_any (x y : Int) (w : World) : Calls Tryd.prog 84 #[.int .u32 x, .int .u32 y] w fun e w' => e = .returned (.bool (ltInt x y)) ∧ w' = w := by
  unfold ltInt
  by_cases c : x < y
  · rw [decide_eq_true c]
    go_enter Tryd.func84, Tryd.ntmps84
    go_wp2
    go_ret
    exact ⟨rfl, rfl⟩
  · rw [decide_eq_false c]
    go_enter Tryd.func84, Tryd.ntmps84
    go_wp2
    go_ret
    exact ⟨rfl, rfl⟩
end Go.Proofs.YtnmnbogjnjbopaaDoor
end

section
/-
  The library's sort of a slice of uint32: insertion sort.
-/
namespace Go.Proofs.YtnmnbogjnjbopaaDoor
open Go.RowKit Go.Lib Go.Sort

theorem insInner_on (a j : Nat) (d : Array Int) (hj : a < j) (hl : ltInt d[j]! d[j - 1]! = true) : insInner ltInt a j d = insInner ltInt a (j - 1) (swp d j (j - 1)) := by
  obtain ⟨k, rfl⟩ : ∃ k, j = k + 1 := ⟨j - 1, by omega⟩
  rw [insInner]
  simp only [Nat.add_sub_cancel] at hl ⊢
  rw [if_pos (by simp [hl]; omega)]
theorem insInner_off (a j : Nat) (d : Array Int) (h : j ≤ a ∨ ltInt d[j]! d[j - 1]! = false) : insInner ltInt a j d = d := by
  cases j with
  | zero => rfl
  | succ k =>
    rw [insInner]
    simp only [Nat.add_sub_cancel] at h
    rw [if_neg]
    rcases h with h | h
    · simp; omega
    · simp [h]
set_option maxHeartbeats 1000000 in
theorem uins_any (w0 : World) (g o N cap a b : Nat) (d : Array Int) (w : World) (h : AW w0 g o N d w) (hab : a ≤ b) (hb : b ≤ N) (hN : N < 4611686018427387904) :
    Calls Tryd.prog 105 #[.slice (some ⟨g, o, none⟩) N cap, .int .i64 a, .int .i64 b] w fun e w' => e = .returned (.tuple #[]) ∧ AW w0 g o N (insertionSort ltInt d a b) w' := by
  have H0 := Lib.hid h
  clear h
  go_enter Tryd.func105, Tryd.ntmps105
  go_wp2
  go_loopg [6] (b + 1) (fun k vi wr => ∃ (i : Nat) (dk : Array Int), vi = .int .i64 i ∧ a < i ∧ i ≤ b + 1 ∧ b + 1 - i ≤ k ∧ Hid (AW w0 g o N dk wr) ∧ Hid (insOuter ltInt a b i dk = insOuter ltInt a b (a + 1) d))
  case atStart => exact ⟨a + 1, d, by go_num, by omega, by omega, by omega, H0, rfl⟩
  case round =>
    obtain ⟨i, dk, rfl, hai, hib, hk, HA, HO⟩ := hrel
    clear H0
    by_cases hlt : i < b
    · go_wp2
      go_loopg [7] (i + 1) (fun k2 vj wr2 => ∃ (j : Nat) (dj : Array Int), vj = .int .i64 j ∧ a ≤ j ∧ j ≤ i ∧ j + 1 ≤ k2 ∧ Hid (AW w0 g o N dj wr2) ∧ Hid (insInner ltInt a j dj = insInner ltInt a i dk))
      case atStart => exact ⟨i, dk, rfl, by omega, Nat.le_refl _, by omega, HA, rfl⟩
      case round =>
        obtain ⟨j, dj, rfl, haj, hji, hk2, HB, HI⟩ := hrel
        have OUT : Hid ((j ≤ a ∨ ltInt dj[j]! dj[j - 1]! = false) → insOuter ltInt a b (i + 1) dj = insOuter ltInt a b (a + 1) d) := Lib.hid fun q => by
          have e : insOuter ltInt a b i dk = insOuter ltInt a b (i + 1) (insInner ltInt a i dk) := by rw [insOuter, if_pos hlt]
          rw [← HO.out, e, ← HI.out, insInner_off _ _ _ q]
        clear HA HO
        obtain ⟨G, hG⟩ := AW.name dj
        have hc := HB.out.cell hG
        have hf := HB.out.fz
        have HG := Lib.hid hG
        clear hG
        by_cases hja : a < j
        · go_wp2_with fail
          go_quiet (first | (go_at_call 84; refine Calls.quiet_of_same (uless_any _ _ _)))
          cases hl : ltInt (G j) (G (j - 1)) with
          | true =>
            go_wp2
            go_region
            all_goals go_wp2
            go_roundg j
            case measure => omega
            case rel =>
              refine ⟨j - 1, swp dj j (j - 1), by first | rfl | go_num, by omega, by omega, by omega, ?_, ?_⟩
              · exact Lib.hid ((HB.out.draws (nq + 1)).swap HG.out (by omega) (by omega))
              · exact Lib.hid (by rw [← HI.out, insInner_on a j dj hja (by rw [← HG.out, ← HG.out]; exact hl)])
          | false =>
            go_wp2
            go_roundg (b - i)
            case measure => omega
            case rel => exact ⟨i + 1, dj, by first | rfl | go_num, by omega, by omega, by omega, Lib.hid (HB.out.draws nq), Lib.hid (OUT.out (.inr (by rw [← HG.out, ← HG.out]; exact hl)))⟩
        · go_wp2_with fail
          go_quiet (first | (go_at_call 84; refine Calls.quiet_of_same (uless_any _ _ _)))
          go_wp2
          go_roundg (b - i)
          case measure => omega
          case rel => exact ⟨i + 1, dj, by first | rfl | go_num, by omega, by omega, by omega, Lib.hid (HB.out.draws nq), Lib.hid (OUT.out (.inl (by omega)))⟩
    · go_wp2
      go_end0
      refine ⟨rfl, ?_⟩
      have e : insOuter ltInt a b i dk = dk := by rw [insOuter, if_neg hlt]
      unfold insertionSort
      rw [← HO.out, e]
      exact HA.out
end Go.Proofs.YtnmnbogjnjbopaaDoor
end

section
/-
  The library's sort of a slice of uint32: the heap.
-/
namespace Go.Proofs.YtnmnbogjnjbopaaDoor
open Go.RowKit Go.Lib Go.Sort

theorem sift_end (hi f r : Nat) (d : Array Int) (h : hi ≤ 2 * r + 1) : siftDown ltInt hi f r d = d := by
  rw [siftDown, dif_pos h]
/-- One round: the child c is the greater one. -/
theorem sift_round (hi f r c : Nat) (d : Array Int) (h : 2 * r + 1 < hi) (hc : c = (if 2 * r + 1 + 1 < hi ∧ ltInt d[f + (2 * r + 1)]! d[f + (2 * r + 1) + 1]! = true then 2 * r + 2 else 2 * r + 1)) :
    siftDown ltInt hi f r d = if ltInt d[f + r]! d[f + c]! = true then siftDown ltInt hi f c (swp d (f + r) (f + c)) else d := by
  rw [siftDown, dif_neg (by omega)]
  by_cases q : 2 * r + 1 + 1 < hi ∧ ltInt d[f + (2 * r + 1)]! d[f + (2 * r + 1) + 1]! = true
  · rw [if_pos q] at hc
    subst hc
    rw [if_pos (by simp [q.1, q.2])]
    cases hl : ltInt d[f + r]! d[f + (2 * r + 2)]! with
    | true => simp; intro; omega
    | false => simp
  · rw [if_neg q] at hc
    subst hc
    rw [if_neg (by simpa using q)]
    cases hl : ltInt d[f + r]! d[f + (2 * r + 1)]! with
    | true => simp
    | false => simp
set_option maxHeartbeats 2000000 in
theorem usift_any (w0 : World) (g o N cap lo hi f : Nat) (d : Array Int) (w : World) (h : AW w0 g o N d w) (hf0 : f + hi ≤ N) (hN : N < 4611686018427387904) (hlo : lo ≤ N) :
    Calls Tryd.prog 122 #[.slice (some ⟨g, o, none⟩) N cap, .int .i64 lo, .int .i64 hi, .int .i64 f] w fun e w' => e = .returned (.tuple #[]) ∧ AW w0 g o N (siftDown ltInt hi f lo d) w' := by
  have H0 := Lib.hid h
  clear h
  go_enter Tryd.func122, Tryd.ntmps122
  go_wp2
  go_loopg [8] (hi + 1) (fun k vr wr => ∃ (r : Nat) (dk : Array Int), vr = .int .i64 r ∧ r ≤ N ∧ hi + 1 ≤ k + r ∧ Hid (AW w0 g o N dk wr) ∧ Hid (siftDown ltInt hi f r dk = siftDown ltInt hi f lo d))
  case atStart => exact ⟨lo, d, rfl, hlo, by omega, H0, rfl⟩
  case round =>
    obtain ⟨r, dk, rfl, hr, hk, HA, HO⟩ := hrel
    clear H0
    obtain ⟨G, hG⟩ := AW.name dk
    have hc := HA.out.cell hG
    have hf := HA.out.fz
    have HG := Lib.hid hG
    clear hG
    by_cases hlt : 2 * r + 1 < hi
    · have z1 : IntKind.i64.wrap (2 * (r : Int) + 1) = 2 * (r : Int) + 1 := by rw [IntKind.wrap_i64]; omega
      have z2 : IntKind.i64.wrap (2 * (r : Int) + 1 + 1) = 2 * (r : Int) + 1 + 1 := by rw [IntKind.wrap_i64]; omega
      by_cases hl2 : 2 * r + 1 + 1 < hi
      · have q1 : decide (2 * (r : Int) + 1 + 1 < (hi : Int)) = true := decide_eq_true (by omega)
        go_wp2_with fail
        go_quiet (first | (go_at_call 84; refine Calls.quiet_of_same (uless_any _ _ _)))
        cases hl : ltInt (G (f + (2 * r + 1))) (G (f + (2 * r + 1) + 1)) with
        | true =>
          have HB := Lib.hid (HA.out.draws nq)
          clear hc hf HA
          generalize wr.drewN nq = wq at HB ⊢
          have hc := HB.out.cell HG.out
          have hf := HB.out.fz
          have HS := Lib.hid (sift_round hi f r (2 * r + 2) dk hlt (by rw [if_pos ⟨hl2, by rw [← HG.out, ← HG.out]; exact hl⟩]))
          go_upto_region 5 with fail
          go_quiet (first | (go_at_call 84; refine Calls.quiet_of_same (uless_any _ _ _)))
          cases hm : ltInt (G (f + r)) (G (f + (2 * r + 2))) with
          | true =>
            go_wp2
            go_region
            all_goals go_wp2
            go_roundg (hi - r)
            case measure => omega
            case rel =>
              refine ⟨2 * r + 2, swp dk (f + r) (f + (2 * r + 2)), by first | rfl | go_num, by omega, by omega, Lib.hid ((HB.out.draws (nq + 1)).swap HG.out (by omega) (by omega)), Lib.hid ?_⟩
              rw [← HO.out, HS.out, if_pos (by rw [← HG.out, ← HG.out]; exact hm)]
          | false =>
            go_wp2
            (try simp only [Exit.inBlock, Exit.then]); refine bodyPost_ret (results_none rfl _ _ _) rfl ?_
            refine ⟨rfl, ?_⟩
            rw [← HO.out, HS.out, if_neg (by rw [← HG.out, ← HG.out]; simp [hm])]
            exact HB.out.draws nq
        | false =>
          have HB := Lib.hid (HA.out.draws nq)
          clear hc hf HA
          generalize wr.drewN nq = wq at HB ⊢
          have hc := HB.out.cell HG.out
          have hf := HB.out.fz
          have HS := Lib.hid (sift_round hi f r (2 * r + 1) dk hlt (by rw [if_neg (fun q => by have q2 := q.2; rw [← HG.out, ← HG.out, hl] at q2; cases q2)]))
          go_upto_region 5 with fail
          go_quiet (first | (go_at_call 84; refine Calls.quiet_of_same (uless_any _ _ _)))
          cases hm : ltInt (G (f + r)) (G (f + (2 * r + 1))) with
          | true =>
            go_wp2
            go_region
            all_goals go_wp2
            go_roundg (hi - r)
            case measure => omega
            case rel =>
              refine ⟨2 * r + 1, swp dk (f + r) (f + (2 * r + 1)), by first | rfl | go_num, by omega, by omega, Lib.hid ((HB.out.draws (nq + 1)).swap HG.out (by omega) (by omega)), Lib.hid ?_⟩
              rw [← HO.out, HS.out, if_pos (by rw [← HG.out, ← HG.out]; exact hm)]
          | false =>
            go_wp2
            (try simp only [Exit.inBlock, Exit.then]); refine bodyPost_ret (results_none rfl _ _ _) rfl ?_
            refine ⟨rfl, ?_⟩
            rw [← HO.out, HS.out, if_neg (by rw [← HG.out, ← HG.out]; simp [hm])]
            exact HB.out.draws nq
      · have q1 : decide (2 * (r : Int) + 1 + 1 < (hi : Int)) = false := decide_eq_false (by omega)
        go_wp2_with fail
        go_quiet (first | (go_at_call 84; refine Calls.quiet_of_same (uless_any _ _ _)))
        have HB := Lib.hid (HA.out.draws nq)
        clear hc hf HA
        generalize wr.drewN nq = wq at HB ⊢
        have hc := HB.out.cell HG.out
        have hf := HB.out.fz
        have HS := Lib.hid (sift_round hi f r (2 * r + 1) dk hlt (by rw [if_neg (fun q => hl2 q.1)]))
        go_upto_region 5 with fail
        go_quiet (first | (go_at_call 84; refine Calls.quiet_of_same (uless_any _ _ _)))
        cases hm : ltInt (G (f + r)) (G (f + (2 * r + 1))) with
        | true =>
          go_wp2
          go_region
          all_goals go_wp2
          go_roundg (hi - r)
          case measure => omega
          case rel =>
            refine ⟨2 * r + 1, swp dk (f + r) (f + (2 * r + 1)), by first | rfl | go_num, by omega, by omega, Lib.hid ((HB.out.draws (nq + 1)).swap HG.out (by omega) (by omega)), Lib.hid ?_⟩
            rw [← HO.out, HS.out, if_pos (by rw [← HG.out, ← HG.out]; exact hm)]
        | false =>
          go_wp2
          (try simp only [Exit.inBlock, Exit.then]); refine bodyPost_ret (results_none rfl _ _ _) rfl ?_
          refine ⟨rfl, ?_⟩
          rw [← HO.out, HS.out, if_neg (by rw [← HG.out, ← HG.out]; simp [hm])]
          exact HB.out.draws nq
    · go_wp2
      go_end0
      refine ⟨rfl, ?_⟩
      rw [← HO.out, sift_end _ _ _ _ (by omega)]
      exact HA.out
theorem usift_0 (w0 : World) (g o N cap hi f : Nat) (d : Array Int) (w : World) (h : AW w0 g o N d w) (hf0 : f + hi ≤ N) (hN : N < 4611686018427387904) :
    Calls Tryd.prog 122 #[.slice (some ⟨g, o, none⟩) N cap, .int .i64 0, .int .i64 hi, .int .i64 f] w fun e w' => e = .returned (.tuple #[]) ∧ AW w0 g o N (siftDown ltInt hi f 0 d) w' :=
  usift_any w0 g o N cap 0 hi f d w h hf0 hN (Nat.zero_le _)
theorem usift_00 (w0 : World) (g o N cap f : Nat) (d : Array Int) (w : World) (h : AW w0 g o N d w) (hf0 : f ≤ N) (hN : N < 4611686018427387904) :
    Calls Tryd.prog 122 #[.slice (some ⟨g, o, none⟩) N cap, .int .i64 0, .int .i64 0, .int .i64 f] w fun e w' => e = .returned (.tuple #[]) ∧ AW w0 g o N (siftDown ltInt 0 f 0 d) w' :=
  usift_any w0 g o N cap 0 0 f d w h hf0 hN (Nat.zero_le _)
theorem half_of {a b : Nat} (hab : a ≤ b) : ((b : Int) - (a : Int) - 1).tdiv 2 = (((b - a - 1) / 2 + 1 : Nat) : Int) - 1 := by
  by_cases h : a = b
  · subst h
    have : ((a : Int) - (a : Int) - 1) = -1 := by omega
    rw [this]
    simp
  · rw [Int.tdiv_eq_ediv_of_nonneg (by omega)]
    omega
set_option maxHeartbeats 2000000 in
theorem uheap_any (w0 : World) (g o N cap a b : Nat) (d : Array Int) (w : World) (h : AW w0 g o N d w) (hab : a ≤ b) (hb : b ≤ N) (hN : N < 4611686018427387904) :
    Calls Tryd.prog 106 #[.slice (some ⟨g, o, none⟩) N cap, .int .i64 a, .int .i64 b] w fun e w' => e = .returned (.tuple #[]) ∧ AW w0 g o N (heapSort ltInt d a b) w' := by
  have H0 := Lib.hid h
  have CS := Lib.hid (fun (dk : Array Int) (lo hi : Nat) (W : World) (hW : AW w0 g o N dk W) (hh : a + hi ≤ N) (hl : lo ≤ N) => usift_any w0 g o N cap lo hi a dk W hW hh hN hl)
  clear h
  obtain ⟨n, hn⟩ : ∃ n, n = b - a := ⟨_, rfl⟩
  have e1 : (b : Int) - (a : Int) = (n : Int) := by omega
  have hh : ((b : Int) - (a : Int) - 1).tdiv 2 = (((b - a - 1) / 2 + 1 : Nat) : Int) - 1 := half_of hab
  obtain ⟨m, hm⟩ : ∃ m, m = (n - 1) / 2 + 1 := ⟨_, rfl⟩
  rw [← hn, ← hm, e1] at hh
  have hm2 : m ≤ n + 1 := by omega
  have HM : Hid (heapSort ltInt d a b = heapPop ltInt a n (heapBuild ltInt n a m d)) := Lib.hid (by unfold heapSort; rw [← hn, ← hm])
  have HN := Lib.hid hn
  have hnN : a + n ≤ N := by omega
  clear hn hm
  go_enter Tryd.func106, Tryd.ntmps106
  go_wp2
  go_loopg [9] m (fun k vi wr => ∃ dk : Array Int, vi = .int .i64 ((k : Int) - 1) ∧ k ≤ m ∧ Hid (AW w0 g o N dk wr) ∧ Hid (heapBuild ltInt n a k dk = heapBuild ltInt n a m d))
  case atStart => exact ⟨d, rfl, Nat.le_refl _, H0, rfl⟩
  case round =>
    obtain ⟨dk, rfl, hk, HA, HO⟩ := hrel
    clear H0
    cases gk with
    | succ k =>
      have C := Lib.hid (CS.out dk k n wr HA.out (by omega) (by omega))
      go_wp2_with ((with_reducible refine (C.out).mono ?_); rintro e w1 ⟨rfl, k1⟩)
      go_roundg k
      case measure => omega
      case rel => exact ⟨_, by first | rfl | go_num, by omega, Lib.hid k1, HO⟩
    | zero =>
      go_wp2
      go_loopg [10] n (fun k vi w2 => ∃ dj : Array Int, vi = .int .i64 ((k : Int) - 1) ∧ k ≤ n ∧ Hid (AW w0 g o N dj w2) ∧ Hid (heapPop ltInt a k dj = heapPop ltInt a n (heapBuild ltInt n a m d)))
      case atStart => exact ⟨dk, rfl, Nat.le_refl _, HA, Lib.hid (by rw [← HO.out]; rfl)⟩
      case round =>
        obtain ⟨dj, rfl, hk2, HB, HP⟩ := hrel
        clear HA HO
        cases gk with
        | succ k =>
          obtain ⟨G, hG⟩ := AW.name dj
          have hc := HB.out.cell hG
          have hf := HB.out.fz
          have HG := Lib.hid hG
          clear hG
          by_cases hk0 : k = 0
          · subst hk0
            have HC := Lib.hid (HB.out.swapD HG.out (i := a) (j := a) (by omega) (by omega))
            go_wp2_with fail
            go_region
            have C := Lib.hid (usift_00 w0 g o N cap a _ _ HC.out (by omega) hN)
            go_wp2_with ((with_reducible refine (C.out).mono ?_); rintro e w3 ⟨rfl, k1⟩)
            go_roundg 0
            case measure => omega
            case rel => exact ⟨_, by first | rfl | go_num, by omega, Lib.hid k1, HP⟩
          · have HC := Lib.hid (HB.out.swapD HG.out (i := a) (j := a + k) (by omega) (by omega))
            go_wp2_with fail
            go_region
            have C := Lib.hid (usift_0 w0 g o N cap k a _ _ HC.out (by omega) hN)
            go_wp2_with ((with_reducible refine (C.out).mono ?_); rintro e w3 ⟨rfl, k1⟩)
            go_roundg k
            case measure => omega
            case rel => exact ⟨_, by first | rfl | go_num, by omega, Lib.hid k1, HP⟩
        | zero =>
          go_wp2
          go_end0
          refine ⟨rfl, ?_⟩
          have e : heapPop ltInt a 0 dj = dj := rfl
          rw [HM.out, ← HP.out, e]
          exact HB.out
end Go.Proofs.YtnmnbogjnjbopaaDoor
end

section
/-
  The library's sort of a slice of uint32: the pivot's place (some place of the range), the range turned around.
-/
namespace Go.Proofs.YtnmnbogjnjbopaaDoor
open Go.RowKit Go.Lib Go.Sort

/-- .. and a counter of the call's own, in a block that is new. -/
structure CW (w0 : World) (g o N : Nat) (d : Array Int) (c s : Nat) (W : World) : Prop where
  aw : AW w0 g o N d W
  cnt : W.cell? ⟨c, 0, none⟩ = some (.int .i64 s)
  fz : W.frozen? ⟨c, 0, none⟩ = false
  new : w0.heap.size ≤ c
variable {w0 W : World} {g o N : Nat} {d : Array Int} {c s : Nat}
theorem CW.draws (h : CW w0 g o N d c s W) (n : Nat) : CW w0 g o N d c s (W.drewN n) := ⟨h.aw.draws n, h.cnt, h.fz, h.new⟩
theorem CW.bump (h : CW w0 g o N d c s W) (t : Nat) : CW w0 g o N d c t (W.setCell ⟨c, 0, none⟩ (.int .i64 t)) :=
  ⟨⟨h.aw.sw.setCell_new c 0 _ h.new, h.aw.sz, h.aw.row⟩, World.cell?_setCell_same' _ _ _ (by rw [h.cnt]; rfl), by rw [World.frozen?_setCell]; exact h.fz, h.new⟩
theorem CW.start (h : AW w0 g o N d W) (T : TypeId) : CW w0 g o N d W.heap.size 0 (W.alloc (.cells #[.int .i64 0] T)) :=
  ⟨⟨h.sw.alloc _, h.sz, h.row⟩, by simp, by simp, h.sw.le⟩
theorem uord_any (w0 : World) (g o N cap a b c s : Nat) (d : Array Int) (w : World) (h : CW w0 g o N d c s w) (ha : a < N) (hb : b < N) (hs : s ≤ 1000) :
    Calls Tryd.prog 127 #[.slice (some ⟨g, o, none⟩) N cap, .int .i64 a, .int .i64 b, .pointer (some ⟨c, 0, none⟩)] w fun e w' => ∃ x y t : Nat, e = .returned (.tuple #[.int .i64 x, .int .i64 y]) ∧ ((x = a ∧ y = b) ∨ (x = b ∧ y = a)) ∧ t ≤ s + 1 ∧ CW w0 g o N d c t w' := by
  obtain ⟨G, hG⟩ := AW.name d
  have hc := h.aw.cell hG
  have hf := h.aw.fz
  have y0 := h.cnt
  have y1 := h.fz
  have H0 := Lib.hid h
  clear h hG
  go_enter Tryd.func127, Tryd.ntmps127
  go_wp2_with fail
  go_quiet (first | (go_at_call 84; refine Calls.quiet_of_same (uless_any _ _ _)))
  cases hl : ltInt (G b) (G a) with
  | true =>
    go_wp2
    exact bodyPost_ret (v := .tuple #[.int .i64 b, .int .i64 a]) (by simp [results, Tryd.results127, go_sem]) rfl ⟨b, a, s + 1, rfl, .inr ⟨rfl, rfl⟩, Nat.le_refl _, (H0.out.draws nq).bump (s + 1)⟩
  | false =>
    go_wp2
    exact bodyPost_ret (v := .tuple #[.int .i64 a, .int .i64 b]) (by simp [results, Tryd.results127, go_sem]) rfl ⟨a, b, s, rfl, .inl ⟨rfl, rfl⟩, Nat.le_succ _, H0.out.draws nq⟩
theorem umed_any (w0 : World) (g o N cap a b c k s : Nat) (d : Array Int) (w : World) (h : CW w0 g o N d k s w) (ha : a < N) (hb : b < N) (hc : c < N) (hs : s ≤ 900) :
    Calls Tryd.prog 124 #[.slice (some ⟨g, o, none⟩) N cap, .int .i64 a, .int .i64 b, .int .i64 c, .pointer (some ⟨k, 0, none⟩)] w fun e w' => ∃ x t : Nat, e = .returned (.int .i64 x) ∧ (x = a ∨ x = b ∨ x = c) ∧ t ≤ s + 3 ∧ CW w0 g o N d k t w' := by
  have CS := Lib.hid (fun (x y t : Nat) (W : World) (hW : CW w0 g o N d k t W) (hx : x < N) (hy : y < N) (ht : t ≤ 1000) => uord_any w0 g o N cap x y k t d W hW hx hy ht)
  have C1 := Lib.hid (CS.out a b s w h ha hb (by omega))
  have tk1 : True := trivial
  have tk2 : True := trivial
  have tk3 : True := trivial
  go_enter Tryd.func124, Tryd.ntmps124
  go_wp2_with (first
    | (have _t := tk1; (with_reducible refine (C1.out).mono ?_); rintro e w1 ⟨x1, z1, t1, rfl, hx1, ht1, k1⟩; have C2 := Lib.hid (CS.out z1 c t1 w1 k1 (by omega) hc (by omega)); clear tk1)
    | (have _t := tk2; (with_reducible refine (C2.out).mono ?_); rintro e w2 ⟨x2, z2, t2, rfl, hx2, ht2, k2⟩; have C3 := Lib.hid (CS.out x1 x2 t2 w2 k2 (by omega) (by omega) (by omega)); clear tk2)
    | (have _t := tk3; (with_reducible refine (C3.out).mono ?_); rintro e w3 ⟨x3, z3, t3, rfl, hx3, ht3, k3⟩; clear tk3))
  go_ret
  exact ⟨z3, t3, rfl, by omega, by omega, k3⟩
theorem uadj_any (w0 : World) (g o N cap a k s : Nat) (d : Array Int) (w : World) (h : CW w0 g o N d k s w) (ha : 0 < a) (hb : a + 1 < N) (hs : s ≤ 900) (hN : N < 4611686018427387904) :
    Calls Tryd.prog 123 #[.slice (some ⟨g, o, none⟩) N cap, .int .i64 a, .pointer (some ⟨k, 0, none⟩)] w fun e w' => ∃ x t : Nat, e = .returned (.int .i64 x) ∧ (x = a - 1 ∨ x = a ∨ x = a + 1) ∧ t ≤ s + 3 ∧ CW w0 g o N d k t w' := by
  have C0 := umed_any w0 g o N cap (a - 1) a (a + 1) k s d w h (by omega) (by omega) (by omega) hs
  rw [show ((a - 1 : Nat) : Int) = (a : Int) - 1 by omega, show ((a + 1 : Nat) : Int) = (a : Int) + 1 by omega] at C0
  have C := Lib.hid C0
  clear C0
  go_enter Tryd.func123, Tryd.ntmps123
  go_wp2_with ((with_reducible refine (C.out).mono ?_); rintro e w1 ⟨x1, t1, rfl, hx1, ht1, k1⟩)
  go_ret
  exact ⟨x1, t1, rfl, hx1, ht1, k1⟩
set_option maxHeartbeats 2000000 in
/-- A place of the range, and one of three hints. -/
theorem upiv_any (w0 : World) (g o N cap a b : Nat) (d : Array Int) (w : World) (h : AW w0 g o N d w) (hab : a + 8 ≤ b) (hb : b ≤ N) (hN : N < 4611686018427387904) :
    Calls Tryd.prog 108 #[.slice (some ⟨g, o, none⟩) N cap, .int .i64 a, .int .i64 b] w fun e w' => ∃ p v : Nat, e = .returned (.tuple #[.int .i64 p, .int .i64 v]) ∧ a ≤ p ∧ p < b ∧ v ≤ 2 ∧ AW w0 g o N d w' := by
  obtain ⟨n, hn⟩ : ∃ n, n = b - a := ⟨_, rfl⟩
  obtain ⟨q, hq⟩ : ∃ q, q = n / 4 := ⟨_, rfl⟩
  have e1 : (b : Int) - (a : Int) = (n : Int) := by omega
  have e2 : (n : Int).tdiv 4 = (q : Int) := by rw [Int.tdiv_eq_ediv_of_nonneg (by omega)]; omega
  have hq2 : 2 ≤ q ∧ 4 * q ≤ n := by omega
  have CM := Lib.hid (fun (x y z t : Nat) (W : World) (hW : CW w0 g o N d w.heap.size t W) (hx : x < N) (hy : y < N) (hz : z < N) (ht : t ≤ 900) => umed_any w0 g o N cap x y z w.heap.size t d W hW hx hy hz ht)
  have CA := Lib.hid (fun (x t : Nat) (W : World) (hW : CW w0 g o N d w.heap.size t W) (hx : 0 < x) (hy : x + 1 < N) (ht : t ≤ 900) => uadj_any w0 g o N cap x w.heap.size t d W hW hx hy ht hN)
  have HST := Lib.hid (CW.start h 3)
  have hnb : a + n = b := by omega
  clear h hn hq
  have tk1 : True := trivial
  have tk2 : True := trivial
  have tk3 : True := trivial
  have tk4 : True := trivial
  by_cases h50 : 50 ≤ n
  · have C0 := CA.out (a + q) 0 _ HST.out (by omega) (by omega) (by omega)
    have z1 : (a : Int) + (q : Int) = ((a + q : Nat) : Int) := by omega
    have z2 : (a : Int) + (q : Int) * 2 = ((a + q * 2 : Nat) : Int) := by omega
    have z3 : (a : Int) + (q : Int) * 3 = ((a + q * 3 : Nat) : Int) := by omega
    have zz1 : a + q < N ∧ a ≤ a + q ∧ a + q + 1 < b ∧ a < a + q := by omega
    have zz2 : a + q * 2 < N ∧ a ≤ a + q * 2 ∧ a + q * 2 + 1 < b ∧ a < a + q * 2 := by omega
    have zz3 : a + q * 3 < N ∧ a ≤ a + q * 3 ∧ a + q * 3 + 1 < b ∧ a < a + q * 3 := by omega
    generalize a + q = p1 at *
    generalize a + q * 2 = p2 at *
    generalize a + q * 3 = p3 at *
    have C1 := Lib.hid C0
    clear C0
    go_enter Tryd.func108, Tryd.ntmps108
    go_wp2_with (first
      | (have _t := tk1; (with_reducible refine (C1.out).mono ?_); rintro e w1 ⟨x1, t1, rfl, hx1, ht1, k1⟩; have C2 := Lib.hid (CA.out p2 t1 w1 k1 (by omega) (by omega) (by omega)); clear tk1)
      | (have _t := tk2; (with_reducible refine (C2.out).mono ?_); rintro e w2 ⟨x2, t2, rfl, hx2, ht2, k2⟩; have C3 := Lib.hid (CA.out p3 t2 w2 k2 (by omega) (by omega) (by omega)); clear tk2)
      | (have _t := tk3; (with_reducible refine (C3.out).mono ?_); rintro e w3 ⟨x3, t3, rfl, hx3, ht3, k3⟩; have C4 := Lib.hid (CM.out x1 x2 x3 t3 w3 k3 (by omega) (by omega) (by omega) (by omega)); clear tk3)
      | (have _t := tk4; (with_reducible refine (C4.out).mono ?_); rintro e w4 ⟨x4, t4, rfl, hx4, ht4, k4⟩; have y0 := k4.cnt; clear tk4))
    all_goals (try simp only [Exit.inBlock, Exit.then])
    all_goals first
      | (refine bodyPost_ret (v := .tuple #[.int .i64 x4, .int .i64 1]) ?_ rfl ⟨x4, 1, rfl, by omega, by omega, by omega, k4.aw⟩; simp [results, Tryd.results108, go_sem]; done)
      | (refine bodyPost_ret (v := .tuple #[.int .i64 x4, .int .i64 2]) ?_ rfl ⟨x4, 2, rfl, by omega, by omega, by omega, k4.aw⟩; simp [results, Tryd.results108, go_sem]; done)
      | (refine bodyPost_ret (v := .tuple #[.int .i64 x4, .int .i64 0]) ?_ rfl ⟨x4, 0, rfl, by omega, by omega, by omega, k4.aw⟩; simp [results, Tryd.results108, go_sem]; done)
  · have C0 := CM.out (a + q) (a + q * 2) (a + q * 3) 0 _ HST.out (by omega) (by omega) (by omega) (by omega)
    have z1 : (a : Int) + (q : Int) = ((a + q : Nat) : Int) := by omega
    have z2 : (a : Int) + (q : Int) * 2 = ((a + q * 2 : Nat) : Int) := by omega
    have z3 : (a : Int) + (q : Int) * 3 = ((a + q * 3 : Nat) : Int) := by omega
    have zz1 : a ≤ a + q ∧ a + q < b := by omega
    have zz2 : a ≤ a + q * 2 ∧ a + q * 2 < b := by omega
    have zz3 : a ≤ a + q * 3 ∧ a + q * 3 < b := by omega
    generalize a + q = p1 at *
    generalize a + q * 2 = p2 at *
    generalize a + q * 3 = p3 at *
    have C4 := Lib.hid C0
    clear C0
    go_enter Tryd.func108, Tryd.ntmps108
    go_wp2_with ((with_reducible refine (C4.out).mono ?_); rintro e w4 ⟨x4, t4, rfl, hx4, ht4, k4⟩; have y0 := k4.cnt)
    all_goals (try simp only [Exit.inBlock, Exit.then])
    all_goals first
      | (refine bodyPost_ret (v := .tuple #[.int .i64 x4, .int .i64 1]) ?_ rfl ⟨x4, 1, rfl, by omega, by omega, by omega, k4.aw⟩; simp [results, Tryd.results108, go_sem]; done)
      | (refine bodyPost_ret (v := .tuple #[.int .i64 x4, .int .i64 2]) ?_ rfl ⟨x4, 2, rfl, by omega, by omega, by omega, k4.aw⟩; simp [results, Tryd.results108, go_sem]; done)
      | (refine bodyPost_ret (v := .tuple #[.int .i64 x4, .int .i64 0]) ?_ rfl ⟨x4, 0, rfl, by omega, by omega, by omega, k4.aw⟩; simp [results, Tryd.results108, go_sem]; done)
set_option maxHeartbeats 1000000 in
theorem urev_any (w0 : World) (g o N cap a b : Nat) (d : Array Int) (w : World) (h : AW w0 g o N d w) (hab : a ≤ b) (hb : b ≤ N) (hN : N < 4611686018427387904) :
    Calls Tryd.prog 109 #[.slice (some ⟨g, o, none⟩) N cap, .int .i64 a, .int .i64 b] w fun e w' => e = .returned (.tuple #[]) ∧ ∃ d', PermIn a b d d' ∧ AW w0 g o N d' w' := by
  have H0 := Lib.hid h
  clear h
  go_enter Tryd.func109, Tryd.ntmps109
  go_wp2
  go_loopg [6, 7] (b + 1) (fun k vi vj wr => ∃ (i : Nat) (j : Int) (dk : Array Int), vi = .int .i64 i ∧ vj = .int .i64 j ∧ a ≤ i ∧ i ≤ b ∧ i + j = (a : Int) + b - 1 ∧ b + 1 - i ≤ k ∧ Hid (PermIn a b d dk) ∧ Hid (AW w0 g o N dk wr))
  case atStart => exact ⟨a, (b : Int) - 1, d, rfl, rfl, Nat.le_refl _, hab, by omega, by omega, Lib.hid (permIn_refl _ _ _), H0⟩
  case round =>
    obtain ⟨i, j, dk, rfl, rfl, hai, hib, hij, hk, HP, HA⟩ := hrel
    clear H0
    by_cases hlt : (i : Int) < j
    · obtain ⟨m, rfl⟩ : ∃ m : Nat, j = (m : Int) := ⟨j.toNat, by omega⟩
      obtain ⟨G, hG⟩ := AW.name dk
      have hc := HA.out.cell hG
      have hf := HA.out.fz
      have HG := Lib.hid hG
      clear hG
      have hmN : m < b := by omega
      have him : i < m := by omega
      have HB := Lib.hid (HA.out.swapD HG.out (i := i) (j := m) (by omega) (by omega))
      have HQ : Hid (PermIn a b d (swp dk i m)) := Lib.hid (permIn_trans _ _ _ _ _ HP.out (swp_permIn dk a b i m hai (by omega) (by omega) hmN (by rw [HA.out.sz]; exact hb)))
      go_wp2_with fail
      go_region
      all_goals go_wp2
      go_roundg (b - i)
      case measure => omega
      case rel => exact ⟨i + 1, (m : Int) - 1, _, by first | rfl | go_num, by first | rfl | go_num, by omega, by omega, by omega, by omega, HQ, HB⟩
    · go_wp2
      go_end0
      exact ⟨rfl, dk, HP.out, HA.out⟩
end Go.Proofs.YtnmnbogjnjbopaaDoor
end

section
/-
  The library's sort of a slice of pairs: the numbers of this program's functions and types.
-/
namespace Go.Proofs.YtnmnbogjnjbopaaDoor
open Go.Shelf

def sortP_ren : Go.Shelf.Ren := ⟨fun | 6 => 43 | 15 => 70 | 14 => 69 | 28 => 94 | 29 => 95 | 20 => 86 | 21 => 87 | 22 => 88 | 23 => 89 | 24 => 90 | 25 => 91 | 26 => 92 | 27 => 93 | 46 => 113 | 47 => 114 | 48 => 115 | 49 => 116 | 50 => 117 | 57 => 125 | n => n, fun | 22 => 35 | 24 => 44 | 25 => 85 | 3 => 3 | 39 => 117 | 0 => 0 | 53 => 42 | 55 => 146 | 4 => 4 | 46 => 139 | 45 => 138 | 50 => 113 | 5 => 5 | 9 => 9 | 66 => 159 | 70 => 163 | 76 => 170 | 77 => 171 | n => n, fun | n => n⟩
theorem sortP : Go.Proofs.SlLaysF0.n6 Tryd.prog sortP_ren := {
  mixed := by kernel_rfl
  f6 := ⟨Tryd.f43.name, by decide, Tryd.func43.trans (congrArg some (by kernel_rfl))⟩
  f14 := ⟨Tryd.f69.name, by decide, Tryd.func69.trans (congrArg some (by kernel_rfl))⟩
  f15 := Tryd.func70.trans (congrArg some (by kernel_rfl))
  f20 := ⟨Tryd.f86.name, by decide, Tryd.func86.trans (congrArg some (by kernel_rfl))⟩
  f21 := ⟨Tryd.f87.name, by decide, Tryd.func87.trans (congrArg some (by kernel_rfl))⟩
  f22 := ⟨Tryd.f88.name, by decide, Tryd.func88.trans (congrArg some (by kernel_rfl))⟩
  f23 := ⟨Tryd.f89.name, by decide, Tryd.func89.trans (congrArg some (by kernel_rfl))⟩
  f24 := ⟨Tryd.f90.name, by decide, Tryd.func90.trans (congrArg some (by kernel_rfl))⟩
  f25 := ⟨Tryd.f91.name, by decide, Tryd.func91.trans (congrArg some (by kernel_rfl))⟩
  f26 := ⟨Tryd.f92.name, by decide, Tryd.func92.trans (congrArg some (by kernel_rfl))⟩
  f27 := ⟨Tryd.f93.name, by decide, Tryd.func93.trans (congrArg some (by kernel_rfl))⟩
  f28 := Tryd.func94.trans (congrArg some (by kernel_rfl))
  f29 := Tryd.func95.trans (congrArg some (by kernel_rfl))
  f46 := ⟨Tryd.f113.name, by decide, Tryd.func113.trans (congrArg some (by kernel_rfl))⟩
  f47 := Tryd.func114.trans (congrArg some (by kernel_rfl))
  f48 := Tryd.func115.trans (congrArg some (by kernel_rfl))
  f49 := ⟨Tryd.f116.name, by decide, Tryd.func116.trans (congrArg some (by kernel_rfl))⟩
  f50 := ⟨Tryd.f117.name, by decide, Tryd.func117.trans (congrArg some (by kernel_rfl))⟩
  f57 := ⟨Tryd.f125.name, by decide, Tryd.func125.trans (congrArg some (by kernel_rfl))⟩
  t0 := Tryd.underlying0
  a0 := Tryd.isAgg0
  z0 := Tryd.sizeOf0
  v0 := Tryd.zeroValue0
  t3 := Tryd.underlying3
  a3 := Tryd.isAgg3
  z3 := Tryd.sizeOf3
  v3 := Tryd.zeroValue3
  t4 := Tryd.underlying4
  a4 := Tryd.isAgg4
  z4 := Tryd.sizeOf4
  v4 := Tryd.zeroValue4
  t5 := Tryd.underlying5
  a5 := Tryd.isAgg5
  z5 := Tryd.sizeOf5
  v5 := Tryd.zeroValue5
  t9 := Tryd.underlying9
  a9 := Tryd.isAgg9
  z9 := Tryd.sizeOf9
  v9 := Tryd.zeroValue9
  t22 := Tryd.underlying35
  a22 := Tryd.isAgg35
  z22 := Tryd.sizeOf35
  v22 := Tryd.zeroValue35
  t25 := Tryd.underlying85
  a25 := Tryd.isAgg85
  z25 := Tryd.sizeOf85
  v25 := Tryd.zeroValue85
  t39 := Tryd.underlying117
  a39 := Tryd.isAgg117
  z39 := Tryd.sizeOf117
  v39 := Tryd.zeroValue117
  t45 := Tryd.underlying138
  a45 := Tryd.isAgg138
  z45 := Tryd.sizeOf138
  v45 := Tryd.zeroValue138
  t46 := Tryd.underlying139
  a46 := Tryd.isAgg139
  z46 := Tryd.sizeOf139
  v46 := Tryd.zeroValue139
  t50 := Tryd.underlying113
  a50 := Tryd.isAgg113
  z50 := Tryd.sizeOf113
  v50 := Tryd.zeroValue113
  t53 := Tryd.underlying42
  a53 := Tryd.isAgg42
  z53 := Tryd.sizeOf42
  v53 := Tryd.zeroValue42
  t55 := Tryd.underlying146
  a55 := Tryd.isAgg146
  z55 := Tryd.sizeOf146
  v55 := Tryd.zeroValue146
  t66 := Tryd.underlying159
  a66 := Tryd.isAgg159
  z66 := Tryd.sizeOf159
  v66 := Tryd.zeroValue159
  t70 := Tryd.underlying163
  a70 := Tryd.isAgg163
  z70 := Tryd.sizeOf163
  v70 := Tryd.zeroValue163
  t76 := Tryd.underlying170
  a76 := Tryd.isAgg170
  z76 := Tryd.sizeOf170
  v76 := Tryd.zeroValue170
  t77 := Tryd.underlying171
  a77 := Tryd.isAgg171
  z77 := Tryd.sizeOf171
  v77 := Tryd.zeroValue171 }
end Go.Proofs.YtnmnbogjnjbopaaDoor
end

section
/-
  The library's sort of a slice of uint32: some elements changed about.
-/
namespace Go.Proofs.YtnmnbogjnjbopaaDoor
open Go.Shelf Go.RowKit Go.Lib Go.Sort

/-- .. and a state of the call's own, in a block that is new. -/
structure UW (w0 : World) (g o N : Nat) (d : Array Int) (c s : Nat) (W : World) : Prop where
  aw : AW w0 g o N d W
  cnt : W.cell? ⟨c, 0, none⟩ = some (.int .u64 s)
  fz : W.frozen? ⟨c, 0, none⟩ = false
  new : w0.heap.size ≤ c
  gl : g < w0.heap.size
  lt : s < 18446744073709551616
variable {w0 W : World} {g o N : Nat} {d : Array Int} {c s : Nat}
theorem AW.gl (h : AW w0 g o N d W) : g < w0.heap.size := by obtain ⟨d0, R, _⟩ := h.row; exact R.hblk
theorem UW.draws (h : UW w0 g o N d c s W) (n : Nat) : UW w0 g o N d c s (W.drewN n) := ⟨h.aw.draws n, h.cnt, h.fz, h.new, h.gl, h.lt⟩
theorem UW.bump (h : UW w0 g o N d c s W) (t : Nat) (ht : t < 18446744073709551616) : UW w0 g o N d c t (W.setCell ⟨c, 0, none⟩ (.int .u64 t)) :=
  ⟨⟨h.aw.sw.setCell_new c 0 _ h.new, h.aw.sz, h.aw.row⟩, World.cell?_setCell_same' _ _ _ (by rw [h.cnt]; rfl), by rw [World.frozen?_setCell]; exact h.fz, h.new, h.gl, ht⟩
theorem UW.start (h : AW w0 g o N d W) (n : Nat) (hn : n < 18446744073709551616) (T : TypeId) : UW w0 g o N d W.heap.size n (W.alloc (.cells #[.int .u64 n] T)) :=
  ⟨⟨h.sw.alloc _, h.sz, h.row⟩, by simp, by simp, h.sw.le, h.gl, hn⟩
theorem UW.swapD (h : UW w0 g o N d c s W) {G : Nat → Int} (hG : ∀ t, G t = d[t]!) {i j : Nat} (hi : i < N) (hj : j < N) :
    UW w0 g o N (swp d i j) c s ((W.setCell ⟨g, o + i, none⟩ (.int .u32 (G j))).setCell ⟨g, o + j, none⟩ (.int .u32 (G i))).drew := by
  have hne : c ≠ g := fun e => by have := h.new; have := h.gl; omega
  have q := box_kept_swap1 hne h.cnt h.fz (o + i) (o + j) (.int .u32 (G j)) (.int .u32 (G i))
  exact ⟨h.aw.swapD hG hi hj, q.1, q.2, h.new, h.gl, h.lt⟩
theorem unext_any (w : World) (c X : Nat) (hX : X < 18446744073709551616) (hc : w.cell? ⟨c, 0, none⟩ = some (.int .u64 X)) (hf : w.frozen? ⟨c, 0, none⟩ = false) :
    Calls Tryd.prog 115 #[.pointer (some ⟨c, 0, none⟩)] w fun e w' => ∃ Y : Nat, e = .returned (.int .u64 Y) ∧ Y < 18446744073709551616 ∧ w' = (w.setCell ⟨c, 0, none⟩ (.int .u64 Y)).drewN 3 := by
  have h := AnyF.xorshift_Next (P := Tryd.prog) (ρ := sortP_ren) { sortP with } c 0 X hX w hc hf
  exact h.mono fun e w' ⟨h1, h2⟩ => ⟨_, h1, xorNextN_lt X hX, h2⟩
theorem upow_any (n : Nat) (hn : n < 4611686018427387904) (w : World) :
    Calls Tryd.prog 114 #[.int .i64 n] w fun e w' => e = .returned (.int .u64 ((1 <<< bitsLen n : Nat) : Int)) ∧ w' = w :=
  AnyF.nextPowerOfTwo (P := Tryd.prog) (ρ := sortP_ren) { sortP with } n hn w
set_option maxHeartbeats 4000000 in
theorem ubrk_any (w0 : World) (g o N cap a b : Nat) (d : Array Int) (w : World) (h : AW w0 g o N d w) (hab : a + 8 ≤ b) (hb : b ≤ N) (hN : N < 4611686018427387904) :
    Calls Tryd.prog 107 #[.slice (some ⟨g, o, none⟩) N cap, .int .i64 a, .int .i64 b] w fun e w' => e = .returned (.tuple #[]) ∧ ∃ d', PermIn a b d d' ∧ AW w0 g o N d' w' := by
  obtain ⟨n, hn⟩ : ∃ n, n = b - a := ⟨_, rfl⟩
  obtain ⟨q, hq⟩ : ∃ q, q = n / 4 := ⟨_, rfl⟩
  obtain ⟨M, hM⟩ : ∃ M : Nat, M = 1 <<< bitsLen n := ⟨_, rfl⟩
  have hM1 : 1 ≤ M := by rw [hM, Nat.one_shiftLeft]; exact Nat.two_pow_pos _
  have hM2 : M ≤ 2 * n := by rw [hM, Nat.one_shiftLeft]; exact two_pow_bitsLen_le (by omega)
  have CP := Lib.hid (fun W => upow_any n (by omega) W)
  rw [← hM] at CP
  have e1 : (b : Int) - (a : Int) = (n : Int) := by omega
  have e2 : (n : Int).tdiv 4 = (q : Int) := by rw [Int.tdiv_eq_ediv_of_nonneg (by omega)]; omega
  have hq2 : 2 ≤ q ∧ 4 * q ≤ n := by omega
  have e3 : IntKind.u64.wrap (n : Int) = (n : Int) := by rw [IntKind.wrap_u64]; omega
  have HST := Lib.hid (UW.start h n (by omega) 159)
  have hnb : a + n = b := by omega
  clear h hn hq hM
  go_enter Tryd.func107, Tryd.ntmps107
  go_wp2_with (first | ((with_reducible refine (CP.out _).mono ?_); rintro e w1 ⟨rfl, rfl⟩))
  go_loopg [9] 4 (fun k vi wr => ∃ (t R i : Nat) (dk : Array Int), vi = .int .i64 i ∧ a + q * 2 + t = i + 1 ∧ t ≤ 3 ∧ 4 ≤ k + t ∧ Hid (PermIn a b d dk) ∧ Hid (UW w0 g o N dk w.heap.size R wr))
  case atStart => exact ⟨0, n, a + q * 2 - 1, d, by first | (congr 1; omega) | go_num, by omega, by omega, by omega, Lib.hid (permIn_refl _ _ _), HST⟩
  case round =>
    obtain ⟨t, R, i, dk, rfl, hi, ht, hk, HP, HA⟩ := hrel
    clear HST
    by_cases hlt : t < 3
    · have i1 : (i : Int) ≤ (a : Int) + (q : Int) * 2 + 1 := by omega
      have C := Lib.hid (unext_any _ _ R HA.out.lt HA.out.cnt HA.out.fz)
      go_upto_if 43 with ((with_reducible refine (C.out).mono ?_); rintro e w1 ⟨Y, rfl, hY, hw1⟩; have HB : Hid (UW w0 g o N dk w.heap.size Y w1) := Lib.hid (by rw [hw1]; exact (HA.out.bump Y hY).draws 3); clear hw1; obtain ⟨O, hO⟩ : ∃ O : Nat, O = Y &&& (M - 1) := ⟨_, rfl⟩; have lO : O ≤ M - 1 := (by rw [hO]; exact Nat.and_le_right); have eAnd : bits .and .u64 (Y : Int) ((M : Int) - 1) = (O : Int) := (by rw [show ((M : Int) - 1) = ((M - 1 : Nat) : Int) by omega, bits_and_u64_nat _ _ hY (by omega), hO]); clear hO)
      obtain ⟨G, hG⟩ := AW.name dk
      have hc := HB.out.aw.cell hG
      have hf := HB.out.aw.fz
      have HG := Lib.hid hG
      clear hG eAnd C
      by_cases hLO : n ≤ O
      · have zz : (O : Int) - (n : Int) = ((O - n : Nat) : Int) := by omega
        have hz : O - n < n := by omega
        by_cases hEq : i = a + (O - n)
        · have HC := Lib.hid (HB.out.swapD HG.out (i := a + (O - n)) (j := a + (O - n)) (by omega) (by omega))
          have HQ : Hid (PermIn a b d (swp dk (a + (O - n)) (a + (O - n)))) := Lib.hid (permIn_trans _ _ _ _ _ HP.out (swp_permIn dk a b (a + (O - n)) (a + (O - n)) (by omega) (by omega) (by omega) (by omega) (by rw [HA.out.aw.sz]; exact hb)))
          subst hEq
          go_wp2_with fail
          go_region
          all_goals go_wp2
          go_roundg (4 - (t + 1))
          case measure => omega
          case rel => exact ⟨t + 1, Y, a + (O - n) + 1, _, by first | rfl | go_num, by omega, by omega, by omega, HQ, HC⟩
        · have HC := Lib.hid (HB.out.swapD HG.out (i := i) (j := a + (O - n)) (by omega) (by omega))
          have HQ : Hid (PermIn a b d (swp dk i (a + (O - n)))) := Lib.hid (permIn_trans _ _ _ _ _ HP.out (swp_permIn dk a b i (a + (O - n)) (by omega) (by omega) (by omega) (by omega) (by rw [HA.out.aw.sz]; exact hb)))
          go_wp2_with fail
          go_region
          all_goals go_wp2
          go_roundg (4 - (t + 1))
          case measure => omega
          case rel => exact ⟨t + 1, Y, i + 1, _, by first | rfl | go_num, by omega, by omega, by omega, HQ, HC⟩
      · skip
        have hz : O < n := by omega
        by_cases hEq : i = a + (O)
        · have HC := Lib.hid (HB.out.swapD HG.out (i := a + (O)) (j := a + (O)) (by omega) (by omega))
          have HQ : Hid (PermIn a b d (swp dk (a + (O)) (a + (O)))) := Lib.hid (permIn_trans _ _ _ _ _ HP.out (swp_permIn dk a b (a + (O)) (a + (O)) (by omega) (by omega) (by omega) (by omega) (by rw [HA.out.aw.sz]; exact hb)))
          subst hEq
          go_wp2_with fail
          go_region
          all_goals go_wp2
          go_roundg (4 - (t + 1))
          case measure => omega
          case rel => exact ⟨t + 1, Y, a + (O) + 1, _, by first | rfl | go_num, by omega, by omega, by omega, HQ, HC⟩
        · have HC := Lib.hid (HB.out.swapD HG.out (i := i) (j := a + (O)) (by omega) (by omega))
          have HQ : Hid (PermIn a b d (swp dk i (a + (O)))) := Lib.hid (permIn_trans _ _ _ _ _ HP.out (swp_permIn dk a b i (a + (O)) (by omega) (by omega) (by omega) (by omega) (by rw [HA.out.aw.sz]; exact hb)))
          go_wp2_with fail
          go_region
          all_goals go_wp2
          go_roundg (4 - (t + 1))
          case measure => omega
          case rel => exact ⟨t + 1, Y, i + 1, _, by first | rfl | go_num, by omega, by omega, by omega, HQ, HC⟩
    · have i1 : ¬ (i : Int) ≤ (a : Int) + (q : Int) * 2 + 1 := by omega
      go_wp2
      go_end0
      exact ⟨rfl, dk, HP.out, HA.out.aw⟩
end Go.Proofs.YtnmnbogjnjbopaaDoor
end
