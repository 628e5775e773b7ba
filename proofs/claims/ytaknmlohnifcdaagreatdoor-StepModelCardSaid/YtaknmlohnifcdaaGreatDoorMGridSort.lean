import Derived.Test.YtaknmlohnifcdaaGreatDoorMGridSort0
import Derived.Test.YtaknmlohnifcdaaGreatDoorJ08MGridCon
import Derived.Shelf.Small.Bits
import Derived.Deep.DeepCutAuto
import Derived.Shelf.SlSortCmp.WholeK
set_option maxRecDepth 100000
namespace Go.Proofs.YtaknmlohnifcdaaGreatDoor
open Go.RowKit Go.Lib Go.Shelf Go.Sort

theorem pcmp_any (x y : Int) (w : World) : Calls Tryz.prog 147 #[.int .u32 x, .int .u32 y] w fun e w' => e = .returned (.int .i64 (Lib.compareInt x y)) ∧ w = w' := by
 unfold Lib.compareInt
 by_cases h1 : x < y
 ·rw [if_pos h1]
  go_enter Tryz.func147, Tryz.ntmps147
  go_wp2
  go_ret
  exact ⟨rfl, rfl⟩
 ·rw [if_neg h1]
  by_cases h2 : x > y
  ·rw [if_pos h2]
   go_enter Tryz.func147, Tryz.ntmps147
   go_wp2
   go_ret
   exact ⟨rfl, rfl⟩
  ·rw [if_neg h2]
   go_enter Tryz.func147, Tryz.ntmps147
   go_wp2
   go_ret
   exact ⟨rfl, rfl⟩
def byHigh (p q : Int × Int) : Int := Lib.compareInt p.2 q.2
theorem pcompare_any (p q : Int × Int) (W : World) : Calls Tryz.prog 118 #[.agg (pv p).toArray, .agg (pv q).toArray] W fun e w' => e = .returned (.int .i64 (byHigh p q)) ∧ ∃ n os', w' = grow (W.drewN n) os' := by
 obtain ⟨p0, p1⟩ := p
 obtain ⟨q0, q1⟩ := q
 have C1 := Lib.hid (fun W' => pcmp_any p1 q1 W')
 show Calls Tryz.prog _ #[.agg #[.int .u32 p0, .int .u32 p1], .agg #[.int .u32 q0, .int .u32 q1]] W _
 unfold byHigh
 dsimp only
 generalize Lib.compareInt p1 q1 = r1 at *
 go_enter Tryz.func118, Tryz.ntmps118
 go_wp2_with ((with_reducible refine (C1.out _).mono ?_); rintro e w1 ⟨rfl, rfl⟩)
 go_ret
 exact ⟨rfl, 0, #[.cells #[.int .u32 p0, .int .u32 p1] 75, .cells #[.int .u32 q0, .int .u32 q1] 75], by rw [alloc_eq_grow, alloc_eq_grow, grow_grow]; rfl⟩
theorem compareI (x y : Int) : Lib.compareInt x y < 0 ↔ x < y := by
 unfold Lib.compareInt
 by_cases h1 : x < y
 ·simp [h1]
 ·by_cases h2 : y < x <;> simp [h1, h2]
theorem ltHigh (x y : Int × Int) : ltOf byHigh x y = decide (x.2 < y.2) := by
 unfold ltOf byHigh
 rw [decide_eq_decide, compareI]
theorem swoHigh : SWO (ltOf byHigh) where
 irrefl x := by rw [ltHigh]; simp
 trans x y z h1 h2 := by rw [ltHigh] at *; simp at *; omega
 ntrans x y z h1 h2 := by rw [ltHigh] at *; simp at *; omega
theorem pinsert_none (p : Option Addr) (cap : Nat) (fv : Value) (w : World) : Calls Tryz.prog 175 #[.slice p 0 cap, .int .i64 0, .int .i64 0, fv] w fun e w' => e = .returned (.tuple #[]) ∧ w = w' := by
 go_enter Tryz.func175, Tryz.ntmps175
 go_wp2
 refine wp_loop_rounds 1 ?_
 rw [rounds_succ]
 go_wp2
 go_end0
 exact ⟨rfl, rfl⟩
theorem ppdq_none (p : Option Addr) (cap : Nat) (lim : Int) (fv : Value) (w : World) : Calls Tryz.prog 145 #[.slice p 0 cap, .int .i64 0, .int .i64 0, .int .i64 lim, fv] w fun e w' => e = .returned (.tuple #[]) ∧ w = w' := by
 have hi := Lib.hid (fun W => pinsert_none p cap fv W)
 go_enter Tryz.func145, Tryz.ntmps145
 go_wp2
 refine wp_loop_rounds 1 ?_
 rw [rounds_succ]
 go_wp2_with ((with_reducible refine (hi.out _).mono ?_); rintro e w' ⟨rfl, rfl⟩)
 (try simp only [Exit.inBlock, Exit.then]); refine bodyPost_ret (results_none rfl _ _ _) rfl ?_
 exact ⟨rfl, rfl⟩
theorem psort_none (p : Option Addr) (cap : Nat) (fv : Value) (w : World) : Calls Tryz.prog 117 #[.slice p 0 cap, fv] w fun e w' => e = .returned (.tuple #[]) ∧ w = w' := by
 have hp := Lib.hid (fun lim W => ppdq_none p cap lim fv W)
 have hl : Hid (∀ W, Calls Tryz.prog 146 #[.int .u64 0] W fun e w' => e = .returned (.int .i64 (Lib.bitLen 0 : Nat)) ∧ w' = W) := Lib.hid fun W => by
  have h := Any.bits_Len (SlLaysF0.n15.bits (P := Tryz.prog) (ρ := sortP_ren) { sortP with }) 0 W (by omega) (by omega)
  exact h
 go_enter Tryz.func117, Tryz.ntmps117
 go_wp2_with (first | ((with_reducible refine (hl.out _).mono ?_); rintro e w' ⟨rfl, rfl⟩) | ((with_reducible refine (hp.out _ _).mono ?_); rintro e w' ⟨rfl, rfl⟩))
 go_end0
 exact ⟨rfl, rfl⟩
abbrev flatP (D : List (Int × Int)) : List Value := D.flatMap pv
theorem flatP_get (D : List (Int × Int)) (k : Nat) (b : Int × Int) (h : D[k]? = some b) (i : Nat) (hi : i < 2) : (flatP D)[k * 2 + i]? = (pv b)[i]? := cat_get pv_len D k b h i hi
theorem flatKP_get (D : List (Int × Int)) (t : Nat) (h : t < D.length * 2) : (flatK pv 2 D.toArray)[t]! = ((flatP D)[t]?).getD default := by
 rw [get_flatK _ _ _ t (by simpa using h)]
 have hk : t / 2 < D.length := by omega
 have e := flatP_get D (t / 2) _ (List.getElem?_eq_getElem hk) (t % 2) (by omega)
 rw [show t / 2 * 2 + t % 2 = t by omega] at e
 rw [e]
 have a : D.toArray[t / 2]! = D[t / 2] := by rw [getElem!_pos D.toArray (t / 2) (by simpa using hk)]; simp
 rw [a]
 have l : t % 2 < (pv D[t / 2]).length := by show t % 2 < 2; omega
 rw [List.getElem?_eq_getElem l, getElem!_pos (pv D[t / 2]) (t % 2) l]
 rfl
theorem le_of_sortH {d' : Array (Int × Int)} {n : Nat} (hn : d'.size = n) (h2 : SortedIn (ltOf byHigh) 0 n d') : d'.toList.Pairwise fun x y => ¬ y.2 < x.2 := by
 refine List.pairwise_iff_getElem.2 fun i j hi hj hij => ?_
 have hj' : j < d'.size := by simpa using hj
 have q := h2 i j (Nat.zero_le _) hij (by omega)
 have gi : d'[i]! = d'.toList[i] := by rw [getElem!_pos d' i (by simpa using hi)]; simp
 have gj : d'[j]! = d'.toList[j] := by rw [getElem!_pos d' j (by simpa using hj)]; simp
 rw [ltHigh, gi, gj] at q
 exact of_decide_eq_false q
theorem perm_ofP {D : List (Int × Int)} {d' : Array (Int × Int)} (h1 : PermIn 0 D.toArray.size D.toArray d') : D.Perm d'.toList := by
 obtain ⟨hs, _, hpe⟩ := h1
 rw [Array.extract_eq_self_of_le (Nat.le_of_eq hs), Array.extract_eq_self_of_le (Nat.le_refl _)] at hpe
 simpa using hpe.symm
theorem size_sortP2 {w : World} {blk off n : Nat} {d : Array (Int × Int)} {os : Array Obj} : w.heap.size ≤ (sortWorldK pv 2 w blk off n d os).heap.size := by
 unfold sortWorldK putRowK
 rw [size_grow, size_putRow]
 simp
theorem flatP_app (A M : List (Int × Int)) : flatP (A ++ M) = flatP A ++ flatP M := List.flatMap_append
theorem flatP_len (A : List (Int × Int)) : (flatP A).length = A.length * 2 := cat_len pv_len A
theorem take_cell {w : World} {g : Nat} {cur : Array Value} {t : TypeId} {fz : Nat × Nat} (h : w.heap[g]? = some (.cells cur t fz)) (j : Nat) : w.cell? ⟨g, j, none⟩ = cur[j]? := by
 simp [World.cell?, h]
theorem sort_block {w : World} {g first n : Nat} {d' : Array (Int × Int)} {os : Array Obj} {cur : Array Value} {t : TypeId} (hg : w.heap[g]? = some (.cells cur t (0, 0))) :
 ∃ cur', (sortWorldK pv 2 w g first n d' os).heap[g]? = some (.cells cur' t (0, 0)) ∧ cur'.size = cur.size := by
 have hlt : g < w.heap.size := (Array.getElem?_eq_some_iff.1 hg).1
 unfold sortWorldK putRowK putRow
 rw [heap_grow_old _ _ (by simp [mapBlock]; omega)]
 simp only [mapBlock, heap_ahead]
 rw [Array.getElem?_modify, if_pos rfl, hg]
 exact ⟨_, rfl, by unfold putCells; simp⟩
theorem psub {w : World} {B g cap : Nat} {A M : List (Int × Int)} (h : w.ownsRow B 75 2 (.slice (some ⟨g, 0, none⟩) (A ++ M).length cap) (A ++ M).length (flatP (A ++ M))) (hn : (A ++ M).length ≤ 4000000000000) (cap' : Nat) :
 Calls Tryz.prog 117 #[.slice (some ⟨g, A.length * 2, none⟩) M.length cap', .func (.func 118) #[] #[]] w fun e w' => e = .returned (.tuple #[]) ∧ (∃ m, M.Perm m ∧ (m.Pairwise fun x y => ¬ y.2 < x.2) ∧ w'.ownsRow B 75 2 (.slice (some ⟨g, 0, none⟩) (A ++ M).length cap) (A ++ m).length (flatP (A ++ m))) ∧ (∀ j, j ≠ g → j < w.heap.size → w'.heap[j]? = w.heap[j]?) ∧ Kep B w w' := by
 rcases h.2 with ⟨e, _⟩ | ⟨g', cap2, cur, e, hB, hg, hc, hcm, hcs, htk⟩
 ·cases e
 ·injection e with e1 e2 e3
  injection e1 with e1
  injection e1 with e1
  subst e1 e3
  have hlt : g < w.heap.size := (Array.getElem?_eq_some_iff.1 hg).1
  have hcell : ∀ j, j < (A ++ M).length * 2 → w.cell? ⟨g, j, none⟩ = (flatP (A ++ M))[j]? := fun j hj => h.cellAt j hj
  have hH : HoldsK pv 2 w g (A.length * 2) M.toArray := fun j hj => by
   have hj' : j < M.length * 2 := by simpa using hj
   refine ⟨?_, h.frozenAt _⟩
   rw [hcell _ (by rw [List.length_append]; omega), flatKP_get M j hj', flatP_app, List.getElem?_append_right (by rw [flatP_len]; omega), flatP_len, show A.length * 2 + j - A.length * 2 = j by omega]
   have l : j < (flatP M).length := by rw [flatP_len]; exact hj'
   rw [List.getElem?_eq_getElem l]
   rfl
  have eg : ∀ args w, (callFunc 118 args).run Tryz.prog w = .ok (.enter 118 args) w := enters_of Tryz.func118 (by kernel_rfl) rfl
  have hcon := AnyQ.slices_SortFunc sortP 2 Tryz.isAgg75 Tryz.sizeOf75 pv (fun _ => rfl) (fun x u hu => pv_one x u hu) byHigh swoHigh 118 #[] g (A.length * 2) cap' M.toArray w eg (fun _ _ _ _ x y => pcompare_any x y _) hH hlt (by simp at hn ⊢; omega)
  change Calls Tryz.prog 117 _ _ _ at hcon
  rw [show M.toArray.size = M.length by simp] at hcon
  refine hcon.mono fun e w' ⟨h1, d', n, os, hpe, hso, hw⟩ => ⟨h1, ?_, ?_, ?_⟩
  ·have hs : d'.size = M.toArray.size := by simpa using hpe.1
   have hp : M.Perm d'.toList := perm_ofP (by simpa using hpe)
   refine ⟨d'.toList, hp, le_of_sortH (by simpa using hs) hso, ?_⟩
   obtain ⟨m, hm⟩ : ∃ m, m = d'.toList := ⟨_, rfl⟩
   rw [← hm] at hp ⊢
   have hlen : m.length = M.length := hp.length_eq.symm
   have hda : d' = m.toArray := by rw [hm]
   subst hw
   obtain ⟨cur', hb', hsz'⟩ := sort_block (first := A.length * 2) (n := n) (d' := d') (os := os) hg
   have hN : (A ++ m).length = (A ++ M).length := by rw [List.length_append, List.length_append, hlen]
   refine ⟨by rw [flatP_len], .inr ⟨g, cap, cur', by rw [hN], hB, hb', by rw [hN]; exact hc, hcm, by rw [hsz', hcs], ?_⟩⟩
   refine List.ext_getElem? fun t => ?_
   by_cases ht : t < (A ++ m).length * 2
   ·rw [List.getElem?_take_of_lt ht, Array.getElem?_toList, ← take_cell hb']
    by_cases h2 : t < A.length * 2
    ·rw [flatP_app, List.getElem?_append_left (by rw [flatP_len]; exact h2)]
     unfold sortWorldK putRowK
     rw [cell?_grow _ _ _ (by rw [size_putRow]; simpa using hlt), cell?_putRow_other id _ g _ _ ⟨g, t, none⟩ (.inr (.inl h2))]
     show w.cell? ⟨g, t, none⟩ = _
     rw [hcell t (by rw [List.length_append]; omega), flatP_app, List.getElem?_append_left (by rw [flatP_len]; exact h2)]
    ·rw [flatP_app, List.getElem?_append_right (by rw [flatP_len]; omega), flatP_len]
     have hj : t - A.length * 2 < m.length * 2 := by rw [List.length_append] at ht; omega
     have hd : d'.size * 2 = m.length * 2 := by rw [hda]; simp
     unfold sortWorldK
     rw [cell?_grow _ _ _ (by unfold putRowK; rw [size_putRow]; simpa using hlt)]
     have e := cell?_putRow id (Go.Sort.ahead w n) g (A.length * 2) (flatK pv 2 M.toArray) (flatK pv 2 d') (Go.Sort.holds_ahead id w n g _ _ hH) (by simp [hs]) (t - A.length * 2) (by simpa using (by omega : t - A.length * 2 < d'.size * 2))
     rw [show A.length * 2 + (t - A.length * 2) = t by omega] at e
     unfold putRowK
     rw [e, hda, flatKP_get m _ hj]
     have l : t - A.length * 2 < (flatP m).length := by rw [flatP_len]; exact hj
     rw [List.getElem?_eq_getElem l]
     rfl
   ·rw [List.getElem?_eq_none (by rw [List.length_take]; omega), List.getElem?_eq_none (by rw [flatP_len]; omega)]
  ·intro j hj hjl
   subst hw
   unfold sortWorldK putRowK putRow
   rw [heap_grow_old _ _ (by simp [mapBlock]; omega)]
   simp only [mapBlock, heap_ahead]
   rw [Array.getElem?_modify, if_neg (by omega)]
  ·subst hw
   refine ⟨rfl, rfl, size_sortP2, fun k hk => ?_⟩
   unfold sortWorldK putRowK putRow
   rw [heap_grow_old _ _ (by simp [mapBlock]; omega)]
   simp only [mapBlock, heap_ahead]
   rw [Array.getElem?_modify, if_neg (by omega)]
end Go.Proofs.YtaknmlohnifcdaaGreatDoor
