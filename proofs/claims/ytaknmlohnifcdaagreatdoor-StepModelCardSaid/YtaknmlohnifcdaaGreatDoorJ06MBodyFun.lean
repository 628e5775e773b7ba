import Derived.Test.YtaknmlohnifcdaaGreatDoorJ00MBits
import Derived.Deep.DeepCutAuto
import Derived.Test.YtaknmlohnifcdaaGreatDoorJ04MSortMath
import Derived.Test.YtaknmlohnifcdaaGreatDoorJ02MSeq
import Derived.Deep.QuietTactic
import Derived.BigQuiet
import Derived.StillTailTactics
import Derived.RangeFuncNested
import Derived.RangeFuncBound
import Derived.RangeFuncCalls
import Derived.RangeFuncLeaves
import Derived.Shelf.Abstract
import Derived.OwnWalkIn
import Derived.TacticsInMore
import Derived.LoopNIn
import Derived.LoopIn
import Derived.Maps.AppendAt
set_option maxHeartbeats 2000000
set_option maxRecDepth 100000
namespace Go.Proofs.YtaknmlohnifcdaaGreatDoor
open Go.RowKit Go.Lib
def Keeps (B : Nat) (w w' : World) : Prop := ∀ b o v, B ≤ b → w.cell? ⟨b, o, none⟩ = some v → w'.cell? ⟨b, o, none⟩ = some v
theorem Keeps.refl (B : Nat) (w : World) : Keeps B w w := fun _ _ _ _ h => h
theorem Keeps.grown {B : Nat} {w w' w'' : World} (h : Keeps B w w') (g : Grown w' w'') : Keeps B w w'' := fun b o v hb hv => kept_cell g (h b o v hb hv)
theorem Keeps.drew {B : Nat} {w w' : World} (h : Keeps B w w') : Keeps B w w'.drew := h
theorem Keeps.alloc {B : Nat} {w w' : World} (h : Keeps B w w') (c : Array Value) (t : TypeId) : Keeps B w (w'.alloc (.cells c t)) := h.grown ((Grown.refl _).alloc _ _)
theorem Keeps.below {B X o : Nat} {w w' : World} {u : Value} (h : Keeps B w w') (hx : X < B) : Keeps B w (w'.setCell ⟨X, o, none⟩ u) := fun b _ v hb hv => setc_far (h b _ v hb hv) (by simp; omega)
theorem Keeps.above {B X o : Nat} {w w' : World} {u : Value} (h : Keeps B w w') (hx : w.heap.size ≤ X) : Keeps B w (w'.setCell ⟨X, o, none⟩ u) := fun b _ v hb hv => setc_far (h b _ v hb hv) (by
 have := World.block_lt_of_cell? _ _ hv
 simp at this ⊢; omega)
def Stp (w w' : World) : Prop := Grown w w'
theorem Keeps.step {B : Nat} {w w' w'' : World} (h : Keeps B w w') (g : Stp w' w'') : Keeps B w w'' := h.grown g
abbrev In3 (n : Int) : Prop := -2147483648 ≤ n ∧ n < 2147483648
def FitE (e : Ent) : Prop := In3 e.a ∧ In3 e.b ∧ In3 e.c ∧ In3 e.d
def Bks (B : Nat) (L : List Ent) (w1 : World) (k : Nat) (out : Value) (wr : World) : Prop := Kep w1.heap.size w1 wr ∧ ∃ ss : List Sl, ss.length = k ∧ wr.ownsRow B 184 1 out ss.length (ss.flatMap sv) ∧
 ∀ (i : Nat) (s : Sl) (x : Ent), ss[i]? = some s → L[i]? = some x → s.2.1 = (bksE x).length ∧ wr.ownsRow 0 3 1 (.slice s.1 s.2.1 s.2.2) (bksE x).length ((bksE x).flatMap iv)
theorem Bks.next {L : List Ent} {w1 wr w2 w3 : World} {k : Nat} {out v v' : Value} {e : Ent} {ss : List Sl} {s : Sl} (h0 : Kep w1.heap.size w1 wr) (hl : ss.length = k)
 (hs : ∀ (i : Nat) (s : Sl) (x : Ent), ss[i]? = some s → L[i]? = some x → s.2.1 = (bksE x).length ∧ wr.ownsRow 0 3 1 (.slice s.1 s.2.1 s.2.2) (bksE x).length ((bksE x).flatMap iv))
 (ho : wr.ownsRow w1.heap.size 184 1 out ss.length (ss.flatMap sv)) (he : L[k]? = some e) (g2 : Kep wr.heap.size wr w2) (hv : v = .slice s.1 s.2.1 s.2.2) (hsl : s.2.1 = (bksE e).length) (hw2 : w2.ownsRow wr.heap.size 3 1 v (bksE e).length ((bksE e).flatMap iv)) {tmp : Obj}
 (o3 : w3.ownsRow w1.heap.size 184 1 v' (ss ++ [s]).length ((ss ++ [s]).flatMap sv)) (k3 : Kep w1.heap.size w2 w3) (g3 : (w2.alloc tmp).grownBy w3 out.ownBlock) : Bks w1.heap.size L w1 (k + 1) v' w3 := by
 have o2 := own_kep ho g2 (Nat.le_refl _)
 refine ⟨(h0.trans (g2.mono h0.size)).trans k3, ss ++ [s], by rw [List.length_append, hl]; rfl, o3, fun i t x hi hx => ?_⟩
 have keep : ∀ {n : Nat} {u : Value} {xs : List Value}, w2.ownsRow 0 3 1 u n xs → w3.ownsRow 0 3 1 u n xs := fun h => (h.alloc tmp).kept g3 (own_apart h o2 (by decide))
 by_cases hik : i < ss.length
 ·rw [List.getElem?_append_left hik] at hi
  obtain ⟨a, b⟩ := hs i t x hi hx
  exact ⟨a, keep (own_kep b g2 (Nat.le_refl _))⟩
 ·have hi2 : i = ss.length := by
   have := (List.getElem?_eq_some_iff.1 hi).1
   rw [List.length_append] at this
   simp at this
   omega
  subst hi2
  rw [List.getElem?_append_right (Nat.le_refl _), Nat.sub_self] at hi
  injection hi with hi
  subst hi
  rw [hl, he] at hx
  injection hx with hx
  subst hx
  exact ⟨hsl, keep (own_base (by rw [← hv]; exact hw2) (Nat.zero_le _))⟩
abbrev PeO (x y p q : Int) : Prop := ∀ w, Calls Tryz.prog 192 #[.agg #[.int .i32 x, .int .i32 y]] w fun e w' => e = .returned (.agg #[.int .i32 p, .int .i32 q]) ∧ Bel w w'
theorem peo (x y : Int) (hx : In3 x) (hy : In3 y) : PeO x y (colN x) (colN y) := fun w => by
 have c1 := colN_in hx
 have c2 := colN_in hy
 unfold colN at *
 have e1 : IntKind.i32.wrap (x / 4194304) = x / 4194304 := by rw [IntKind.wrap_i32]; omega
 have e2 : IntKind.i32.wrap (y / 4194304) = y / 4194304 := by rw [IntKind.wrap_i32]; omega
 clear c1 c2 hx hy
 go_enter Tryz.func192, Tryz.ntmps192
 go_wp2_with fail
 exact bodyPost_ret (v := .agg #[.int .i32 (x / 4194304), .int .i32 (y / 4194304)]) (by simp [results, Tryz.results192, go_sem]) rfl ⟨rfl, (bel_more (bel_more (Below.refl _ _) _) _)⟩
abbrev PeE (xa ya za ta : Int) (z : Bool) : Prop := ∀ w, Calls Tryz.prog 91 #[.agg #[.int .i32 xa, .int .i32 ya, .int .i32 za, .int .i32 ta]] w fun e w' => e = .returned (.bool z) ∧ Bel w w'
theorem pee (xa ya za ta : Int) (z : Bool) (hz : empB xa ya za ta = z) : PeE xa ya za ta z := fun w => by
 by_cases g0 : za < xa
 ·have d0 : decide (za < xa) = true := decide_eq_true g0
  obtain rfl : true = z := by rw [← hz]; unfold empB; exact (decide_eq_true (by omega)).symm
  clear hz
  go_enter Tryz.func91, Tryz.ntmps91
  go_wp2
  go_ret
  exact ⟨rfl, (bel_more (Below.refl _ _) _)⟩
 have d0 : decide (za < xa) = false := decide_eq_false g0
 by_cases g1 : ta < ya
 ·have d1 : decide (ta < ya) = true := decide_eq_true g1
  obtain rfl : true = z := by rw [← hz]; unfold empB; exact (decide_eq_true (by omega)).symm
  clear hz
  go_enter Tryz.func91, Tryz.ntmps91
  go_wp2
  go_ret
  exact ⟨rfl, (bel_more (Below.refl _ _) _)⟩
 have d1 : decide (ta < ya) = false := decide_eq_false g1
 obtain rfl : false = z := by rw [← hz]; unfold empB; exact (decide_eq_false (by omega)).symm
 clear hz
 go_enter Tryz.func91, Tryz.ntmps91
 go_wp2
 go_ret
 exact ⟨rfl, (bel_more (Below.refl _ _) _)⟩
abbrev PeS (xa ya za ta p q u v : Int) (z : Bool) : Prop := ∀ w, Calls Tryz.prog 167 #[.agg #[.int .i32 xa, .int .i32 ya, .int .i32 za, .int .i32 ta]] w fun e w' => e = .returned (.tuple #[.agg #[.int .i32 p, .int .i32 q], .agg #[.int .i32 u, .int .i32 v], .bool z]) ∧ Bel w w'
theorem pes_no (xa ya za ta : Int) (E1 : Hid (PeE xa ya za ta true)) : PeS xa ya za ta 0 0 0 0 false := fun w => by
 go_enter Tryz.func167, Tryz.ntmps167
 go_wp2_with (first
  | ((with_reducible refine (E1.out _).mono ?_); rintro e w1 ⟨rfl, g1⟩
     have i0 := bel_all g1 (a := ⟨w.heap.size, 0, none⟩) (v := .int .i32 xa) (by (repeat (first | rw [World.cell?_drew] | rw [World.cell?_alloc_past _ _ _ (by first | (simp; done) | (simp; omega))])); rw [World.cell?_alloc_at _ _ _ _ (by simp)]; rfl)
     have i1 := bel_all g1 (a := ⟨w.heap.size, 1, none⟩) (v := .int .i32 ya) (by (repeat (first | rw [World.cell?_drew] | rw [World.cell?_alloc_past _ _ _ (by first | (simp; done) | (simp; omega))])); rw [World.cell?_alloc_at _ _ _ _ (by simp)]; rfl)
     have i2 := bel_all g1 (a := ⟨w.heap.size, 2, none⟩) (v := .int .i32 za) (by (repeat (first | rw [World.cell?_drew] | rw [World.cell?_alloc_past _ _ _ (by first | (simp; done) | (simp; omega))])); rw [World.cell?_alloc_at _ _ _ _ (by simp)]; rfl)
     have i3 := bel_all g1 (a := ⟨w.heap.size, 3, none⟩) (v := .int .i32 ta) (by (repeat (first | rw [World.cell?_drew] | rw [World.cell?_alloc_past _ _ _ (by first | (simp; done) | (simp; omega))])); rw [World.cell?_alloc_at _ _ _ _ (by simp)]; rfl)
     have l0 := bel_all g1 (a := ⟨w.heap.size + 1, 0, none⟩) (v := .int .i32 0) (by (repeat (first | rw [World.cell?_drew] | rw [World.cell?_alloc_past _ _ _ (by first | (simp; done) | (simp; omega))])); rw [World.cell?_alloc_at _ _ _ _ (by simp)]; rfl)
     have l1 := bel_all g1 (a := ⟨w.heap.size + 1, 1, none⟩) (v := .int .i32 0) (by (repeat (first | rw [World.cell?_drew] | rw [World.cell?_alloc_past _ _ _ (by first | (simp; done) | (simp; omega))])); rw [World.cell?_alloc_at _ _ _ _ (by simp)]; rfl)
     have h0 := bel_all g1 (a := ⟨w.heap.size + 1 + 1, 0, none⟩) (v := .int .i32 0) (by (repeat (first | rw [World.cell?_drew] | rw [World.cell?_alloc_past _ _ _ (by first | (simp; done) | (simp; omega))])); rw [World.cell?_alloc_at _ _ _ _ (by simp)]; rfl)
     have h1 := bel_all g1 (a := ⟨w.heap.size + 1 + 1, 1, none⟩) (v := .int .i32 0) (by (repeat (first | rw [World.cell?_drew] | rw [World.cell?_alloc_past _ _ _ (by first | (simp; done) | (simp; omega))])); rw [World.cell?_alloc_at _ _ _ _ (by simp)]; rfl)
     have gg := bel_next (bel_more (bel_more (bel_more (Below.refl _ _) _) _) _) g1
     have fl0 := bel_frozen g1 (b := w.heap.size + 1) (o := 0) (by (repeat (first | rw [World.frozen?_drew] | rw [World.frozen?_alloc_past _ _ _ (by first | (simp; done) | (simp; omega))])); rw [World.frozen?_alloc_at _ _ _ _ (by simp)]) (by first | (simp; done) | (simp; omega))
     have fl1 := bel_frozen g1 (b := w.heap.size + 1) (o := 1) (by (repeat (first | rw [World.frozen?_drew] | rw [World.frozen?_alloc_past _ _ _ (by first | (simp; done) | (simp; omega))])); rw [World.frozen?_alloc_at _ _ _ _ (by simp)]) (by first | (simp; done) | (simp; omega))
     have fh0 := bel_frozen g1 (b := w.heap.size + 1 + 1) (o := 0) (by (repeat (first | rw [World.frozen?_drew] | rw [World.frozen?_alloc_past _ _ _ (by first | (simp; done) | (simp; omega))])); rw [World.frozen?_alloc_at _ _ _ _ (by simp)]) (by first | (simp; done) | (simp; omega))
     have fh1 := bel_frozen g1 (b := w.heap.size + 1 + 1) (o := 1) (by (repeat (first | rw [World.frozen?_drew] | rw [World.frozen?_alloc_past _ _ _ (by first | (simp; done) | (simp; omega))])); rw [World.frozen?_alloc_at _ _ _ _ (by simp)]) (by first | (simp; done) | (simp; omega))
     have zi_w1 : w.heap.size < w1.heap.size := World.block_lt_of_cell? _ _ i0
     have zl_w1 : w.heap.size + 1 < w1.heap.size := World.block_lt_of_cell? _ _ l0
     have zh_w1 : w.heap.size + 1 + 1 < w1.heap.size := World.block_lt_of_cell? _ _ h0))
 exact bodyPost_ret (v := .tuple #[.agg #[.int .i32 0, .int .i32 0], .agg #[.int .i32 0, .int .i32 0], .bool false]) (by simp [results, Tryz.results167, go_sem, l0, l1, h0, h1]) rfl ⟨rfl, (bel_set (bel_set (bel_set (bel_set gg (by dsimp only; omega) _) (by dsimp only; omega) _) (by dsimp only; omega) _) (by dsimp only; omega) _)⟩
theorem pes (xa ya za ta p q u v : Int) (E1 : Hid (PeE xa ya za ta false)) (C1 : Hid (PeO xa ya p q)) (C2 : Hid (PeO za ta u v)) : PeS xa ya za ta p q u v true := fun w => by
 go_enter Tryz.func167, Tryz.ntmps167
 go_wp2_with (first
  | ((with_reducible refine (E1.out _).mono ?_); rintro e w1 ⟨rfl, g1⟩
     have i0 := bel_all g1 (a := ⟨w.heap.size, 0, none⟩) (v := .int .i32 xa) (by (repeat (first | rw [World.cell?_drew] | rw [World.cell?_alloc_past _ _ _ (by first | (simp; done) | (simp; omega))])); rw [World.cell?_alloc_at _ _ _ _ (by simp)]; rfl)
     have i1 := bel_all g1 (a := ⟨w.heap.size, 1, none⟩) (v := .int .i32 ya) (by (repeat (first | rw [World.cell?_drew] | rw [World.cell?_alloc_past _ _ _ (by first | (simp; done) | (simp; omega))])); rw [World.cell?_alloc_at _ _ _ _ (by simp)]; rfl)
     have i2 := bel_all g1 (a := ⟨w.heap.size, 2, none⟩) (v := .int .i32 za) (by (repeat (first | rw [World.cell?_drew] | rw [World.cell?_alloc_past _ _ _ (by first | (simp; done) | (simp; omega))])); rw [World.cell?_alloc_at _ _ _ _ (by simp)]; rfl)
     have i3 := bel_all g1 (a := ⟨w.heap.size, 3, none⟩) (v := .int .i32 ta) (by (repeat (first | rw [World.cell?_drew] | rw [World.cell?_alloc_past _ _ _ (by first | (simp; done) | (simp; omega))])); rw [World.cell?_alloc_at _ _ _ _ (by simp)]; rfl)
     have gg := bel_next (bel_more (bel_more (bel_more (Below.refl _ _) _) _) _) g1
     have sl0 := bel_some g1 (a := ⟨w.heap.size + 1, 0, none⟩) (by (repeat (first | rw [World.cell?_drew] | rw [World.cell?_alloc_past _ _ _ (by first | (simp; done) | (simp; omega))])); rw [World.cell?_alloc_at _ _ _ _ (by simp)]; rfl)
     have sl1 := bel_some g1 (a := ⟨w.heap.size + 1, 1, none⟩) (by (repeat (first | rw [World.cell?_drew] | rw [World.cell?_alloc_past _ _ _ (by first | (simp; done) | (simp; omega))])); rw [World.cell?_alloc_at _ _ _ _ (by simp)]; rfl)
     have fl0 := bel_froz g1 (a := ⟨w.heap.size + 1, 0, none⟩) (by (repeat (first | rw [World.cell?_drew] | rw [World.cell?_alloc_past _ _ _ (by first | (simp; done) | (simp; omega))])); rw [World.cell?_alloc_at _ _ _ _ (by simp)]; rfl) (by (repeat (first | rw [World.frozen?_drew] | rw [World.frozen?_alloc_past _ _ _ (by first | (simp; done) | (simp; omega))])); rw [World.frozen?_alloc_at _ _ _ _ (by simp)])
     have fl1 := bel_froz g1 (a := ⟨w.heap.size + 1, 1, none⟩) (by (repeat (first | rw [World.cell?_drew] | rw [World.cell?_alloc_past _ _ _ (by first | (simp; done) | (simp; omega))])); rw [World.cell?_alloc_at _ _ _ _ (by simp)]; rfl) (by (repeat (first | rw [World.frozen?_drew] | rw [World.frozen?_alloc_past _ _ _ (by first | (simp; done) | (simp; omega))])); rw [World.frozen?_alloc_at _ _ _ _ (by simp)])
     have sh0 := bel_some g1 (a := ⟨w.heap.size + 1 + 1, 0, none⟩) (by (repeat (first | rw [World.cell?_drew] | rw [World.cell?_alloc_past _ _ _ (by first | (simp; done) | (simp; omega))])); rw [World.cell?_alloc_at _ _ _ _ (by simp)]; rfl)
     have sh1 := bel_some g1 (a := ⟨w.heap.size + 1 + 1, 1, none⟩) (by (repeat (first | rw [World.cell?_drew] | rw [World.cell?_alloc_past _ _ _ (by first | (simp; done) | (simp; omega))])); rw [World.cell?_alloc_at _ _ _ _ (by simp)]; rfl)
     have fh0 := bel_froz g1 (a := ⟨w.heap.size + 1 + 1, 0, none⟩) (by (repeat (first | rw [World.cell?_drew] | rw [World.cell?_alloc_past _ _ _ (by first | (simp; done) | (simp; omega))])); rw [World.cell?_alloc_at _ _ _ _ (by simp)]; rfl) (by (repeat (first | rw [World.frozen?_drew] | rw [World.frozen?_alloc_past _ _ _ (by first | (simp; done) | (simp; omega))])); rw [World.frozen?_alloc_at _ _ _ _ (by simp)])
     have fh1 := bel_froz g1 (a := ⟨w.heap.size + 1 + 1, 1, none⟩) (by (repeat (first | rw [World.cell?_drew] | rw [World.cell?_alloc_past _ _ _ (by first | (simp; done) | (simp; omega))])); rw [World.cell?_alloc_at _ _ _ _ (by simp)]; rfl) (by (repeat (first | rw [World.frozen?_drew] | rw [World.frozen?_alloc_past _ _ _ (by first | (simp; done) | (simp; omega))])); rw [World.frozen?_alloc_at _ _ _ _ (by simp)])
     have zi_w1 : w.heap.size < w1.heap.size := World.block_lt_of_cell? _ _ i0))
 refine wp_region_noPanic ?_
 refine wp_region_held_drew (S := (fun w' => w'.cell? ⟨w.heap.size, 0, none⟩ = some (.int .i32 xa) ∧ w'.cell? ⟨w.heap.size, 1, none⟩ = some (.int .i32 ya) ∧ w'.cell? ⟨w.heap.size, 2, none⟩ = some (.int .i32 za) ∧ w'.cell? ⟨w.heap.size, 3, none⟩ = some (.int .i32 ta) ∧ (w'.cell? ⟨w.heap.size + 1, 0, none⟩).isSome = true ∧ (w'.cell? ⟨w.heap.size + 1, 1, none⟩).isSome = true ∧ w'.frozen? ⟨w.heap.size + 1, 0, none⟩ = false ∧ w'.frozen? ⟨w.heap.size + 1, 1, none⟩ = false ∧ (w'.cell? ⟨w.heap.size + 1 + 1, 0, none⟩).isSome = true ∧ (w'.cell? ⟨w.heap.size + 1 + 1, 1, none⟩).isSome = true ∧ w'.frozen? ⟨w.heap.size + 1 + 1, 0, none⟩ = false ∧ w'.frozen? ⟨w.heap.size + 1 + 1, 1, none⟩ = false ∧ Bel w w')) (by kernel_rfl) (⟨by rw [World.cell?_drew]; exact i0, by rw [World.cell?_drew]; exact i1, by rw [World.cell?_drew]; exact i2, by rw [World.cell?_drew]; exact i3, by rw [World.cell?_drew]; exact sl0, by rw [World.cell?_drew]; exact sl1, by rw [World.frozen?_drew]; exact fl0, by rw [World.frozen?_drew]; exact fl1, by rw [World.cell?_drew]; exact sh0, by rw [World.cell?_drew]; exact sh1, by rw [World.frozen?_drew]; exact fh0, by rw [World.frozen?_drew]; exact fh1, bel_drew gg⟩) (fun hH => ?_)
 refine sT 0 hH ?_
 refine sT 1 hH ?_
 refine sT 2 hH ?_
 refine sN 3 hH ?_
 refine sT 4 hH ?_
 refine sT 6 hH ?_
 refine sT 7 hH ?_
 refine sN 8 hH ?_
 refine sT 9 hH ?_
 refine sN 10 hH ?_
 refine sC 5 (fun K hK => ?_)
 go_simp
 (with_reducible refine (C1.out _).mono ?_); rintro e v3_5 ⟨rfl, g⟩
 refine hK.out _ _ (by (try dsimp only); (go_split_ands; exact ⟨bel_all g (by assumption), bel_all g (by assumption), bel_all g (by assumption), bel_all g (by assumption), bel_some g (by assumption), bel_some g (by assumption), bel_froz g (by assumption) (by assumption), bel_froz g (by assumption) (by assumption), bel_some g (by assumption), bel_some g (by assumption), bel_froz g (by assumption) (by assumption), bel_froz g (by assumption) (by assumption), bel_next (by assumption) g⟩)) (fun hH2 => ?_)
 clear hK K hH; have hH := hH2; clear hH2
 try simp only [Act.put, List.setIfInBounds_toArray, List.set_cons_zero, List.set_cons_succ]
 refine sC 11 (fun K hK => ?_)
 go_simp
 (with_reducible refine (C2.out _).mono ?_); rintro e v3_11 ⟨rfl, g⟩
 refine hK.out _ _ (by (try dsimp only); (go_split_ands; exact ⟨bel_all g (by assumption), bel_all g (by assumption), bel_all g (by assumption), bel_all g (by assumption), bel_some g (by assumption), bel_some g (by assumption), bel_froz g (by assumption) (by assumption), bel_froz g (by assumption) (by assumption), bel_some g (by assumption), bel_some g (by assumption), bel_froz g (by assumption) (by assumption), bel_froz g (by assumption) (by assumption), bel_next (by assumption) g⟩)) (fun hH2 => ?_)
 clear hK K hH; have hH := hH2; clear hH2
 try simp only [Act.put, List.setIfInBounds_toArray, List.set_cons_zero, List.set_cons_succ]
 obtain ⟨i0, i1, i2, i3, sl0, sl1, fl0, fl1, sh0, sh1, fh0, fh1, gg⟩ := id hH
 refine sC 12 (fun K hK => ?_)
 obtain ⟨ql0, eql0⟩ := Option.isSome_iff_exists.1 sl0
 obtain ⟨ql1, eql1⟩ := Option.isSome_iff_exists.1 sl1
 obtain ⟨qh0, eqh0⟩ := Option.isSome_iff_exists.1 sh0
 obtain ⟨qh1, eqh1⟩ := Option.isSome_iff_exists.1 sh1
 have bl0 := eql0
 have bl1 := eql1
 have bh0 := eqh0
 have bh1 := eqh1
 go_simp
 refine hK.out _ _ (by (try dsimp only); exact ⟨sset_far (sset_far (i0) (by first | (simp; done) | (simp; omega))) (by first | (simp; done) | (simp; omega)), sset_far (sset_far (i1) (by first | (simp; done) | (simp; omega))) (by first | (simp; done) | (simp; omega)), sset_far (sset_far (i2) (by first | (simp; done) | (simp; omega))) (by first | (simp; done) | (simp; omega)), sset_far (sset_far (i3) (by first | (simp; done) | (simp; omega))) (by first | (simp; done) | (simp; omega)), sset_some _ _ _ (sset_some _ _ _ (sl0)), sset_some _ _ _ (sset_some _ _ _ (sl1)), sset_froz (sset_froz (fl0)), sset_froz (sset_froz (fl1)), sset_some _ _ _ (sset_some _ _ _ (sh0)), sset_some _ _ _ (sset_some _ _ _ (sh1)), sset_froz (sset_froz (fh0)), sset_froz (sset_froz (fh1)), bel_set (bel_set (gg) (by first | (simp; done) | (simp; omega)) _) (by first | (simp; done) | (simp; omega)) _⟩) (fun hH2 => ?_)
 clear hK K hH i0 i1 i2 i3 sl0 sl1 fl0 fl1 sh0 sh1 fh0 fh1 gg eql0 eql1 eqh0 eqh1; have hH := hH2; clear hH2
 try simp only [Act.put, List.setIfInBounds_toArray, List.set_cons_zero, List.set_cons_succ]
 obtain ⟨i0, i1, i2, i3, sl0, sl1, fl0, fl1, sh0, sh1, fh0, fh1, gg⟩ := id hH
 refine sC 13 (fun K hK => ?_)
 obtain ⟨ql0, eql0⟩ := Option.isSome_iff_exists.1 sl0
 obtain ⟨ql1, eql1⟩ := Option.isSome_iff_exists.1 sl1
 obtain ⟨qh0, eqh0⟩ := Option.isSome_iff_exists.1 sh0
 obtain ⟨qh1, eqh1⟩ := Option.isSome_iff_exists.1 sh1
 go_simp
 refine hK.out _ _ (by (try dsimp only); exact ⟨sset_far (sset_far (i0) (by first | (simp; done) | (simp; omega))) (by first | (simp; done) | (simp; omega)), sset_far (sset_far (i1) (by first | (simp; done) | (simp; omega))) (by first | (simp; done) | (simp; omega)), sset_far (sset_far (i2) (by first | (simp; done) | (simp; omega))) (by first | (simp; done) | (simp; omega)), sset_far (sset_far (i3) (by first | (simp; done) | (simp; omega))) (by first | (simp; done) | (simp; omega)), sset_some _ _ _ (sset_some _ _ _ (sl0)), sset_some _ _ _ (sset_some _ _ _ (sl1)), sset_froz (sset_froz (fl0)), sset_froz (sset_froz (fl1)), sset_some _ _ _ (sset_some _ _ _ (sh0)), sset_some _ _ _ (sset_some _ _ _ (sh1)), sset_froz (sset_froz (fh0)), sset_froz (sset_froz (fh1)), bel_set (bel_set (gg) (by first | (simp; done) | (simp; omega)) _) (by first | (simp; done) | (simp; omega)) _⟩) (fun hH2 => ?_)
 clear hK K hH i0 i1 i2 i3 sl0 sl1 fl0 fl1 sh0 sh1 fh0 fh1 gg eql0 eql1 eqh0 eqh1; have hH := hH2; clear hH2
 refine sN 14 hH ?_
 refine sE ?_
 clear i0 i1 i2 i3 sl0 sl1 fl0 fl1 sh0 sh1 fh0 fh1 gg
 obtain ⟨i0, i1, i2, i3, sl0, sl1, fl0, fl1, sh0, sh1, fh0, fh1, gg⟩ := hH
 go_wp2_with fail
 exact bodyPost_ret (v := .tuple #[.agg #[.int .i32 p, .int .i32 q], .agg #[.int .i32 u, .int .i32 v], .bool true]) (by simp [results, Tryz.results167, go_sem, bl0, bl1, bh0, bh1]) rfl ⟨rfl, gg⟩
theorem xor_u32 (a b : Nat) (ha : a < 2 ^ 32) (hb : b < 2 ^ 32) : bits .xor .u32 (a : Int) (b : Int) = ((a ^^^ b : Nat) : Int) := by
 show IntKind.u32.wrap ((BitVec.ofInt 32 (a : Int) ^^^ BitVec.ofInt 32 (b : Int)).toNat : Int) = _
 have h1 : (BitVec.ofInt 32 (a : Int)).toNat = a := by rw [BitVec.ofInt_natCast, BitVec.toNat_ofNat]; exact Nat.mod_eq_of_lt ha
 have h2 : (BitVec.ofInt 32 (b : Int)).toNat = b := by rw [BitVec.ofInt_natCast, BitVec.toNat_ofNat]; exact Nat.mod_eq_of_lt hb
 rw [BitVec.toNat_xor, h1, h2, IntKind.wrap_u32]
 have := Nat.xor_lt_two_pow ha hb
 omega
theorem bkt_eq (x y : Int) : wrap64 ((bits .xor .u32 (x % 4294967296 * 73856093 % 4294967296) (y % 4294967296 * 19349663 % 4294967296)).tmod 1024) = bktN x y := by
 obtain ⟨a, ha, la⟩ := to_nat32 (x % 4294967296 * 73856093)
 obtain ⟨b, hb, lb⟩ := to_nat32 (y % 4294967296 * 19349663)
 unfold bktN
 rw [ha, hb, xor_u32 a b la lb, Int.toNat_natCast, Int.toNat_natCast]
 generalize a ^^^ b = q
 have : ((q : Int)).tmod 1024 = (q : Int) % 1024 := rfl
 rw [this]
 unfold wrap64
 omega
abbrev PeB (x y c : Int) : Prop := ∀ w, Fac w → Calls Tryz.prog 111 #[.agg #[.int .i32 x, .int .i32 y]] w fun e w' => e = .returned (.int .i64 c) ∧ Bel w w'
theorem peb (x y : Int) : PeB x y (bktN x y) := fun w F0 => by
 go_enter Tryz.func111, Tryz.ntmps111
 go_wp2_with fail
 generalize hW : World.alloc w _ = W1
 have gg : Bel w W1 := by rw [← hW]; exact (bel_more (Below.refl _ _) _)
 have f0 := bel_all gg F0.x
 have f1 := bel_all gg F0.y
 have p0 : W1.cell? ⟨w.heap.size, 0, none⟩ = some (.int .i32 x) := by rw [← hW]; (repeat (first | rw [World.cell?_drew] | rw [World.cell?_alloc_past _ _ _ (by first | (simp; done) | (simp; omega))])); rw [World.cell?_alloc_at _ _ _ _ (by simp)]; rfl
 have p1 : W1.cell? ⟨w.heap.size, 1, none⟩ = some (.int .i32 y) := by rw [← hW]; (repeat (first | rw [World.cell?_drew] | rw [World.cell?_alloc_past _ _ _ (by first | (simp; done) | (simp; omega))])); rw [World.cell?_alloc_at _ _ _ _ (by simp)]; rfl
 clear hW
 go_quiet (fail)
 go_wp2_with fail
 go_ret
 exact ⟨by rw [bkt_eq]; rfl, ⟨gg.os, gg.tape, gg.output, gg.size, gg.block⟩⟩
def LKp (Bx : Nat) (T : TypeId) (W W' : World) : Prop := W.heap.size ≤ W'.heap.size ∧ ∀ v, Boxed W Bx T v → ∃ v', Boxed W' Bx T v' ∧ (∀ g, v'.ownBlock = some g → v.ownBlock = some g ∨ W.heap.size ≤ g) ∧
 ∀ k o, k ≠ Bx → v.ownBlock ≠ some k → W.heap[k]? = some o → o.isCells = true → W'.heap[k]? = some o
theorem LKp.trans {Bx : Nat} {T : TypeId} {A B C : World} (h : LKp Bx T A B) (k : LKp Bx T B C) : LKp Bx T A C := by
 refine ⟨Nat.le_trans h.1 k.1, fun v hv => ?_⟩
 obtain ⟨v1, b1, o1, c1⟩ := h.2 v hv
 obtain ⟨v2, b2, o2, c2⟩ := k.2 v1 b1
 refine ⟨v2, b2, fun g e => ?_, fun j o hj hn ho hc => ?_⟩
 ·rcases o2 g e with e | e
  ·exact o1 g e
  ·exact .inr (Nat.le_trans h.1 e)
 ·have hl : j < A.heap.size := (Array.getElem?_eq_some_iff.1 ho).1
  exact c2 j o hj (fun e => by rcases o1 j e with e | e <;> first | exact hn e | omega) (c1 j o hj hn ho hc) hc
theorem LKp.turn {Bx : Nat} {T : TypeId} {w : World} (W : World) (l : Nat) (o o' : Obj) (_ : w.heap.size ≤ l) (h : W.heap[l]? = some o) (hc : o.isCells = false) (_ : o.isWalk = false) : LKp Bx T W (W.putObj l o') := by
 refine ⟨by simp [World.putObj], fun v hv => ⟨v, ?_, fun g e => .inl e, fun k o2 _ _ ho hk => ?_⟩⟩
 ·have n : Bx ≠ l := fun e => by subst e; rw [show W.heap[Bx]? = _ from hv] at h; cases h; cases hc
  exact (World.putObj_heap_other n).trans hv
 ·have n : k ≠ l := fun e => by subst e; rw [ho] at h; cases h; rw [hc] at hk; cases hk
  exact (World.putObj_heap_other n).trans ho
theorem LKp.refl (Bx : Nat) (T : TypeId) (W : World) : LKp Bx T W W := ⟨Nat.le_refl _, fun v hv => ⟨v, hv, fun _ e => .inl e, fun _ _ _ _ ho _ => ho⟩⟩
def Apt (Bx : Nat) (T : TypeId) (bs : List Nat) (W : World) : Prop := ∃ v, Boxed W Bx T v ∧ ∀ b ∈ bs, b ≠ Bx ∧ v.ownBlock ≠ some b ∧ b < W.heap.size
theorem Apt.next {Bx : Nat} {T : TypeId} {bs : List Nat} {W W' : World} (h : Apt Bx T bs W) (k : LKp Bx T W W') : Apt Bx T bs W' := by
 obtain ⟨v, hv, hb⟩ := h
 obtain ⟨v', b', o', _⟩ := k.2 v hv
 refine ⟨v', b', fun b hm => ⟨(hb b hm).1, fun e => ?_, Nat.lt_of_lt_of_le (hb b hm).2.2 k.1⟩⟩
 rcases o' b e with e | e
 ·exact (hb b hm).2.1 e
 ·have := (hb b hm).2.2
  omega
theorem Apt.cell {Bx : Nat} {T : TypeId} {bs : List Nat} {W W' : World} (h : Apt Bx T bs W) (k : LKp Bx T W W') {b o : Nat} {u : Value} (hm : b ∈ bs) (hu : W.cell? ⟨b, o, none⟩ = some u) : W'.cell? ⟨b, o, none⟩ = some u := by
 obtain ⟨v, hv, hb⟩ := h
 obtain ⟨_, _, _, c'⟩ := k.2 v hv
 obtain ⟨ob, e1, e2⟩ := cells_of_cell hu
 have e3 := c' b ob (hb b hm).1 (hb b hm).2.1 e1 e2
 rw [← hu]
 exact World.cell?_of_block (e3.trans e1.symm)
theorem LKp.appended {Bx : Nat} {T : TypeId} {v v' : Value} {W w1 : World} {tmp : Obj} (hv : Boxed W Bx T v)
 (hgrow : (W.alloc tmp).grownBy w1 v.ownBlock) (hnew : ∀ g, v'.ownBlock = some g → v.ownBlock = some g ∨ W.heap.size ≤ g) (hv2 : Boxed (w1.setCell ⟨Bx, 0, none⟩ v') Bx T v') : LKp Bx T W (w1.setCell ⟨Bx, 0, none⟩ v') := by
 refine ⟨?_, fun u hu => ?_⟩
 ·have := hgrow.size
  simp at this
  have e : (w1.setCell ⟨Bx, 0, none⟩ v').heap.size = w1.heap.size := by simp [World.setCell]
  omega
 ·obtain rfl : u = v := by
   have := (show W.heap[Bx]? = _ from hu).symm.trans hv
   simpa using this
  refine ⟨v', hv2, hnew, fun j o hj hn ho _ => ?_⟩
  have hl : j < W.heap.size := (Array.getElem?_eq_some_iff.1 ho).1
  rw [Below.heap_setCell _ _ _ j hj, hgrow.block j (by simp; omega) (fun e => hn e.symm), Below.heap_alloc _ _ j hl]
  exact ho
theorem append_where {P : Program} (w : World) (base : Nat) (t ty e : TypeId) (i : TypeInfo) (z : Value) (size bytes : Nat) (ht : P.underlying t = some (.slice e)) (hi : P.info? e = some i) (hz : i.zero = some z) (hsize : i.size = size) (hby : i.bytes = bytes)
 (v : Value) (n : Nat) (xs : List Value) (hown : w.ownsRow base e size v n xs) (a : Addr) (m c : Nat) (hm : 0 < m) (news : List Value) (hl : news.length = m * size) (hnews : ∀ j u, news[j]? = some u → w.cell? (a.add j) = some u) (h1 : ∀ u ∈ news, u.oneCell' = true)
 (h63 : n + m ≤ maxLen) (hbytes : (n + m) * bytes ≤ 140737488355328) (v' : Value) (w' : World) (hr : (Builtin.append_ #[t, t] ty #[v, .slice (some a) m c]).run P w = .ok v' w') : ∀ g, v'.ownBlock = some g → v.ownBlock = some g ∨ w.heap.size ≤ g := by
 subst hsize
 subst hby
 have hsmall : n + m ≤ 9223372036854775807 := by simp only [maxLen] at h63; omega
 intro g hg
 rcases hown.2 with ⟨rfl, rfl⟩ | ⟨b, cap, cur, rfl, _, hb, _, _, hcs, _⟩
 ·have q := run_append_nil (P := P) w t ty e i z ht hi hz a m c news hl hnews hm (by omega) (by simp only [Nat.zero_add] at hbytes; omega)
  rw [hr] at q
  injection q with q1 q2
  subst q1
  simp [Value.ownBlock] at hg
  exact .inr (by omega)
 ·by_cases room : n + m ≤ cap
  ·have q := run_append_room (P := P) w t ty e i ht hi b n cap cur hb a m c news hl hnews h1 room (by rw [hl, hcs, ← Nat.add_mul]; exact Nat.mul_le_mul_right _ room)
   rw [hr] at q
   injection q with q1 q2
   subst q1
   exact .inl hg
  ·have q := run_append_grow (P := P) w t ty e i z ht hi hz ⟨b, 0, none⟩ n cap xs hown.1 (hown.cells (g := b) rfl) a m c news hl hnews (by omega) (by omega) (growslice_fits (by omega) hbytes)
   rw [hr] at q
   injection q with q1 q2
   subst q1
   simp [Value.ownBlock] at hg
   exact .inr (by omega)
theorem wpListIn_app {α : Type} (f : α → List Value) (n : Nat) (hf : ∀ x, (f x).length = n) (h1 : ∀ x, ∀ u ∈ f x, u.oneCell' = true) {Fn : Fence} {dp : Nat} {P : Program} {ops : Array Oper} {rest : List Oper} {o : Oper} {a : Act} {Q : Exit → Act → World → Prop} (hgd : o.guard = none) (s x : Operand) (t : TypeId)
 (ho : o.op = .call { callee := .builtin .append, args := #[s, x], argTypes := #[t, t] }) (e : TypeId) (z : Value) (bytes : Nat) (ht : P.underlying t = some (.slice e))
 (hi : (P.info? e).map (fun i => (i.zero, i.size, i.bytes)) = some (some z, n, bytes)) (hzs : z.cells.size = n) (hn : 0 < n)
 (B : Nat) (W : World) (v : Value) (L : List α) (y : α) (hs : a.eval s = v) (hown : W.ownsRow B e n v L.length (L.flatMap f)) (b : Nat) (hb : b = W.heap.size) (hx : a.eval x = .slice (some ⟨b, 0, none⟩) 1 1)
 (cs : Array Value) (hcs : cs.toList = f y) (hl : L.length + 1 ≤ maxLen) (hby : (L.length + 1) * bytes ≤ 140737488355328) (hB : B ≤ W.heap.size)
 (h : ∀ g cap w', w'.ownsRow B e n (.slice (some ⟨g, 0, none⟩) (L.length + 1) cap) (L ++ [y]).length ((L ++ [y]).flatMap f) → (W.alloc (.cells cs e)).grownBy w' v.ownBlock → (v.ownBlock = some g ∨ W.heap.size ≤ g) →
   wpListIn Fn dp P ops Q rest (a.put o.dst (.slice (some ⟨g, 0, none⟩) (L.length + 1) cap)) w') : wpListIn Fn dp P ops Q (o :: rest) a (W.alloc (.cells cs e)) := by
 subst hb
 obtain ⟨i0, hi0, hz0, hz1, hz2⟩ := info_parts hi
 have hnews : ∀ (j : Nat) (u : Value), (f y)[j]? = some u → (W.alloc (.cells cs e)).cell? ((⟨W.heap.size, 0, none⟩ : Addr).add j) = some u := fun j u hu => by
  have q : ((⟨W.heap.size, 0, none⟩ : Addr).add j) = ⟨W.heap.size, j, none⟩ := by simp [Addr.add]; exact Eq.symm
  rw [q, World.cell?_alloc_at _ _ _ _ rfl]
  rw [← hcs] at hu
  simpa using hu
 refine wpListIn_plain hgd fun K hK => ?_
 obtain ⟨v', w', hrun, r1, r2, _⟩ := run_append_own (P := P) (W.alloc (.cells cs e)) B t o.type e i0 z n bytes ht hi0 hz0 hz1 hz2 hzs hn v L.length (L.flatMap f) (hown.alloc _) ⟨W.heap.size, 0, none⟩ 1 1 (f y) (by rw [hf]; omega) hnews (h1 y) hl hby (by simp; omega)
 have fr := append_where (P := P) (W.alloc (.cells cs e)) B t o.type e i0 z n bytes ht hi0 hz0 hz1 hz2 v L.length (L.flatMap f) (hown.alloc _) ⟨W.heap.size, 0, none⟩ 1 1 (by decide) (f y) (by rw [hf]; omega) hnews (h1 y) hl hby v' w' hrun
 obtain ⟨g, cap, rfl⟩ := ownsRow_succ r1
 unfold Oper.wpIn
 refine ⟨?_, ?_⟩
 ·simp [Oper.about, ho, resolve, Target.leads, Sem.run_pure]
 ·rw [Oper.semAt_plain Fn _ _ (by rw [ho]; intro c hc'; cases hc')]
  simp [execOp, ho, resolve, invoke, builtin, hs, hx, hrun, Result.andThen]
  refine hK _ _ (h g cap w' (by simpa using r1) r2 ?_)
  rcases fr g rfl with q | q
  ·exact .inl q
  ·exact .inr (by simp at q; omega)
theorem cells_mem {a b c d x y : Int} (h : ¬ (c < a ∨ d < b)) (hx : colN a ≤ x ∧ x ≤ colN c) (hy : colN b ≤ y ∧ y ≤ colN d) : (x, y) ∈ cellsB a b c d := by
 unfold cellsB
 rw [show empB a b c d = false from decide_eq_false h, if_neg (by simp), allC_mem]
 unfold ncB
 omega
theorem ovl_com {x y : Ent} (h : ovlB x.a x.b x.c x.d y.a y.b y.c y.d = true) : comE x y = true := by
 have h := of_decide_eq_true h
 have h1 := colN_le (show y.a ≤ x.c by omega)
 have h2 := colN_le (show x.a ≤ y.c by omega)
 have h3 := colN_le (show y.b ≤ x.d by omega)
 have h4 := colN_le (show x.b ≤ y.d by omega)
 have g1 := colN_le (show x.a ≤ x.c by omega)
 have g2 := colN_le (show y.a ≤ y.c by omega)
 have g3 := colN_le (show x.b ≤ x.d by omega)
 have g4 := colN_le (show y.b ≤ y.d by omega)
 have m1 : (max (colN x.a) (colN y.a), max (colN x.b) (colN y.b)) ∈ cellsB x.a x.b x.c x.d := cells_mem (by omega) (by omega) (by omega)
 have m2 : (max (colN x.a) (colN y.a), max (colN x.b) (colN y.b)) ∈ cellsB y.a y.b y.c y.d := cells_mem (by omega) (by omega) (by omega)
 unfold comE bksE bksB
 rw [List.any_eq_true]
 exact ⟨_, List.mem_map_of_mem m1, by rw [List.contains_iff_mem]; exact List.mem_map_of_mem m2⟩
theorem wr32b {n q : Int} (h : wrap32 n = q) : IntKind.i32.wrap n = q := by rw [← h, IntKind.wrap_i32]; unfold wrap32; rfl
end Go.Proofs.YtaknmlohnifcdaaGreatDoor
