/-
  Package store: Clone.
-/
import Derived.Test.YtfkieieedljodaaStoreClone
import Derived.Deep.Onto
namespace Go.Proofs.Ytfkieieedljodaa
open Go.RowKit Go.Lib Go.Maps

theorem row_kep {w w' : World} {B : Nat} {e : TypeId} {v : Value} {n s : Nat} {xs : List Value} (h : w.ownsRow B e s v n xs) (k : Kep w.heap.size w w') : w'.ownsRow B e s v n xs := by
  refine ⟨h.1, ?_⟩
  rcases h.2 with hn | ⟨g, cap, cur, rfl, hb, hg, rest⟩
  · exact .inl hn
  · exact .inr ⟨g, cap, cur, rfl, hb, (k.block g (Array.getElem?_eq_some_iff.1 hg).1).trans hg, rest⟩
theorem row_shape {w : World} {B : Nat} {e : TypeId} {v : Value} {n s : Nat} {xs : List Value} (h : w.ownsRow B e s v n xs) : ∃ base cap, v = .slice base n cap := by
  rcases h.2 with ⟨rfl, rfl⟩ | ⟨g, cap, cur, rfl, _⟩
  · exact ⟨none, 0, rfl⟩
  · exact ⟨_, cap, rfl⟩
theorem IdxIs.kep {w w' : World} {mp : Option Nat} {D : List Bd} (h : IdxIs w mp D) (k : Kep w.heap.size w w') : IdxIs w' mp D := by
  rcases h with h | ⟨mb, Dm, e, ⟨es, clock, hb, r⟩, ix⟩
  · exact .inl h
  · exact .inr ⟨mb, Dm, e, ⟨es, clock, (k.block mb (Array.getElem?_eq_some_iff.1 hb).1).trans hb, r⟩, ix⟩

set_option maxRecDepth 100000 in
set_option maxHeartbeats 1000000 in
theorem clone_any {w : World} {sb : Nat} {S : Nat → Prop} {m : List Bd} (h : StoreIs w sb S m) :
    Calls Try.prog 22 #[.pointer (some ⟨sb, 0, none⟩)] w fun e w' => ∃ nb T, e = .returned (.pointer (some ⟨nb, 0, none⟩)) ∧ StoreIs w' nb T m ∧ (∀ k, T k → w.heap.size ≤ k) ∧ Kep w.heap.size w w' := by
  obtain ⟨v, mp, D, h⟩ := h
  have C := Lib.hid (sclone_any w.drew h.own.drew (by rw [h.length]; exact h.len))
  have c0 := h.c0
  have c1 := h.c1
  have l0 := h.lt sb h.ssb
  have I0 := Lib.hid h.idx
  have H := Lib.hid h
  clear h
  go_enter Try.func22, Try.ntmps22
  go_wp2
  go_region_held3 (fun w' => w'.cell? ⟨sb, 0, none⟩ = some v ∧ w'.cell? ⟨sb, 1, none⟩ = some (Value.map mp))
    (first
      | with_reducible assumption
      | (refine ⟨?_, ?_⟩ <;> (rw [World.cell?_drew]; with_reducible assumption))
      | (refine ⟨?_, ?_⟩ <;> with_reducible assumption)
      | (refine ⟨?_, ?_⟩ <;> (rw [World.cell?_alloc_past _ _ _ l2]; with_reducible assumption)))
    (first
      | ((with_reducible refine (C.out).mono ?_); rintro e w1 ⟨v', rfl, o1, k1⟩
         obtain ⟨base, cap, hv⟩ := row_shape o1
         subst hv
         have K1 : Hid (Kep w.heap.size w w1) := Lib.hid ⟨k1.os, k1.output, k1.size, k1.block⟩
         have O1 : Hid (w1.ownsRow w.heap.size 32 10 (.slice base D.length cap) D.length (flat D)) := Lib.hid o1
         have I1 := Lib.hid (I0.out.kep K1.out)
         have d0 := K1.out.all c0
         have d1 := K1.out.all c1
         clear o1 k1)
      | ((with_reducible refine (mclone_any _ I1.out).mono ?_); rintro e w2 ⟨mp', rfl, i2, r2, k2⟩
         have K2 := Lib.hid k2
         have I2 := Lib.hid i2
         have R2 := Lib.hid r2
         have e0 := k2.all d0
         have e1 := k2.all d1
         have l2 : sb < w2.heap.size := World.block_lt_of_cell? _ _ e0
         clear i2 r2 k2))
  go_wp2
  go_ret
  have s1 := K1.out.size
  have s2 := K2.out.size
  have KA : Kep w2.heap.size w2 (w2.alloc (.cells #[.slice base D.length cap, .map mp'] 27)) := Kep.alloc (Kep.refl _ _) (Nat.le_refl _) _
  have o2 := row_kep (row_kep O1.out K2.out) KA
  have hs : (w2.alloc (.cells #[.slice base D.length cap, .map mp'] 27)).heap.size = w2.heap.size + 1 := by simp
  refine ⟨w2.heap.size, fun k => w.heap.size ≤ k ∧ k < w2.heap.size + 1, rfl, ⟨.slice base D.length cap, mp', D, ⟨?_, ?_, ?_, ?_, ⟨by omega, by omega⟩, o2.mono (Nat.zero_le _), fun g e => ?_, I2.out.kep KA, fun mb e => ?_, fun k hk => by rw [hs]; exact hk.2, H.out.perm, H.out.asc, H.out.fits, H.out.len⟩⟩, fun k hk => hk.1, (K1.out.trans (K2.out.mono s1)).trans (KA.mono (by omega))⟩
  · rw [World.cell?_alloc_at _ _ _ _ rfl]; rfl
  · rw [World.cell?_alloc_at _ _ _ _ rfl]; rfl
  · rw [World.frozen?_alloc_at _ _ _ _ rfl]
  · rw [World.frozen?_alloc_at _ _ _ _ rfl]
  · have a := (row_kep O1.out K2.out).lt g e
    exact ⟨⟨a.1, by omega⟩, by omega⟩
  · have a := R2.out mb e
    exact ⟨by omega, by omega⟩
end Go.Proofs.Ytfkieieedljodaa
