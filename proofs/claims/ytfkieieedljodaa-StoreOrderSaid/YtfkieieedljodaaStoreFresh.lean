/-
  Package store: a store of a call's own.
-/
import Derived.Test.YtfkieieedljodaaStoreRemove
import Derived.Test.YtfkieieedljodaaStoreBodies
import Derived.Test.YtfkieieedljodaaStoreClone2
import Derived.Test.YtfkieieedljodaaStoreAll
namespace Go.Proofs.Ytfkieieedljodaa
open Go.RowKit Go.Lib Go.Maps

/-- A store whose blocks the world B had not. -/
def Fresh (B : Nat) (w : World) (sb : Nat) (m : List Bd) : Prop := B ≤ w.heap.size ∧ ∃ S, StoreIs w sb S m ∧ ∀ k, S k → B ≤ k
theorem Kep.next {a b c : World} (h : Kep a.heap.size a b) (k : Kep b.heap.size b c) : Kep a.heap.size a c := h.trans (k.mono h.size)
theorem Kep.made (w : World) (o : Obj) : Kep w.heap.size w (w.alloc o) := Kep.alloc (Kep.refl _ _) (Nat.le_refl _) o
theorem Own.lst {w : World} {B : Nat} {v : Value} {L : List Bd} (h : Own w B v L) : Lst w v L := h.1
theorem Fresh.kep {B sb : Nat} {w w' : World} {m : List Bd} (h : Fresh B w sb m) (g : Kep w.heap.size w w') : Fresh B w' sb m := by
  obtain ⟨hB, S, s, hS⟩ := h
  exact ⟨Nat.le_trans hB g.size, S, s.kep g, hS⟩
/-- What another store's steps keep. -/
theorem Fresh.far {B N sb : Nat} {w w' : World} {m : List Bd} {S : Nat → Prop} (hB : B ≤ w.heap.size) (s : StoreIs w sb S m) (hS : ∀ k, S k → B ≤ k ∧ k < N) (g : Kep N w w') : Fresh B w' sb m := by
  obtain ⟨v, mp, D, s⟩ := s
  exact ⟨Nat.le_trans hB g.size, S, ⟨v, mp, D, s.kept g.size fun k hk => g.block k (hS k hk).2⟩, fun k hk => (hS k hk).1⟩
theorem store_new (w : World) : StoreIs (w.alloc (.cells #[Value.slice none 0 0, Value.map none] 27)) w.heap.size (fun k => k = w.heap.size) [] := by
  refine ⟨.slice none 0 0, none, [], ⟨?_, ?_, ?_, ?_, rfl, World.ownsRow_nil _ _ _ _, fun g e => by (cases e), .inl ⟨rfl, rfl⟩, fun mb e => by (cases e), fun k hk => by rw [hk]; simp, List.Perm.refl _, trivial, fun b hb => by simp at hb, by simp⟩⟩
  · rw [World.cell?_alloc_at _ _ _ _ rfl]; rfl
  · rw [World.cell?_alloc_at _ _ _ _ rfl]; rfl
  · rw [World.frozen?_alloc_at _ _ _ _ rfl]
  · rw [World.frozen?_alloc_at _ _ _ _ rfl]
theorem fresh_new (w : World) : Fresh w.heap.size (w.alloc (.cells #[Value.slice none 0 0, Value.map none] 27)) w.heap.size [] := ⟨by simp, _, store_new w, fun k hk => by rw [hk]; exact Nat.le_refl _⟩
/-- A call's result: a code; the store now holds other bodies; below B all is as it was. -/
def FDone (B : Nat) (w : World) (sb : Nat) (c : Int) (m : List Bd) (e : Ending) (w' : World) : Prop := e = .returned (.int .i64 c) ∧ Fresh B w' sb m ∧ Kep B w w'
theorem Done.fresh {B sb : Nat} {w w' : World} {S : Nat → Prop} {c : Int} {m : List Bd} {e : Ending} (h : Done w sb S c m e w') (hB : B ≤ w.heap.size) (hS : ∀ k, S k → B ≤ k) : FDone B w sb c m e w' := by
  obtain ⟨h1, h2, h3⟩ := h
  refine ⟨h1, ⟨Nat.le_trans hB h3.size, _, h2, fun k hk => ?_⟩, h3.kep hB hS⟩
  rcases hk with hk | hk
  · exact hS k hk
  · omega
theorem fadd {B sb : Nat} {w : World} {m : List Bd} (h : Fresh B w sb m) (b : Bd) (hb : Fits b) : Calls Try.prog 9 #[Value.pointer (some ⟨sb, 0, none⟩), Value.agg #[Value.int .u32 b.k, Value.int .i32 b.r, Value.int .i32 b.ax, Value.int .i32 b.ay, Value.int .i32 b.m, Value.int .i32 b.o, Value.int .i32 b.px, Value.int .i32 b.py, Value.int .i32 b.vx, Value.int .i32 b.vy]] w (FDone B w sb (addE m b) (addL m b)) := by
  obtain ⟨hB, S, s, hS⟩ := h
  exact (add_any s b hb).mono fun e w' q => q.fresh hB hS
theorem fset {B sb : Nat} {w : World} {m : List Bd} (h : Fresh B w sb m) (b : Bd) (hb : Fits b) : Calls Try.prog 13 #[Value.pointer (some ⟨sb, 0, none⟩), Value.agg #[Value.int .u32 b.k, Value.int .i32 b.r, Value.int .i32 b.ax, Value.int .i32 b.ay, Value.int .i32 b.m, Value.int .i32 b.o, Value.int .i32 b.px, Value.int .i32 b.py, Value.int .i32 b.vx, Value.int .i32 b.vy]] w (FDone B w sb (setE m b) (setL m b)) := by
  obtain ⟨hB, S, s, hS⟩ := h
  exact (set_any s b hb).mono fun e w' q => q.fresh hB hS
theorem fremove {B sb : Nat} {w : World} {m : List Bd} (h : Fresh B w sb m) {key : Int} (hk : (Lit.int .u32 key).wf = true) : Calls Try.prog 11 #[Value.pointer (some ⟨sb, 0, none⟩), .int .u32 key] w (FDone B w sb (removeE m key) (removeL m key)) := by
  obtain ⟨hB, S, s, hS⟩ := h
  exact (remove_any s hk).mono fun e w' q => q.fresh hB hS
theorem flen {B sb : Nat} {w : World} {m : List Bd} (h : Fresh B w sb m) : Calls Try.prog 17 #[Value.pointer (some ⟨sb, 0, none⟩)] w fun e w' => e = .returned (.int .i64 m.length) ∧ w = w' := by
  obtain ⟨_, S, s, _⟩ := h
  exact len_any s
theorem fbodies {B sb : Nat} {w : World} {m : List Bd} (h : Fresh B w sb m) : Calls Try.prog 19 #[Value.pointer (some ⟨sb, 0, none⟩)] w fun e w' => ∃ v', e = .returned v' ∧ Own w' w.heap.size v' m ∧ Kep w.heap.size w w' := by
  obtain ⟨_, S, s, _⟩ := h
  exact bodies_any s
theorem fclone {B sb : Nat} {w : World} {m : List Bd} (h : Fresh B w sb m) : Calls Try.prog 22 #[Value.pointer (some ⟨sb, 0, none⟩)] w fun e w' => ∃ nb, e = .returned (.pointer (some ⟨nb, 0, none⟩)) ∧ Fresh w.heap.size w' nb m ∧ Kep w.heap.size w w' := by
  obtain ⟨_, S, s, _⟩ := h
  exact (clone_any s).mono fun e w' ⟨nb, T, h1, h2, h3, h4⟩ => ⟨nb, h1, ⟨h4.size, T, h2, h3⟩, h4⟩
theorem Fresh.asc {B sb : Nat} {w : World} {m : List Bd} (h : Fresh B w sb m) : Asc m ∧ m.length ≤ 4096 ∧ ∀ b ∈ m, Fits b := by
  obtain ⟨_, S, ⟨v, mp, D, s⟩, _⟩ := h
  exact ⟨s.asc, s.len, s.fits⟩
/-- A new block of bodies, as a slice. -/
theorem lst_new (w : World) (L : List Bd) (t : TypeId) (cap : Nat) : Lst (w.alloc (.cells (flat L).toArray t)) (.slice (some ⟨w.heap.size, 0, none⟩) L.length cap) L := by
  refine .inr ⟨w.heap.size, 0, cap, rfl, fun k b hb i hi => ?_⟩
  rw [World.cell?_alloc_at _ _ _ _ rfl, ← flat_get L k b hb i hi]
  simp
theorem add_is {m : List Bd} {b : Bd} (h1 : chkB b = 0) (h2 : look m b.k = none) (h3 : m.length < 4096) : addE m b = 0 ∧ addL m b = put m b false := by
  unfold addE addL
  have d1 : ¬ (chkB b ≠ 0) := fun q => q h1
  have d2 : ¬ (look m b.k ≠ none) := fun q => q h2
  have d3 : ¬ (4096 ≤ m.length) := by omega
  rw [if_neg d1, if_neg d1, if_neg d2, if_neg d2, if_neg d3, if_neg d3]
  exact ⟨rfl, rfl⟩
theorem add_dup_is {m : List Bd} {b : Bd} (h1 : chkB b = 0) (h2 : look m b.k ≠ none) : addE m b = 10 ∧ addL m b = m := by
  unfold addE addL
  have d1 : ¬ (chkB b ≠ 0) := fun q => q h1
  rw [if_neg d1, if_neg d1, if_pos h2, if_pos h2]
  exact ⟨rfl, rfl⟩
theorem add_bad_is {m : List Bd} {b : Bd} {c : Int} (h1 : chkB b = c) (h2 : c ≠ 0) : addE m b = c ∧ addL m b = m := by
  unfold addE addL
  have d1 : chkB b ≠ 0 := by rw [h1]; exact h2
  rw [if_pos d1, if_pos d1]
  exact ⟨h1, rfl⟩
theorem add_full_is {m : List Bd} {b : Bd} (h1 : chkB b = 0) (h2 : look m b.k = none) (h3 : 4096 ≤ m.length) : addE m b = 12 ∧ addL m b = m := by
  unfold addE addL
  have d1 : ¬ (chkB b ≠ 0) := fun q => q h1
  have d2 : ¬ (look m b.k ≠ none) := fun q => q h2
  rw [if_neg d1, if_neg d1, if_neg d2, if_neg d2, if_pos h3, if_pos h3]
  exact ⟨rfl, rfl⟩
theorem remove_is {m : List Bd} {key : Int} (h : look m key ≠ none) : removeE m key = 0 ∧ removeL m key = put m (bare key) true := ⟨if_neg h, if_neg h⟩
theorem remove_no_is {m : List Bd} {key : Int} (h : look m key = none) : removeE m key = 11 ∧ removeL m key = m := ⟨if_pos h, if_pos h⟩
/-- A store of a call's own, and a slice that reads as a list and lies apart from it. -/
def Sep (B : Nat) (w : World) (sb : Nat) (m : List Bd) (v : Value) (L : List Bd) : Prop := B ≤ w.heap.size ∧ ∃ S, StoreIs w sb S m ∧ (∀ k, S k → B ≤ k) ∧ Lst w v L ∧ ∀ g, v.ownBlock = some g → ¬ S g ∧ g < w.heap.size
theorem Sep.fresh {B sb : Nat} {w : World} {m L : List Bd} {v : Value} (h : Sep B w sb m v L) : Fresh B w sb m := by
  obtain ⟨hB, S, s, hS, _⟩ := h
  exact ⟨hB, S, s, hS⟩
theorem Sep.lst {B sb : Nat} {w : World} {m L : List Bd} {v : Value} (h : Sep B w sb m v L) : Lst w v L := by
  obtain ⟨_, S, _, _, l, _⟩ := h
  exact l
/-- A slice that was made after the store. -/
theorem Sep.of_new {B sb : Nat} {w w' : World} {m L : List Bd} {v : Value} (h : Fresh B w sb m) (k : Kep w.heap.size w w') (l : Lst w' v L) (n : New w v w') : Sep B w' sb m v L := by
  obtain ⟨hB, S, s, hS⟩ := h
  refine ⟨Nat.le_trans hB k.size, S, s.kep k, hS, l, fun g e => ⟨fun q => ?_, (n g e).2⟩⟩
  obtain ⟨_, _, _, q'⟩ := s
  have := q'.lt g q
  have := (n g e).1
  omega
theorem Sep.kep {B sb : Nat} {w w' : World} {m L : List Bd} {v : Value} (h : Sep B w sb m v L) (k : Kep w.heap.size w w') : Sep B w' sb m v L := by
  obtain ⟨hB, S, s, hS, l, n⟩ := h
  exact ⟨Nat.le_trans hB k.size, S, s.kep k, hS, l.kep k, fun g e => ⟨(n g e).1, Nat.lt_of_lt_of_le (n g e).2 k.size⟩⟩
/-- The list handed back is the old one, or a new one. -/
theorem Sep.turn {B sb : Nat} {w w' : World} {m L L' : List Bd} {v v' : Value} (h : Sep B w sb m v L) (k : Kep w.heap.size w w') (l : Lst w' v' L') (n : v' = v ∨ New w v' w') : Sep B w' sb m v' L' := by
  rcases n with e | e
  · subst e
    obtain ⟨hB, S, s, hS, _, n⟩ := h
    exact ⟨Nat.le_trans hB k.size, S, s.kep k, hS, l, fun g e => ⟨(n g e).1, Nat.lt_of_lt_of_le (n g e).2 k.size⟩⟩
  · exact Sep.of_new h.fresh k l e
def SDone (B : Nat) (w : World) (sb : Nat) (c : Int) (m : List Bd) (v : Value) (L : List Bd) (e : Ending) (w' : World) : Prop := e = .returned (.int .i64 c) ∧ Sep B w' sb m v L ∧ Kep B w w'
theorem Done.sep {B sb : Nat} {w w' : World} {S : Nat → Prop} {c : Int} {m L : List Bd} {v : Value} {e : Ending} (h : Done w sb S c m e w') (hB : B ≤ w.heap.size) (hS : ∀ k, S k → B ≤ k) (l : Lst w v L) (n : ∀ g, v.ownBlock = some g → ¬ S g ∧ g < w.heap.size) : SDone B w sb c m v L e w' := by
  obtain ⟨h1, h2, h3⟩ := h
  refine ⟨h1, ⟨Nat.le_trans hB h3.size, _, h2, fun k hk => ?_, ?_, fun g e => ⟨?_, Nat.lt_of_lt_of_le (n g e).2 h3.size⟩⟩, h3.kep hB hS⟩
  · rcases hk with hk | hk
    · exact hS k hk
    · omega
  · rcases l with l | ⟨g, o, c', rfl, q2⟩
    · exact .inl l
    · have z := n g rfl
      refine .inr ⟨g, o, c', rfl, fun k x hx i hi => ?_⟩
      rw [← q2 k x hx i hi]
      exact World.cell?_of_block (h3.block g z.2 z.1)
  · rintro (q | q)
    · exact (n g e).1 q
    · have := (n g e).2; omega
theorem sadd {B sb : Nat} {w : World} {m L : List Bd} {v : Value} (h : Sep B w sb m v L) (b : Bd) (hb : Fits b) : Calls Try.prog 9 #[Value.pointer (some ⟨sb, 0, none⟩), Value.agg #[Value.int .u32 b.k, Value.int .i32 b.r, Value.int .i32 b.ax, Value.int .i32 b.ay, Value.int .i32 b.m, Value.int .i32 b.o, Value.int .i32 b.px, Value.int .i32 b.py, Value.int .i32 b.vx, Value.int .i32 b.vy]] w (SDone B w sb (addE m b) (addL m b) v L) := by
  obtain ⟨hB, S, s, hS, l, n⟩ := h
  exact (add_any s b hb).mono fun e w' q => q.sep hB hS l n
theorem sset {B sb : Nat} {w : World} {m L : List Bd} {v : Value} (h : Sep B w sb m v L) (b : Bd) (hb : Fits b) : Calls Try.prog 13 #[Value.pointer (some ⟨sb, 0, none⟩), Value.agg #[Value.int .u32 b.k, Value.int .i32 b.r, Value.int .i32 b.ax, Value.int .i32 b.ay, Value.int .i32 b.m, Value.int .i32 b.o, Value.int .i32 b.px, Value.int .i32 b.py, Value.int .i32 b.vx, Value.int .i32 b.vy]] w (SDone B w sb (setE m b) (setL m b) v L) := by
  obtain ⟨hB, S, s, hS, l, n⟩ := h
  exact (set_any s b hb).mono fun e w' q => q.sep hB hS l n
theorem sremove {B sb : Nat} {w : World} {m L : List Bd} {v : Value} (h : Sep B w sb m v L) {key : Int} (hk : (Lit.int .u32 key).wf = true) : Calls Try.prog 11 #[Value.pointer (some ⟨sb, 0, none⟩), .int .u32 key] w (SDone B w sb (removeE m key) (removeL m key) v L) := by
  obtain ⟨hB, S, s, hS, l, n⟩ := h
  exact (remove_any s hk).mono fun e w' q => q.sep hB hS l n
end Go.Proofs.Ytfkieieedljodaa
