/-
  Package store's reference: All.
-/
import Derived.Test.YtlfbiijillpnnaaStoreSame
namespace Go.Proofs.Ytlfbiijillpnnaa
open Go.RowKit Go.Lib

/-- The bodies after adding some of them to none. -/
def allL (l : List Bd) : List Bd := l.foldl addL []
theorem allL_snoc (l : List Bd) (x : Bd) : allL (l ++ [x]) = addL (allL l) x := by simp [allL]
theorem addL_asc {m : List Bd} (h : Asc m) (x : Bd) : Asc (addL m x) ∧ (addL m x).length ≤ m.length + 1 := by
  unfold addL
  split
  · exact ⟨h, by omega⟩
  · split
    · exact ⟨h, by omega⟩
    · split
      · exact ⟨h, by omega⟩
      · exact ⟨put_asc h x false, (put_len h x).2⟩
theorem allL_asc (l : List Bd) : Asc (allL l) ∧ (allL l).length ≤ l.length := by
  suffices h : ∀ (l m : List Bd) (n : Nat), Asc m → m.length ≤ n → Asc (l.foldl addL m) ∧ (l.foldl addL m).length ≤ n + l.length by
    have := h l [] 0 trivial (by simp)
    simpa [allL] using this
  intro l
  induction l with
  | nil => intro m n h1 h2; exact ⟨h1, by simpa using h2⟩
  | cons x l ih =>
    intro m n h1 h2
    have a := addL_asc h1 x
    have := ih (addL m x) (n + 1) a.1 (by omega)
    exact ⟨this.1, by have := this.2; simp only [List.foldl_cons, List.length_cons]; omega⟩
theorem allL_take {L : List Bd} {k : Nat} {x : Bd} (hx : L[k]? = some x) : allL (L.take (k + 1)) = addL (allL (L.take k)) x := by
  rw [List.take_add_one, hx]
  exact allL_snoc _ _

set_option maxRecDepth 100000 in
set_option maxHeartbeats 1000000 in
theorem all_any (v : Value) (L : List Bd) (w : World) (h : Lst w v L) (hm : L.length ≤ 1000000) :
    Calls Try.prog 29 #[v] w fun e w' => ∃ v', e = .returned v' ∧ (Lst w' v' (allL L) ∧ New w v' w') ∧ Kep w.heap.size w w' := by
  by_cases hL : L = []
  · subst hL
    obtain ⟨b1, c1, rfl⟩ := h.shape
    clear h hm
    go_enter Try.func29, Try.ntmps29
    go_wp2
    refine wp_loop_rounds 1 ?_
    rw [rounds_succ]
    go_wp2
    go_ret
    exact ⟨_, rfl, ⟨.inl ⟨rfl, none, 0, rfl⟩, new_nil _ _⟩, Kep.refl _ _⟩
  · obtain ⟨g, off, cap, rfl, hc⟩ := h.full hL
    have HC := Lib.hid hc
    clear hc h hL
    generalize hn : L.length = n at *
    have HN := Lib.hid hn
    clear hn
    go_enter Try.func29, Try.ntmps29
    go_wp2
    go_loopw [3, 4] (fun out i wr => ∃ k : Nat, k ≤ n ∧ i = .int .i64 k ∧ Hid ((Lst wr out (allL (L.take k)) ∧ New w out wr) ∧ Kep w.heap.size w wr)) (fun _ i _ => n - (RowKit.intOf i).toNat)
    case atStart => exact ⟨0, Nat.zero_le _, rfl, Lib.hid ⟨⟨.inl ⟨by simp [allL], none, 0, rfl⟩, new_nil _ _⟩, Kep.refl _ _⟩⟩
    case round =>
      obtain ⟨k, hk, rfl, HK⟩ := hrel
      by_cases hlt : k < n
      · have hb : L[k]? = some (L[k]'(by rw [HN.out]; exact hlt)) := List.getElem?_eq_getElem _
        generalize L[k]'(by rw [HN.out]; exact hlt) = x at hb
        obtain ⟨x0, x1, x2, x3, x4, x5, x6, x7, x8, x9⟩ := old_cells HK.out.2 (HC.out k x hb)
        have C := Lib.hid (radd_any u3 (allL (L.take k)) x wr HK.out.1.1 (by have := (allL_asc (L.take k)).2; have := List.length_take_le k L; omega))
        have HX := Lib.hid (allL_take hb)
        clear hb
        go_wp2_with (refine (C.out).mono ?_; rintro e w1 ⟨v', rfl, h1, h2, h3⟩; replace h1 := Lib.hid h1; replace h2 := Lib.hid h2; replace h3 := Lib.hid h3)
        go_roundw
        case rel => exact ⟨k + 1, by omega, by go_num, Lib.hid ⟨⟨by rw [HX.out]; exact h1.out, by rcases h3.out with e | e; (· subst e; exact ⟨fun g q => ⟨(HK.out.1.2.1 g q).1, Nat.lt_of_lt_of_le (HK.out.1.2.1 g q).2 h2.out.size⟩, HK.out.1.2.2⟩); exact e.older HK.out.2.size⟩, HK.out.2.trans (h2.out.mono HK.out.2.size)⟩⟩
        case measure => simp [RowKit.intOf]; omega
      · go_wp2
        go_ret
        exact ⟨_, rfl, ⟨by have := HK.out.1.1; rw [List.take_of_length_le (by rw [HN.out]; omega)] at this; exact this, HK.out.1.2⟩, HK.out.2⟩
end Go.Proofs.Ytlfbiijillpnnaa
