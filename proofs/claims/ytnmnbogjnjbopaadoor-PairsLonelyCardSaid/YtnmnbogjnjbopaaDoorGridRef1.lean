/-
  Package grid: the reference's buckets, Has, Less.
-/
import Derived.Test.YtnmnbogjnjbopaaDoorGridMath
import Derived.Deep.QuietTactic
import Derived.BigQuiet
namespace Go.Proofs.YtnmnbogjnjbopaaDoor
open Go.RowKit Go.Lib

abbrev RHs (L : List Int) (n : Int) (z : Bool) : Prop := ∀ v w, Sq iv 1 w v L → Calls Tryd.prog 46 #[v, .int .i64 n] w fun e w' => e = .returned (.bool z) ∧ w = w'
theorem any_drop {L : List Int} {n : Int} {k : Nat} {x : Int} (h : L[k]? = some x) : (L.drop k).contains n = (decide (x = n) || (L.drop (k + 1)).contains n) := by
  obtain ⟨hk, e⟩ := List.getElem?_eq_some_iff.1 h
  rw [List.drop_eq_getElem_cons hk, e]
  by_cases c : x = n
  · subst c; simp
  · rw [decide_eq_false c, List.contains_cons]
    have : (n == x) = false := beq_eq_false_iff_ne.2 (fun e => c e.symm)
    rw [this]
set_option maxRecDepth 100000 in
set_option maxHeartbeats 1000000 in
theorem rhs (L : List Int) (n : Int) (hm : L.length ≤ 1000000000) : RHs L n (L.contains n) := fun v w h => by
  obtain ⟨b, c, rfl, H⟩ := h
  have HC := Lib.hid H
  clear H
  generalize hl : L.length = len at *
  have HN := Lib.hid hl
  clear hl
  go_enter Tryd.func46, Tryd.ntmps46
  go_wp2_with fail
  go_loopw [5] (fun i wr => ∃ k : Nat, k ≤ len ∧ i = .int .i64 k ∧ Hid (L.contains n = (L.drop k).contains n) ∧ wr = w) (fun i _ => len - (RowKit.intOf i).toNat)
  case atStart => exact ⟨0, by omega, rfl, Lib.hid (by simp), rfl⟩
  case round =>
    obtain ⟨k, hk, rfl, HP, rfl⟩ := hrel
    by_cases hlt : k < len
    · have hb : L[k]? = some (L[k]'(by rw [HN.out]; exact hlt)) := List.getElem?_eq_getElem _
      generalize L[k]'(by rw [HN.out]; exact hlt) = x at hb
      obtain ⟨g, o, rfl, q⟩ := HC.out k x hb
      have f0 : wr.cell? ⟨g, o + k, none⟩ = some (.int .i64 x) := by have := q 0 _ rfl; rw [Nat.mul_one] at this; exact this
      have HQ := Lib.hid (any_drop (n := n) hb)
      clear hb q
      by_cases c : x = n
      · have t : (x == n) = true := beq_iff_eq.2 c
        go_wp2_with fail
        go_ret
        exact ⟨by rw [HP.out, HQ.out, decide_eq_true c]; rfl, rfl⟩
      · have t : (x == n) = false := beq_eq_false_iff_ne.2 c
        go_wp2_with fail
        go_roundw
        case rel => exact ⟨k + 1, by omega, by go_num, Lib.hid (by rw [HP.out, HQ.out, decide_eq_false c]; rfl), by first | trivial | rfl⟩
        case measure => simp [RowKit.intOf]; omega
    · go_wp2_with fail
      go_ret
      exact ⟨by rw [HP.out, List.drop_of_length_le (by rw [HN.out]; omega)]; rfl, rfl⟩

abbrev RLs (p q p' q' : Int) (z : Bool) : Prop := ∀ w, Calls Tryd.prog 23 #[.agg #[.int .u32 p, .int .u32 q], .agg #[.int .u32 p', .int .u32 q']] w fun e w' => e = .returned (.bool z) ∧ Kep w.heap.size w w'
theorem rls (p q p' q' : Int) (z : Bool) (hz : pless (p, q) (p', q') = z) : RLs p q p' q' z := fun w => by
  by_cases c0 : p < p'
  · have d0 : decide (p < p') = true := decide_eq_true c0
    obtain rfl : true = z := by rw [← hz]; exact (decide_eq_true (.inl c0)).symm
    clear hz
    go_enter Tryd.func23, Tryd.ntmps23
    go_wp2
    go_ret
    exact ⟨rfl, kep_more (kep_more (Kep.refl _ _) _) _⟩
  have d0 : decide (p < p') = false := decide_eq_false c0
  by_cases c1 : p = p'
  rotate_left
  · have d1 : (p == p') = false := beq_eq_false_iff_ne.2 c1
    obtain rfl : false = z := by rw [← hz]; exact (decide_eq_false (by omega)).symm
    clear hz
    go_enter Tryd.func23, Tryd.ntmps23
    go_wp2
    go_ret
    exact ⟨rfl, kep_more (kep_more (Kep.refl _ _) _) _⟩
  have d1 : (p == p') = true := beq_iff_eq.2 c1
  obtain rfl : decide (q < q') = z := by rw [← hz]; exact decide_eq_decide.2 (by omega)
  clear hz
  obtain ⟨z, h2⟩ : ∃ z, decide (q < q') = z := ⟨_, rfl⟩
  rw [h2]
  go_enter Tryd.func23, Tryd.ntmps23
  go_wp2
  go_ret
  exact ⟨rfl, kep_more (kep_more (Kep.refl _ _) _) _⟩

theorem own_base {w : World} {B B' : Nat} {t : TypeId} {size n : Nat} {v : Value} {xs : List Value} (h : w.ownsRow B t size v n xs) (hb : B' ≤ B) : w.ownsRow B' t size v n xs := by
  refine ⟨h.1, ?_⟩
  rcases h.2 with q | ⟨g, cap, cur, e, hg, r⟩
  · exact .inl q
  · exact .inr ⟨g, cap, cur, e, Nat.le_trans hb hg, r⟩
theorem info_int : (Tryd.prog.info? 3).map (fun i => (i.zero, i.size, i.bytes)) = some (some (.int .i64 0), 1, 8) := by kernel_rfl
abbrev RBs (a b c d : Int) (L : List Int) : Prop := ∀ w, Calls Tryd.prog 45 #[.agg #[.int .i32 a, .int .i32 b, .int .i32 c, .int .i32 d]] w fun e w' => ∃ v, e = .returned v ∧ (Sq iv 1 w' v L ∧ w'.ownsRow w.heap.size 3 1 v L.length (L.flatMap iv)) ∧ Kep w.heap.size w w'
set_option maxRecDepth 100000 in
set_option maxHeartbeats 2000000 in
theorem rbs (a b c d : Int) (C : List (Int × Int)) (hm : C.length ≤ 1000000) (A1 : Hid (RAl a b c d C)) : RBs a b c d (C.map fun x => bktN x.1 x.2) := fun w => by
  have RB := Lib.hid (fun x y (w : World) => kep_calls (rbk x y w))
  go_enter Tryd.func45, Tryd.ntmps45
  go_wp2_with ((with_reducible refine (A1.out _).mono ?_); rintro e w1 ⟨l, rfl, ql, g1⟩)
  obtain ⟨base, cap, rfl, H⟩ := ql
  have HC := Lib.hid H
  have G0 := Lib.hid (kep_next (kep_more (Kep.refl _ w) _) g1)
  clear H g1
  generalize hl : C.length = len at *
  have HN := Lib.hid hl
  clear hl
  go_wp2_with fail
  go_loopw [3, 5] (fun out i wr => ∃ k : Nat, k ≤ len ∧ i = .int .i64 k ∧ Hid (wr.ownsRow w1.heap.size 3 1 out ((C.take k).map fun x => bktN x.1 x.2).length (((C.take k).map fun x => bktN x.1 x.2).flatMap iv) ∧ Kep w1.heap.size w1 wr)) (fun _ i _ => len - (RowKit.intOf i).toNat)
  case atStart => exact ⟨0, by omega, rfl, Lib.hid ⟨World.ownsRow_nil _ _ _ _, Kep.refl _ _⟩⟩
  case round =>
    obtain ⟨k, hk, rfl, HP⟩ := hrel
    by_cases hlt : k < len
    · have hb : C[k]? = some (C[k]'(by rw [HN.out]; exact hlt)) := List.getElem?_eq_getElem _
      generalize C[k]'(by rw [HN.out]; exact hlt) = x at hb
      obtain ⟨gl, o, rfl, q⟩ := HC.out k x hb
      obtain ⟨x0, x1⟩ := x
      have f0 : wr.cell? ⟨gl, o + k * 2, none⟩ = some (.int .i32 x0) := HP.out.2.all (q 0 _ rfl)
      have f1 : wr.cell? ⟨gl, o + k * 2 + 1, none⟩ = some (.int .i32 x1) := HP.out.2.all (q 1 _ rfl)
      have ht : C.take (k + 1) = C.take k ++ [(x0, x1)] := by rw [List.take_add_one, hb]; rfl
      have HT := Lib.hid ht
      have hlen : ((C.take k).map fun x => bktN x.1 x.2).length = k := by rw [List.length_map, List.length_take]; have := HN.out; omega
      have HLN := Lib.hid hlen
      clear hb q ht hlen
      generalize hn : bktN x0 x1 = n
      have RB1 : Hid (∀ w, Calls Tryd.prog 51 #[.agg #[.int .i32 x0, .int .i32 x1]] w fun e w' => e = .returned (.int .i64 n) ∧ Kep w.heap.size w w') := Lib.hid (fun w => by rw [← hn]; exact RB.out x0 x1 w)
      have HBN := Lib.hid hn
      clear hn
      go_wp2_with (first
        | ((with_reducible refine (RB1.out _).mono ?_); rintro e w2 ⟨rfl, g2⟩)
        | (at_builtin; refine wpList_app iv 1 iv_len iv_one rfl _ _ 82 rfl 3 _ 8 Tryd.underlying82 info_int rfl (by decide) w1.heap.size _ _ _ n rfl (own_kep HP.out.1 g2 (Nat.le_refl _)) _ (by first | rfl | simp) rfl _ rfl (by rw [HLN.out]; unfold maxLen; omega) (by rw [HLN.out]; omega) (Nat.le_trans HP.out.2.size g2.size) ?_; intro v3 w3 o3 k3))
      have HM : Hid (w3.ownsRow w1.heap.size 3 1 v3 ((C.take (k + 1)).map fun x => bktN x.1 x.2).length (((C.take (k + 1)).map fun x => bktN x.1 x.2).flatMap iv) ∧ Kep w1.heap.size w1 w3) := Lib.hid (by
        rw [HT.out, List.map_append, List.map_cons, List.map_nil, HBN.out]
        exact ⟨o3, (HP.out.2.trans (g2.mono HP.out.2.size)).trans k3⟩)
      clear o3 k3 g2
      go_roundw
      case rel => exact ⟨k + 1, by omega, by go_num, HM⟩
      case measure => simp [RowKit.intOf]; omega
    · go_wp2_with fail
      go_ret
      have e : C.take k = C := List.take_of_length_le (by rw [HN.out]; omega)
      have := HP.out
      rw [e] at this
      exact ⟨_, rfl, ⟨own_sq iv_len this.1, own_base this.1 G0.out.size⟩, kep_next G0.out this.2⟩
end Go.Proofs.YtnmnbogjnjbopaaDoor
