/-
  Package codec: the documentation's example.
-/
import Derived.Test.YtllkokfaodpfiaaCdcLawC
import Derived.Deep.DeepCutAuto
import Derived.Deep.QuietTactic
import Derived.BigQuiet
namespace Go.Proofs.Ytllkokfaodpfiaa
open Go.RowKit Go.Lib

theorem lst_new21 (w : World) (x : Bd) (t : TypeId) : Lst (w.alloc (.cells ⟨vals x⟩ t)) (.slice (some ⟨w.heap.size, 0, none⟩) 1 1) [x] := by
  have h := zc_new w (vals x) t
  refine .inr ⟨w.heap.size, 0, 1, rfl, fun k y hy i hi => ?_⟩
  have hk : k = 0 := by have := (List.getElem?_eq_some_iff.1 hy).1; simp at this; omega
  subst hk
  have e : x = y := by simpa using hy
  subst e
  have hl : i < (vals x).length := hi
  rw [Nat.zero_mul, Nat.add_zero, Nat.zero_add, List.getElem?_eq_getElem hl]
  exact h.at_ i _ (List.getElem?_eq_getElem hl)
theorem sq_newB (w : World) (bs : List Int) (t : TypeId) (n : Nat) (hn : n = bs.length) : Sq bv 1 (w.alloc (.cells ⟨bs.map fun n => .int .u8 n⟩ t)) (.slice (some ⟨w.heap.size, 0, none⟩) n n) bs := by
  have h := zc_new w (bs.map fun n => Value.int .u8 n) t
  refine ⟨_, _, by rw [hn], fun k x hx => ⟨_, _, rfl, fun i u hu => ?_⟩⟩
  match i, hu with
  | 0, hu =>
    simp [bv] at hu
    subst hu
    rw [Nat.zero_add, Nat.mul_one, Nat.add_zero]
    exact h.at_ k _ (by rw [List.getElem?_map, hx]; rfl)
  | i + 1, hu => simp [bv] at hu
def ex21 : Bd := ⟨4294967294, 65536, 0, 0, 0, 0, -2, 258, 0, 0⟩
def ex0 : Bd := ⟨0, 0, 0, 0, 0, 0, 0, 0, 0, 0⟩
theorem ex_fits : ∀ x ∈ [ex21], Fits x := fun x hx => by rw [List.mem_singleton.1 hx]; exact ⟨rfl, rfl, rfl, rfl, rfl, rfl, rfl, rfl, rfl, rfl⟩
theorem ex_fits0 : ∀ x ∈ [ex0], Fits x := fun x hx => by rw [List.mem_singleton.1 hx]; exact ⟨rfl, rfl, rfl, rfl, rfl, rfl, rfl, rfl, rfl, rfl⟩
theorem ex_chk : vchkE [ex21] = 0 := by decide +kernel
theorem ex_chk0 : vchkE [ex0] = 4 := by decide +kernel
theorem ex_nil : vchkE [] = 0 ∧ encL [] = [66, 73, 76, 49, 0, 0, 0, 0] := ⟨by decide +kernel, by decide +kernel⟩
set_option maxRecDepth 100000 in
set_option maxHeartbeats 8000000 in
theorem cdc_awake (O : EOps) : EAwake := fun w => by
  have C0 : Hid (∀ w', Calls Try.prog 9 #[.slice none 0 0] w' fun e w2 => (∃ v', e = .returned (.tuple #[v', .int .i64 0]) ∧ Sq bv 1 w2 v' [66, 73, 76, 49, 0, 0, 0, 0]) ∧ Kep w'.heap.size w' w2) := Lib.hid fun w' => (O.enc _ [] w' (.inl ⟨rfl, _, _, rfl⟩) (fun _ h => by simp at h) (by simp)).mono fun e w2 ⟨v', e1, h2, h3⟩ => ⟨⟨v', by rw [e1, ex_nil.1], by rw [← ex_nil.2]; exact (h2.out.1 ex_nil.1).sq⟩, h3⟩
  have C1 : Hid (∀ va w', Lst w' va [ex21] → Calls Try.prog 9 #[va] w' fun e w2 => (∃ g c, e = .returned (.tuple #[.slice (some ⟨g, 0, none⟩) 48 c, .int .i64 0]) ∧ 48 ≤ c ∧ Sq bv 1 w2 (.slice (some ⟨g, 0, none⟩) 48 c) (encL [ex21])) ∧ Kep w'.heap.size w' w2) := Lib.hid fun va w' p => (O.enc va [ex21] w' p ex_fits (by simp)).mono fun e w2 ⟨v', e1, h2, h3⟩ => by
    have b := h2.out.1 ex_chk
    have q := b.sq
    obtain ⟨g, c, e2, r⟩ := id b
    rw [encL_len] at e2
    have hc := b.rmy _ _ _ e2
    rw [e2] at e1 q
    exact ⟨⟨g, c, by rw [e1, ex_chk]; rfl, hc, q⟩, h3⟩
  have C2 : Hid (∀ va w', Lst w' va [ex0] → Calls Try.prog 9 #[va] w' fun e w2 => (∃ v', e = .returned (.tuple #[v', .int .i64 4])) ∧ Kep w'.heap.size w' w2) := Lib.hid fun va w' p => (O.enc va [ex0] w' p ex_fits0 (by simp)).mono fun e w2 ⟨v', e1, h2, h3⟩ => ⟨⟨v', by rw [e1, ex_chk0]⟩, h3⟩
  have D1 : Hid (∀ va w', Sq bv 1 w' va (encL [ex21]) → Rmy va → Calls Try.prog 11 #[va] w' fun e w2 => (∃ v', e = .returned (.tuple #[v', .int .i64 0]) ∧ Lst w2 v' [ex21]) ∧ Kep w'.heap.size w' w2) := Lib.hid fun va w' p q => (O.dec va (encL [ex21]) w' p q (encL_byt _) (by rw [encL_len]; simp)).mono fun e w2 ⟨v', e1, h2, h3⟩ => by
    rw [decE_enc ex_fits (by simp), ex_chk] at e1 h2
    rw [if_pos rfl, dec_enc ex_fits] at h2
    exact ⟨⟨v', e1, h2⟩, h3⟩
  have D2 : Hid (∀ va w', Sq bv 1 w' va ((encL [ex21]).take 24) → Rmy va → Calls Try.prog 11 #[va] w' fun e w2 => (∃ v', e = .returned (.tuple #[v', .int .i64 13])) ∧ Kep w'.heap.size w' w2) := Lib.hid fun va w' p q => (O.dec va _ w' p q (fun n hn => encL_byt _ n (List.mem_of_mem_take hn)) (by rw [List.length_take]; omega)).mono fun e w2 ⟨v', e1, h2, h3⟩ => ⟨⟨v', by
    have d : decE ((encL [ex21]).take 24) = 13 := by unfold decE; rw [if_neg (by rw [okF_cut (by simp) (by rw [encL_len]; simp)]; decide)]
    rw [e1, d]⟩, h3⟩
  have BY : Hid (∀ va w', Lst w' va [ex21] → Calls Try.prog 16 #[va] w' fun e w2 => (∃ v', e = .returned v' ∧ Sq bv 1 w2 v' (encL [ex21])) ∧ Kep w'.heap.size w' w2) := Lib.hid fun va w' p => (rby va [ex21] w' p ex_fits (by simp)).mono fun e w2 ⟨v', e1, h2, h3⟩ => ⟨⟨v', e1, h2.sq⟩, h3⟩
  have S1 : Hid (∀ (C : List Int), C.length ≤ 9000 → ∀ va vb w', Sq bv 1 w' va C → Sq bv 1 w' vb C → Calls Try.prog 13 #[va, vb] w' fun e w2 => (e = .returned (.bool true)) ∧ Kep w'.heap.size w' w2) := Lib.hid fun C hC va vb w' p q => by
    have := rsm (show C.length ≤ 1000000 by omega) (by omega) va vb w' p q
    rw [decide_eq_true rfl] at this
    exact this
  have S6 := Lib.hid (fun va vb w' p q => same_any va vb [ex21] w' p q (by simp))
  have SZ : Hid (∀ w', Calls Try.prog 15 #[.int .i64 1] w' fun e w2 => (e = .returned (.int .i64 48)) ∧ Kep w'.heap.size w' w2) := Lib.hid fun w' => O.siz 1 w' (by omega)
  have L0 : Hid (∀ w : World, Lst (w.alloc (.cells #[.int .u32 0, .int .i32 0, .int .i32 0, .int .i32 0, .int .i32 0, .int .i32 0, .int .i32 0, .int .i32 0, .int .i32 0, .int .i32 0] 46)) (.slice (some ⟨w.heap.size, 0, none⟩) 1 1) [ex0]) := Lib.hid fun w => lst_new21 w ex0 _
  have S8 : Hid (∀ w : World, Sq bv 1 (w.alloc (.cells #[.int .u8 66, .int .u8 73, .int .u8 76, .int .u8 49, .int .u8 0, .int .u8 0, .int .u8 0, .int .u8 0] 5)) (.slice (some ⟨w.heap.size, 0, none⟩) 8 8) [66, 73, 76, 49, 0, 0, 0, 0]) := Lib.hid fun w => sq_newB w [66, 73, 76, 49, 0, 0, 0, 0] _ 8 rfl
  have el := Lib.hid (show (encL [ex21]).length ≤ 9000 by rw [encL_len]; simp)
  have e48 := Lib.hid (show (encL [ex21]).length = 48 by rw [encL_len]; rfl)
  obtain ⟨EL, hEL⟩ : ∃ E, E = encL [ex21] := ⟨_, rfl⟩
  rw [← hEL] at C1 D1 D2 BY el e48
  clear hEL
  go_enter Try.func8, Try.ntmps8
  go_upto_region 2 with (first
    | ((with_reducible refine (C0.out _).mono ?_); rintro e w1 ⟨⟨x1, rfl, q1⟩, g⟩; have gg := g; have Q1 := Lib.hid q1))
  go_upto_region 3 with fail
  generalize hW : World.alloc w1 _ = W2
  have LV : Hid (Lst W2 (.slice (some ⟨w1.heap.size, 0, none⟩) 1 1) [ex21]) := Lib.hid (by rw [← hW]; exact lst_new21 w1 ex21 _)
  have g2 : Kep w1.heap.size w1 W2 := by rw [← hW]; exact kep_more (Kep.refl _ _) _
  replace gg := kep_next gg g2
  replace Q1 := Lib.hid (Q1.out.kep g2)
  clear hW g2
  generalize w1.heap.size = vb at *
  go_upto_region 6 with (first
    | ((with_reducible refine (C1.out _ _ LV.out).mono ?_); rintro e w3 ⟨⟨g, c, rfl, hc, q3⟩, g3⟩; replace LV := Lib.hid (LV.out.kep g3); replace Q1 := Lib.hid (Q1.out.kep g3); replace gg := kep_next gg g3; have Q3 := Lib.hid q3; have S24 := Lib.hid (win_sq (lo := 0) (k := 24) q3 (by have := e48.out; omega)); have R3 := Lib.hid (show Rmy (.slice (some ⟨g, 0, none⟩) 48 c) from fun _ _ _ e => by injection e with _ e1 e2; omega); have R24 := Lib.hid (show Rmy (.slice (some ⟨g, 0, none⟩) 24 c) from fun _ _ _ e => by injection e with _ e1 e2; omega); clear g3 q3)
    | ((with_reducible refine (D1.out _ _ Q3.out R3.out).mono ?_); rintro e w4 ⟨⟨x4, rfl, l4⟩, g4⟩; replace LV := Lib.hid (LV.out.kep g4); replace Q1 := Lib.hid (Q1.out.kep g4); replace Q3 := Lib.hid (Q3.out.kep g4); replace S24 := Lib.hid (S24.out.kep g4); replace gg := kep_next gg g4; have L4 := Lib.hid l4; clear g4 l4)
    | ((with_reducible refine (D2.out (.slice (some ⟨g, 0, none⟩) 24 c) _ (by simpa using S24.out) R24.out).mono ?_); rintro e w5 ⟨⟨x5, rfl⟩, g5⟩; replace LV := Lib.hid (LV.out.kep g5); replace Q1 := Lib.hid (Q1.out.kep g5); replace Q3 := Lib.hid (Q3.out.kep g5); replace L4 := Lib.hid (L4.out.kep g5); replace gg := kep_next gg g5; clear g5))
  go_upto_region 7 with (first
    | ((with_reducible refine (C2.out _ _ (L0.out w5)).mono ?_); rintro e w6 ⟨⟨x6, rfl⟩, g6⟩; have g7 := kep_next (kep_more (Kep.refl _ _) _) g6; replace gg := kep_next gg g7; replace LV := Lib.hid (LV.out.kep g7); replace Q1 := Lib.hid (Q1.out.kep g7); replace Q3 := Lib.hid (Q3.out.kep g7); replace L4 := Lib.hid (L4.out.kep g7); clear g6 g7))
  clear S24
  go_wp2_with (first
    | ((with_reducible refine (S1.out _ (by simp) _ _ _ (Q1.out.kep (kep_more (Kep.refl _ _) _)) (S8.out w6)).mono ?_); rintro e w7 ⟨rfl, g6⟩; have g7 := kep_next (kep_more (Kep.refl _ _) _) g6; replace gg := kep_next gg g7; replace LV := Lib.hid (LV.out.kep g7); replace Q3 := Lib.hid (Q3.out.kep g7); replace L4 := Lib.hid (L4.out.kep g7); clear g6 g7)
    | ((with_reducible refine (BY.out _ _ LV.out).mono ?_); rintro e w8 ⟨⟨x8, rfl, q8⟩, g8⟩; replace LV := Lib.hid (LV.out.kep g8); replace Q3 := Lib.hid (Q3.out.kep g8); replace L4 := Lib.hid (L4.out.kep g8); replace gg := kep_next gg g8; have Q8 := Lib.hid q8; clear g8 q8)
    | ((with_reducible refine (S1.out _ el.out _ _ _ Q3.out Q8.out).mono ?_); rintro e w9 ⟨rfl, g9⟩; replace LV := Lib.hid (LV.out.kep g9); replace L4 := Lib.hid (L4.out.kep g9); replace gg := kep_next gg g9; clear g9)
    | ((with_reducible refine (S6.out _ _ _ L4.out LV.out).mono ?_); rintro e w10 ⟨rfl, g10⟩; replace gg := kep_next gg g10; clear g10)
    | ((with_reducible refine (SZ.out _).mono ?_); rintro e w11 ⟨rfl, g11⟩; replace gg := kep_next gg g11; clear g11))
  go_ret
  exact ⟨rfl, gg⟩
end Go.Proofs.Ytllkokfaodpfiaa
