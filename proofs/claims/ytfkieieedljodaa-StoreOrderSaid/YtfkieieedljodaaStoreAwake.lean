/-
  Package store: the fixed examples of its laws.
-/
import Derived.Test.YtfkieieedljodaaStoreFresh
import Derived.Test.YtfkieieedljodaaBodyCon
namespace Go.Proofs.Ytfkieieedljodaa
open Go.RowKit Go.Lib Go.Maps

abbrev CAdd (k r c : Int) (m m' : List Bd) : Prop := ∀ B w sb, Fresh B w sb m → Calls Try.prog 9 #[Value.pointer (some ⟨sb, 0, none⟩), Value.agg #[Value.int .u32 k, Value.int .i32 r, Value.int .i32 0, Value.int .i32 0, Value.int .i32 0, Value.int .i32 0, Value.int .i32 0, Value.int .i32 0, Value.int .i32 0, Value.int .i32 0]] w (FDone B w sb c m')
abbrev CRem (k c : Int) (m m' : List Bd) : Prop := ∀ B w sb, Fresh B w sb m → Calls Try.prog 11 #[Value.pointer (some ⟨sb, 0, none⟩), Value.int .u32 k] w (FDone B w sb c m')
theorem cadd {k r c : Int} {m m' : List Bd} (hf : Fits ⟨k, r, 0, 0, 0, 0, 0, 0, 0, 0⟩) (h : addE m ⟨k, r, 0, 0, 0, 0, 0, 0, 0, 0⟩ = c ∧ addL m ⟨k, r, 0, 0, 0, 0, 0, 0, 0, 0⟩ = m') : CAdd k r c m m' := fun B w sb q => by
  have := fadd q ⟨k, r, 0, 0, 0, 0, 0, 0, 0, 0⟩ hf
  rw [h.1, h.2] at this
  exact this
theorem crem {k c : Int} {m m' : List Bd} (hk : (Lit.int .u32 k).wf = true) (h : removeE m k = c ∧ removeL m k = m') : CRem k c m m' := fun B w sb q => by
  have := fremove q hk
  rw [h.1, h.2] at this
  exact this
abbrev StoreAwake : Prop := ∀ w, Calls Try.prog 8 #[] w fun e w' => e = .returned (.bool true) ∧ Kep w.heap.size w w'

set_option maxRecDepth 100000 in
set_option maxHeartbeats 4000000 in
theorem store_awake : StoreAwake := fun w => by
  have A1 : Hid (CAdd 5 65536 0 [] [⟨5, 65536, 0, 0, 0, 0, 0, 0, 0, 0⟩]) := Lib.hid (cadd ⟨by decide, by decide, by decide, by decide, by decide, by decide, by decide, by decide, by decide, by decide⟩ (add_is (by decide) rfl (by decide)))
  have A2 : Hid (CAdd 2 65536 0 [⟨5, 65536, 0, 0, 0, 0, 0, 0, 0, 0⟩] [⟨2, 65536, 0, 0, 0, 0, 0, 0, 0, 0⟩, ⟨5, 65536, 0, 0, 0, 0, 0, 0, 0, 0⟩]) := Lib.hid (cadd ⟨by decide, by decide, by decide, by decide, by decide, by decide, by decide, by decide, by decide, by decide⟩ (add_is (by decide) rfl (by decide)))
  have A3 : Hid (CAdd 9 65536 0 [⟨2, 65536, 0, 0, 0, 0, 0, 0, 0, 0⟩, ⟨5, 65536, 0, 0, 0, 0, 0, 0, 0, 0⟩] [⟨2, 65536, 0, 0, 0, 0, 0, 0, 0, 0⟩, ⟨5, 65536, 0, 0, 0, 0, 0, 0, 0, 0⟩, ⟨9, 65536, 0, 0, 0, 0, 0, 0, 0, 0⟩]) := Lib.hid (cadd ⟨by decide, by decide, by decide, by decide, by decide, by decide, by decide, by decide, by decide, by decide⟩ (add_is (by decide) rfl (by decide)))
  have A4 : Hid (CAdd 9 65537 10 [⟨2, 65536, 0, 0, 0, 0, 0, 0, 0, 0⟩, ⟨5, 65536, 0, 0, 0, 0, 0, 0, 0, 0⟩, ⟨9, 65536, 0, 0, 0, 0, 0, 0, 0, 0⟩] [⟨2, 65536, 0, 0, 0, 0, 0, 0, 0, 0⟩, ⟨5, 65536, 0, 0, 0, 0, 0, 0, 0, 0⟩, ⟨9, 65536, 0, 0, 0, 0, 0, 0, 0, 0⟩]) := Lib.hid (cadd ⟨by decide, by decide, by decide, by decide, by decide, by decide, by decide, by decide, by decide, by decide⟩ (add_dup_is (by decide) (by simp [look])))
  have A5 : Hid (CAdd 7 0 4 [⟨2, 65536, 0, 0, 0, 0, 0, 0, 0, 0⟩, ⟨5, 65536, 0, 0, 0, 0, 0, 0, 0, 0⟩, ⟨9, 65536, 0, 0, 0, 0, 0, 0, 0, 0⟩] [⟨2, 65536, 0, 0, 0, 0, 0, 0, 0, 0⟩, ⟨5, 65536, 0, 0, 0, 0, 0, 0, 0, 0⟩, ⟨9, 65536, 0, 0, 0, 0, 0, 0, 0, 0⟩]) := Lib.hid (cadd ⟨by decide, by decide, by decide, by decide, by decide, by decide, by decide, by decide, by decide, by decide⟩ (add_bad_is (by decide) (by decide)))
  have R1 : Hid (CRem 5 0 [⟨2, 65536, 0, 0, 0, 0, 0, 0, 0, 0⟩, ⟨5, 65536, 0, 0, 0, 0, 0, 0, 0, 0⟩, ⟨9, 65536, 0, 0, 0, 0, 0, 0, 0, 0⟩] [⟨2, 65536, 0, 0, 0, 0, 0, 0, 0, 0⟩, ⟨9, 65536, 0, 0, 0, 0, 0, 0, 0, 0⟩]) := Lib.hid (crem (by decide) (remove_is (by simp [look])))
  have R2 : Hid (CRem 5 11 [⟨2, 65536, 0, 0, 0, 0, 0, 0, 0, 0⟩, ⟨9, 65536, 0, 0, 0, 0, 0, 0, 0, 0⟩] [⟨2, 65536, 0, 0, 0, 0, 0, 0, 0, 0⟩, ⟨9, 65536, 0, 0, 0, 0, 0, 0, 0, 0⟩]) := Lib.hid (crem (by decide) (remove_no_is rfl))
  have G9 : Hid (∀ B w sb, Fresh B w sb [⟨2, 65536, 0, 0, 0, 0, 0, 0, 0, 0⟩, ⟨9, 65536, 0, 0, 0, 0, 0, 0, 0, 0⟩] → Calls Try.prog 15 #[Value.pointer (some ⟨sb, 0, none⟩), Value.int .u32 9] w fun e w' => e = .returned (.tuple #[Value.agg #[Value.int .u32 9, Value.int .i32 65536, Value.int .i32 0, Value.int .i32 0, Value.int .i32 0, Value.int .i32 0, Value.int .i32 0, Value.int .i32 0, Value.int .i32 0, Value.int .i32 0], .int .i64 0]) ∧ Kep w.heap.size w w') := Lib.hid fun B w sb ⟨_, S, s, _⟩ => get_yes s (b := ⟨9, 65536, 0, 0, 0, 0, 0, 0, 0, 0⟩) (by decide) rfl
  have S0 := Lib.hid (fresh_new w)
  have SM : Hid (∀ w v, Lst w v [⟨2, 65536, 0, 0, 0, 0, 0, 0, 0, 0⟩, ⟨9, 65536, 0, 0, 0, 0, 0, 0, 0, 0⟩] → Calls Try.prog 18 #[v, .slice (some ⟨w.heap.size, 0, none⟩) 2 2] (w.alloc (.cells #[Value.int .u32 2, Value.int .i32 65536, Value.int .i32 0, Value.int .i32 0, Value.int .i32 0, Value.int .i32 0, Value.int .i32 0, Value.int .i32 0, Value.int .i32 0, Value.int .i32 0, Value.int .u32 9, Value.int .i32 65536, Value.int .i32 0, Value.int .i32 0, Value.int .i32 0, Value.int .i32 0, Value.int .i32 0, Value.int .i32 0, Value.int .i32 0, Value.int .i32 0] 32)) fun e w' => e = .returned (.bool true) ∧ Kep (w.alloc (.cells #[Value.int .u32 2, Value.int .i32 65536, Value.int .i32 0, Value.int .i32 0, Value.int .i32 0, Value.int .i32 0, Value.int .i32 0, Value.int .i32 0, Value.int .i32 0, Value.int .i32 0, Value.int .u32 9, Value.int .i32 65536, Value.int .i32 0, Value.int .i32 0, Value.int .i32 0, Value.int .i32 0, Value.int .i32 0, Value.int .i32 0, Value.int .i32 0, Value.int .i32 0] 32)).heap.size (w.alloc (.cells #[Value.int .u32 2, Value.int .i32 65536, Value.int .i32 0, Value.int .i32 0, Value.int .i32 0, Value.int .i32 0, Value.int .i32 0, Value.int .i32 0, Value.int .i32 0, Value.int .i32 0, Value.int .u32 9, Value.int .i32 65536, Value.int .i32 0, Value.int .i32 0, Value.int .i32 0, Value.int .i32 0, Value.int .i32 0, Value.int .i32 0, Value.int .i32 0, Value.int .i32 0] 32)) w') := Lib.hid fun w v h => same_any v _ [⟨2, 65536, 0, 0, 0, 0, 0, 0, 0, 0⟩, ⟨9, 65536, 0, 0, 0, 0, 0, 0, 0, 0⟩] _ (h.kep (Kep.made w _)) (lst_new w [⟨2, 65536, 0, 0, 0, 0, 0, 0, 0, 0⟩, ⟨9, 65536, 0, 0, 0, 0, 0, 0, 0, 0⟩] _ 2) (by simp)
  have AN := Lib.hid (fun w => add_nil ⟨0, 0, 0, 0, 0, 0, 0, 0, 0, 0⟩ w)
  have LN := Lib.hid len_nil
  go_enter Try.func8, Try.ntmps8
  go_wp2_with (first
    | ((with_reducible refine (A1.out _ _ _ S0.out).mono ?_); rintro e w1 ⟨rfl, s1, k1⟩; have S1 := Lib.hid s1; have K1 := Lib.hid k1; clear s1 k1)
    | ((with_reducible refine (A2.out _ _ _ S1.out).mono ?_); rintro e w2 ⟨rfl, s2, k2⟩; have S2 := Lib.hid s2; have K2 := Lib.hid k2; clear s2 k2)
    | ((with_reducible refine (A3.out _ _ _ S2.out).mono ?_); rintro e w3 ⟨rfl, s3, k3⟩; have S3 := Lib.hid s3; have K3 := Lib.hid k3; clear s3 k3)
    | ((with_reducible refine (A4.out _ _ _ S3.out).mono ?_); rintro e w4 ⟨rfl, s4, k4⟩; have S4 := Lib.hid s4; have K4 := Lib.hid k4; clear s4 k4)
    | ((with_reducible refine (A5.out _ _ _ S4.out).mono ?_); rintro e w5 ⟨rfl, s5, k5⟩; have S5 := Lib.hid s5; have K5 := Lib.hid k5; clear s5 k5)
    | ((with_reducible refine (R1.out _ _ _ S5.out).mono ?_); rintro e w6 ⟨rfl, s6, k6⟩; have S6 := Lib.hid s6; have K6 := Lib.hid k6; clear s6 k6)
    | ((with_reducible refine (R2.out _ _ _ S6.out).mono ?_); rintro e w7 ⟨rfl, s7, k7⟩; have S7 := Lib.hid s7; have K7 := Lib.hid k7; clear s7 k7)
    | ((with_reducible refine (G9.out _ _ _ S7.out).mono ?_); rintro e w8 ⟨rfl, k8⟩; have S8 := Lib.hid (S7.out.kep k8); have K8 := Lib.hid k8; clear k8)
    | ((with_reducible refine (flen (S8.out.kep (Kep.alloc (Kep.refl _ _) (Nat.le_refl _) _))).mono ?_); rintro e w9 ⟨rfl, rfl⟩)
    | ((with_reducible refine (fbodies (S8.out.kep (Kep.alloc (Kep.refl _ _) (Nat.le_refl _) _))).mono ?_); rintro e w10 ⟨v10, rfl, o10, k10⟩; have O10 := Lib.hid o10; have K10 := Lib.hid k10; clear o10 k10)
    | ((with_reducible refine (SM.out _ _ O10.out.lst).mono ?_); rintro e w11 ⟨rfl, k11⟩; have K11 := Lib.hid k11; clear k11)
    | ((with_reducible refine (AN.out _).mono ?_); rintro e w12 ⟨rfl, k12⟩; have K12 := Lib.hid k12; clear k12)
    | ((with_reducible refine (LN.out _).mono ?_); rintro e w13 ⟨rfl, rfl⟩))
  go_ret
  have Q := ((((((((Kep.made w _).trans K1.out).trans K2.out).trans K3.out).trans K4.out).trans K5.out).trans K6.out).trans K7.out)
  exact ⟨rfl, ((((((Q.next K8.out).next (Kep.made _ _)).next K10.out).next (Kep.made _ _)).next K11.out).next K12.out)⟩
end Go.Proofs.Ytfkieieedljodaa
