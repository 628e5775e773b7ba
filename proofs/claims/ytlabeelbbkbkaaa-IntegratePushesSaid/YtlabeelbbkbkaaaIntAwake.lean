/-
  Package integrate: the documentation's example.
-/
import Derived.Test.YtlabeelbbkbkaaaIntCon
import Derived.Deep.DeepCutAuto
import Derived.Deep.QuietTactic
import Derived.BigQuiet
namespace Go.Proofs.Ytlabeelbbkbkaaa
open Go.RowKit Go.Lib

def exIX : Bd := ⟨0, 65536, 0, 0, 65536, 0, 0, 0, 64, (-1)⟩
def exIM : Bd := ⟨0, 65536, 0, 0, 65536, 0, 1, (-1), 64, (-1)⟩
def exIG : Bd := ⟨0, 65536, 0, 0, 65536, 0, 0, 0, 64, (-1025)⟩
theorem exI_ok : ∀ x ∈ [exIX], okI x := by
  intro x hx
  rw [List.mem_singleton.1 hx]
  decide
theorem exI_m : mtL [exIX] [(0, 0)] = [exIM] := by kernel_rfl
theorem exI_mc : (mtA [exIX] [(0, 0)]).any id = false := by kernel_rfl
theorem exI_g : [exIX].map grvB = [exIG] := by kernel_rfl
theorem exI_gc : [exIX].any grvC = false := by kernel_rfl
theorem exI_p : psV exIX 5 2147483647 = .tuple #[.agg #[.int .u32 0, .int .i32 65536, .int .i32 0, .int .i32 0, .int .i32 65536, .int .i32 0, .int .i32 0, .int .i32 0, .int .i32 69, .int .i32 16777216], .bool true] := by kernel_rfl
theorem exI_sh (W : World) (k : Nat) (hk : k = W.heap.size) : Sq shv 2 (W.alloc (.cells #[.int .i64 0, .int .i64 0] 50)) (.slice (some ⟨k, 0, none⟩) 1 1) [(0, 0)] := sq_new shv_len W [(0, 0)] _ rfl _ _ hk _ _ rfl
theorem exI_zc (W : World) : ZC (W.alloc (.cells #[.int .u32 0, .int .i32 65536, .int .i32 0, .int .i32 0, .int .i32 65536, .int .i32 0, .int .i32 0, .int .i32 0, .int .i32 64, .int .i32 (-1)] 37)) W.heap.size (vals exIX) := zc_new' _ _ _ rfl
set_option maxRecDepth 100000 in
set_option maxHeartbeats 4000000 in
theorem int_awake (O : YOps) : YAwake := fun w => by
  have HM := Lib.hid (fun v s w h k => (show Calls Try.prog 13 #[v, s] w fun e w' => ∃ v', e = .returned (.tuple #[v', .bool false]) ∧ Lst w' v' [exIM] ∧ Kep w.heap.size w w' by
    have := O.mvq v [exIX] s [(0, 0)] w h k (by decide) rfl exI_ok (by decide)
    rw [exI_m, exI_mc] at this
    exact this))
  have HG := Lib.hid (fun v w h => (show Calls Try.prog 11 #[v] w fun e w' => ∃ v', e = .returned (.tuple #[v', .bool false]) ∧ Lst w' v' [exIG] ∧ Kep w.heap.size w w' by
    have := O.grv v [exIX] w h (by decide) exI_ok
    rw [exI_g, exI_gc] at this
    exact this))
  have HP := Lib.hid (fun w => (show Calls Try.prog 17 #[.agg #[.int .u32 0, .int .i32 65536, .int .i32 0, .int .i32 0, .int .i32 65536, .int .i32 0, .int .i32 0, .int .i32 0, .int .i32 64, .int .i32 (-1)], .agg #[.int .i32 5, .int .i32 2147483647]] w fun e w' => e = .returned (.tuple #[.agg #[.int .u32 0, .int .i32 65536, .int .i32 0, .int .i32 0, .int .i32 65536, .int .i32 0, .int .i32 0, .int .i32 0, .int .i32 69, .int .i32 16777216], .bool true]) ∧ Kep w.heap.size w w' by
    have := O.psh (x := exIX) (j := 5) (k := 2147483647) (exI_ok _ (List.mem_singleton.2 rfl)) (by decide) (by decide) w
    rw [exI_p] at this
    exact this))
  go_enter Try.func9, Try.ntmps9
  go_upto_region 5 with (first
    | ((with_reducible refine (HM.out _ _ _ ((lst_one (exI_zc _)).kep (kep_more (Kep.refl _ _) _)) (exI_sh _ _ (by first | rfl | simp))).mono ?_); rintro e w2 ⟨v2, rfl, l2, g2⟩
       have Zx : ZC w2 w.heap.size (vals exIX) := ((exI_zc _).more _).kep g2
       have gg := kep_next (kep_more (kep_more (Kep.refl _ _) _) _) g2
       obtain ⟨m, om, cm, rfl, hm⟩ := one_at l2
       have LM := Lib.hid hm
       clear hm l2)
    | ((with_reducible refine (HG.out _ _ (lst_one (x := exIX) Zx)).mono ?_); rintro e w3 ⟨v3, rfl, l3, g3⟩
       replace Zx := Zx.kep g3
       replace gg := kep_next gg g3
       obtain ⟨q, oq, cq, rfl, hq⟩ := one_at l3
       have LQ := Lib.hid hq
       have K3 := Lib.hid g3
       clear hq l3
       have x0 : w3.cell? ⟨w.heap.size, 0, none⟩ = some (.int .u32 0) := Zx.i (i := 0) rfl
       have x1 : w3.cell? ⟨w.heap.size, 1, none⟩ = some (.int .i32 65536) := Zx.i (i := 1) rfl
       have x2 : w3.cell? ⟨w.heap.size, 2, none⟩ = some (.int .i32 0) := Zx.i (i := 2) rfl
       have x3 : w3.cell? ⟨w.heap.size, 3, none⟩ = some (.int .i32 0) := Zx.i (i := 3) rfl
       have x4 : w3.cell? ⟨w.heap.size, 4, none⟩ = some (.int .i32 65536) := Zx.i (i := 4) rfl
       have x5 : w3.cell? ⟨w.heap.size, 5, none⟩ = some (.int .i32 0) := Zx.i (i := 5) rfl
       have x6 : w3.cell? ⟨w.heap.size, 6, none⟩ = some (.int .i32 0) := Zx.i (i := 6) rfl
       have x7 : w3.cell? ⟨w.heap.size, 7, none⟩ = some (.int .i32 0) := Zx.i (i := 7) rfl
       have x8 : w3.cell? ⟨w.heap.size, 8, none⟩ = some (.int .i32 64) := Zx.i (i := 8) rfl
       have x9 : w3.cell? ⟨w.heap.size, 9, none⟩ = some (.int .i32 (-1)) := Zx.i (i := 9) rfl
       have zx := Zx.lt)
    | ((with_reducible refine (HP.out _).mono ?_); rintro e w4 ⟨rfl, g4⟩
       replace gg := kep_next gg g4
       have K4 := Lib.hid g4
       clear g4 x0 x1 x2 x3 x4 x5 x6 x7 x8 x9))
  generalize hW : World.alloc w4 _ = W5
  have k5 : Kep w4.heap.size w4 W5 := by rw [← hW]; exact kep_more (Kep.refl _ _) _
  have Zp : ZC W5 w4.heap.size [.int .u32 0, .int .i32 65536, .int .i32 0, .int .i32 0, .int .i32 65536, .int .i32 0, .int .i32 0, .int .i32 0, .int .i32 69, .int .i32 16777216] := by rw [← hW]; exact zc_new' _ _ _ rfl
  clear hW
  have p8 := Zp.i (i := 8) rfl
  have p9 := Zp.i (i := 9) rfl
  have m6 : W5.cell? ⟨m, om + 6, none⟩ = some (.int .i32 1) := k5.all (K4.out.all (K3.out.all (LM.out 6 (by decide))))
  have m7 : W5.cell? ⟨m, om + 7, none⟩ = some (.int .i32 (-1)) := k5.all (K4.out.all (K3.out.all (LM.out 7 (by decide))))
  have q8 : W5.cell? ⟨q, oq + 8, none⟩ = some (.int .i32 64) := k5.all (K4.out.all (LQ.out 8 (by decide)))
  have q9 : W5.cell? ⟨q, oq + 9, none⟩ = some (.int .i32 (-1025)) := k5.all (K4.out.all (LQ.out 9 (by decide)))
  replace gg := kep_next gg k5
  clear k5 Zp
  go_wp2_with fail
  go_ret
  exact ⟨rfl, gg⟩
end Go.Proofs.Ytlabeelbbkbkaaa
