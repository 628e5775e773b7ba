/-
  Package cell: Bounds, Bucket.
-/
import Derived.Test.YtllddcjokaalpaaDoorCellOps1
import Derived.Test.YtllddcjokaalpaaDoorFac
import Derived.Deep.DeepCutAuto
import Derived.Deep.QuietTactic
import Derived.BigQuiet
namespace Go.Proofs.YtllddcjokaalpaaDoor
open Go.RowKit Go.Lib

theorem xor_u32 (a b : Nat) (ha : a < 2 ^ 32) (hb : b < 2 ^ 32) : bits .xor .u32 (a : Int) (b : Int) = ((a ^^^ b : Nat) : Int) := by
  show IntKind.u32.wrap ((BitVec.ofInt 32 (a : Int) ^^^ BitVec.ofInt 32 (b : Int)).toNat : Int) = _
  have h1 : (BitVec.ofInt 32 (a : Int)).toNat = a := by rw [BitVec.ofInt_natCast, BitVec.toNat_ofNat]; exact Nat.mod_eq_of_lt ha
  have h2 : (BitVec.ofInt 32 (b : Int)).toNat = b := by rw [BitVec.ofInt_natCast, BitVec.toNat_ofNat]; exact Nat.mod_eq_of_lt hb
  rw [BitVec.toNat_xor, h1, h2, IntKind.wrap_u32]
  have := Nat.xor_lt_two_pow ha hb
  omega
theorem bkt_eq (x y : Int) : wrap64 ((bits .xor .u32 (x % 4294967296 * 73856093 % 4294967296) (y % 4294967296 * 19349663 % 4294967296)).tmod 1024) = bktN x y := by
  obtain ⟨a, ha, la⟩ := to_nat32 (x % 4294967296 * 73856093)
  obtain ⟨b, hb, lb⟩ := to_nat32 (y % 4294967296 * 19349663)
  unfold bktN
  rw [ha, hb, xor_u32 a b la lb, Int.toNat_natCast, Int.toNat_natCast]
  generalize a ^^^ b = q
  have : ((q : Int)).tmod 1024 = (q : Int) % 1024 := rfl
  rw [this]
  unfold wrap64
  omega
abbrev PeB (x y c : Int) : Prop := ∀ w, Fac w → Calls Tryd.prog 31 #[.agg #[.int .i32 x, .int .i32 y]] w fun e w' => e = .returned (.int .i64 c) ∧ Bel w w'
set_option maxRecDepth 100000 in
set_option maxHeartbeats 2000000 in
theorem peb (x y : Int) : PeB x y (bktN x y) := fun w F0 => by
  go_enter Tryd.func31, Tryd.ntmps31
  go_wp2_with fail
  generalize hW : World.alloc w _ = W1
  have gg : Bel w W1 := by rw [← hW]; exact (bel_more (Below.refl _ _) _)
  have f0 := bel_all gg F0.x
  have f1 := bel_all gg F0.y
  have p0 : W1.cell? ⟨w.heap.size, 0, none⟩ = some (.int .i32 x) := by rw [← hW]; (repeat (first | rw [World.cell?_drew] | rw [World.cell?_alloc_past _ _ _ (by first | (simp; done) | (simp; omega))])); rw [World.cell?_alloc_at _ _ _ _ (by simp)]; rfl
  have p1 : W1.cell? ⟨w.heap.size, 1, none⟩ = some (.int .i32 y) := by rw [← hW]; (repeat (first | rw [World.cell?_drew] | rw [World.cell?_alloc_past _ _ _ (by first | (simp; done) | (simp; omega))])); rw [World.cell?_alloc_at _ _ _ _ (by simp)]; rfl
  clear hW
  go_quiet (fail)
  go_wp2_with fail
  go_ret
  exact ⟨by rw [bkt_eq]; rfl, ⟨gg.os, gg.tape, gg.output, gg.size, gg.block⟩⟩
end Go.Proofs.YtllddcjokaalpaaDoor
