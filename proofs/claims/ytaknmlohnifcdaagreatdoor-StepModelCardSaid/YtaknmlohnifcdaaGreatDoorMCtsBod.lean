import Derived.Test.YtaknmlohnifcdaaGreatDoorJ09MGridIns
import Derived.Test.YtaknmlohnifcdaaGreatDoorJ15MViewOps
import Derived.Test.YtaknmlohnifcdaaGreatDoorJ14MViewMath
set_option maxHeartbeats 4000000
set_option maxRecDepth 100000
namespace Go.Proofs.YtaknmlohnifcdaaGreatDoor
open Go.RowKit Go.Lib Go.Maps

def bdV (x : Bd) : Value := .agg #[.int .u32 x.k, .int .i32 x.r, .int .i32 x.ax, .int .i32 x.ay, .int .i32 x.m, .int .i32 x.o, .int .i32 x.px, .int .i32 x.py, .int .i32 x.vx, .int .i32 x.vy]
def bdD (x : Bd) : DataW Unit := .slice [.lit (.int .u32 x.k), .lit (.int .i32 x.r), .lit (.int .i32 x.ax), .lit (.int .i32 x.ay), .lit (.int .i32 x.m), .lit (.int .i32 x.o), .lit (.int .i32 x.px), .lit (.int .i32 x.py), .lit (.int .i32 x.vx), .lit (.int .i32 x.vy)] []
def bodE (v : Value) : Option (DataW Unit × List MemPlace) := match v with
 | .agg cs => match cs.toList with
   | [.int .u32 a, .int .i32 b, .int .i32 c, .int .i32 d, .int .i32 e, .int .i32 f, .int .i32 g, .int .i32 p, .int .i32 q, .int .i32 r] => some (bdD ⟨a, b, c, d, e, f, g, p, q, r⟩, [])
   | _ => none
 | _ => none
theorem bodE_mk (x : Bd) : bodE (bdV x) = some (bdD x, []) := rfl
theorem bodE_inv {v : Value} {z : DataW Unit × List MemPlace} (h : bodE v = some z) : ∃ x, v = bdV x ∧ z = (bdD x, []) := by
 unfold bodE at h
 split at h
 ·rename_i cs
  split at h
  ·rename_i a b c d e f g p q r u
   injection h with h
   refine ⟨⟨a, b, c, d, e, f, g, p, q, r⟩, ?_, h.symm⟩
   unfold bdV
   congr 1
   exact Array.ext' (by simpa using u)
  ·cases h
 ·cases h
theorem bdD_inj {x y : Bd} (h : bdD x = bdD y) : x = y := by
 cases x
 cases y
 unfold bdD at h
 simp only [DataW.slice.injEq, List.cons.injEq, DataW.lit.injEq, Lit.int.injEq, true_and, and_true] at h
 obtain ⟨h0, h1, h2, h3, h4, h5, h6, h7, h8, h9⟩ := h
 subst h0 h1 h2 h3 h4 h5 h6 h7 h8 h9
 rfl
abbrev OwnB (w : World) (b n : Nat) (D : DataW Unit) : Prop := w.ownsMap Tryz.prog 36 bodE b n D
theorem zeroBd (w : World) : (zeroValue 40).run Tryz.prog w = .ok (bdV ⟨0, 0, 0, 0, 0, 0, 0, 0, 0, 0⟩) w := by kernel_rfl
def BodM (D : DataW Unit) (L : List Bd) : Prop := ∀ x ∈ L, ∀ z, D.atKey (.int .u32 x.k) z = bdD x
theorem bod_nil : BodM (.map []) [] := fun x h => by simp at h
theorem BodM.step {D : DataW Unit} {L : List Bd} (h : BodM D L) (hD : IsMap D) (x : Bd) (hx : ∀ y ∈ L, y.k ≠ x.k) : BodM (D.put (.int .u32 x.k) (bdD x)) (L ++ [x]) := fun y hy z => by
 rcases List.mem_append.1 hy with q | q
 ·rw [atKey_put_other (kn32 (hx y q)), h y q]
 ·simp at q
  subst q
  rw [atKey_put_same hD (kl32 _)]
theorem bod_look {w : World} {b n : Nat} {D : DataW Unit} {L : List Bd} (h : OwnB w b n D) (hM : BodM D L) {x : Bd} (hx : x ∈ L) (hw : (Lit.int .u32 x.k).wf = true) :
 (Instr.lookup 90 (.map (some b)) (.int .u32 x.k) false).run Tryz.prog w = .ok (.agg #[.int .u32 x.k, .int .i32 x.r, .int .i32 x.ax, .int .i32 x.ay, .int .i32 x.m, .int .i32 x.o, .int .i32 x.px, .int .i32 x.py, .int .i32 x.vx, .int .i32 x.vy]) w := by
 obtain ⟨v, ps, hrun, hv⟩ := h.lookup law32 Tryz.underlying90 (zeroBd w) (bodE_mk _) (keyOf_int_mk (P := Tryz.prog) Tryz.underlying36 hw)
 rw [hM x hx] at hv
 obtain ⟨y, rfl, e⟩ := bodE_inv hv
 have e1 : bdD x = bdD y := congrArg (fun z => z.1) e
 have e2 := bdD_inj e1
 subst e2
 exact hrun
theorem take_snocB {L : List Bd} {j : Nat} {x : Bd} (h : L[j]? = some x) : L.take (j + 1) = L.take j ++ [x] := by
 rw [List.take_add_one, h]
 rfl
theorem asc_ne {L : List Bd} (h : Asc L) {j : Nat} {x : Bd} (hx : L[j]? = some x) : ∀ y ∈ L.take j, y.k ≠ x.k := fun y hy e => by
 obtain ⟨i, hi⟩ := List.getElem?_of_mem hy
 have l := (List.getElem?_eq_some_iff.1 hi).1
 rw [List.length_take] at l
 rw [List.getElem?_take_of_lt (by omega)] at hi
 have := asc_lt h hi hx (by omega)
 omega
theorem mk_bods (n : Int) (w : World) : (Instr.makeMap 90 (some (.int .i64 n))).run Tryz.prog w = .ok (.map (some w.heap.size)) (w.alloc (.map #[] 0)) := by
 unfold Instr.makeMap
 simp [run_underlying Tryz.underlying90]
 rfl
def BodR (w : World) (v : Value) (L : List Bd) : Prop := ∃ mb n D, v = .map (some mb) ∧ n ≤ 40 ∧ OwnB w mb n D ∧ BodM D L
theorem pbky (v : Value) (L : List Bd) (w : World) (h : Lst w v L) (V : Vw L) : Calls Tryz.prog 51 #[v] w fun e w' => ∃ v', e = .returned v' ∧ (BodR w' v' L ∧ ∀ b, v' = .map (some b) → w.heap.size ≤ b) ∧ Kep w.heap.size w w' := by
 obtain ⟨base, cap, rfl⟩ := h.shape
 have HC := Lib.hid (fun (k : Nat) (x : Bd) (hx : L[k]? = some x) => h.at_ hx)
 have HV := Lib.hid V
 have hm := V.len
 clear h V
 generalize hl : L.length = len at *
 have HN := Lib.hid hl
 clear hl
 have hmm : ∀ w, (Instr.makeMap 90 (some (.int .i64 (len : Int)))).run Tryz.prog w = .ok (.map (some w.heap.size)) (w.alloc (.map #[] 0)) := fun w => mk_bods len w
 go_enter Tryz.func51, Tryz.ntmps51
 go_wp2_with fail
 go_loopw [11] (fun i wr => ∃ j : Nat, j ≤ len ∧ i = .int .i64 j ∧ Hid (Kep w.heap.size w wr ∧ ∃ n D, n ≤ j ∧ OwnB wr w.heap.size n D ∧ BodM D (L.take j))) (fun i _ => len - (RowKit.intOf i).toNat)
 case atStart => exact ⟨0, by omega, rfl, Lib.hid ⟨kep_more (Kep.refl _ _) _, 0, _, Nat.le_refl _, World.ownsMap_made _ _ _ _, by rw [List.take_zero]; exact bod_nil⟩⟩
 case round =>
  obtain ⟨j, hj, rfl, HP⟩ := hrel
  clear hmm
  by_cases hlt : j < len
  ·have hb : L[j]? = some (L[j]'(by rw [HN.out]; exact hlt)) := List.getElem?_eq_getElem _
   generalize L[j]'(by rw [HN.out]; exact hlt) = x at hb
   obtain ⟨gl, off, rfl, qx⟩ := HC.out j x hb
   have hxm := List.mem_of_getElem? hb
   obtain ⟨gg, n, D, hn, hown, hM⟩ := HP.out
   have HKEY := Lib.hid (keyOf_int_mk (P := Tryz.prog) Tryz.underlying36 (HV.out.key x hxm))
   have HST : Hid (BodM (D.put (.int .u32 x.k) (bdD x)) (L.take (j + 1))) := Lib.hid (by rw [take_snocB hb]; exact hM.step hown.isMap x (asc_ne HV.out.asc hb))
   have HG := Lib.hid gg
   have HO := Lib.hid hown
   have s0 : wr.cell? ⟨gl, off + j * 10, none⟩ = some (.int .u32 x.k) := gg.all (qx 0 (by decide))
   have s1 : wr.cell? ⟨gl, off + j * 10 + 1, none⟩ = some (.int .i32 x.r) := gg.all (qx 1 (by decide))
   have s2 : wr.cell? ⟨gl, off + j * 10 + 2, none⟩ = some (.int .i32 x.ax) := gg.all (qx 2 (by decide))
   have s3 : wr.cell? ⟨gl, off + j * 10 + 3, none⟩ = some (.int .i32 x.ay) := gg.all (qx 3 (by decide))
   have s4 : wr.cell? ⟨gl, off + j * 10 + 4, none⟩ = some (.int .i32 x.m) := gg.all (qx 4 (by decide))
   have s5 : wr.cell? ⟨gl, off + j * 10 + 5, none⟩ = some (.int .i32 x.o) := gg.all (qx 5 (by decide))
   have s6 : wr.cell? ⟨gl, off + j * 10 + 6, none⟩ = some (.int .i32 x.px) := gg.all (qx 6 (by decide))
   have s7 : wr.cell? ⟨gl, off + j * 10 + 7, none⟩ = some (.int .i32 x.py) := gg.all (qx 7 (by decide))
   have s8 : wr.cell? ⟨gl, off + j * 10 + 8, none⟩ = some (.int .i32 x.vx) := gg.all (qx 8 (by decide))
   have s9 : wr.cell? ⟨gl, off + j * 10 + 9, none⟩ = some (.int .i32 x.vy) := gg.all (qx 9 (by decide))
   clear hb qx hM hown HP hxm
   have i0 : (0 : Int) ≤ (j : Int) := Int.natCast_nonneg _
   have i1 : (j : Int) < (len : Int) := by omega
   obtain ⟨w5, hrun, h5, g5⟩ := (HO.out.alloc (.cells #[.int .u32 x.k, .int .i32 x.r, .int .i32 x.ax, .int .i32 x.ay, .int .i32 x.m, .int .i32 x.o, .int .i32 x.px, .int .i32 x.py, .int .i32 x.vx, .int .i32 x.vy] 40)).update law32 Tryz.underlying90 (by unfold maxLen; omega) HKEY.out (bodE_mk x)
   have O5 := Lib.hid h5
   have K5 : Hid (Kep w.heap.size w w5) := Lib.hid ((kep_more HG.out (.cells #[.int .u32 x.k, .int .i32 x.r, .int .i32 x.ax, .int .i32 x.ay, .int .i32 x.m, .int .i32 x.o, .int .i32 x.px, .int .i32 x.py, .int .i32 x.vx, .int .i32 x.vy] 40)).row g5 (kep_more HG.out (.cells #[.int .u32 x.k, .int .i32 x.r, .int .i32 x.ax, .int .i32 x.ay, .int .i32 x.m, .int .i32 x.o, .int .i32 x.px, .int .i32 x.py, .int .i32 x.vx, .int .i32 x.vy] 40)).size (fun k e => by injection e with e; omega))
   clear h5 g5
   unfold bdV at hrun
   go_wp2
   all_goals go_roundw
   all_goals first
    | exact ⟨j + 1, by omega, by first | rfl | go_num, Lib.hid ⟨K5.out, n + 1, _, by omega, O5.out, HST.out⟩⟩
    | (simp [RowKit.intOf]; omega)
  ·have i2 : ¬ (j : Int) < (len : Int) := by omega
   obtain rfl : j = len := by omega
   obtain ⟨gg, n, D, hn, hown, hM⟩ := HP.out
   rw [List.take_of_length_le (Nat.le_of_eq HN.out)] at hM
   have HG := Lib.hid gg
   have HO := Lib.hid hown
   have HM := Lib.hid hM
   clear gg hown hM HP
   go_wp2
   go_ret
   exact ⟨_, rfl, ⟨⟨_, n, D, rfl, by omega, HO.out, HM.out⟩, fun b e => by injection e with e; injection e with e; omega⟩, HG.out⟩
end Go.Proofs.YtaknmlohnifcdaaGreatDoor
