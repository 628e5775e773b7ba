import Derived.Test.YtaknmlohnifcdaaGreatDoorJ13MGridCand
import Derived.Test.YtaknmlohnifcdaaGreatDoorJ14MViewMath
import Derived.Test.YtaknmlohnifcdaaGreatDoorJ15MViewOps
import Derived.Test.YtaknmlohnifcdaaGreatDoorJ07MBodyCon
set_option maxHeartbeats 4000000
set_option maxRecDepth 100000
section
namespace Go.Proofs.YtaknmlohnifcdaaGreatDoor
open Go.RowKit Go.Lib Go.Maps

def bxV (a b c d : Int) : Value := .agg #[.int .i32 a, .int .i32 b, .int .i32 c, .int .i32 d]
def bxD (a b c d : Int) : DataW Unit := .slice [.lit (.int .i32 a), .lit (.int .i32 b), .lit (.int .i32 c), .lit (.int .i32 d)] []
def boxElem (v : Value) : Option (DataW Unit × List MemPlace) := match v with
 | .agg cs => match cs.toList with
   | [.int .i32 a, .int .i32 b, .int .i32 c, .int .i32 d] => some (bxD a b c d, [])
   | _ => none
 | _ => none
theorem boxElem_mk (a b c d : Int) : boxElem (bxV a b c d) = some (bxD a b c d, []) := rfl
theorem boxElem_inv {v : Value} {z : DataW Unit × List MemPlace} (h : boxElem v = some z) : ∃ a b c d, v = bxV a b c d ∧ z = (bxD a b c d, []) := by
 unfold boxElem at h
 split at h
 ·rename_i cs
  split at h
  ·rename_i a b c d e
   injection h with h
   refine ⟨a, b, c, d, ?_, h.symm⟩
   unfold bxV
   congr 1
   exact Array.ext' (by simpa using e)
  ·cases h
 ·cases h
theorem bxD_inj {a b c d p q r s : Int} (h : bxD a b c d = bxD p q r s) : a = p ∧ b = q ∧ c = r ∧ d = s := by
 unfold bxD at h
 injection h with h
 injection h with h1 h
 injection h with h2 h
 injection h with h3 h
 injection h with h4 h
 injection h1 with h1; injection h1 with _ h1
 injection h2 with h2; injection h2 with _ h2
 injection h3 with h3; injection h3 with _ h3
 injection h4 with h4; injection h4 with _ h4
 exact ⟨h1, h2, h3, h4⟩
abbrev OwnX (w : World) (b n : Nat) (D : DataW Unit) : Prop := w.ownsMap Tryz.prog 36 boxElem b n D
theorem zeroX (w : World) : (zeroValue 120).run Tryz.prog w = .ok (bxV 0 0 0 0) w := by kernel_rfl
structure BoxM (D : DataW Unit) (L : List Bd) : Prop where
 has : ∀ k, Maps.has D (.int .u32 k) = true ↔ ∃ x ∈ L, x.k = k
 val : ∀ x ∈ L, ∀ z, D.atKey (.int .u32 x.k) z = bxD (entB x).a (entB x).b (entB x).c (entB x).d
theorem box_nil : BoxM (.map []) [] := ⟨fun k => by simp [Maps.has], fun x h => by simp at h⟩
theorem BoxM.step {D : DataW Unit} {L : List Bd} (h : BoxM D L) (hD : IsMap D) (x : Bd) (hx : ∀ y ∈ L, y.k ≠ x.k) : BoxM (D.put (.int .u32 x.k) (bxD (entB x).a (entB x).b (entB x).c (entB x).d)) (L ++ [x]) := by
 refine ⟨fun k => ?_, fun y hy z => ?_⟩
 ·by_cases c : k = x.k
  ·subst c
   rw [has_put_same hD (kl32 _)]
   exact ⟨fun _ => ⟨x, by simp, rfl⟩, fun _ => rfl⟩
  ·rw [has_put_other (kn32 c), h.has]
   constructor
   ·rintro ⟨y, hy, e⟩
    exact ⟨y, by simp [hy], e⟩
   ·rintro ⟨y, hy, e⟩
    rcases List.mem_append.1 hy with q | q
    ·exact ⟨y, q, e⟩
    ·simp at q
     subst q
     exact absurd e.symm c
 ·rcases List.mem_append.1 hy with q | q
  ·rw [atKey_put_other (kn32 (hx y q)), h.val y q]
  ·simp at q
   subst q
   rw [atKey_put_same hD (kl32 _)]
theorem box_look {w : World} {b n : Nat} {D : DataW Unit} {L : List Bd} (h : OwnX w b n D) (hM : BoxM D L) {x : Bd} (hx : x ∈ L) (hw : (Lit.int .u32 x.k).wf = true) :
 (Instr.lookup 117 (.map (some b)) (.int .u32 x.k) false).run Tryz.prog w = .ok (.agg #[.int .i32 (entB x).a, .int .i32 (entB x).b, .int .i32 (entB x).c, .int .i32 (entB x).d]) w := by
 obtain ⟨v, ps, hrun, hv⟩ := h.lookup law32 Tryz.underlying117 (zeroX w) (boxElem_mk 0 0 0 0) (keyOf_int_mk (P := Tryz.prog) Tryz.underlying36 hw)
 rw [hM.val x hx] at hv
 obtain ⟨a, b, c, d, rfl, e⟩ := boxElem_inv hv
 have e1 : bxD (entB x).a (entB x).b (entB x).c (entB x).d = bxD a b c d := congrArg (fun z => z.1) e
 obtain ⟨h1, h2, h3, h4⟩ := bxD_inj e1
 rw [h1, h2, h3, h4]
 exact hrun
theorem pobx {x : Bd} (h : chkB x = 0) : Hid (∀ w, Calls Tryz.prog 90 #[.agg #[.int .u32 x.k, .int .i32 x.r, .int .i32 x.ax, .int .i32 x.ay, .int .i32 x.m, .int .i32 x.o, .int .i32 x.px, .int .i32 x.py, .int .i32 x.vx, .int .i32 x.vy]] w fun e w' => e = .returned (.agg #[.int .i32 (entB x).a, .int .i32 (entB x).b, .int .i32 (entB x).c, .int .i32 (entB x).d]) ∧ Kep w.heap.size w w') := by
 obtain ⟨h1, h2, h3, h4⟩ := ext_B h
 obtain ⟨h5, ⟨h6, h7⟩, h8⟩ := chk_lim h
 refine Lib.hid (fun w => kep_calls (pof x.k x.r x.ax x.ay x.m x.o x.px x.py x.vx x.vy (exB x) (eyB x) _ _ _ _ (Lib.hid (ext_in8 x.k x.r x.ax x.ay x.m x.o x.px x.py x.vx x.vy (exB x) (eyB x) h6 h7 h5 rfl rfl)) ?_ ?_ ?_ ?_ w)) <;> (show wrap32 _ = _; unfold entB wrap32; dsimp only; omega)
theorem povl (xa ya za ta xb yb zb tb : Int) (w : World) : Calls Tryz.prog 74 #[.agg #[.int .i32 xa, .int .i32 ya, .int .i32 za, .int .i32 ta], .agg #[.int .i32 xb, .int .i32 yb, .int .i32 zb, .int .i32 tb]] w fun e w' => e = .returned (.bool (ovlB xa ya za ta xb yb zb tb)) ∧ Kep w.heap.size w w' :=
 kep_calls (pov xa ya za ta xb yb zb tb _ rfl w)
end Go.Proofs.YtaknmlohnifcdaaGreatDoor
end
section
namespace Go.Proofs.YtaknmlohnifcdaaGreatDoor
open Go.RowKit Go.Lib Go.Maps

theorem take_at {L : List Bd} {j : Nat} {x : Bd} (h : L[j]? = some x) : L.take (j + 1) = L.take j ++ [x] := by
 rw [List.take_add_one, h]
 rfl
theorem asc_tk {L : List Bd} (h : Asc L) {j : Nat} {x : Bd} (hx : L[j]? = some x) : ∀ y ∈ L.take j, y.k ≠ x.k := fun y hy e => by
 obtain ⟨i, hi⟩ := List.getElem?_of_mem hy
 have l := (List.getElem?_eq_some_iff.1 hi).1
 rw [List.length_take] at l
 rw [List.getElem?_take_of_lt (by omega)] at hi
 have := asc_lt h hi hx (by omega)
 omega
theorem mk_map (n : Int) (w : World) : (Instr.makeMap 117 (some (.int .i64 n))).run Tryz.prog w = .ok (.map (some w.heap.size)) (w.alloc (.map #[] 0)) := by
 unfold Instr.makeMap
 simp [run_underlying Tryz.underlying117]
 rfl
def BoxR (w : World) (v : Value) (L : List Bd) : Prop := ∃ mb n D, v = .map (some mb) ∧ n ≤ 40 ∧ OwnX w mb n D ∧ BoxM D L
theorem pbxs (v : Value) (L : List Bd) (w : World) (h : Lst w v L) (V : Vw L) : Calls Tryz.prog 72 #[v] w fun e w' => ∃ v', e = .returned v' ∧ BoxR w' v' L ∧ Kep w.heap.size w w' := by
 obtain ⟨base, cap, rfl⟩ := h.shape
 have HC := Lib.hid (fun (k : Nat) (x : Bd) (hx : L[k]? = some x) => h.at_ hx)
 have HV := Lib.hid V
 have hm := V.len
 clear h V
 generalize hl : L.length = len at *
 have HN := Lib.hid hl
 clear hl
 have hmm : ∀ w, (Instr.makeMap 117 (some (.int .i64 (len : Int)))).run Tryz.prog w = .ok (.map (some w.heap.size)) (w.alloc (.map #[] 0)) := fun w => mk_map len w
 go_enter Tryz.func72, Tryz.ntmps72
 go_wp2_with fail
 go_loopw [11] (fun i wr => ∃ j : Nat, j ≤ len ∧ i = .int .i64 j ∧ Hid (Kep w.heap.size w wr ∧ ∃ n D, n ≤ j ∧ OwnX wr w.heap.size n D ∧ BoxM D (L.take j))) (fun i _ => len - (RowKit.intOf i).toNat)
 case atStart => exact ⟨0, by omega, rfl, Lib.hid ⟨kep_more (Kep.refl _ _) _, 0, _, Nat.le_refl _, World.ownsMap_made _ _ _ _, by rw [List.take_zero]; exact box_nil⟩⟩
 case round =>
  obtain ⟨j, hj, rfl, HP⟩ := hrel
  clear hmm
  by_cases hlt : j < len
  ·have hb : L[j]? = some (L[j]'(by rw [HN.out]; exact hlt)) := List.getElem?_eq_getElem _
   generalize L[j]'(by rw [HN.out]; exact hlt) = x at hb
   obtain ⟨gl, off, rfl, qx⟩ := HC.out j x hb
   have hxm := List.mem_of_getElem? hb
   obtain ⟨gg, n, D, hn, hown, hM⟩ := HP.out
   have CO := pobx (HV.out.ok x hxm)
   have HKEY := Lib.hid (keyOf_int_mk (P := Tryz.prog) Tryz.underlying36 (HV.out.key x hxm))
   have HST : Hid (BoxM (D.put (.int .u32 x.k) (bxD (entB x).a (entB x).b (entB x).c (entB x).d)) (L.take (j + 1))) := Lib.hid (by rw [take_at hb]; exact hM.step hown.isMap x (asc_tk HV.out.asc hb))
   have HG := Lib.hid gg
   have HO := Lib.hid hown
   have s0 : wr.cell? ⟨gl, off + j * 10, none⟩ = some (.int .u32 x.k) := gg.all (qx 0 (by decide))
   have s1 : wr.cell? ⟨gl, off + j * 10 + 1, none⟩ = some (.int .i32 x.r) := gg.all (qx 1 (by decide))
   have s2 : wr.cell? ⟨gl, off + j * 10 + 2, none⟩ = some (.int .i32 x.ax) := gg.all (qx 2 (by decide))
   have s3 : wr.cell? ⟨gl, off + j * 10 + 3, none⟩ = some (.int .i32 x.ay) := gg.all (qx 3 (by decide))
   have s4 : wr.cell? ⟨gl, off + j * 10 + 4, none⟩ = some (.int .i32 x.m) := gg.all (qx 4 (by decide))
   have s5 : wr.cell? ⟨gl, off + j * 10 + 5, none⟩ = some (.int .i32 x.o) := gg.all (qx 5 (by decide))
   have s6 : wr.cell? ⟨gl, off + j * 10 + 6, none⟩ = some (.int .i32 x.px) := gg.all (qx 6 (by decide))
   have s7 : wr.cell? ⟨gl, off + j * 10 + 7, none⟩ = some (.int .i32 x.py) := gg.all (qx 7 (by decide))
   have s8 : wr.cell? ⟨gl, off + j * 10 + 8, none⟩ = some (.int .i32 x.vx) := gg.all (qx 8 (by decide))
   have s9 : wr.cell? ⟨gl, off + j * 10 + 9, none⟩ = some (.int .i32 x.vy) := gg.all (qx 9 (by decide))
   clear hb qx hM hown HP hxm
   have i0 : (0 : Int) ≤ (j : Int) := Int.natCast_nonneg _
   have i1 : (j : Int) < (len : Int) := by omega
   go_wp2_with fail
   have HW1 := Lib.hid (HO.out.alloc (.cells #[.int .u32 x.k, .int .i32 x.r, .int .i32 x.ax, .int .i32 x.ay, .int .i32 x.m, .int .i32 x.o, .int .i32 x.px, .int .i32 x.py, .int .i32 x.vx, .int .i32 x.vy] 40))
   have HG1 := Lib.hid (kep_more HG.out (.cells #[.int .u32 x.k, .int .i32 x.r, .int .i32 x.ax, .int .i32 x.ay, .int .i32 x.m, .int .i32 x.o, .int .i32 x.px, .int .i32 x.py, .int .i32 x.vx, .int .i32 x.vy] 40))
   go_region_with ((with_reducible refine (CO.out _).mono ?_); rintro e w4 ⟨rfl, g4⟩
                   have y4 := g4.all (a := ⟨wr.heap.size, 0, none⟩) (v := .int .u32 x.k) (by rw [World.cell?_drew, World.cell?_alloc_at _ _ _ _ (by simp)]; rfl)
                   have hown4 : OwnX w4 w.heap.size n D := map_kep HW1.out.drew g4
                   obtain ⟨w5, hrun, h5, g5⟩ := hown4.update law32 Tryz.underlying117 (by unfold maxLen; omega) HKEY.out (boxElem_mk (entB x).a (entB x).b (entB x).c (entB x).d)
                   have O5 := Lib.hid h5
                   have K5 : Hid (Kep w.heap.size w w5) := Lib.hid ((kep_next (kep_drew HG1.out) g4).row g5 (kep_next (kep_drew HG1.out) g4).size (fun k e => by injection e with e; omega))
                   clear hown4 h5 g5 g4
                   unfold bxV at hrun)
   all_goals go_wp2
   all_goals go_roundw
   all_goals first
    | exact ⟨j + 1, by omega, by first | rfl | go_num, Lib.hid ⟨K5.out, n + 1, _, by omega, O5.out, HST.out⟩⟩
    | (simp [RowKit.intOf]; omega)
  ·have i2 : ¬ (j : Int) < (len : Int) := by omega
   obtain rfl : j = len := by omega
   obtain ⟨gg, n, D, hn, hown, hM⟩ := HP.out
   rw [List.take_of_length_le (Nat.le_of_eq HN.out)] at hM
   have HG := Lib.hid gg
   have HO := Lib.hid hown
   have HM := Lib.hid hM
   clear gg hown hM HP
   go_wp2
   go_ret
   exact ⟨_, rfl, ⟨_, n, D, rfl, by omega, HO.out, HM.out⟩, HG.out⟩
end Go.Proofs.YtaknmlohnifcdaaGreatDoor
end
section
namespace Go.Proofs.YtaknmlohnifcdaaGreatDoor
open Go.RowKit Go.Lib Go.Maps

theorem ent_take {L : List Bd} {j : Nat} {x : Bd} (h : L[j]? = some x) : (L.take (j + 1)).map entB = (L.take j).map entB ++ [entB x] := by
 rw [take_at h, List.map_append]
 rfl
theorem pcnd (v : Value) (L : List Bd) (mb nm : Nat) (D : DataW Unit) (w : World) (F : Fac w) (h : Lst w v L) (V : Vw L) (hO : OwnX w mb nm D) (hM : BoxM D L) : Calls Tryz.prog 75 #[v, .map (some mb)] w fun e w' => ∃ v', e = .returned v' ∧ (Sq pv 2 w' v' (candL (L.map entB)) ∧ Fresh w v') ∧ Kep w.heap.size w w' := by
 obtain ⟨base, cap, rfl⟩ := h.shape
 have HC := Lib.hid (fun (k : Nat) (x : Bd) (hx : L[k]? = some x) => h.at_ hx)
 have HV := Lib.hid V
 have HO := Lib.hid hO
 have HM := Lib.hid hM
 have hm := V.len
 have H0 := Lib.hid (gnew w F)
 clear h V hO hM F
 have hle : (L.map entB).length ≤ 100 := by rw [List.length_map]; omega
 have HLE := Lib.hid hle
 have HEN : Hid (∀ x ∈ L.map entB, EntOk x) := Lib.hid fun e he => by
  obtain ⟨x, hx, rfl⟩ := List.mem_map.1 he
  exact ent_ok (HV.out.ok x hx) (HV.out.key x hx)
 clear hle
 generalize hl : L.length = len at *
 have HN := Lib.hid hl
 clear hl
 go_enter Tryz.func75, Tryz.ntmps75
 go_wp2_with fail
 have HK0 : Hid (Kep w.heap.size w (w.alloc (.cells Tryz.zeroCells147 147))) := Lib.hid (kep_more (Kep.refl _ _) _)
 generalize w.alloc (.cells Tryz.zeroCells147 147) = W1 at *
 go_loopw [10] (fun i wr => ∃ j : Nat, j ≤ len ∧ i = .int .i64 j ∧ Hid (Kep w.heap.size w wr ∧ ∃ S, GI wr w.heap.size S ((L.take j).map entB) ∧ ∀ k, S k → w.heap.size ≤ k)) (fun i _ => len - (RowKit.intOf i).toNat)
 case atStart => exact ⟨0, by omega, rfl, Lib.hid ⟨HK0.out, _, by rw [List.take_zero]; exact H0.out, fun k e => by omega⟩⟩
 case round =>
  obtain ⟨j, hj, rfl, HP⟩ := hrel
  by_cases hlt : j < len
  ·have hb : L[j]? = some (L[j]'(by rw [HN.out]; exact hlt)) := List.getElem?_eq_getElem _
   generalize L[j]'(by rw [HN.out]; exact hlt) = x at hb
   obtain ⟨gl, off, rfl, qx⟩ := HC.out j x hb
   have hxm := List.mem_of_getElem? hb
   obtain ⟨gg, S, hG, hS⟩ := HP.out
   have HE := Lib.hid (ent_take hb)
   have hwx := HV.out.key x hxm
   have s0 : wr.cell? ⟨gl, off + j * 10, none⟩ = some (.int .u32 x.k) := gg.all (qx 0 (by decide))
   have s1 : wr.cell? ⟨gl, off + j * 10 + 1, none⟩ = some (.int .i32 x.r) := gg.all (qx 1 (by decide))
   have s2 : wr.cell? ⟨gl, off + j * 10 + 2, none⟩ = some (.int .i32 x.ax) := gg.all (qx 2 (by decide))
   have s3 : wr.cell? ⟨gl, off + j * 10 + 3, none⟩ = some (.int .i32 x.ay) := gg.all (qx 3 (by decide))
   have s4 : wr.cell? ⟨gl, off + j * 10 + 4, none⟩ = some (.int .i32 x.m) := gg.all (qx 4 (by decide))
   have s5 : wr.cell? ⟨gl, off + j * 10 + 5, none⟩ = some (.int .i32 x.o) := gg.all (qx 5 (by decide))
   have s6 : wr.cell? ⟨gl, off + j * 10 + 6, none⟩ = some (.int .i32 x.px) := gg.all (qx 6 (by decide))
   have s7 : wr.cell? ⟨gl, off + j * 10 + 7, none⟩ = some (.int .i32 x.py) := gg.all (qx 7 (by decide))
   have s8 : wr.cell? ⟨gl, off + j * 10 + 8, none⟩ = some (.int .i32 x.vx) := gg.all (qx 8 (by decide))
   have s9 : wr.cell? ⟨gl, off + j * 10 + 9, none⟩ = some (.int .i32 x.vy) := gg.all (qx 9 (by decide))
   have HG1 := Lib.hid (kep_more gg (.cells #[.int .u32 x.k, .int .i32 x.r, .int .i32 x.ax, .int .i32 x.ay, .int .i32 x.m, .int .i32 x.o, .int .i32 x.px, .int .i32 x.py, .int .i32 x.vx, .int .i32 x.vy] 40))
   have HGI := Lib.hid (gi_kep hG (kep_more (Kep.refl _ _) (.cells #[.int .u32 x.k, .int .i32 x.r, .int .i32 x.ax, .int .i32 x.ay, .int .i32 x.m, .int .i32 x.o, .int .i32 x.px, .int .i32 x.py, .int .i32 x.vx, .int .i32 x.vy] 40)))
   have hlook := box_look (map_kep HO.out HG1.out) HM.out hxm hwx
   have CI := Lib.hid (gins w.heap.size S ((L.take j).map entB) (entB x) _ HGI.out (ent_ok (HV.out.ok x hxm) hwx) (by rw [List.length_map, List.length_take]; omega))
   have HS := Lib.hid hS
   have hka : (entB x).k = x.k := rfl
   rw [hka] at CI
   clear hb qx hG hS HP hxm gg hwx hka
   have i0 : (0 : Int) ≤ (j : Int) := Int.natCast_nonneg _
   have i1 : (j : Int) < (len : Int) := by omega
   generalize (entB x).a = ea at *
   generalize (entB x).b = eb at *
   generalize (entB x).c = ec at *
   generalize (entB x).d = ed at *
   go_wp2_with ((with_reducible refine (CI.out).mono ?_); rintro e w4 ⟨⟨v4, rfl⟩, S2, h4, m4, o4⟩)
   go_roundw
   case rel => exact ⟨j + 1, by omega, by first | rfl | go_num, Lib.hid ⟨HG1.out.trans (o4.kep HG1.out.size HS.out), S2, by rw [HE.out]; exact h4, fun k hk => (m4 k hk).elim (fun q => HS.out k q) (fun q => Nat.le_trans HG1.out.size q)⟩⟩
   case measure => simp [RowKit.intOf]; omega
  ·have i2 : ¬ (j : Int) < (len : Int) := by omega
   obtain rfl : j = len := by omega
   obtain ⟨gg, S, hG, hS⟩ := HP.out
   rw [List.take_of_length_le (Nat.le_of_eq HN.out)] at hG
   have CC := Lib.hid (gcand w.heap.size S (L.map entB) wr hG HEN.out HLE.out)
   have HG := Lib.hid gg
   clear gg hG HP
   go_wp2_with ((with_reducible refine (CC.out).mono ?_); rintro e w4 ⟨v4, rfl, ⟨q4, f4⟩, k4⟩)
   go_ret
   exact ⟨_, rfl, ⟨q4, fun k e => Nat.le_trans HG.out.size (f4 k e)⟩, kep_next HG.out k4⟩
theorem own_fr {w w' : World} {B fb : Nat} {e : TypeId} {size n : Nat} {v : Value} {xs : List Value} (h : w.ownsRow B e size v n xs) (k : Fr w fb w') (hb : fb < B) : w'.ownsRow B e size v n xs := by
 refine ⟨h.1, ?_⟩
 rcases h.2 with hn | ⟨g, cap, cur, rfl, hg, hgg, rest⟩
 ·exact .inl hn
 ·refine .inr ⟨g, cap, cur, rfl, hg, ?_, rest⟩
  have hlt : g < w.heap.size := (Array.getElem?_eq_some_iff.1 hgg).1
  rw [k.block g hlt (by omega)]
  exact hgg
theorem Fr.next {a b c : World} {fb : Nat} (h : Fr a fb b) (k : Fr b fb c) : Fr a fb c :=
 ⟨k.os.trans h.os, k.output.trans h.output, Nat.le_trans h.size k.size, fun i hi hn => (k.block i (Nat.lt_of_lt_of_le hi h.size) hn).trans (h.block i hi hn)⟩
theorem Fr.set {a b : World} {fb o : Nat} (h : Fr a fb b) (v : Value) : Fr a fb (b.setCell ⟨fb, o, none⟩ v) :=
 ⟨h.os, h.output, by rw [World.size_setCell]; exact h.size, fun i hi hn => by rw [Below.heap_setCell _ _ _ i (fun e => hn e)]; exact h.block i hi hn⟩
theorem ownX_fr {w w' : World} {mb nm fb : Nat} {D : DataW Unit} (h : OwnX w mb nm D) (g : Fr w fb w') (hn : mb ≠ fb) : OwnX w' mb nm D := by
 obtain ⟨es, clock, hc, F, hs, hD⟩ := h
 exact ⟨es, clock, (g.block mb (Array.getElem?_eq_some_iff.1 hc).1 hn).trans hc, F, hs, hD⟩
theorem ownX_ne {w : World} {mb nm tb : Nat} {D : DataW Unit} {v : Value} (h : OwnX w mb nm D) (h0 : w.cell? ⟨tb, 0, none⟩ = some v) : mb ≠ tb := by
 obtain ⟨es, clock, hc, F, hs, hD⟩ := h
 intro e
 subst e
 simp [World.cell?, hc] at h0
theorem pclo (L : List Bd) (V : Vw L) (x y : Bd) (hx : x ∈ L) (hy : y ∈ L) (tb bb mb nm : Nat) (D : DataW Unit) (n : Nat) (hn : n ≤ 100000) (w : World) (hO : OwnX w mb nm D) (hM : BoxM D L) (h0 : w.cell? ⟨tb, 0, none⟩ = some (.int .i64 n)) (h1 : w.frozen? ⟨tb, 0, none⟩ = false) (h2 : w.cell? ⟨bb, 0, none⟩ = some (.map (some mb))) (hne : bb ≠ tb) :
 Calls Tryz.prog 73 #[.agg #[.int .u32 x.k, .int .u32 y.k], .pointer (some ⟨tb, 0, none⟩), .pointer (some ⟨bb, 0, none⟩)] w fun e w' => e = .returned (.bool (ovP x y)) ∧ w'.cell? ⟨tb, 0, none⟩ = some (.int .i64 ((n + 1 : Nat) : Int)) ∧ w'.frozen? ⟨tb, 0, none⟩ = false ∧ Fr w tb w' := by
 have CV := Lib.hid (fun W => povl (entB x).a (entB x).b (entB x).c (entB x).d (entB y).a (entB y).b (entB y).c (entB y).d W)
 rw [← ovP_ent] at CV
 have ht := World.block_lt_of_cell? _ _ h0
 have hbl := World.block_lt_of_cell? _ _ h2
 dsimp only at ht hbl
 obtain ⟨W1, hW1⟩ : ∃ W1, W1 = (w.setCell ⟨tb, 0, none⟩ (.int .i64 ((n : Int) + 1))).alloc (.cells #[.int .u32 x.k, .int .u32 y.k] 75) := ⟨_, rfl⟩
 have FW : Fr w tb W1 := by rw [hW1]; exact ((Fr.refl w tb).set _).alloc _
 have hOW : OwnX W1 mb nm D := ownX_fr hO FW (ownX_ne hO h0)
 have l1 := box_look hOW hM hx (V.key x hx)
 have l2 := box_look hOW hM hy (V.key y hy)
 have c1 : W1.cell? ⟨bb, 0, none⟩ = some (.map (some mb)) := FW.cell hne h2
 have c2 : W1.cell? ⟨w.heap.size, 0, none⟩ = some (.int .u32 x.k) := by
  rw [hW1, World.cell?_alloc_at _ _ _ _ (by simp)]; rfl
 have c3 : W1.cell? ⟨w.heap.size, 1, none⟩ = some (.int .u32 y.k) := by
  rw [hW1, World.cell?_alloc_at _ _ _ _ (by simp)]; rfl
 have HR : Hid (W1.cell? ⟨tb, 0, none⟩ = some (.int .i64 ((n + 1 : Nat) : Int)) ∧ W1.frozen? ⟨tb, 0, none⟩ = false ∧ Fr w tb W1 ∧ tb < W1.heap.size) := Lib.hid (by
  have e1 : ((n + 1 : Nat) : Int) = (n : Int) + 1 := by omega
  refine ⟨?_, ?_, FW, Nat.lt_of_lt_of_le ht FW.size⟩
  ·rw [hW1, e1, World.cell?_alloc_past _ _ _ (by simpa using ht)]
   exact World.cell?_setCell_same' _ _ _ (by rw [h0]; rfl)
  ·rw [hW1, World.frozen?_alloc_past _ _ _ (by simpa using ht), World.frozen?_setCell]; exact h1)
 have HW := Lib.hid hW1
 clear hW1 hO hM V hOW hx hy FW
 generalize ovP x y = z at *
 generalize x.k = xk at *
 generalize y.k = yk at *
 generalize (entB x).a = xa at *
 generalize (entB x).b = xb at *
 generalize (entB x).c = xc at *
 generalize (entB x).d = xd at *
 generalize (entB y).a = ya at *
 generalize (entB y).b = yb at *
 generalize (entB y).c = yc at *
 generalize (entB y).d = yd at *
 go_enter Tryz.func73, Tryz.ntmps73
 go_upto_region 2 with fail
 rw [← HW.out]
 go_wp2_with ((with_reducible refine (CV.out _).mono ?_); rintro e w4 ⟨rfl, g4⟩)
 go_ret
 obtain ⟨r1, r2, r3, r4⟩ := HR.out
 exact ⟨rfl, g4.all r1, (g4.frozen r4).trans r2, r3.kep (g4.mono r3.size)⟩
structure FI (wb : World) (tb : Nat) (wr : World) (lv : Value) (M : List (Int × Int)) (j : Nat) : Prop where
 fr : Fr wb tb wr
 cell : wr.cell? ⟨tb, 0, none⟩ = some (.int .i64 j)
 frz : wr.frozen? ⟨tb, 0, none⟩ = false
 own : wr.ownsRow wb.heap.size 75 2 lv M.length (flatP M)
theorem FI.push {wb W4 w6 : World} {tb j : Nat} {lv v6 : Value} {M : List (Int × Int)} {p : Int × Int} {o : Obj} (h : FI wb tb W4 lv M j) (hb : tb < wb.heap.size)
 (g6 : (W4.alloc o).grownBy w6 lv.ownBlock) (o6 : w6.ownsRow wb.heap.size 75 2 v6 (M ++ [p]).length ((M ++ [p]).flatMap pv)) : FI wb tb w6 v6 (M ++ [p]) j := by
 have hlt : tb < W4.heap.size := Nat.lt_of_lt_of_le hb h.fr.size
 have hbk : w6.heap[tb]? = W4.heap[tb]? := by
  rw [g6.block tb (by simp; omega) (fun e => by have := (h.own.lt _ e.symm).1; omega), Below.heap_alloc _ _ tb hlt]
 refine ⟨(h.fr.alloc o).row g6 (fun k e => .inr (h.own.lt k e).1), ?_, ?_, o6⟩
 ·rw [World.cell?_of_block (w := W4) (a := ⟨tb, 0, none⟩) hbk]; exact h.cell
 ·rw [World.frozen?_of_block (w := W4) (a := ⟨tb, 0, none⟩) hbk]; exact h.frz
theorem fil_snoc {C : List (Int × Int)} {j : Nat} {p : Int × Int} (h : C[j]? = some p) (f : Int × Int → Bool) : (C.take (j + 1)).filter f = if f p = true then (C.take j).filter f ++ [p] else (C.take j).filter f := by
 obtain ⟨hl, rfl⟩ := List.getElem?_eq_some_iff.1 h
 rw [List.take_succ_eq_append_getElem hl, List.filter_append]
 by_cases c : f C[j] = true
 ·rw [if_pos c, List.filter_cons_of_pos c, List.filter_nil]
 ·rw [if_neg c, List.filter_cons_of_neg c, List.filter_nil, List.append_nil]
theorem pfind : PFind := fun v L w F h V => by
 have hC := cand_all V.asc
 have hK := allK_len L
 have hm := V.len
 have hmul : (L.length : Int) * ((L.length : Int) - 1) ≤ 1560 := by
  rcases Nat.eq_zero_or_pos L.length with e | e
  ·rw [e]; decide
  ·have a1 : (L.length : Int) ≤ 40 := by omega
   have a2 : (0 : Int) ≤ (L.length : Int) := by omega
   have := Int.mul_le_mul a1 (show (L.length : Int) - 1 ≤ 39 by omega) (by omega) (by decide)
   omega
 have HL := Lib.hid (show 2 * ((candL (L.map entB)).length : Int) ≤ (L.length : Int) * ((L.length : Int) - 1) ∧ (candL (L.map entB)).length ≤ 1000 by omega)
 have HPL := Lib.hid (pairs_cand V.asc)
 have HCE : Hid (∀ p ∈ candL (L.map entB), ∃ x ∈ L, ∃ y ∈ L, p = (x.k, y.k)) := Lib.hid fun p hp => by
  obtain ⟨x, hx, y, hy, _, e⟩ := cand_ent.1 hp
  exact ⟨x, hx, y, hy, e⟩
 have HV := Lib.hid V
 have CB := Lib.hid (pbxs v L (w.alloc (.cells #[.int .i64 0] 3)) (h.kep (kep_more (Kep.refl _ _) _)) V)
 have HH := Lib.hid h
 have HF := Lib.hid F
 clear hC hK hm hmul F h V
 go_enter Tryz.func50, Tryz.ntmps50
 have CN : Hid (∀ w1 mb nm D, Kep (w.heap.size + 1) (w.alloc (.cells #[.int .i64 0] 3)) w1 → OwnX w1 mb nm D → BoxM D L → Calls Tryz.prog 75 #[v, .map (some mb)] (w1.alloc (.cells #[.map (some mb)] 117)) fun e w' => ∃ v', e = .returned v' ∧ (Sq pv 2 w' v' (candL (L.map entB)) ∧ Fresh (w1.alloc (.cells #[.map (some mb)] 117)) v') ∧ Kep (w1.alloc (.cells #[.map (some mb)] 117)).heap.size (w1.alloc (.cells #[.map (some mb)] 117)) w') := Lib.hid fun w1 mb nm D k1 hO hM => by
  have K : Kep w.heap.size w (w1.alloc (.cells #[.map (some mb)] 117)) := kep_more ((kep_more (Kep.refl _ _) _).trans (k1.mono (by omega))) _
  exact pcnd v L mb nm D _ (HF.out.kep K) (HH.out.kep K) HV.out (map_kep hO (kep_more (Kep.refl _ _) _)) hM
 go_wp2_with (first
  | ((with_reducible refine (CB.out).mono ?_); rintro e w1 ⟨v1, rfl, ⟨mb, nm, D, rfl, hnm, hO, hM⟩, k1⟩; have HO := Lib.hid hO; have HM := Lib.hid hM; have HK1 : Hid (Kep (w.heap.size + 1) (w.alloc (.cells #[.int .i64 0] 3)) w1) := Lib.hid (k1.mono (by simp)); have CC := Lib.hid (CN.out w1 mb nm D HK1.out hO hM); clear hnm hO hM k1)
  | ((with_reducible refine (CC.out).mono ?_); rintro e w2 ⟨v2, rfl, ⟨⟨base, cap, rfl, hc⟩, f2⟩, k2⟩; have HC := Lib.hid hc; have HF2 := Lib.hid f2; have HK2 := Lib.hid k2; clear hc f2 k2))
 have HZ : Hid (w.heap.size < w1.heap.size ∧ w1.heap.size < w2.heap.size) := Lib.hid ⟨by have := HK1.out.size; simp at this; omega, by have := HK2.out.size; simp at this; omega⟩
 have HT : Hid (w2.cell? ⟨w.heap.size, 0, none⟩ = some (.int .i64 (0 : Nat)) ∧ w2.frozen? ⟨w.heap.size, 0, none⟩ = false ∧ w2.cell? ⟨w1.heap.size, 0, none⟩ = some (.map (some mb)) ∧ OwnX w2 mb nm D ∧ Kep w.heap.size w w2) := Lib.hid (by
  have z1 := HZ.out
  have k12 : Kep (w.heap.size + 1) (w.alloc (.cells #[.int .i64 0] 3)) w2 := HK1.out.trans ((kep_more (Kep.refl _ _) _).trans (HK2.out.mono (by simp)) |>.mono (by omega))
  refine ⟨?_, ?_, ?_, ?_, ?_⟩
  ·rw [k12.cell (p := ⟨w.heap.size, 0, none⟩) (by simp), World.cell?_alloc_at _ _ _ _ rfl]; rfl
  ·rw [k12.frozen (p := ⟨w.heap.size, 0, none⟩) (by simp)]; exact World.frozen?_alloc_at _ _ _ _ rfl
  ·exact HK2.out.all (by rw [World.cell?_alloc_at _ _ _ _ rfl]; rfl)
  ·exact map_kep (map_kep HO.out (kep_more (Kep.refl _ _) _)) HK2.out
  ·exact (kep_more (Kep.refl _ _) _).trans (k12.mono (by omega)))
 have HN2 : Hid (∀ g off, base = some ⟨g, off, none⟩ → g ≠ w.heap.size) := Lib.hid fun g off e => by
  subst e
  have := HF2.out g rfl
  have := HZ.out
  simp at *
  omega
 clear HO HK1 HK2 HF2 CC CB CN HH HF
 generalize candL (L.map entB) = C at *
 generalize hl : C.length = nc at *
 have HN := Lib.hid hl
 clear hl
 go_loopw [2, 15] (fun lv i wr => ∃ j : Nat, j ≤ nc ∧ i = .int .i64 j ∧ Hid (FI w2 w.heap.size wr lv ((C.take j).filter (ovK L)) j)) (fun _ i _ => nc - (RowKit.intOf i).toNat)
 case atStart => exact ⟨0, by omega, rfl, Lib.hid ⟨Fr.refl _ _, HT.out.1, HT.out.2.1, World.ownsRow_nil _ _ _ _⟩⟩
 case round =>
  obtain ⟨j, hj, rfl, HP⟩ := hrel
  by_cases hlt : j < nc
  ·have hb : C[j]? = some (C[j]'(by rw [HN.out]; exact hlt)) := List.getElem?_eq_getElem _
   generalize C[j]'(by rw [HN.out]; exact hlt) = p at hb
   obtain ⟨x, hx, y, hy, rfl⟩ := HCE.out p (List.mem_of_getElem? hb)
   obtain ⟨gl, off, rfl, qx⟩ := HC.out j _ hb
   have hgn := HN2.out gl off rfl
   have hfi := HP.out
   obtain ⟨t1, t2, t3, t4, t5⟩ := HT.out
   have s0 : wr.cell? ⟨gl, off + j * 2, none⟩ = some (.int .u32 x.k) := hfi.fr.cell hgn (qx 0 _ rfl)
   have s1 : wr.cell? ⟨gl, off + j * 2 + 1, none⟩ = some (.int .u32 y.k) := hfi.fr.cell hgn (qx 1 _ rfl)
   obtain ⟨z, hz⟩ : ∃ z, z = ovP x y := ⟨_, rfl⟩
   have HST := Lib.hid (fil_snoc hb (ovK L))
   rw [ovK_at HV.out.asc hx hy, ← hz] at HST
   have hml := List.length_filter_le (ovK L) (C.take j)
   rw [List.length_take] at hml
   have HNC := HL.out.2
   have HML : Hid (((C.take j).filter (ovK L)).length ≤ 1000) := Lib.hid (by omega)
   have CC : Hid (Calls Tryz.prog 73 #[.agg #[.int .u32 x.k, .int .u32 y.k], .pointer (some ⟨w.heap.size, 0, none⟩), .pointer (some ⟨w1.heap.size, 0, none⟩)] (wr.alloc (.cells #[.int .u32 x.k, .int .u32 y.k] 75)) fun e w' => e = .returned (.bool z) ∧ (w'.cell? ⟨wr.heap.size, 0, none⟩ = some (.int .u32 x.k) ∧ w'.cell? ⟨wr.heap.size, 1, none⟩ = some (.int .u32 y.k)) ∧ Hid (FI w2 w.heap.size w' u2 ((C.take j).filter (ovK L)) (j + 1))) := Lib.hid (by
    have z1 := HZ.out
    have z2 := hfi.fr.size
    have ft := hfi.fr.alloc (.cells #[.int .u32 x.k, .int .u32 y.k] 75)
    have hmb : mb ≠ w.heap.size := ownX_ne t4 t1
    refine (pclo L HV.out x y hx hy w.heap.size w1.heap.size mb nm D j (by omega) _ (ownX_fr t4 ft hmb) HM.out ?_ ?_ (ft.cell (by omega) t3) (by omega)).mono ?_
    ·rw [World.cell?_alloc_past _ _ _ (by show w.heap.size < wr.heap.size; omega)]; exact hfi.cell
    ·rw [World.frozen?_alloc_past _ _ _ (by show w.heap.size < wr.heap.size; omega)]; exact hfi.frz
    ·rintro e w' ⟨rfl, c1, c2, f⟩
     refine ⟨by rw [hz], ⟨f.cell (by omega) (by rw [World.cell?_alloc_at _ _ _ _ rfl]; rfl), f.cell (by omega) (by rw [World.cell?_alloc_at _ _ _ _ rfl]; rfl)⟩, Lib.hid ⟨ft.next f, c1, c2, own_fr (hfi.own.alloc _) f (by omega)⟩⟩)
   have HTB : Hid (w.heap.size < w2.heap.size) := Lib.hid (by have := HZ.out; omega)
   clear hb qx hfi HP t1 t2 t3 t4 t5 hz hx hy hml hgn
   generalize (C.take j).filter (ovK L) = M at *
   have i0 : (0 : Int) ≤ (j : Int) := Int.natCast_nonneg _
   have i1 : (j : Int) < (nc : Int) := by omega
   cases z with
   | false =>
     go_wp2_with ((with_reducible refine (CC.out).mono ?_); rintro e w4 ⟨rfl, ⟨c1, c2⟩, F4⟩)
     go_roundw
     case rel => exact ⟨j + 1, by omega, by first | rfl | go_num, by rw [HST.out]; exact F4⟩
     case measure => simp [RowKit.intOf]; omega
   | true =>
     go_wp2_with (first
      | ((with_reducible refine (CC.out).mono ?_); rintro e w4 ⟨rfl, ⟨c1, c2⟩, F4⟩)
      | (at_builtin; refine wpList_app2 pv 2 pv_len pv_one rfl _ _ 87 rfl 75 _ 8 Tryz.underlying87 info_pair rfl (by decide) w2.heap.size _ _ M (x.k, y.k) rfl F4.out.own _ (by first | rfl | simp) rfl _ rfl (by have := HML.out; unfold maxLen; omega) (by have := HML.out; omega) F4.out.fr.size ?_; intro v6 w6 o6 k6 g6; have F6 := Lib.hid (F4.out.push HTB.out g6 o6); clear o6 k6 g6))
     go_roundw
     case rel => exact ⟨j + 1, by omega, by first | rfl | go_num, by rw [HST.out]; exact F6⟩
     case measure => simp [RowKit.intOf]; omega
  ·have i2 : ¬ (j : Int) < (nc : Int) := by omega
   obtain rfl : j = nc := by omega
   have hfi := HP.out
   rw [List.take_of_length_le (Nat.le_of_eq HN.out), ← HPL.out] at hfi
   have hc := hfi.cell
   have hf := hfi.frz
   have HI := Lib.hid hfi
   clear hfi HP
   go_wp2_with fail
   go_region_with fail
   have q0 : ((wr.setCell ⟨w.heap.size, 0, none⟩ (.int .i64 j)).drew).cell? ⟨w.heap.size, 0, none⟩ = some (.int .i64 j) := by
    rw [World.cell?_drew]
    exact World.cell?_setCell_same' _ _ _ (by rw [hc]; rfl)
   have HE : Hid (Sq pv 2 (wr.setCell ⟨w.heap.size, 0, none⟩ (.int .i64 j)).drew u2 (pairsL L) ∧ Kep w.heap.size w (wr.setCell ⟨w.heap.size, 0, none⟩ (.int .i64 j)).drew ∧ ((pairsL L).length : Int) ≤ j) := Lib.hid (by
    have f := (Fr.refl wr w.heap.size).set (o := 0) (.int .i64 j)
    have z1 := HZ.out
    refine ⟨Sq.kep (own_sq pv_len (own_fr HI.out.own f (by omega))) (Kep.drew (Kep.refl _ _)), Kep.drew (HT.out.2.2.2.2.trans ((HI.out.fr.next f).down (by omega))), ?_⟩
    have := List.length_filter_le (ovK L) C
    have e := congrArg List.length HPL.out
    have := HN.out
    omega)
   clear hc hf
   go_wp2_with fail
   refine bodyPost_ret (v := .tuple #[u2, .int .i64 j]) (by simp [results, Tryz.results50, go_sem, q0]) rfl ?_
   exact ⟨u2, _, rfl, ⟨HE.out.1, HE.out.2.2, HL.out.1⟩, HE.out.2.1⟩
end Go.Proofs.YtaknmlohnifcdaaGreatDoor
end
