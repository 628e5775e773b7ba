/-
  Package store: Set.
-/
import Derived.Test.YtfkieieedljodaaStoreGet
import Derived.Test.YtfkieieedljodaaBodyCon
import Derived.StillTailTactics
namespace Go.Proofs.Ytfkieieedljodaa
open Go.RowKit Go.Lib Go.Maps

/-- A call's result: a code; the store now holds other bodies. -/
def Done (w : World) (sb : Nat) (S : Nat → Prop) (c : Int) (m : List Bd) (e : Ending) (w' : World) : Prop := e = .returned (.int .i64 c) ∧ StoreIs w' sb (More S w w') m ∧ But S w w'
theorem SI.more {w w' : World} {sb : Nat} {S : Nat → Prop} {m : List Bd} {v : Value} {mp : Option Nat} {D : List Bd} (h : SI w' sb S m v mp D) : StoreIs w' sb (More S w w') m :=
  StoreIs.wider ⟨v, mp, D, h⟩ (fun k hk => .inl hk) (fun k hk => by rcases hk with hk | hk; exact h.lt k hk; exact hk.2)
theorem Done.no {w w' : World} {sb : Nat} {S : Nat → Prop} {m : List Bd} {c : Int} (h : StoreIs w sb S m) (g : Kep w.heap.size w w') : Done w sb S c m (.returned (.int .i64 c)) w' := by
  refine ⟨rfl, ?_, But.of_kep g⟩
  obtain ⟨v, mp, D, h⟩ := h.kep g
  exact h.more
theorem SI.drewN {w : World} {sb : Nat} {S : Nat → Prop} {m : List Bd} {v : Value} {mp : Option Nat} {D : List Bd} (h : SI w sb S m v mp D) (n : Nat) : SI (w.drewN n) sb S m v mp D := h.kept (Nat.le_refl _) fun _ _ => rfl
theorem But.drew {S : Nat → Prop} {w w' : World} (h : But S w w') : But S w w'.drew := ⟨h.os, h.output, h.size, h.block⟩
theorem fits_put {m : List Bd} (hm : Asc m) (h : ∀ b ∈ m, Fits b) {b : Bd} (hb : Fits b) : ∀ x ∈ put m b false, Fits x := fun x hx => by
  rcases (mem_put hm b x).1 hx with rfl | ⟨hx, _⟩
  · exact hb
  · exact h x hx
theorem SI.set {w : World} {sb : Nat} {S : Nat → Prop} {m : List Bd} {mp : Option Nat} {D : List Bd} {g cap i : Nat} {b b' : Bd} (h : SI w sb S m (.slice (some ⟨g, 0, none⟩) D.length cap) mp D) (hi : D[i]? = some b) (e : b'.k = b.k) (hf : Fits b') :
    SI (setb w g (i * 10) b') sb S (put m b' false) (.slice (some ⟨g, 0, none⟩) (D.set i b').length cap) mp (D.set i b') := by
  have hl := (List.getElem?_eq_some_iff.1 hi).1
  have gr := grown_setb w g (i * 10) b'
  have ng : g ≠ sb := (h.sv g rfl).2
  have ho : (setb w g (i * 10) b').ownsRow 0 32 10 (.slice (some ⟨g, 0, none⟩) (D.set i b').length cap) (D.set i b').length (flat (D.set i b')) := by
    rw [flat_set D i b' hl, List.length_set]
    exact own_setb b' h.own
  have hix : ∃ Dm, Idx Dm D ∧ Idx Dm (D.set i b') ∧ IdxIs (setb w g (i * 10) b') mp (D.set i b') := by
    rcases h.idx with ⟨_, rfl⟩ | ⟨mb, Dm, rfl, hm, ix⟩
    · simp at hl
    · refine ⟨Dm, ix, ix.set hi e, .inr ⟨mb, Dm, rfl, ?_, ix.set hi e⟩⟩
      rw [List.length_set]
      refine hm.kept gr (fun q => ?_)
      obtain ⟨es, clock, hb, _⟩ := hm
      rcases h.own.2 with ⟨h', _⟩ | ⟨g', _, _, h', _, hg, _⟩
      · simp at h'
      · simp only [Value.slice.injEq, Option.some.injEq, Addr.mk.injEq, and_true, true_and] at h'
        obtain ⟨rfl, _⟩ := h'
        injection q with q
        rw [q, hg] at hb; cases hb
  obtain ⟨Dm, i0, i1, hx⟩ := hix
  have hp := set_perm i0 i1 h.perm h.asc hi e
  refine ⟨gr.cell h.c0 (by simpa using fun q => ng q.symm) |>.trans (by rw [List.length_set]), gr.cell h.c1 (by simpa using fun q => ng q.symm), ?_, ?_, h.ssb, ho, fun q hq => h.sv q hq, hx, h.sm, fun k hk => Nat.lt_of_lt_of_le (h.lt k hk) gr.size, hp, put_asc h.asc b' false, fits_put h.asc h.fits hf, ?_⟩
  · rw [gr.frozen_far _ (h.lt sb h.ssb) (by simpa using fun q => ng q.symm)]; exact h.f0
  · rw [gr.frozen_far _ (h.lt sb h.ssb) (by simpa using fun q => ng q.symm)]; exact h.f1
  · rw [← hp.length_eq, List.length_set, h.length]; exact h.len

set_option maxRecDepth 100000 in
set_option maxHeartbeats 1000000 in
theorem set_bad {w : World} {sb : Nat} {S : Nat → Prop} {m : List Bd} (h : StoreIs w sb S m) (b : Bd) {c : Int} (e : chkB b = c) (hc : c ≠ 0) :
    Calls Try.prog 13 #[Value.pointer (some ⟨sb, 0, none⟩), Value.agg #[Value.int .u32 b.k, Value.int .i32 b.r, Value.int .i32 b.ax, Value.int .i32 b.ay, Value.int .i32 b.m, Value.int .i32 b.o, Value.int .i32 b.px, Value.int .i32 b.py, Value.int .i32 b.vx, Value.int .i32 b.vy]] w (Done w sb S c m) := by
  have C := Lib.hid (chk_of b.k (show chkB b = c from e))
  have hc' : (c != 0) = true := bne_iff_ne.2 hc
  have H := Lib.hid h
  clear h e hc
  go_enter Try.func13, Try.ntmps13
  go_wp2_with ((with_reducible refine (C.out _).mono ?_); rintro e w1 ⟨rfl, g1⟩)
  go_ret
  exact Done.no H.out ((Kep.alloc (Kep.refl _ _) (Nat.le_refl _) _).trans ((Kep.of_grown g1).mono (by simp)))
set_option maxRecDepth 100000 in
set_option maxHeartbeats 1000000 in
theorem set_no {w : World} {sb : Nat} {S : Nat → Prop} {m : List Bd} (h : StoreIs w sb S m) (b : Bd) (hb : Fits b) (e : chkB b = 0) (e2 : look m b.k = none) :
    Calls Try.prog 13 #[Value.pointer (some ⟨sb, 0, none⟩), Value.agg #[Value.int .u32 b.k, Value.int .i32 b.r, Value.int .i32 b.ax, Value.int .i32 b.ay, Value.int .i32 b.m, Value.int .i32 b.o, Value.int .i32 b.px, Value.int .i32 b.py, Value.int .i32 b.vx, Value.int .i32 b.vy]] w (Done w sb S 11 m) := by
  have C := Lib.hid (chk_of b.k (show chkB b = 0 from e))
  have H := Lib.hid h
  obtain ⟨v, mp, D, h⟩ := h
  have C2 := Lib.hid (fun o w' (g : Grown (w.alloc o) w') => find_no ((h.alloc o).grown g) (wf_u32 hb) e2)
  clear h e e2 hb
  go_enter Try.func13, Try.ntmps13
  go_wp2_with (first
    | ((with_reducible refine (C.out _).mono ?_); rintro e w1 ⟨rfl, g1⟩; have y0 : w1.cell? ⟨w.heap.size, 0, none⟩ = some (.int .u32 b.k) := kept_cell g1 (by rw [World.cell?_alloc_at _ _ _ _ rfl]; rfl))
    | ((with_reducible refine (C2.out _ _ g1).mono ?_); rintro e w2 ⟨rfl, rfl⟩))
  go_ret
  exact Done.no H.out ((Kep.alloc (Kep.refl _ _) (Nat.le_refl _) _).trans ((Kep.of_grown g1).mono (by simp)))
set_option maxRecDepth 100000 in
set_option maxHeartbeats 1000000 in
theorem set_yes {w : World} {sb : Nat} {S : Nat → Prop} {m : List Bd} (h : StoreIs w sb S m) (b : Bd) (hb : Fits b) (e : chkB b = 0) {x : Bd} (e2 : look m b.k = some x) :
    Calls Try.prog 13 #[Value.pointer (some ⟨sb, 0, none⟩), Value.agg #[Value.int .u32 b.k, Value.int .i32 b.r, Value.int .i32 b.ax, Value.int .i32 b.ay, Value.int .i32 b.m, Value.int .i32 b.o, Value.int .i32 b.px, Value.int .i32 b.py, Value.int .i32 b.vx, Value.int .i32 b.vy]] w (Done w sb S 0 (put m b false)) := by
  have C := Lib.hid (chk_of b.k (show chkB b = 0 from e))
  obtain ⟨v, mp, D, h⟩ := h
  have H : Hid (∀ o w', Grown (w.alloc o) w' → SI w' sb S m v mp D) := Lib.hid (fun o w' (g : Grown (w.alloc o) w') => (h.alloc o).grown g)
  have hsb := h.lt sb h.ssb
  have HB := Lib.hid hb
  have E2 := Lib.hid e2
  have c0i := Lib.hid h.c0
  clear h e e2 hb
  go_enter Try.func13, Try.ntmps13
  go_wp2_with (first
    | ((with_reducible refine (C.out _).mono ?_); rintro e w1 ⟨rfl, g1⟩; have y0 : w1.cell? ⟨w.heap.size, 0, none⟩ = some (Value.int .u32 b.k) := kept_cell g1 (by rw [World.cell?_alloc_at _ _ _ _ rfl]; rfl); have y1 : w1.cell? ⟨w.heap.size, 1, none⟩ = some (Value.int .i32 b.r) := kept_cell g1 (by rw [World.cell?_alloc_at _ _ _ _ rfl]; rfl); have y2 : w1.cell? ⟨w.heap.size, 2, none⟩ = some (Value.int .i32 b.ax) := kept_cell g1 (by rw [World.cell?_alloc_at _ _ _ _ rfl]; rfl); have y3 : w1.cell? ⟨w.heap.size, 3, none⟩ = some (Value.int .i32 b.ay) := kept_cell g1 (by rw [World.cell?_alloc_at _ _ _ _ rfl]; rfl); have y4 : w1.cell? ⟨w.heap.size, 4, none⟩ = some (Value.int .i32 b.m) := kept_cell g1 (by rw [World.cell?_alloc_at _ _ _ _ rfl]; rfl); have y5 : w1.cell? ⟨w.heap.size, 5, none⟩ = some (Value.int .i32 b.o) := kept_cell g1 (by rw [World.cell?_alloc_at _ _ _ _ rfl]; rfl); have y6 : w1.cell? ⟨w.heap.size, 6, none⟩ = some (Value.int .i32 b.px) := kept_cell g1 (by rw [World.cell?_alloc_at _ _ _ _ rfl]; rfl); have y7 : w1.cell? ⟨w.heap.size, 7, none⟩ = some (Value.int .i32 b.py) := kept_cell g1 (by rw [World.cell?_alloc_at _ _ _ _ rfl]; rfl); have y8 : w1.cell? ⟨w.heap.size, 8, none⟩ = some (Value.int .i32 b.vx) := kept_cell g1 (by rw [World.cell?_alloc_at _ _ _ _ rfl]; rfl); have y9 : w1.cell? ⟨w.heap.size, 9, none⟩ = some (Value.int .i32 b.vy) := kept_cell g1 (by rw [World.cell?_alloc_at _ _ _ _ rfl]; rfl)
       have HS := Lib.hid (H.out _ _ g1)
       obtain ⟨i, hi, hk, C2⟩ := find_yes HS.out (wf_u32 HB.out) E2.out
       replace C2 := Lib.hid C2
       have HI := Lib.hid hi
       obtain ⟨g, cap, hv, hcap, hl, ng, hg, hg1, hf, x0, x1, x2, x3, x4, x5, x6, x7, x8, x9⟩ := HS.out.at_ hi
       subst hv
       have c0 := HS.out.c0
       have HN := Lib.hid hl
       have HK : Hid (b.k = x.k) := Lib.hid hk.symm
       clear hi hk
       have i0 : (0 : Int) ≤ (i : Int) := Int.natCast_nonneg _
       have i1 : (i : Int) < (D.length : Int) := by omega)
    | ((with_reducible refine (C2.out).mono ?_); rintro e w2 ⟨rfl, rfl⟩))
  go_still_tail 7, (by kernel_rfl)
  change wpList _ _ _ _ _ w1.drew
  go_wp2
  go_ret
  have Z := HS.out.set HI.out HK.out HB.out
  exact ⟨rfl, SI.more (w' := (setb w1 g (i * 10) b).drew) (Z.drewN 1), (But.of_kep ((Kep.alloc (Kep.refl _ _) (Nat.le_refl _) _).trans ((Kep.of_grown g1).mono (by simp)))).trans ((But.of_by (grown_setb w1 g (i * 10) b) (fun k hk => by injection hk with hk; exact .inl (.inl (hk ▸ hg)))).drew)⟩
end Go.Proofs.Ytfkieieedljodaa
