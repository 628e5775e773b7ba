import Derived.Test.YtaknmlohnifcdaaGreatDoorJ18MPointRef
import Derived.Test.YtaknmlohnifcdaaGreatDoorJ14MViewMath
import Derived.Test.YtaknmlohnifcdaaGreatDoorJ02MSeq
import Derived.Test.YtaknmlohnifcdaaGreatDoorJ01MBodies
import Derived.Deep.DeepCutAuto
import Derived.Deep.QuietTactic
import Derived.BigQuiet
import Derived.Test.YtaknmlohnifcdaaGreatDoorJ17MRefMul
import Derived.Test.YtaknmlohnifcdaaGreatDoorJ05MStorePut
import Derived.Test.YtaknmlohnifcdaaGreatDoorRows
import Derived.Test.YtaknmlohnifcdaaGreatDoorJ00MBits
import Derived.WalkKit
import Derived.ProofKit
import Derived.OpenShut
import Derived.ChangeSame
import Derived.Lib.SmallJoins
import Derived.Deep.Slices
set_option maxHeartbeats 8000000
set_option maxRecDepth 100000
namespace Go.Proofs.YtaknmlohnifcdaaGreatDoor
open Go.RowKit Go.Lib
def conO (x : Bd) (l : List Bd) : List Ct := (l.filter (tchB x)).map (conC x)
def consL : List Bd → List Ct
 | [] => []
 | x :: l => conO x l ++ consL l
def ctv (c : Ct) : List Value := [.int .u32 c.lo, .int .u32 c.hi, .int .i32 c.nx, .int .i32 c.ny, .int .i32 c.dp]
theorem ctv_len (c : Ct) : (ctv c).length = 5 := rfl
theorem ctv_one (c : Ct) : ∀ u ∈ ctv c, u.oneCell' = true := by
 intro u hu
 simp only [ctv, List.mem_cons, List.not_mem_nil, or_false] at hu
 rcases hu with rfl | rfl | rfl | rfl | rfl <;> rfl
theorem conO_cons (x y : Bd) (l : List Bd) : conO x (y :: l) = if tchB x y = true then conC x y :: conO x l else conO x l := by
 unfold conO
 by_cases c : tchB x y = true
 ·rw [if_pos c, List.filter_cons_of_pos c, List.map_cons]
 ·rw [if_neg c, List.filter_cons_of_neg c]
theorem conO_at {L : List Bd} {k : Nat} {x y : Bd} (h : L[k]? = some y) : conO x (L.drop k) = if tchB x y = true then conC x y :: conO x (L.drop (k + 1)) else conO x (L.drop (k + 1)) := by
 rw [drop_at h, conO_cons]
theorem cons_at {L : List Bd} {i : Nat} {x : Bd} (h : L[i]? = some x) : consL (L.drop i) = conO x (L.drop (i + 1)) ++ consL (L.drop (i + 1)) := by
 rw [drop_at h]
 rfl
theorem conO_len (x : Bd) (l : List Bd) : (conO x l).length ≤ l.length := by
 unfold conO
 rw [List.length_map]
 exact List.length_filter_le _ _
theorem cons_len : ∀ (L : List Bd), 2 * (consL L).length ≤ L.length * (L.length - 1)
 | [] => by simp [consL]
 | x :: l => by
   have h1 := cons_len l
   have h2 := conO_len x l
   have e : (consL (x :: l)).length = (conO x l).length + (consL l).length := by simp [consL]
   rw [e, List.length_cons, Nat.add_sub_cancel]
   generalize (conO x l).length = a at *
   generalize (consL l).length = b at *
   generalize l.length = n at *
   cases n with
   | zero => simp at h1 h2 ⊢; omega
   | succ n =>
     rw [Nat.add_sub_cancel] at h1
     have e2 : (n + 1 + 1) * (n + 1) = (n + 1) * n + 2 * (n + 1) := by
      rw [Nat.mul_comm (n + 1 + 1), ← Nat.mul_comm (n + 1) 2, ← Nat.mul_add]
     omega
theorem cons_max {L : List Bd} (h : L.length ≤ 40) : (consL L).length ≤ 780 := by
 have h1 := cons_len L
 have h2 := Nat.mul_le_mul h (show L.length - 1 ≤ 39 by omega)
 omega
theorem cons_mem : ∀ {L : List Bd}, Asc L → ∀ c : Ct, c ∈ consL L ↔ ∃ x ∈ L, ∃ y ∈ L, x.k < y.k ∧ tchB x y = true ∧ c = conC x y
 | [], _, p => by simp [consL]
 | a :: l, h, p => by
   simp only [consL, List.mem_append, cons_mem h.2]
   constructor
   ·rintro (hp | ⟨x, hx, y, hy, h1, h2, rfl⟩)
    ·unfold conO at hp
     obtain ⟨y, hy, rfl⟩ := List.mem_map.1 hp
     rw [List.mem_filter] at hy
     exact ⟨a, by simp, y, by simp [hy.1], h.1 y hy.1, hy.2, rfl⟩
    ·exact ⟨x, by simp [hx], y, by simp [hy], h1, h2, rfl⟩
   ·rintro ⟨x, hx, y, hy, h1, h2, rfl⟩
    rcases List.mem_cons.1 hx with e | hx2
    ·rcases List.mem_cons.1 hy with e2 | hy2
     ·rw [e, e2] at h1; omega
     ·rw [e] at h2 ⊢
      exact .inl (by unfold conO; exact List.mem_map.2 ⟨y, List.mem_filter.2 ⟨hy2, h2⟩, rfl⟩)
    ·rcases List.mem_cons.1 hy with e2 | hy2
     ·have := h.1 x hx2; rw [e2] at h1; omega
     ·exact .inr ⟨x, hx2, y, hy2, h1, h2, rfl⟩
theorem tch_ov {x y : Bd} (hx : okC x) (hy : okC y) (h : tchB x y = true) : ovP x y = true := by
 have b := tch_box hx hy h
 have l1 := okC_lim hx
 have l2 := okC_lim hy
 unfold exC eyC at b
 unfold ovP ovA ovlB exB eyB
 exact decide_eq_true (by omega)
theorem conO_pr {x : Bd} (hx : okC x) : ∀ {l : List Bd}, (∀ y ∈ l, okC y) → conO x l = ((l.filter (ovP x)).filter (tchB x)).map (conC x)
 | [], _ => rfl
 | y :: l, h => by
   have ih := conO_pr hx (l := l) (fun z hz => h z (by simp [hz]))
   rw [conO_cons, ih]
   by_cases t : tchB x y = true
   ·have o := tch_ov hx (h y (by simp)) t
    rw [if_pos t, List.filter_cons_of_pos o, List.filter_cons_of_pos t, List.map_cons]
   ·rw [if_neg t]
    by_cases o : ovP x y = true
    ·rw [List.filter_cons_of_pos o, List.filter_cons_of_neg t]
    ·rw [List.filter_cons_of_neg o]
def nv (n : Int) : List Value := [.int .i64 n]
theorem nv_len (n : Int) : (nv n).length = 1 := rfl
abbrev RSx (L : List Bd) (C : List Ct) (i : Nat) (x : Bd) : Prop := ∀ v l w, Lst w v L → Sq ctv 5 w l C → Calls Tryz.prog 69 #[v, l, .int .i64 i, .bool false] w fun e w' => e = .returned (.int .i64 (sumJ (·.nx) L C x)) ∧ Kep w.heap.size w w'
abbrev RSy (L : List Bd) (C : List Ct) (i : Nat) (x : Bd) : Prop := ∀ v l w, Lst w v L → Sq ctv 5 w l C → Calls Tryz.prog 69 #[v, l, .int .i64 i, .bool true] w fun e w' => e = .returned (.int .i64 (sumJ (·.ny) L C x)) ∧ Kep w.heap.size w w'
theorem rsj (z : Bool) (f : Ct → Int) (hz : z = false ∧ (∀ c, f c = c.nx) ∨ z = true ∧ ∀ c, f c = c.ny) (L : List Bd) (hm : L.length ≤ 1000000) (HV : Hid (∀ x ∈ L, Vb x)) (HA : Hid (Asc L)) (C : List Ct) (hmC : C.length ≤ 1000) (HR : Hid (∀ c ∈ C, RgC L c)) (i : Nat) (x : Bd) (hx : L[i]? = some x) (hf : ∀ c, RgC L c → Nr (f c)) (v l : Value) (w : World) (h : Lst w v L) (hl : Sq ctv 5 w l C) : Calls Tryz.prog 69 #[v, l, .int .i64 i, .bool z] w fun e w' => e = .returned (.int .i64 (sumJ f L C x)) ∧ Kep w.heap.size w w' := by
 rcases hz with ⟨rfl, HFN⟩ | ⟨rfl, HFN⟩ <;> replace HFN := Lib.hid HFN <;>
 ·have HL := Lib.hid h
  obtain ⟨bc, cc, rfl, hc⟩ := hl
  have HC := Lib.hid hc
  obtain ⟨ba, ca, rfl⟩ := h.shape
  have FD := Lib.hid (fun key w h => find_any (.slice ba L.length ca) L key w h (by omega))
  have HLA := Lib.hid (fun (k : Nat) (y : Bd) (hy : L[k]? = some y) => h.at_ hy)
  obtain ⟨gl, off, rfl, qx⟩ := HLA.out i x hx
  have HLB : Hid (∀ (k : Nat) (y : Bd), L[k]? = some y → ∀ q, q < 10 → w.cell? ⟨gl, off + k * 10 + q, none⟩ = (vals y)[q]?) := Lib.hid fun k y hy => by
   obtain ⟨_, _, e, q⟩ := HLA.out k y hy
   injection e with e
   injection e with e1 e2
   subst e1 e2
   exact q
  have hxm := List.mem_of_getElem? hx
  have HXV := Lib.hid (HV.out x hxm)
  have HXL := Lib.hid (show look L x.k = some x from look_mem HA.out.once hxm)
  have HXM := Lib.hid hxm
  have hil : i < L.length := (List.getElem?_eq_some_iff.1 hx).1
  have hgl : gl < w.heap.size := World.block_lt_of_cell? _ _ (qx 0 (by decide))
  have HS0 := Lib.hid (qx 0 (by decide))
  have HS4 := Lib.hid (qx 4 (by decide))
  clear h hc HLA qx hx hxm
  generalize hnl : L.length = nl at *
  have HNL := Lib.hid hnl
  generalize hnc : C.length = nc at *
  have HN := Lib.hid hnc
  clear hnl hnc
  go_enter Tryz.func69, Tryz.ntmps69
  go_wp2_with fail
  go_loopw [9, 10] (fun n j wr => ∃ k : Nat, k ≤ nc ∧ j = .int .i64 k ∧ ∃ t : Int, n = .int .i64 t ∧ Hid (t = sumJ f L (C.take k) x ∧ Kep w.heap.size w wr)) (fun _ j _ => nc - (RowKit.intOf j).toNat)
  case atStart => exact ⟨0, by omega, rfl, 0, rfl, Lib.hid ⟨by simp [sumJ, isum], Kep.refl _ _⟩⟩
  case round =>
   obtain ⟨k, hk, rfl, t, rfl, HP⟩ := hrel
   by_cases hlt : k < nc
   ·have hb : C[k]? = some (C[k]'(by rw [HN.out]; exact hlt)) := List.getElem?_eq_getElem _
    generalize C[k]'(by rw [HN.out]; exact hlt) = c at hb
    obtain ⟨gc, oc, rfl, q⟩ := HC.out k c hb
    have gg := HP.out.2
    have hrc := HR.out c (List.mem_of_getElem? hb)
    obtain ⟨a, ha⟩ := Option.isSome_iff_exists.1 hrc.lo
    obtain ⟨b, hbb⟩ := Option.isSome_iff_exists.1 hrc.hi
    obtain ⟨ja, hja, hga⟩ := (place_eq L c.lo 0).2 a ha
    obtain ⟨jb, hjb, hgb⟩ := (place_eq L c.hi 0).2 b hbb
    rw [Nat.zero_add] at hja hjb
    have hjal : ja < nl := by have := (List.getElem?_eq_some_iff.1 hga).1; rw [HNL.out] at this; exact this
    have hjbl : jb < nl := by have := (List.getElem?_eq_some_iff.1 hgb).1; rw [HNL.out] at this; exact this
    have FA := Lib.hid (fun w h => (show Calls Tryz.prog 31 #[.slice (some ⟨gl, off, none⟩) nl ca, .int .u32 c.lo] w fun e w' => e = .returned (.int .i64 (ja : Int)) ∧ w = w' by rw [← hja]; exact FD.out c.lo w h))
    have FB := Lib.hid (fun w h => (show Calls Tryz.prog 31 #[.slice (some ⟨gl, off, none⟩) nl ca, .int .u32 c.hi] w fun e w' => e = .returned (.int .i64 (jb : Int)) ∧ w = w' by rw [← hjb]; exact FD.out c.hi w h))
    obtain ⟨js, hjs⟩ : ∃ js, js = stJ L c := ⟨_, rfl⟩
    obtain ⟨d, hd⟩ : ∃ d, d = chI js x.m (f c) := ⟨_, rfl⟩
    have hsb := stJ_bd HV.out hrc
    rw [← hjs] at hsb
    have JS := Lib.hid (jst (lo := c.lo) (hi := c.hi) (dp := c.dp) (t := js) (HV.out a (look_some ha).1) (HV.out b (look_some hbb).1) hrc.nx hrc.ny (by rw [hjs]; unfold stJ; rw [bdK_eq ha, bdK_eq hbb]))
    have JC := Lib.hid (jch (j := js) (i := x.m) (n := f c) (t := d) hsb ⟨HXV.out.m0, HXV.out.m1⟩ (hf c hrc) hd.symm)
    rw [HFN.out c] at JC
    have hdb := chI_bd hsb ⟨HXV.out.m0, HXV.out.m1⟩ (hf c hrc)
    rw [← hd] at hdb
    have htb := sumJ_bd (f := f) (C := C.take k) HV.out HXM.out (fun c hc => HR.out c (List.mem_of_mem_take hc)) (fun c hc => hf c (HR.out c (List.mem_of_mem_take hc))) (by rw [List.length_take]; omega)
    rw [← HP.out.1] at htb
    have HAT := Lib.hid (sumJ_at (f := f) (L := L) (x := x) hb)
    have HT := Lib.hid HP.out.1
    have HKL : Hid (conJ f L x c = if c.lo = x.k then -d else if c.hi = x.k then d else 0) := Lib.hid (by unfold conJ; rw [← hjs, ← hd])
    have hga2 := Lib.hid (HLB.out ja a hga)
    have hgb2 := Lib.hid (HLB.out jb b hgb)
    have HNE := Lib.hid (show c.lo ≠ c.hi by have := hrc.lt; omega)
    have hgc : gc < w.heap.size := World.block_lt_of_cell? _ _ (q 0 _ rfl)
    have HQ := Lib.hid q
    have gsz := gg.size
    clear hb hrc ha hbb hja hjb hga hgb hjs hd hsb q HP
    have i1 : (0 : Int) ≤ (ja : Int) := by omega
    have i2 : (ja : Int) < (nl : Int) := by omega
    have i3 : (0 : Int) ≤ (jb : Int) := by omega
    have i4 : (jb : Int) < (nl : Int) := by omega
    have i5 : (0 : Int) ≤ (i : Int) := by omega
    have i6 : (i : Int) < (nl : Int) := by omega
    have t0 : wr.cell? ⟨gc, oc + k * 5, none⟩ = some (.int .u32 c.lo) := gg.all (HQ.out 0 _ rfl)
    have t1 : wr.cell? ⟨gc, oc + k * 5 + 1, none⟩ = some (.int .u32 c.hi) := gg.all (HQ.out 1 _ rfl)
    have t2 : wr.cell? ⟨gc, oc + k * 5 + 2, none⟩ = some (.int .i32 c.nx) := gg.all (HQ.out 2 _ rfl)
    have t3 : wr.cell? ⟨gc, oc + k * 5 + 3, none⟩ = some (.int .i32 c.ny) := gg.all (HQ.out 3 _ rfl)
    have t4 : wr.cell? ⟨gc, oc + k * 5 + 4, none⟩ = some (.int .i32 c.dp) := gg.all (HQ.out 4 _ rfl)
    go_wp2_with fail
    generalize hW : World.alloc wr _ = W6
    have kW : Kep wr.heap.size wr W6 := by rw [← hW]; exact kep_more (Kep.refl _ _) _
    have c0 : W6.cell? ⟨wr.heap.size, 0, none⟩ = some (.int .u32 c.lo) := by rw [← hW, World.cell?_alloc_at _ _ _ _ (by simp)]; rfl
    have c1 : W6.cell? ⟨wr.heap.size, 1, none⟩ = some (.int .u32 c.hi) := by rw [← hW, World.cell?_alloc_at _ _ _ _ (by simp)]; rfl
    have c2 : W6.cell? ⟨wr.heap.size, 2, none⟩ = some (.int .i32 c.nx) := by rw [← hW, World.cell?_alloc_at _ _ _ _ (by simp)]; rfl
    have c3 : W6.cell? ⟨wr.heap.size, 3, none⟩ = some (.int .i32 c.ny) := by rw [← hW, World.cell?_alloc_at _ _ _ _ (by simp)]; rfl
    have c4 : W6.cell? ⟨wr.heap.size, 4, none⟩ = some (.int .i32 c.dp) := by rw [← hW, World.cell?_alloc_at _ _ _ _ (by simp)]; rfl
    clear hW
    have g6 : Kep w.heap.size w W6 := gg.trans (kW.mono gsz)
    have s0 : W6.cell? ⟨gl, off + i * 10, none⟩ = some (.int .u32 x.k) := g6.all HS0.out
    have s4 : W6.cell? ⟨gl, off + i * 10 + 4, none⟩ = some (.int .i32 x.m) := g6.all HS4.out
    have a0 : W6.cell? ⟨gl, off + ja * 10, none⟩ = some (.int .u32 a.k) := g6.all (hga2.out 0 (by decide))
    have a1 : W6.cell? ⟨gl, off + ja * 10 + 1, none⟩ = some (.int .i32 a.r) := g6.all (hga2.out 1 (by decide))
    have a2 : W6.cell? ⟨gl, off + ja * 10 + 2, none⟩ = some (.int .i32 a.ax) := g6.all (hga2.out 2 (by decide))
    have a3 : W6.cell? ⟨gl, off + ja * 10 + 3, none⟩ = some (.int .i32 a.ay) := g6.all (hga2.out 3 (by decide))
    have a4 : W6.cell? ⟨gl, off + ja * 10 + 4, none⟩ = some (.int .i32 a.m) := g6.all (hga2.out 4 (by decide))
    have a5 : W6.cell? ⟨gl, off + ja * 10 + 5, none⟩ = some (.int .i32 a.o) := g6.all (hga2.out 5 (by decide))
    have a6 : W6.cell? ⟨gl, off + ja * 10 + 6, none⟩ = some (.int .i32 a.px) := g6.all (hga2.out 6 (by decide))
    have a7 : W6.cell? ⟨gl, off + ja * 10 + 7, none⟩ = some (.int .i32 a.py) := g6.all (hga2.out 7 (by decide))
    have a8 : W6.cell? ⟨gl, off + ja * 10 + 8, none⟩ = some (.int .i32 a.vx) := g6.all (hga2.out 8 (by decide))
    have a9 : W6.cell? ⟨gl, off + ja * 10 + 9, none⟩ = some (.int .i32 a.vy) := g6.all (hga2.out 9 (by decide))
    have b0 : W6.cell? ⟨gl, off + jb * 10, none⟩ = some (.int .u32 b.k) := g6.all (hgb2.out 0 (by decide))
    have b1 : W6.cell? ⟨gl, off + jb * 10 + 1, none⟩ = some (.int .i32 b.r) := g6.all (hgb2.out 1 (by decide))
    have b2 : W6.cell? ⟨gl, off + jb * 10 + 2, none⟩ = some (.int .i32 b.ax) := g6.all (hgb2.out 2 (by decide))
    have b3 : W6.cell? ⟨gl, off + jb * 10 + 3, none⟩ = some (.int .i32 b.ay) := g6.all (hgb2.out 3 (by decide))
    have b4 : W6.cell? ⟨gl, off + jb * 10 + 4, none⟩ = some (.int .i32 b.m) := g6.all (hgb2.out 4 (by decide))
    have b5 : W6.cell? ⟨gl, off + jb * 10 + 5, none⟩ = some (.int .i32 b.o) := g6.all (hgb2.out 5 (by decide))
    have b6 : W6.cell? ⟨gl, off + jb * 10 + 6, none⟩ = some (.int .i32 b.px) := g6.all (hgb2.out 6 (by decide))
    have b7 : W6.cell? ⟨gl, off + jb * 10 + 7, none⟩ = some (.int .i32 b.py) := g6.all (hgb2.out 7 (by decide))
    have b8 : W6.cell? ⟨gl, off + jb * 10 + 8, none⟩ = some (.int .i32 b.vx) := g6.all (hgb2.out 8 (by decide))
    have b9 : W6.cell? ⟨gl, off + jb * 10 + 9, none⟩ = some (.int .i32 b.vy) := g6.all (hgb2.out 9 (by decide))
    have zg : gl < W6.heap.size := World.block_lt_of_cell? _ _ s0
    have zw : wr.heap.size < W6.heap.size := World.block_lt_of_cell? _ _ c0
    clear t0 t1 t2 t3 t4 kW gg gsz
    have gg := g6
    clear g6
    by_cases e0 : c.lo = x.k
    ·have HE := Lib.hid e0
     rw [e0] at c0 FA JS
     clear e0
     obtain ⟨t1, ht1⟩ : ∃ t1, t1 = t - d := ⟨_, rfl⟩
     have HT1 := Lib.hid ht1
     have f1 : wrap64 (t - d) = t1 := by unfold wrap64; omega
     have f2 : IntKind.i64.wrap (t - d) = t1 := by rw [IntKind.wrap_i64]; omega
     clear ht1 htb hdb
     go_quiet (fail)
     generalize hW8 : World.drewN W6 _ = W8
     have k8 : Kep W6.heap.size W6 W8 := by rw [← hW8]; exact kep_drewN (Kep.refl _ _) _
     replace c0 := k8.all c0
     replace c1 := k8.all c1
     replace c2 := k8.all c2
     replace c3 := k8.all c3
     replace c4 := k8.all c4
     replace s0 := k8.all s0
     replace s4 := k8.all s4
     replace a0 := k8.all a0
     replace a1 := k8.all a1
     replace a2 := k8.all a2
     replace a3 := k8.all a3
     replace a4 := k8.all a4
     replace a5 := k8.all a5
     replace a6 := k8.all a6
     replace a7 := k8.all a7
     replace a8 := k8.all a8
     replace a9 := k8.all a9
     replace b0 := k8.all b0
     replace b1 := k8.all b1
     replace b2 := k8.all b2
     replace b3 := k8.all b3
     replace b4 := k8.all b4
     replace b5 := k8.all b5
     replace b6 := k8.all b6
     replace b7 := k8.all b7
     replace b8 := k8.all b8
     replace b9 := k8.all b9
     replace gg := kep_next gg k8
     replace zg := Nat.lt_of_lt_of_le zg k8.size
     replace zw := Nat.lt_of_lt_of_le zw k8.size
     clear hW8 k8
     go_wp2_with (first
      | ((with_reducible refine (FA.out _ (HL.out.kep (by repeat (first | with_reducible assumption | refine kep_more ?_ _ | refine kep_drew ?_ | refine kep_drewN ?_ _ | exact Kep.refl _ _)))).mono ?_); rintro e w4 ⟨rfl, rfl⟩)
      | ((with_reducible refine (FB.out _ (HL.out.kep (by repeat (first | with_reducible assumption | refine kep_more ?_ _ | refine kep_drew ?_ | refine kep_drewN ?_ _ | exact Kep.refl _ _)))).mono ?_); rintro e w4 ⟨rfl, rfl⟩)
      | ((with_reducible refine (JS.out _).mono ?_); rintro e w7 ⟨rfl, g7⟩; replace c0 := Kep.all g7 (Kep.all ((by repeat (first | with_reducible assumption | refine kep_more ?_ _ | refine kep_drew ?_ | refine kep_drewN ?_ _ | exact Kep.refl _ _)) : Kep W8.heap.size W8 _) c0); replace c1 := Kep.all g7 (Kep.all ((by repeat (first | with_reducible assumption | refine kep_more ?_ _ | refine kep_drew ?_ | refine kep_drewN ?_ _ | exact Kep.refl _ _)) : Kep W8.heap.size W8 _) c1); replace c2 := Kep.all g7 (Kep.all ((by repeat (first | with_reducible assumption | refine kep_more ?_ _ | refine kep_drew ?_ | refine kep_drewN ?_ _ | exact Kep.refl _ _)) : Kep W8.heap.size W8 _) c2); replace c3 := Kep.all g7 (Kep.all ((by repeat (first | with_reducible assumption | refine kep_more ?_ _ | refine kep_drew ?_ | refine kep_drewN ?_ _ | exact Kep.refl _ _)) : Kep W8.heap.size W8 _) c3); replace c4 := Kep.all g7 (Kep.all ((by repeat (first | with_reducible assumption | refine kep_more ?_ _ | refine kep_drew ?_ | refine kep_drewN ?_ _ | exact Kep.refl _ _)) : Kep W8.heap.size W8 _) c4); replace s0 := Kep.all g7 (Kep.all ((by repeat (first | with_reducible assumption | refine kep_more ?_ _ | refine kep_drew ?_ | refine kep_drewN ?_ _ | exact Kep.refl _ _)) : Kep W8.heap.size W8 _) s0); replace s4 := Kep.all g7 (Kep.all ((by repeat (first | with_reducible assumption | refine kep_more ?_ _ | refine kep_drew ?_ | refine kep_drewN ?_ _ | exact Kep.refl _ _)) : Kep W8.heap.size W8 _) s4); replace gg := kep_next ((by repeat (first | with_reducible assumption | refine kep_more ?_ _ | refine kep_drew ?_ | refine kep_drewN ?_ _ | exact Kep.refl _ _)) : Kep w.heap.size w _) g7)
      | ((with_reducible refine (JC.out _).mono ?_); rintro e w8 ⟨rfl, g8⟩; replace c0 := Kep.all g8 c0; replace c1 := Kep.all g8 c1; replace s0 := Kep.all g8 s0; replace gg := kep_next gg g8))
     go_quiet (fail)
     go_wp2_with fail
     go_roundw
     case rel => exact ⟨k + 1, by omega, by go_num, t1, rfl, Lib.hid ⟨by rw [HAT.out, ← HT.out, HKL.out, if_pos HE.out, HT1.out]; omega, (by repeat (first | with_reducible assumption | refine kep_more ?_ _ | refine kep_drew ?_ | refine kep_drewN ?_ _ | exact Kep.refl _ _))⟩⟩
     case measure => simp [RowKit.intOf]; omega
    ·have q1 : (c.lo != x.k) = true := bne_iff_ne.2 e0
     have q3 : (c.lo == x.k) = false := beq_eq_false_iff_ne.2 e0
     have HE := Lib.hid e0
     clear e0
     by_cases e1 : c.hi = x.k
     ·have HE1 := Lib.hid e1
      rw [e1] at c1 FB JS
      clear e1
      obtain ⟨t1, ht1⟩ : ∃ t1, t1 = t + d := ⟨_, rfl⟩
      have HT1 := Lib.hid ht1
      have f1 : wrap64 (t + d) = t1 := by unfold wrap64; omega
      have f2 : IntKind.i64.wrap (t + d) = t1 := by rw [IntKind.wrap_i64]; omega
      clear ht1 htb hdb
      go_quiet (fail)
      generalize hW8 : World.drewN W6 _ = W8
      have k8 : Kep W6.heap.size W6 W8 := by rw [← hW8]; exact kep_drewN (Kep.refl _ _) _
      replace c0 := k8.all c0
      replace c1 := k8.all c1
      replace c2 := k8.all c2
      replace c3 := k8.all c3
      replace c4 := k8.all c4
      replace s0 := k8.all s0
      replace s4 := k8.all s4
      replace a0 := k8.all a0
      replace a1 := k8.all a1
      replace a2 := k8.all a2
      replace a3 := k8.all a3
      replace a4 := k8.all a4
      replace a5 := k8.all a5
      replace a6 := k8.all a6
      replace a7 := k8.all a7
      replace a8 := k8.all a8
      replace a9 := k8.all a9
      replace b0 := k8.all b0
      replace b1 := k8.all b1
      replace b2 := k8.all b2
      replace b3 := k8.all b3
      replace b4 := k8.all b4
      replace b5 := k8.all b5
      replace b6 := k8.all b6
      replace b7 := k8.all b7
      replace b8 := k8.all b8
      replace b9 := k8.all b9
      replace gg := kep_next gg k8
      replace zg := Nat.lt_of_lt_of_le zg k8.size
      replace zw := Nat.lt_of_lt_of_le zw k8.size
      clear hW8 k8
      go_wp2_with (first
       | ((with_reducible refine (FA.out _ (HL.out.kep (by repeat (first | with_reducible assumption | refine kep_more ?_ _ | refine kep_drew ?_ | refine kep_drewN ?_ _ | exact Kep.refl _ _)))).mono ?_); rintro e w4 ⟨rfl, rfl⟩)
       | ((with_reducible refine (FB.out _ (HL.out.kep (by repeat (first | with_reducible assumption | refine kep_more ?_ _ | refine kep_drew ?_ | refine kep_drewN ?_ _ | exact Kep.refl _ _)))).mono ?_); rintro e w4 ⟨rfl, rfl⟩)
       | ((with_reducible refine (JS.out _).mono ?_); rintro e w7 ⟨rfl, g7⟩; replace c0 := Kep.all g7 (Kep.all ((by repeat (first | with_reducible assumption | refine kep_more ?_ _ | refine kep_drew ?_ | refine kep_drewN ?_ _ | exact Kep.refl _ _)) : Kep W8.heap.size W8 _) c0); replace c1 := Kep.all g7 (Kep.all ((by repeat (first | with_reducible assumption | refine kep_more ?_ _ | refine kep_drew ?_ | refine kep_drewN ?_ _ | exact Kep.refl _ _)) : Kep W8.heap.size W8 _) c1); replace c2 := Kep.all g7 (Kep.all ((by repeat (first | with_reducible assumption | refine kep_more ?_ _ | refine kep_drew ?_ | refine kep_drewN ?_ _ | exact Kep.refl _ _)) : Kep W8.heap.size W8 _) c2); replace c3 := Kep.all g7 (Kep.all ((by repeat (first | with_reducible assumption | refine kep_more ?_ _ | refine kep_drew ?_ | refine kep_drewN ?_ _ | exact Kep.refl _ _)) : Kep W8.heap.size W8 _) c3); replace c4 := Kep.all g7 (Kep.all ((by repeat (first | with_reducible assumption | refine kep_more ?_ _ | refine kep_drew ?_ | refine kep_drewN ?_ _ | exact Kep.refl _ _)) : Kep W8.heap.size W8 _) c4); replace s0 := Kep.all g7 (Kep.all ((by repeat (first | with_reducible assumption | refine kep_more ?_ _ | refine kep_drew ?_ | refine kep_drewN ?_ _ | exact Kep.refl _ _)) : Kep W8.heap.size W8 _) s0); replace s4 := Kep.all g7 (Kep.all ((by repeat (first | with_reducible assumption | refine kep_more ?_ _ | refine kep_drew ?_ | refine kep_drewN ?_ _ | exact Kep.refl _ _)) : Kep W8.heap.size W8 _) s4); replace gg := kep_next ((by repeat (first | with_reducible assumption | refine kep_more ?_ _ | refine kep_drew ?_ | refine kep_drewN ?_ _ | exact Kep.refl _ _)) : Kep w.heap.size w _) g7)
       | ((with_reducible refine (JC.out _).mono ?_); rintro e w8 ⟨rfl, g8⟩; replace c0 := Kep.all g8 c0; replace c1 := Kep.all g8 c1; replace s0 := Kep.all g8 s0; replace gg := kep_next gg g8))
      go_quiet (fail)
      go_wp2_with fail
      go_roundw
      case rel => exact ⟨k + 1, by omega, by go_num, t1, rfl, Lib.hid ⟨by rw [HAT.out, ← HT.out, HKL.out, if_neg HE.out, if_pos HE1.out, HT1.out], (by repeat (first | with_reducible assumption | refine kep_more ?_ _ | refine kep_drew ?_ | refine kep_drewN ?_ _ | exact Kep.refl _ _))⟩⟩
      case measure => simp [RowKit.intOf]; omega
     ·have q2 : (c.hi != x.k) = true := bne_iff_ne.2 e1
      have HE1 := Lib.hid e1
      clear e1 htb hdb
      go_quiet (fail)
      go_wp2_with fail
      go_roundw
      case rel => exact ⟨k + 1, by omega, by go_num, t, rfl, Lib.hid ⟨by rw [HAT.out, ← HT.out, HKL.out, if_neg HE.out, if_neg HE1.out]; omega, (by repeat (first | with_reducible assumption | refine kep_more ?_ _ | refine kep_drew ?_ | refine kep_drewN ?_ _ | exact Kep.refl _ _))⟩⟩
      case measure => simp [RowKit.intOf]; omega
   ·obtain rfl : k = nc := by omega
    have h1 := HP.out.1
    have gg := HP.out.2
    rw [List.take_of_length_le (by rw [HN.out]; omega)] at h1
    have H1 := Lib.hid h1
    clear h1
    go_wp2_with fail
    go_ret
    exact ⟨by rw [H1.out]; rfl, gg⟩
theorem rsj_x (L : List Bd) (hm : L.length ≤ 1000000) (HV : Hid (∀ x ∈ L, Vb x)) (HA : Hid (Asc L)) (C : List Ct) (hmC : C.length ≤ 1000) (HR : Hid (∀ c ∈ C, RgC L c)) (i : Nat) (x : Bd) (hx : L[i]? = some x) : RSx L C i x := fun v l w h hl => rsj false (·.nx) (.inl ⟨rfl, fun _ => rfl⟩) L hm HV HA C hmC HR i x hx (fun _ h => h.nx) v l w h hl
theorem rsj_y (L : List Bd) (hm : L.length ≤ 1000000) (HV : Hid (∀ x ∈ L, Vb x)) (HA : Hid (Asc L)) (C : List Ct) (hmC : C.length ≤ 1000) (HR : Hid (∀ c ∈ C, RgC L c)) (i : Nat) (x : Bd) (hx : L[i]? = some x) : RSy L C i x := fun v l w h hl => rsj true (·.ny) (.inr ⟨rfl, fun _ => rfl⟩) L hm HV HA C hmC HR i x hx (fun _ h => h.ny) v l w h hl
theorem info_i64 : (Tryz.prog.info? 2).map (fun i => (i.zero, i.size, i.bytes)) = some (some (.int .i64 0), 1, 8) := by kernel_rfl
abbrev RRd (L : List Bd) (C : List Ct) : Prop := ∀ v l w, Lst w v L → Sq ctv 5 w l C → Calls Tryz.prog 44 #[v, l] w fun e w' => ∃ v', e = .returned (.tuple #[v', .bool (clL L C)]) ∧ Lst w' v' (rndL L C) ∧ Kep w.heap.size w w'
theorem rrd (L : List Bd) (hm : L.length ≤ 1000) (HV : Hid (∀ x ∈ L, Vb x)) (HA : Hid (Asc L)) (C : List Ct) (hmC : C.length ≤ 1000) (HR : Hid (∀ c ∈ C, RgC L c)) : RRd L C := fun v l w h hl => by
 have HRX := Lib.hid (fun (i : Nat) (x : Bd) (hx : L[i]? = some x) => rsj_x L (by omega) HV HA C hmC HR i x hx)
 have HRY := Lib.hid (fun (i : Nat) (x : Bd) (hx : L[i]? = some x) => rsj_y L (by omega) HV HA C hmC HR i x hx)
 have HBX := Lib.hid (fun (x : Bd) (hx : x ∈ L) => sumJ_bd (f := (·.nx)) HV.out hx HR.out (fun c hc => (HR.out c hc).nx) hmC)
 have HBY := Lib.hid (fun (x : Bd) (hx : x ∈ L) => sumJ_bd (f := (·.ny)) HV.out hx HR.out (fun c hc => (HR.out c hc).ny) hmC)
 have HL := Lib.hid h
 have HQ := Lib.hid hl
 obtain ⟨ba, ca, rfl⟩ := h.shape
 have HLA := Lib.hid (fun (k : Nat) (y : Bd) (hy : L[k]? = some y) => h.at_ hy)
 have HLN := Lib.hid (fun (k : Nat) (hk : k ≤ L.length) => (show ((L.take k).map (rndB L C)).length = k by rw [List.length_map, List.length_take]; omega))
 clear h hl
 generalize hnl : L.length = nl at *
 have HN := Lib.hid hnl
 clear hnl
 go_enter Tryz.func44, Tryz.ntmps44
 go_wp2_with fail
 go_loopw [6, 7, 8] (fun out cl i wr => ∃ k : Nat, k ≤ nl ∧ i = .int .i64 k ∧ (∃ z : Bool, cl = .bool z ∧ Hid ((L.take k).any (clB L C) = z)) ∧ Hid (wr.ownsRow w.heap.size 40 10 out ((L.take k).map (rndB L C)).length (((L.take k).map (rndB L C)).flatMap vals) ∧ Kep w.heap.size w wr)) (fun _ _ i _ => nl - (RowKit.intOf i).toNat)
 case atStart => exact ⟨0, by omega, rfl, ⟨false, rfl, Lib.hid (by simp)⟩, Lib.hid ⟨World.ownsRow_nil _ _ _ _, Kep.refl _ _⟩⟩
 case round =>
  obtain ⟨k, hk, rfl, ⟨z, rfl, HZ⟩, HP⟩ := hrel
  by_cases hlt : k < nl
  ·have hb : L[k]? = some (L[k]'(by rw [HN.out]; exact hlt)) := List.getElem?_eq_getElem _
   generalize L[k]'(by rw [HN.out]; exact hlt) = x at hb
   have gg := HP.out.2
   have HO := Lib.hid HP.out.1
   obtain ⟨gl, off, rfl, qx⟩ := HLA.out k x hb
   have hxm := List.mem_of_getElem? hb
   obtain ⟨sx, hsx⟩ : ∃ t, t = sumJ (·.nx) L C x := ⟨_, rfl⟩
   obtain ⟨sy, hsy⟩ : ∃ t, t = sumJ (·.ny) L C x := ⟨_, rfl⟩
   have RX := Lib.hid (fun w h1 h2 => (show Calls Tryz.prog 69 #[.slice (some ⟨gl, off, none⟩) nl ca, l, .int .i64 k, .bool false] w fun e w' => e = .returned (.int .i64 sx) ∧ Kep w.heap.size w w' by rw [hsx]; exact HRX.out k x hb _ _ w h1 h2))
   have RY := Lib.hid (fun w h1 h2 => (show Calls Tryz.prog 69 #[.slice (some ⟨gl, off, none⟩) nl ca, l, .int .i64 k, .bool true] w fun e w' => e = .returned (.int .i64 sy) ∧ Kep w.heap.size w w' by rw [hsy]; exact HRY.out k x hb _ _ w h1 h2))
   have bx := HBX.out x hxm
   have b_y := HBY.out x hxm
   rw [← hsx] at bx
   rw [← hsy] at b_y
   have hv := HV.out x hxm
   have v0 := hv.vx0
   have v1 := hv.vx1
   have v2 := hv.vy0
   have v3 := hv.vy1
   obtain ⟨ex, hex⟩ : ∃ t, t = x.vx + sx := ⟨_, rfl⟩
   obtain ⟨ey, hey⟩ : ∃ t, t = x.vy + sy := ⟨_, rfl⟩
   obtain ⟨lx, hlx⟩ : ∃ t, t = limJ ex := ⟨_, rfl⟩
   obtain ⟨ly, hly⟩ : ∃ t, t = limJ ey := ⟨_, rfl⟩
   have bl1 := limJ_bd ex
   have bl2 := limJ_bd ey
   rw [← hlx] at bl1
   rw [← hly] at bl2
   have HB1 : Hid (rndB L C x = velB x lx ly) := Lib.hid (by unfold rndB rndX rndY; rw [hlx, hly, hex, hey, hsx, hsy])
   have HB2 : Hid (clB L C x = (decide (lx ≠ ex) || decide (ly ≠ ey))) := Lib.hid (by unfold clB rndX rndY; rw [hlx, hly, hex, hey, hsx, hsy])
   have LX := Lib.hid (fun w => (show Calls Tryz.prog 43 #[.int .i64 ex, .int .i64 16777216] w fun e w' => e = .returned (.int .i64 lx) ∧ w = w' by rw [hlx]; exact reflim_any ex 16777216 (by unfold I64; omega) (by decide) (by decide) w))
   have LY := Lib.hid (fun w => (show Calls Tryz.prog 43 #[.int .i64 ey, .int .i64 16777216] w fun e w' => e = .returned (.int .i64 ly) ∧ w = w' by rw [hly]; exact reflim_any ey 16777216 (by unfold I64; omega) (by decide) (by decide) w))
   have f1 : IntKind.i64.wrap x.vx = x.vx := by rw [IntKind.wrap_i64]; omega
   have f2 : IntKind.i64.wrap x.vy = x.vy := by rw [IntKind.wrap_i64]; omega
   have f3 : IntKind.i64.wrap (x.vx + sx) = ex := by rw [IntKind.wrap_i64]; omega
   have f4 : IntKind.i64.wrap (x.vy + sy) = ey := by rw [IntKind.wrap_i64]; omega
   have f5 : IntKind.i32.wrap lx = lx := by rw [IntKind.wrap_i32]; omega
   have f6 : IntKind.i32.wrap ly = ly := by rw [IntKind.wrap_i32]; omega
   have f7 : IntKind.i64.wrap lx = lx := by rw [IntKind.wrap_i64]; omega
   have f8 : IntKind.i64.wrap ly = ly := by rw [IntKind.wrap_i64]; omega
   have f9 : wrap32 lx = lx := by unfold wrap32; omega
   have f10 : wrap32 ly = ly := by unfold wrap32; omega
   have hln := HLN.out k hk
   have HTB : Hid ((L.take (k + 1)).map (rndB L C) = (L.take k).map (rndB L C) ++ [velB x lx ly]) := Lib.hid (by rw [List.take_add_one, hb, List.map_append, ← HB1.out]; rfl)
   have HTZ : Hid ((L.take (k + 1)).any (clB L C) = (z || (decide (lx ≠ ex) || decide (ly ≠ ey)))) := Lib.hid (by rw [any_take hb, HZ.out, HB2.out])
   have s0 : wr.cell? ⟨gl, off + k * 10, none⟩ = some (.int .u32 x.k) := gg.all (qx 0 (by decide))
   have s1 : wr.cell? ⟨gl, off + k * 10 + 1, none⟩ = some (.int .i32 x.r) := gg.all (qx 1 (by decide))
   have s2 : wr.cell? ⟨gl, off + k * 10 + 2, none⟩ = some (.int .i32 x.ax) := gg.all (qx 2 (by decide))
   have s3 : wr.cell? ⟨gl, off + k * 10 + 3, none⟩ = some (.int .i32 x.ay) := gg.all (qx 3 (by decide))
   have s4 : wr.cell? ⟨gl, off + k * 10 + 4, none⟩ = some (.int .i32 x.m) := gg.all (qx 4 (by decide))
   have s5 : wr.cell? ⟨gl, off + k * 10 + 5, none⟩ = some (.int .i32 x.o) := gg.all (qx 5 (by decide))
   have s6 : wr.cell? ⟨gl, off + k * 10 + 6, none⟩ = some (.int .i32 x.px) := gg.all (qx 6 (by decide))
   have s7 : wr.cell? ⟨gl, off + k * 10 + 7, none⟩ = some (.int .i32 x.py) := gg.all (qx 7 (by decide))
   have s8 : wr.cell? ⟨gl, off + k * 10 + 8, none⟩ = some (.int .i32 x.vx) := gg.all (qx 8 (by decide))
   have s9 : wr.cell? ⟨gl, off + k * 10 + 9, none⟩ = some (.int .i32 x.vy) := gg.all (qx 9 (by decide))
   clear hb hxm hsx hsy hex hey hlx hly bx b_y hv v0 v1 v2 v3 bl1 bl2 qx HP
   go_wp2_with fail
   refine wp_region_noPanic ?_
   refine wp_region_held_drew (S := (fun w' => w'.cell? ⟨gl, off + k * 10, none⟩ = some (.int .u32 x.k) ∧ w'.cell? ⟨gl, off + k * 10 + 1, none⟩ = some (.int .i32 x.r) ∧ w'.cell? ⟨gl, off + k * 10 + 2, none⟩ = some (.int .i32 x.ax) ∧ w'.cell? ⟨gl, off + k * 10 + 3, none⟩ = some (.int .i32 x.ay) ∧ w'.cell? ⟨gl, off + k * 10 + 4, none⟩ = some (.int .i32 x.m) ∧ w'.cell? ⟨gl, off + k * 10 + 5, none⟩ = some (.int .i32 x.o) ∧ w'.cell? ⟨gl, off + k * 10 + 6, none⟩ = some (.int .i32 x.px) ∧ w'.cell? ⟨gl, off + k * 10 + 7, none⟩ = some (.int .i32 x.py) ∧ w'.cell? ⟨gl, off + k * 10 + 8, none⟩ = some (.int .i32 x.vx) ∧ w'.cell? ⟨gl, off + k * 10 + 9, none⟩ = some (.int .i32 x.vy) ∧ Kep w.heap.size w w')) (by kernel_rfl) (⟨by rw [World.cell?_drew]; exact s0, by rw [World.cell?_drew]; exact s1, by rw [World.cell?_drew]; exact s2, by rw [World.cell?_drew]; exact s3, by rw [World.cell?_drew]; exact s4, by rw [World.cell?_drew]; exact s5, by rw [World.cell?_drew]; exact s6, by rw [World.cell?_drew]; exact s7, by rw [World.cell?_drew]; exact s8, by rw [World.cell?_drew]; exact s9, kep_drew gg⟩) (fun hH => ?_)
   refine sT 0 hH ?_
   refine sT 1 hH ?_
   refine sT 2 hH ?_
   refine sN 3 hH ?_
   refine sT 4 hH ?_
   refine sT 5 hH ?_
   refine sT 6 hH ?_
   refine sN 7 hH ?_
   refine sT 8 hH ?_
   refine sN 9 hH ?_
   refine sC 10 (fun K hK => ?_)
   go_simp
   refine (RX.out _ (HL.out.kep (hH.2.2.2.2.2.2.2.2.2.2)) (HQ.out.kep (hH.2.2.2.2.2.2.2.2.2.2))).mono ?_; rintro e v6_10 ⟨rfl, g⟩
   replace HO := Lib.hid (own_kep (World.ownsRow.drew HO.out) g (Nat.le_refl _))
   refine hK.out _ _ (by (try dsimp only); (go_split_ands; and_intros <;> first | exact g.all (by assumption) | exact kep_next (by assumption) g)) (fun hH2 => ?_)
   clear hK K hH; have hH := hH2; clear hH2
   refine sT 11 hH ?_
   refine sN 12 hH ?_
   refine sE ?_
   clear s0 s1 s2 s3 s4 s5 s6 s7 s8 s9 gg
   obtain ⟨s0, s1, s2, s3, s4, s5, s6, s7, s8, s9, gg⟩ := hH
   go_wp2_with fail
   refine wp_region_noPanic ?_
   refine wp_region_held_drew (S := (fun w' => w'.cell? ⟨gl, off + k * 10, none⟩ = some (.int .u32 x.k) ∧ w'.cell? ⟨gl, off + k * 10 + 1, none⟩ = some (.int .i32 x.r) ∧ w'.cell? ⟨gl, off + k * 10 + 2, none⟩ = some (.int .i32 x.ax) ∧ w'.cell? ⟨gl, off + k * 10 + 3, none⟩ = some (.int .i32 x.ay) ∧ w'.cell? ⟨gl, off + k * 10 + 4, none⟩ = some (.int .i32 x.m) ∧ w'.cell? ⟨gl, off + k * 10 + 5, none⟩ = some (.int .i32 x.o) ∧ w'.cell? ⟨gl, off + k * 10 + 6, none⟩ = some (.int .i32 x.px) ∧ w'.cell? ⟨gl, off + k * 10 + 7, none⟩ = some (.int .i32 x.py) ∧ w'.cell? ⟨gl, off + k * 10 + 8, none⟩ = some (.int .i32 x.vx) ∧ w'.cell? ⟨gl, off + k * 10 + 9, none⟩ = some (.int .i32 x.vy) ∧ Kep w.heap.size w w')) (by kernel_rfl) (⟨by rw [World.cell?_drew]; exact s0, by rw [World.cell?_drew]; exact s1, by rw [World.cell?_drew]; exact s2, by rw [World.cell?_drew]; exact s3, by rw [World.cell?_drew]; exact s4, by rw [World.cell?_drew]; exact s5, by rw [World.cell?_drew]; exact s6, by rw [World.cell?_drew]; exact s7, by rw [World.cell?_drew]; exact s8, by rw [World.cell?_drew]; exact s9, kep_drew gg⟩) (fun hH => ?_)
   refine sT 0 hH ?_
   refine sT 1 hH ?_
   refine sT 2 hH ?_
   refine sN 3 hH ?_
   refine sT 4 hH ?_
   refine sT 5 hH ?_
   refine sT 6 hH ?_
   refine sN 7 hH ?_
   refine sT 8 hH ?_
   refine sN 9 hH ?_
   refine sC 10 (fun K hK => ?_)
   go_simp
   refine (RY.out _ (HL.out.kep (hH.2.2.2.2.2.2.2.2.2.2)) (HQ.out.kep (hH.2.2.2.2.2.2.2.2.2.2))).mono ?_; rintro e v7_10 ⟨rfl, g⟩
   replace HO := Lib.hid (own_kep (World.ownsRow.drew HO.out) g (Nat.le_refl _))
   refine hK.out _ _ (by (try dsimp only); (go_split_ands; and_intros <;> first | exact g.all (by assumption) | exact kep_next (by assumption) g)) (fun hH2 => ?_)
   clear hK K hH; have hH := hH2; clear hH2
   refine sT 11 hH ?_
   refine sN 12 hH ?_
   refine sE ?_
   clear s0 s1 s2 s3 s4 s5 s6 s7 s8 s9 gg
   obtain ⟨s0, s1, s2, s3, s4, s5, s6, s7, s8, s9, gg⟩ := hH
   have gz := gg.size
   have hgl : gl < v7_10.heap.size := World.block_lt_of_cell? _ _ s0
   obtain ⟨zx, hzx⟩ : ∃ z, (lx != ex) = z := ⟨_, rfl⟩
   obtain ⟨zy, hzy⟩ : ∃ z, (ly != ey) = z := ⟨_, rfl⟩
   have HZX : Hid (decide (lx ≠ ex) = zx) := Lib.hid (by rw [← hzx, Bool.eq_iff_iff, decide_eq_true_iff, bne_iff_ne])
   have HZY : Hid (decide (ly ≠ ey) = zy) := Lib.hid (by rw [← hzy, Bool.eq_iff_iff, decide_eq_true_iff, bne_iff_ne])
   rw [HZX.out, HZY.out] at HTZ
   go_upto_region 10 with (first | ((with_reducible refine (LX.out _).mono ?_); rintro e w9 ⟨rfl, rfl⟩) | ((with_reducible refine (LY.out _).mono ?_); rintro e w9 ⟨rfl, rfl⟩))
   cases z with
   | true =>
     go_wp2_with (first
      | (at_builtin; refine wpList_app vals 10 vals_lenK vals_oneK rfl _ _ 22 rfl 40 _ 40 Tryz.underlying22 info_body rfl (by decide) w.heap.size _ _ ((L.take k).map (rndB L C)) (velB x lx ly) rfl (World.ownsRow.alloc HO.out _) _ (by first | rfl | simp) rfl _ rfl (by rw [hln]; unfold maxLen; omega) (by rw [hln]; omega) (kep_more gg _).size ?_; intro v3 w3 o3 k3))
     have HM : Hid (w3.ownsRow w.heap.size 40 10 v3 ((L.take (k + 1)).map (rndB L C)).length (((L.take (k + 1)).map (rndB L C)).flatMap vals) ∧ Kep w.heap.size w w3) := Lib.hid ⟨by rw [HTB.out]; exact o3, (kep_more gg _).trans k3⟩
     clear o3 k3 hln
     go_roundw
     case rel => exact ⟨k + 1, by omega, by go_num, ⟨true, rfl, Lib.hid (by rw [HTZ.out]; simp)⟩, HM⟩
     case measure => simp [RowKit.intOf]; omega
   | false =>
     cases zx with
     | true =>
       go_wp2_with (first
        | (at_builtin; refine wpList_app vals 10 vals_lenK vals_oneK rfl _ _ 22 rfl 40 _ 40 Tryz.underlying22 info_body rfl (by decide) w.heap.size _ _ ((L.take k).map (rndB L C)) (velB x lx ly) rfl (World.ownsRow.alloc HO.out _) _ (by first | rfl | simp) rfl _ rfl (by rw [hln]; unfold maxLen; omega) (by rw [hln]; omega) (kep_more gg _).size ?_; intro v3 w3 o3 k3))
       have HM : Hid (w3.ownsRow w.heap.size 40 10 v3 ((L.take (k + 1)).map (rndB L C)).length (((L.take (k + 1)).map (rndB L C)).flatMap vals) ∧ Kep w.heap.size w w3) := Lib.hid ⟨by rw [HTB.out]; exact o3, (kep_more gg _).trans k3⟩
       clear o3 k3 hln
       go_roundw
       case rel => exact ⟨k + 1, by omega, by go_num, ⟨true, rfl, Lib.hid (by rw [HTZ.out]; simp)⟩, HM⟩
       case measure => simp [RowKit.intOf]; omega
     | false =>
       go_wp2_with (first
        | (at_builtin; refine wpList_app vals 10 vals_lenK vals_oneK rfl _ _ 22 rfl 40 _ 40 Tryz.underlying22 info_body rfl (by decide) w.heap.size _ _ ((L.take k).map (rndB L C)) (velB x lx ly) rfl (World.ownsRow.alloc HO.out _) _ (by first | rfl | simp) rfl _ rfl (by rw [hln]; unfold maxLen; omega) (by rw [hln]; omega) (kep_more gg _).size ?_; intro v3 w3 o3 k3))
       have HM : Hid (w3.ownsRow w.heap.size 40 10 v3 ((L.take (k + 1)).map (rndB L C)).length (((L.take (k + 1)).map (rndB L C)).flatMap vals) ∧ Kep w.heap.size w w3) := Lib.hid ⟨by rw [HTB.out]; exact o3, (kep_more gg _).trans k3⟩
       clear o3 k3 hln
       go_roundw
       case rel => exact ⟨k + 1, by omega, by go_num, ⟨zy, rfl, Lib.hid (by rw [HTZ.out]; simp)⟩, HM⟩
       case measure => simp [RowKit.intOf]; omega
  ·obtain rfl : k = nl := by omega
   obtain ⟨h1, h2⟩ := HP.out
   have et : L.take k = L := List.take_of_length_le (by rw [HN.out]; omega)
   rw [et] at h1 HZ
   have H1 := Lib.hid (own_lst h1)
   have HC9 : Hid (z = clL L C) := Lib.hid HZ.out.symm
   clear h1 HP et HZ
   go_wp2_with fail
   go_ret2
   exact ⟨_, by rw [← HC9.out]; rfl, H1.out, h2⟩
theorem asc_mapK {g : Bd → Bd} (hg : ∀ x, (g x).k = x.k) : ∀ {L : List Bd}, Asc L → Asc (L.map g)
 | [], _ => trivial
 | x :: l, h => ⟨fun y hy => by
    obtain ⟨z, hz, rfl⟩ := List.mem_map.1 hy
    rw [hg, hg]
    exact h.1 z hz, asc_mapK hg h.2⟩
theorem slv_asc {C : List Ct} {L : List Bd} (h : Asc L) : ∀ n, Asc (slvN C L n).1
 | 0 => h
 | n + 1 => asc_mapK (g := rndB (slvN C L n).1 C) (fun _ => rfl) (slv_asc h n)
abbrev RSo (L : List Bd) (C : List Ct) : Prop := ∀ v l w, Lst w v L → Sq ctv 5 w l C → Calls Tryz.prog 26 #[v, l] w fun e w' => ∃ v', e = .returned (.tuple #[v', .bool (slvN C L 4).2]) ∧ Lst w' v' (slvN C L 4).1 ∧ Kep w.heap.size w w'
theorem rso (L : List Bd) (hm : L.length ≤ 1000) (HV : Hid (∀ x ∈ L, Vb x)) (HA : Hid (Asc L)) (C : List Ct) (hmC : C.length ≤ 1000) (HR : Hid (∀ c ∈ C, RgC L c)) : RSo L C := fun v l w h hl => by
 have HRD := Lib.hid (fun k => rrd (slvN C L k).1 (by rw [slv_len]; exact hm) (Lib.hid (slv_vb HV.out k)) (Lib.hid (slv_asc HA.out k)) C hmC (Lib.hid (fun c hc => rgc_slv (HR.out c hc) k)))
 have HQ := Lib.hid hl
 have HL := Lib.hid h
 clear h hl
 go_enter Tryz.func26, Tryz.ntmps26
 go_wp2_with fail
 go_loopw [0, 6, 7] (fun v cl i wr => ∃ k : Nat, k ≤ 4 ∧ i = .int .i64 k ∧ (∃ z : Bool, cl = .bool z ∧ Hid ((slvN C L k).2 = z)) ∧ Hid (Lst wr v (slvN C L k).1 ∧ Kep w.heap.size w wr)) (fun _ _ i _ => 4 - (RowKit.intOf i).toNat)
 case atStart => exact ⟨0, by omega, rfl, ⟨false, rfl, Lib.hid rfl⟩, Lib.hid ⟨HL.out, Kep.refl _ _⟩⟩
 case round =>
  obtain ⟨k, hk, rfl, ⟨z, rfl, HZ⟩, HP⟩ := hrel
  by_cases hlt : k < 4
  ·have gg := HP.out.2
   have LV := Lib.hid HP.out.1
   obtain ⟨zc, hzc⟩ : ∃ t, t = clL (slvN C L k).1 C := ⟨_, rfl⟩
   have RD := Lib.hid (fun v l w h1 h2 => (show Calls Tryz.prog 44 #[v, l] w fun e w' => ∃ v', e = .returned (.tuple #[v', .bool zc]) ∧ Lst w' v' (slvN C L (k + 1)).1 ∧ Kep w.heap.size w w' by rw [hzc]; exact HRD.out k v l w h1 h2))
   have HS1 : Hid ((slvN C L (k + 1)).2 = (z || zc)) := Lib.hid (by rw [hzc, ← HZ.out]; rfl)
   clear hzc HP
   have k0 : (0 : Int) ≤ (k : Int) := by omega
   cases z with
   | true =>
     go_wp2_with ((with_reducible refine (RD.out _ _ _ LV.out (HQ.out.kep gg)).mono ?_); rintro e w2 ⟨v2, rfl, l2, g2⟩; replace gg := kep_next gg g2; have L2 := Lib.hid l2; clear l2)
     go_roundw
     case rel => exact ⟨k + 1, by omega, by go_num, ⟨true, rfl, Lib.hid (by rw [HS1.out]; simp)⟩, Lib.hid ⟨L2.out, gg⟩⟩
     case measure => simp [RowKit.intOf]; omega
   | false =>
     go_wp2_with ((with_reducible refine (RD.out _ _ _ LV.out (HQ.out.kep gg)).mono ?_); rintro e w2 ⟨v2, rfl, l2, g2⟩; replace gg := kep_next gg g2; have L2 := Lib.hid l2; clear l2)
     go_roundw
     case rel => exact ⟨k + 1, by omega, by go_num, ⟨zc, rfl, Lib.hid (by rw [HS1.out]; simp)⟩, Lib.hid ⟨L2.out, gg⟩⟩
     case measure => simp [RowKit.intOf]; omega
  ·obtain rfl : k = 4 := by omega
   obtain ⟨h1, h2⟩ := HP.out
   have H1 := Lib.hid h1
   clear h1 HP
   go_wp2_with fail
   go_ret2
   exact ⟨_, by rw [HZ.out]; rfl, H1.out, h2⟩
end Go.Proofs.YtaknmlohnifcdaaGreatDoor
section
namespace Go.Proofs.YtaknmlohnifcdaaGreatDoor
open Go.ChangeShapes Go.WideShapes Go.ChangeAt Go.RowKit Go.Joins Go.Deep

theorem KepC.same {W W' : World} (h : Kep W.heap.size W W') {p : MemPlace} (hp : p.block < W.heap.size) : W.sameAt W' p := by
 cases p with
 | cell b o => exact World.cell?_of_block (w := W) (h.block b hp)
 | map b => exact h.block b hp
theorem KepC.trod {H : Type} {enc : TypeId × Value → H} {P : Program} {t : TypeId} (hl : laidOutB P = true) (hr : P.readableRec t = true) (hrow : t < P.types.size) {W W' : World} {v : Value} {d : DataW H} {ps : List MemPlace}
 (h : DataW.Trod enc P W 0 (fun _ => true) true t v d ps) (hb : Kep W.heap.size W W') (hlt : ∀ x ∈ ps, x.block < W.heap.size) :
 DataW.Trod enc P W' 0 (fun b => decide (b < W.heap.size)) true t v d ps :=
 WideElems.Trod_stays hl hr hrow h (fun x hx => KepC.same hb (hlt x hx)) (fun x hx => by simpa using hlt x hx)
end Go.Proofs.YtaknmlohnifcdaaGreatDoor
end
namespace Go.Proofs.YtaknmlohnifcdaaGreatDoor
open Go.RowKit Go.Lib
structure JArg (L : List Bd) (C : List Ct) : Prop where
 vw : Vw L
 few : C.length ≤ 1000
 rg : ∀ c ∈ C, RgC L c
theorem JArg.vb {L : List Bd} {C : List Ct} (h : JArg L C) : ∀ x ∈ L, Vb x := fun x hx => vb_of (h.vw.ok x hx)
def NewZ (w : World) (v : Value) (w' : World) : Prop := ∀ g, v.ownBlock = some g → w.heap.size ≤ g ∧ ∀ o, w'.frozen? ⟨g, o, none⟩ = false
abbrev JSums : Prop := ∀ v L l C w, Lst w v L → Sq ctv 5 w l C → JArg L C → Calls Tryz.prog 78 #[v, l] w fun e w' => ∃ v1 v2, e = .returned (.tuple #[v1, v2]) ∧ (Sq nv 1 w' v1 (L.map (sumJ (·.nx) L C)) ∧ Sq nv 1 w' v2 (L.map (sumJ (·.ny) L C))) ∧ Kep w.heap.size w w'
abbrev JSlv : Prop := ∀ v L l C w, Lst w v L → Sq ctv 5 w l C → JArg L C → Calls Tryz.prog 39 #[v, l] w fun e w' => ∃ v', e = .returned (.tuple #[v', .bool (slvN C L 4).2]) ∧ (Lst w' v' (slvN C L 4).1 ∧ NewZ w v' w') ∧ Kep w.heap.size w w'
end Go.Proofs.YtaknmlohnifcdaaGreatDoor
