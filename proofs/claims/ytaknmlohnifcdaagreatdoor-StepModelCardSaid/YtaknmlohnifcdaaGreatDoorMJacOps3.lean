import Derived.Test.YtaknmlohnifcdaaGreatDoorJ26MJacOps1
import Derived.Test.YtaknmlohnifcdaaGreatDoorJ15MViewOps
import Derived.Test.YtaknmlohnifcdaaGreatDoorJ02MSeq
import Derived.Test.YtaknmlohnifcdaaGreatDoorJ07MBodyCon
import Derived.Deep.DeepCutAuto
import Derived.Deep.QuietTactic
import Derived.BigQuiet
import Derived.StillTailTactics
set_option maxHeartbeats 4000000
set_option maxRecDepth 100000
namespace Go.Proofs.YtaknmlohnifcdaaGreatDoor
open Go.RowKit Go.Lib

theorem chk_vel {x : Bd} {a b : Int} (h : chkB x = 0) (h1 : -16777216 ≤ a ∧ a ≤ 16777216) (h2 : -16777216 ≤ b ∧ b ≤ 16777216) : chkB (velB x a b) = 0 := by
 obtain ⟨q1, q2, q3, q4, q5, _⟩ := chk0 h
 exact chk_ok ⟨q1, q2, q3, q4, q5, h1, h2⟩
theorem vw_rnd {L : List Bd} (C : List Ct) (V : Vw L) : Vw (rndL L C) := by
 refine ⟨asc_mapK (g := rndB L C) (fun _ => rfl) V.asc, fun y hy => ?_, fun y hy => ?_, ?_⟩
 ·obtain ⟨x, hx, rfl⟩ := List.mem_map.1 hy
  exact chk_vel (V.ok x hx) (limJ_bd _) (limJ_bd _)
 ·obtain ⟨x, hx, rfl⟩ := List.mem_map.1 hy
  exact V.key x hx
 ·unfold rndL
  rw [List.length_map]
  exact V.len
theorem jarg_slv {L : List Bd} {C : List Ct} (A : JArg L C) : ∀ k, JArg (slvN C L k).1 C
 | 0 => A
 | k + 1 => ⟨vw_rnd C (jarg_slv A k).vw, A.few, fun c hc => rgc_rnd ((jarg_slv A k).rg c hc)⟩
theorem flat_lenK : ∀ (D : List Bd), (flat D).length = D.length * 10
 | [] => rfl
 | x :: D => by
   have := flat_lenK D
   have l : (vals x).length = 10 := rfl
   simp only [flat, List.flatMap_cons, List.length_append, l, List.length_cons] at this ⊢
   omega
theorem flat_vel : ∀ (D : List Bd) (i : Nat) (x : Bd) (a b : Int), D[i]? = some x → ((flat D).set (i * 10 + 8) (.int .i32 a)).set (i * 10 + 9) (.int .i32 b) = flat (D.set i (velB x a b))
 | [], _, _, _, _, h => by simp at h
 | y :: l, 0, x, a, b, h => by
   simp at h
   subst h
   simp [flat, vals, velB]
 | y :: l, i + 1, x, a, b, h => by
   have e := flat_vel l i x a b (by simpa using h)
   have lx : (vals y).length = 10 := rfl
   have f : ∀ y (l : List Bd), flat (y :: l) = vals y ++ flat l := fun y l => by simp [flat]
   have o : ∀ (l : List Value) (k : Nat) (v : Value), (vals y ++ l).set ((i + 1) * 10 + k) v = vals y ++ l.set (i * 10 + k) v := fun l k v => by
    rw [List.set_append_right _ _ (by omega)]
    congr 2
    omega
   rw [List.set_cons_succ, f, f, ← e, o, o]
def mixJ (L : List Bd) (C : List Ct) (k : Nat) : List Bd := (L.take k).map (rndB L C) ++ L.drop k
theorem mix_len (L : List Bd) (C : List Ct) (k : Nat) : (mixJ L C k).length = L.length := by
 unfold mixJ
 rw [List.length_append, List.length_map, ← List.length_append, List.take_append_drop]
theorem mix_at {L : List Bd} {C : List Ct} {k : Nat} {x : Bd} (h : L[k]? = some x) : (mixJ L C k)[k]? = some x ∧ (mixJ L C k).set k (rndB L C x) = mixJ L C (k + 1) := by
 have hk : k < L.length := (List.getElem?_eq_some_iff.1 h).1
 have hl : ((L.take k).map (rndB L C)).length = k := by rw [List.length_map, List.length_take]; omega
 have hd : L.drop k = x :: L.drop (k + 1) := by
  rw [List.drop_eq_getElem_cons hk]
  rw [List.getElem?_eq_getElem hk] at h
  injection h with h
  rw [h]
 unfold mixJ
 constructor
 ·rw [List.getElem?_append_right (by omega), hl, Nat.sub_self, hd]
  rfl
 ·rw [List.set_append_right _ _ (by omega), hl, Nat.sub_self, hd, List.set_cons_zero, List.take_add_one, h, List.map_append, List.append_assoc]
  rfl
theorem mix_end (L : List Bd) (C : List Ct) : mixJ L C L.length = rndL L C := by
 unfold mixJ rndL
 rw [List.take_length, List.drop_length, List.append_nil]
def OwnA (w : World) (B n : Nat) (v : Value) (D : List Bd) : Prop := D.length = n ∧ ((v = .slice none 0 0 ∧ n = 0) ∨ ∃ g cap, v = .slice (some ⟨g, 0, none⟩) n cap ∧ B ≤ g ∧ ZC w g (flat D))
theorem owna_of {w : World} {B : Nat} {v : Value} {D : List Bd} (h : w.ownsRow B 40 10 v D.length (D.flatMap vals)) : OwnA w B D.length v D := by
 refine ⟨rfl, ?_⟩
 rcases h.2 with h' | ⟨g, cap, cur, rfl, hB, hg, _, _, _, htake⟩
 ·exact .inl h'
 ·refine .inr ⟨g, cap, rfl, hB, fun i u hu => ?_, fun i => ?_, (Array.getElem?_eq_some_iff.1 hg).1⟩
  ·have := h.cells (g := g) rfl i u hu
   rw [add_off, Nat.zero_add] at this
   exact this
  ·simp [World.frozen?, hg]
theorem OwnA.kep {w w' : World} {B n : Nat} {v : Value} {D : List Bd} (h : OwnA w B n v D) (g : Kep w.heap.size w w') : OwnA w' B n v D := by
 obtain ⟨h0, h1 | ⟨q, cap, e, hB, z⟩⟩ := h
 ·exact ⟨h0, .inl h1⟩
 ·exact ⟨h0, .inr ⟨q, cap, e, hB, z.kep g⟩⟩
theorem OwnA.lst {w : World} {B n : Nat} {v : Value} {D : List Bd} (h : OwnA w B n v D) : Lst w v D := by
 obtain ⟨rfl, ⟨rfl, h1⟩ | ⟨g, cap, rfl, hB, z⟩⟩ := h
 ·exact .inl ⟨List.length_eq_zero_iff.1 h1, none, 0, rfl⟩
 ·refine .inr ⟨g, 0, cap, rfl, fun k x hx i hi => ?_⟩
  have e := flat_get D k x hx i hi
  have l : i < (vals x).length := hi
  rw [List.getElem?_eq_getElem l] at e ⊢
  rw [Nat.zero_add]
  exact z.at_ _ _ e
theorem OwnA.newz {w0 w : World} {B n : Nat} {v : Value} {D : List Bd} (h : OwnA w B n v D) (hB : w0.heap.size ≤ B) : NewZ w0 v w := fun q e => by
 obtain ⟨_, ⟨rfl, _⟩ | ⟨g, cap, rfl, hg, z⟩⟩ := h
 ·cases e
 ·injection e with e
  subst e
  exact ⟨Nat.le_trans hB hg, z.frz⟩
structure RJ (w2 wr : World) (n : Nat) (v : Value) (L : List Bd) (C : List Ct) (k : Nat) : Prop where
 kep : Kep w2.heap.size w2 wr
 lim : wr.cell? ⟨w2.heap.size, 0, none⟩ = some (.bool ((L.take k).any (clB L C)))
 frz : wr.frozen? ⟨w2.heap.size, 0, none⟩ = false
 own : OwnA wr (w2.heap.size + 1) n v (mixJ L C k)
theorem RJ.put {w2 W : World} {n k ga ca : Nat} {L : List Bd} {C : List Ct} {x : Bd} (kp : Kep w2.heap.size w2 W) (hl : W.cell? ⟨w2.heap.size, 0, none⟩ = some (.bool ((L.take k).any (clB L C) || clB L C x))) (hf : W.frozen? ⟨w2.heap.size, 0, none⟩ = false) (hB : w2.heap.size + 1 ≤ ga) (hz : ZC W ga (flat (mixJ L C k))) (hx : L[k]? = some x) (hn : L.length = n) :
 RJ w2 ((W.setCell ⟨ga, k * 10 + 8, none⟩ (.int .i32 (rndX L C x))).setCell ⟨ga, k * 10 + 9, none⟩ (.int .i32 (rndY L C x))) n (.slice (some ⟨ga, 0, none⟩) n ca) L C (k + 1) := by
 have hk : k < L.length := (List.getElem?_eq_some_iff.1 hx).1
 have m := mix_at (C := C) hx
 have fl := flat_lenK (mixJ L C k)
 rw [mix_len] at fl
 have z := (hz.put (.int .i32 (rndX L C x)) (i := k * 10 + 8) (by omega)).put (.int .i32 (rndY L C x)) (i := k * 10 + 9) (by rw [List.length_set]; omega)
 rw [flat_vel _ _ _ _ _ m.1, show velB x (rndX L C x) (rndY L C x) = rndB L C x from rfl, m.2] at z
 have ne : ga ≠ w2.heap.size := by omega
 exact ⟨(kp.setCell (by show w2.heap.size ≤ ga; omega) _).setCell (by show w2.heap.size ≤ ga; omega) _, by rw [any_take hx]; exact sset_far (sset_far hl ne) ne, sset_froz (sset_froz hf), by rw [mix_len]; exact hn, .inr ⟨ga, ca, rfl, hB, z⟩⟩
theorem jlim {vel sum t q : Int} {z ch : Bool} {lb : Nat} (h1 : IntKind.i64.wrap vel = vel) (h2 : IntKind.i64.wrap (vel + sum) = t) (h3 : IntKind.i32.wrap q = q) (X : Lim2 t 16777216 q) (hc : (q != t) = ch) (w : World) (c0 : w.cell? ⟨lb, 0, none⟩ = some (.bool z)) (f0 : w.frozen? ⟨lb, 0, none⟩ = false) :
 Calls Tryz.prog 79 #[.int .i32 vel, .int .i64 sum, .pointer (some ⟨lb, 0, none⟩)] w fun e w' => e = .returned (.int .i32 q) ∧ w' = w.setCell ⟨lb, 0, none⟩ (.bool (z || ch)) := by
 simp only [Lim2, hc] at X
 have C1 := Lib.hid X
 clear X hc
 cases z <;>
 ·go_enter Tryz.func79, Tryz.ntmps79
  go_wp2_with ((with_reducible refine (C1.out _).mono ?_); rintro e w1 ⟨rfl, rfl⟩)
  go_ret
  exact ⟨rfl, rfl⟩
theorem jround {L : List Bd} {C : List Ct} (A : JArg L C) (v l : Value) (w : World) (hv : Lst w v L) (hl : Sq ctv 5 w l C) : Calls Tryz.prog 58 #[v, l] w fun e w' => ∃ v', e = .returned (.tuple #[v', .bool (clL L C)]) ∧ (Lst w' v' (rndL L C) ∧ NewZ w v' w') ∧ Kep w.heap.size w w' := by
 obtain ⟨base, cap, rfl⟩ := hv.shape
 have h40 := A.vw.len
 have CS := Lib.hid (jsums _ L l C w hv hl A)
 have CC := Lib.hid (fun w' (g : Kep w.heap.size w w') => vclone w' (hv.kep g) (by omega))
 have HV := Lib.hid hv
 have HA := Lib.hid A
 have hmf : ∀ (fn : Fn) (first cap : Array Value) (w : World), (Instr.makeFunc fn first cap).run Tryz.prog w = .ok (.func fn first cap) w := fun _ _ _ _ => rfl
 clear hv hl A
 generalize hn : L.length = n at *
 have HN := Lib.hid hn
 clear hn
 go_enter Tryz.func58, Tryz.ntmps58
 go_upto_region 5 with (first
  | ((with_reducible refine (CS.out).mono ?_); rintro e w2 ⟨v1, v2, rfl, ⟨q1, q2⟩, g2⟩; obtain ⟨b1, c1, e1⟩ := q1.shape; obtain ⟨b2, c2, e2⟩ := q2.shape; rw [List.length_map, HN.out] at e1 e2; subst e1 e2; have Q1 := Lib.hid q1; have Q2 := Lib.hid q2; have G2 := Lib.hid g2; clear q1 q2 g2)
  | ((with_reducible refine (CC.out _ (kep_more G2.out _)).mono ?_); rintro e w4 ⟨v4, rfl, o4, k4⟩))
 have HR : Hid (RJ w2 w4 n v4 L C 0) := Lib.hid (by
  have z := zc_new w2 [.bool false] 4
  have z4 := z.kep k4
  have o5 := owna_of (D := L) (by rw [HN.out]; exact o4)
  rw [HN.out] at o5
  refine ⟨(kep_more (Kep.refl _ _) _).trans (k4.mono (by simp)), by simpa using z4.i (i := 0) rfl, z4.frz 0, ?_⟩
  have e : mixJ L C 0 = L := by simp [mixJ]
  rw [e]
  simpa using o5)
 clear o4 k4 CS CC
 have hlt4 := World.block_lt_of_cell? _ _ HR.out.lim
 go_wp2_with fail
 go_loopw [24] (fun i wr => ∃ k : Nat, k ≤ n ∧ i = .int .i64 k ∧ Hid (RJ w2 wr n v4 L C k)) (fun i _ => n - (RowKit.intOf i).toNat)
 case atStart => exact ⟨0, by omega, rfl, HR⟩
 case round =>
  obtain ⟨k, hk, rfl, HP⟩ := hrel
  by_cases hlt : k < n
  ·have hb : L[k]? = some (L[k]'(by rw [HN.out]; exact hlt)) := List.getElem?_eq_getElem _
   generalize L[k]'(by rw [HN.out]; exact hlt) = x at hb
   obtain ⟨gl, off, rfl, qx⟩ := HV.out.at_ hb
   obtain ⟨_, _, e1, q1⟩ := Q1.out
   obtain ⟨g1, o1, rfl, r1⟩ := q1 k (sumJ (·.nx) L C x) (by rw [List.getElem?_map, hb]; rfl)
   obtain ⟨rfl, -⟩ : b1 = some ⟨g1, o1, none⟩ ∧ True := by injection e1 with e1; exact ⟨e1, trivial⟩
   obtain ⟨_, _, e2, q2⟩ := Q2.out
   obtain ⟨g2, o2, rfl, r2⟩ := q2 k (sumJ (·.ny) L C x) (by rw [List.getElem?_map, hb]; rfl)
   obtain ⟨rfl, -⟩ : b2 = some ⟨g2, o2, none⟩ ∧ True := by injection e2 with e2; exact ⟨e2, trivial⟩
   have s1 := HP.out.kep.all (by simpa using r1 0 _ rfl : w2.cell? ⟨g1, o1 + k, none⟩ = some (.int .i64 (sumJ (·.nx) L C x)))
   have s2 := HP.out.kep.all (by simpa using r2 0 _ rfl : w2.cell? ⟨g2, o2 + k, none⟩ = some (.int .i64 (sumJ (·.ny) L C x)))
   have l1 : g1 < w2.heap.size := by have := World.block_lt_of_cell? _ _ (by simpa using r1 0 _ rfl : w2.cell? ⟨g1, o1 + k, none⟩ = some (.int .i64 (sumJ (·.nx) L C x))); dsimp only at this; omega
   have l2 : g2 < w2.heap.size := by have := World.block_lt_of_cell? _ _ (by simpa using r2 0 _ rfl : w2.cell? ⟨g2, o2 + k, none⟩ = some (.int .i64 (sumJ (·.ny) L C x))); dsimp only at this; omega
   have n1 : g1 ≠ w2.heap.size := by omega
   have n2 : g2 ≠ w2.heap.size := by omega
   have gk := kep_next G2.out HP.out.kep
   have x0 : wr.cell? ⟨gl, off + k * 10, none⟩ = some (.int .u32 x.k) := gk.all (qx 0 (by decide))
   have x1 : wr.cell? ⟨gl, off + k * 10 + 1, none⟩ = some (.int .i32 x.r) := gk.all (qx 1 (by decide))
   have x2 : wr.cell? ⟨gl, off + k * 10 + 2, none⟩ = some (.int .i32 x.ax) := gk.all (qx 2 (by decide))
   have x3 : wr.cell? ⟨gl, off + k * 10 + 3, none⟩ = some (.int .i32 x.ay) := gk.all (qx 3 (by decide))
   have x4 : wr.cell? ⟨gl, off + k * 10 + 4, none⟩ = some (.int .i32 x.m) := gk.all (qx 4 (by decide))
   have x5 : wr.cell? ⟨gl, off + k * 10 + 5, none⟩ = some (.int .i32 x.o) := gk.all (qx 5 (by decide))
   have x6 : wr.cell? ⟨gl, off + k * 10 + 6, none⟩ = some (.int .i32 x.px) := gk.all (qx 6 (by decide))
   have x7 : wr.cell? ⟨gl, off + k * 10 + 7, none⟩ = some (.int .i32 x.py) := gk.all (qx 7 (by decide))
   have x8 : wr.cell? ⟨gl, off + k * 10 + 8, none⟩ = some (.int .i32 x.vx) := gk.all (qx 8 (by decide))
   have x9 : wr.cell? ⟨gl, off + k * 10 + 9, none⟩ = some (.int .i32 x.vy) := gk.all (qx 9 (by decide))
   obtain ⟨hmixl, ⟨_, h0⟩ | ⟨ga, ca, rfl, hB, hz⟩⟩ := HP.out.own
   ·omega
   have hmem := List.mem_of_getElem? hb
   have vb := HA.out.vb x hmem
   have bx := sumJ_bd (f := (·.nx)) HA.out.vb hmem HA.out.rg (fun c hc => (HA.out.rg c hc).nx) HA.out.few
   have by_ := sumJ_bd (f := (·.ny)) HA.out.vb hmem HA.out.rg (fun c hc => (HA.out.rg c hc).ny) HA.out.few
   have vx0 := vb.vx0; have vx1 := vb.vx1; have vy0 := vb.vy0; have vy1 := vb.vy1
   have HCL : Hid (clB L C x = ((rndX L C x != x.vx + sumJ (·.nx) L C x) || (rndY L C x != x.vy + sumJ (·.ny) L C x))) := Lib.hid (by
    unfold clB
    rw [Bool.eq_iff_iff]
    simp [bne_iff_ne])
   have LX := Lib.hid (fun (z : Bool) => jlim (z := z) (lb := w2.heap.size) (vel := x.vx) (sum := sumJ (·.nx) L C x) (t := x.vx + sumJ (·.nx) L C x) (q := rndX L C x) (by rw [IntKind.wrap_i64]; omega) (by rw [IntKind.wrap_i64]; omega) (by have := limJ_bd (x.vx + sumJ (·.nx) L C x); rw [IntKind.wrap_i32]; unfold rndX; omega) (lim2 ⟨by omega, by omega⟩ (by decide) (by decide) rfl) rfl)
   have LY := Lib.hid (fun (z : Bool) => jlim (z := z) (lb := w2.heap.size) (vel := x.vy) (sum := sumJ (·.ny) L C x) (t := x.vy + sumJ (·.ny) L C x) (q := rndY L C x) (by rw [IntKind.wrap_i64]; omega) (by rw [IntKind.wrap_i64]; omega) (by have := limJ_bd (x.vy + sumJ (·.ny) L C x); rw [IntKind.wrap_i32]; unfold rndY; omega) (lim2 ⟨by omega, by omega⟩ (by decide) (by decide) rfl) rfl)
   have HMA := Lib.hid (mix_at (C := C) hb).1
   have HB := Lib.hid hb
   obtain ⟨cx, hcx⟩ : ∃ cx, cx = (rndX L C x != x.vx + sumJ (·.nx) L C x) := ⟨_, rfl⟩
   obtain ⟨cy, hcy⟩ : ∃ cy, cy = (rndY L C x != x.vy + sumJ (·.ny) L C x) := ⟨_, rfl⟩
   obtain ⟨rx, hrx⟩ : ∃ rx, rx = rndX L C x := ⟨_, rfl⟩
   obtain ⟨ry, hry⟩ : ∃ ry, ry = rndY L C x := ⟨_, rfl⟩
   rw [← hcx, ← hcy] at HCL
   rw [← hcx, ← hrx] at LX
   rw [← hcy, ← hry] at LY
   have HRX := Lib.hid hrx
   have HRY := Lib.hid hry
   generalize sumJ (·.nx) L C x = sx at *
   generalize sumJ (·.ny) L C x = sy at *
   have i0 : (0 : Int) ≤ (k : Int) := Int.natCast_nonneg _
   have i1 : (k : Int) < (n : Int) := by omega
   have hsz := HP.out.kep.size
   have hls := World.block_lt_of_cell? _ _ HP.out.lim
   dsimp only at hls
   clear hb qx e1 e2 q1 q2 r1 r2 gk hmem vb bx by_ vx0 vx1 vy0 vy1 hcx hcy hrx hry hmixl hlt4
   go_upto_region 8 with fail
   generalize hW : World.alloc wr _ = W6
   have kW : Kep wr.heap.size wr W6 := by rw [← hW]; exact kep_more (Kep.refl _ _) _
   have zb : ZC W6 wr.heap.size [.int .u32 x.k, .int .i32 x.r, .int .i32 x.ax, .int .i32 x.ay, .int .i32 x.m, .int .i32 x.o, .int .i32 x.px, .int .i32 x.py, .int .i32 x.vx, .int .i32 x.vy] := by rw [← hW]; exact zc_new' _ _ _ rfl
   have p8 := zb.i (i := 8) rfl
   have p9 := zb.i (i := 9) rfl
   replace s1 := kW.all s1
   replace s2 := kW.all s2
   have za := hz.kep kW
   have lm := kW.all HP.out.lim
   have lf := kep_froz kW (by rw [HP.out.lim]; rfl) HP.out.frz
   have g6 := HP.out.kep.trans (kW.mono hsz)
   have n3 : wr.heap.size ≠ w2.heap.size := by omega
   have n4 : ga ≠ w2.heap.size := by omega
   have n6 : ga ≠ g1 := by omega
   have n7 : ga ≠ g2 := by omega
   have n5 : wr.heap.size ≠ ga := by have := hz.lt; omega
   generalize wr.heap.size = bb at *
   clear x0 x1 x2 x3 x4 x5 x6 x7 x8 x9 hW kW zb hz hsz hls HP
   obtain ⟨z, hz0⟩ : ∃ z, z = (L.take k).any (clB L C) := ⟨_, rfl⟩
   rw [← hz0] at lm
   have HZ := Lib.hid hz0.symm
   clear hz0
   refine wp_region_noPanic ?_
   refine wp_region_held_drew (S := (fun w' => w'.cell? ⟨bb, 8, none⟩ = some (.int .i32 x.vx) ∧ w'.cell? ⟨bb, 9, none⟩ = some (.int .i32 x.vy) ∧ w'.cell? ⟨g1, o1 + k, none⟩ = some (.int .i64 sx) ∧ w'.cell? ⟨g2, o2 + k, none⟩ = some (.int .i64 sy) ∧ Kep w2.heap.size w2 w')) (by kernel_rfl) (⟨by rw [World.cell?_drew]; exact p8, by rw [World.cell?_drew]; exact p9, by rw [World.cell?_drew]; exact s1, by rw [World.cell?_drew]; exact s2, g6.drew⟩) (fun hH => ?_)
   replace lm : W6.drew.cell? ⟨w2.heap.size, 0, none⟩ = some (.bool z) := by rw [World.cell?_drew]; exact lm
   replace lf : W6.drew.frozen? ⟨w2.heap.size, 0, none⟩ = false := by rw [World.frozen?_drew]; exact lf
   replace za := za.drew
   clear p8 p9 s1 s2 g6
   generalize W6.drew = Y0 at *
   refine sT 0 hH ?_
   refine sT 1 hH ?_
   refine sN 2 hH ?_
   refine sT 3 hH ?_
   refine sT 4 hH ?_
   refine sT 5 hH ?_
   refine sN 6 hH ?_
   refine sT 7 hH ?_
   refine sT 8 hH ?_
   refine sT 9 hH ?_
   refine sN 11 hH ?_
   refine sT 12 hH ?_
   refine sT 13 hH ?_
   refine sT 14 hH ?_
   refine sN 15 hH ?_
   refine sT 16 hH ?_
   refine sT 17 hH ?_
   refine sN 18 hH ?_
   refine sC 10 (fun K hK => ?_)
   go_simp
   refine (LX.out z _ lm lf).mono ?_
   rintro e v10 ⟨rfl, hw⟩
   obtain ⟨p8, p9, s1, s2, gg⟩ := id hH
   have lm2 : v10.cell? ⟨w2.heap.size, 0, none⟩ = some (.bool (z || cx)) := by rw [hw]; exact World.cell?_setCell_same' _ _ _ (by rw [lm]; rfl)
   have lf2 : v10.frozen? ⟨w2.heap.size, 0, none⟩ = false := by rw [hw]; exact sset_froz lf
   replace za : ZC v10 ga (flat (mixJ L C k)) := by rw [hw]; exact za.far1 n4 _
   refine hK.out _ _ (by (try dsimp only); rw [hw]; exact ⟨sset_far p8 (fun e => n3 e.symm), sset_far p9 (fun e => n3 e.symm), sset_far s1 (fun e => n1 e.symm), sset_far s2 (fun e => n2 e.symm), gg.setCell (Nat.le_refl _) _⟩) (fun hH2 => ?_)
   clear lm lf p8 p9 s1 s2 gg hw; have lm := lm2; have lf := lf2; clear lm2 lf2
   clear hK K hH; have hH := hH2; clear hH2
   try simp only [Act.put, List.setIfInBounds_toArray, List.set_cons_zero, List.set_cons_succ]
   refine sC 19 (fun K hK => ?_)
   go_simp
   refine (LY.out (z || cx) _ lm lf).mono ?_
   rintro e v19 ⟨rfl, hw⟩
   obtain ⟨p8, p9, s1, s2, gg⟩ := id hH
   have lm2 : v19.cell? ⟨w2.heap.size, 0, none⟩ = some (.bool (z || cx || cy)) := by rw [hw]; exact World.cell?_setCell_same' _ _ _ (by rw [lm]; rfl)
   have lf2 : v19.frozen? ⟨w2.heap.size, 0, none⟩ = false := by rw [hw]; exact sset_froz lf
   replace za : ZC v19 ga (flat (mixJ L C k)) := by rw [hw]; exact za.far1 n4 _
   refine hK.out _ _ (by (try dsimp only); rw [hw]; exact ⟨sset_far p8 (fun e => n3 e.symm), sset_far p9 (fun e => n3 e.symm), sset_far s1 (fun e => n1 e.symm), sset_far s2 (fun e => n2 e.symm), gg.setCell (Nat.le_refl _) _⟩) (fun hH2 => ?_)
   clear lm lf p8 p9 s1 s2 gg hw; have lm := lm2; have lf := lf2; clear lm2 lf2
   clear hK K hH; have hH := hH2; clear hH2
   refine sT 20 hH ?_
   refine sT 21 hH ?_
   refine sN 22 hH ?_
   refine sC 23 (fun K hK => ?_)
   obtain ⟨p8, p9, s1, s2, gg⟩ := id hH
   have fg := fun i hi => flat_get (mixJ L C k) k x HMA.out i hi
   have a8 : v19.cell? ⟨ga, k * 10 + 8, none⟩ = some (.int .i32 x.vx) := za.at_ _ _ (fg 8 (by decide))
   have a9 : v19.cell? ⟨ga, k * 10 + 9, none⟩ = some (.int .i32 x.vy) := za.at_ _ _ (fg 9 (by decide))
   have f8 := za.frz (k * 10 + 8)
   have f9 := za.frz (k * 10 + 9)
   have HNX : Hid (RJ w2 ((v19.setCell ⟨ga, k * 10 + 8, none⟩ (.int .i32 rx)).setCell ⟨ga, k * 10 + 9, none⟩ (.int .i32 ry)) n (.slice (some ⟨ga, 0, none⟩) n ca) L C (k + 1)) := Lib.hid (by rw [HRX.out, HRY.out]; exact RJ.put gg (by rw [HCL.out, HZ.out, ← Bool.or_assoc]; exact lm) lf hB za HB.out HN.out)
   have hzz := za.lt
   clear fg
   go_simp
   refine hK.out _ _ (by (try dsimp only); exact ⟨sset_far (sset_far p8 (fun e => n5 e.symm)) (fun e => n5 e.symm), sset_far (sset_far p9 (fun e => n5 e.symm)) (fun e => n5 e.symm), sset_far (sset_far s1 n6) n6, sset_far (sset_far s2 n7) n7, HNX.out.kep⟩) (fun hH2 => ?_)
   clear p8 p9 s1 s2 gg a8 a9 f8 f9 hzz
   clear hK K hH; have hH := hH2; clear hH2
   try simp only [Act.put, List.setIfInBounds_toArray, List.set_cons_zero, List.set_cons_succ]
   refine sE ?_
   go_wp2_with fail
   go_roundw
   case rel => exact ⟨k + 1, by omega, by go_num, HNX⟩
   case measure => simp [RowKit.intOf]; omega
  ·have i2 : ¬ (k : Int) < (n : Int) := by omega
   obtain rfl : k = n := by omega
   have lm := HP.out.lim
   have own := HP.out.own
   rw [← HN.out, List.take_length] at lm
   rw [← HN.out, mix_end, HN.out] at own
   have HO := Lib.hid own
   have HK := Lib.hid HP.out.kep
   have hcl : L.any (clB L C) = clL L C := rfl
   rw [hcl] at lm
   clear HP own hcl HR
   obtain ⟨zz, hzz⟩ : ∃ zz, zz = clL L C := ⟨_, rfl⟩
   rw [← hzz] at lm
   have HZZ := Lib.hid hzz
   clear hzz
   go_wp2_with fail
   go_quiet (fail)
   go_wp2_with fail
   go_ret2
   have own2 := fun m => HO.out.kep (kep_drewN (Kep.refl _ _) m)
   exact ⟨_, by rw [← HZZ.out]; first | rfl | (simp; done), ⟨(own2 _).lst, (own2 _).newz (Nat.le_trans G2.out.size (Nat.le_succ _))⟩, kep_drewN (kep_next G2.out HK.out) _⟩
theorem jsolve : JSlv := fun v L l C w h hl A => by
 have HRD := Lib.hid (fun k => jround (jarg_slv A k))
 have HQ := Lib.hid hl
 have HL := Lib.hid h
 clear h hl A
 go_enter Tryz.func39, Tryz.ntmps39
 go_wp2_with fail
 go_loopw [0, 6, 9] (fun v cl i wr => ∃ k : Nat, k ≤ 4 ∧ i = .int .i64 k ∧ (∃ z : Bool, cl = .bool z ∧ Hid ((slvN C L k).2 = z)) ∧ Hid ((Lst wr v (slvN C L k).1 ∧ (0 < k → NewZ w v wr)) ∧ Kep w.heap.size w wr)) (fun _ _ i _ => 4 - (RowKit.intOf i).toNat)
 case atStart => exact ⟨0, by omega, rfl, ⟨false, rfl, Lib.hid rfl⟩, Lib.hid ⟨⟨HL.out, fun q => by omega⟩, Kep.refl _ _⟩⟩
 case round =>
  obtain ⟨k, hk, rfl, ⟨z, rfl, HZ⟩, HP⟩ := hrel
  by_cases hlt : k < 4
  ·have gg := HP.out.2
   have LV := Lib.hid HP.out.1.1
   obtain ⟨zc, hzc⟩ : ∃ t, t = clL (slvN C L k).1 C := ⟨_, rfl⟩
   have RD := Lib.hid (fun v l w h1 h2 => (show Calls Tryz.prog 58 #[v, l] w fun e w' => ∃ v', e = .returned (.tuple #[v', .bool zc]) ∧ (Lst w' v' (slvN C L (k + 1)).1 ∧ NewZ w v' w') ∧ Kep w.heap.size w w' by rw [hzc]; exact HRD.out k v l w h1 h2))
   have HS1 : Hid ((slvN C L (k + 1)).2 = (z || zc)) := Lib.hid (by rw [hzc, ← HZ.out]; rfl)
   clear hzc HP
   have k0 : (0 : Int) ≤ (k : Int) := by omega
   cases z with
   | true =>
     go_wp2_with ((with_reducible refine (RD.out _ _ _ LV.out (HQ.out.kep gg)).mono ?_); rintro e w2 ⟨v2, rfl, l2, g2⟩; have hsz := gg.size; replace gg := kep_next gg g2; have L2 := Lib.hid l2; clear l2)
     go_roundw
     case rel => exact ⟨k + 1, by omega, by go_num, ⟨true, rfl, Lib.hid (by rw [HS1.out]; simp)⟩, Lib.hid ⟨⟨L2.out.1, fun _ g e => ⟨Nat.le_trans hsz (L2.out.2 g e).1, (L2.out.2 g e).2⟩⟩, gg⟩⟩
     case measure => simp [RowKit.intOf]; omega
   | false =>
     go_wp2_with ((with_reducible refine (RD.out _ _ _ LV.out (HQ.out.kep gg)).mono ?_); rintro e w2 ⟨v2, rfl, l2, g2⟩; have hsz := gg.size; replace gg := kep_next gg g2; have L2 := Lib.hid l2; clear l2)
     go_roundw
     case rel => exact ⟨k + 1, by omega, by go_num, ⟨zc, rfl, Lib.hid (by rw [HS1.out]; simp)⟩, Lib.hid ⟨⟨L2.out.1, fun _ g e => ⟨Nat.le_trans hsz (L2.out.2 g e).1, (L2.out.2 g e).2⟩⟩, gg⟩⟩
     case measure => simp [RowKit.intOf]; omega
  ·obtain rfl : k = 4 := by omega
   obtain ⟨h1, h2⟩ := HP.out
   have H1 := Lib.hid h1
   clear h1 HP
   go_wp2_with fail
   go_ret2
   exact ⟨_, by rw [HZ.out]; rfl, ⟨H1.out.1, H1.out.2 (by decide)⟩, h2⟩
end Go.Proofs.YtaknmlohnifcdaaGreatDoor
