import Derived.Test.YtaknmlohnifcdaaGreatDoorJ08MGridCon
import Derived.Test.YtaknmlohnifcdaaGreatDoorMCellOps3
import Derived.Deep.DeepCutAuto
import Derived.Lib.SliceRun
import Derived.Maps.OwnSet
import Derived.Carry
import Derived.Maps.OwnRows
import Derived.Maps.AppendAt
import Derived.Maps.GroupsBeside
set_option maxHeartbeats 4000000
set_option maxRecDepth 100000
namespace Go.Proofs.YtaknmlohnifcdaaGreatDoor
open Go.RowKit Go.Lib
theorem pall (e : Ent) (he : EntOk e) (w : World) : Calls Tryz.prog 110 #[.agg #[.int .i32 e.a, .int .i32 e.b, .int .i32 e.c, .int .i32 e.d]] w
 fun en w' => ∃ v, en = .returned v ∧ (Sq cv 2 w' v (cellsB e.a e.b e.c e.d) ∧ ∀ k, v.ownBlock = some k → w.heap.size ≤ k ∧ k < w'.heap.size) ∧ Kep w.heap.size w w' := by
 obtain ⟨_, ⟨ha, hb, hc, hd⟩, hlen⟩ := he
 have fin : ∀ {C : List (Int × Int)}, (Calls Tryz.prog 110 #[.agg #[.int .i32 e.a, .int .i32 e.b, .int .i32 e.c, .int .i32 e.d]] w fun en w' => ∃ v, en = .returned v ∧ w'.ownsRow w.heap.size 174 2 v C.length (C.flatMap cv) ∧ Below w.heap.size w w') →
  Calls Tryz.prog 110 #[.agg #[.int .i32 e.a, .int .i32 e.b, .int .i32 e.c, .int .i32 e.d]] w fun en w' => ∃ v, en = .returned v ∧ (Sq cv 2 w' v C ∧ ∀ k, v.ownBlock = some k → w.heap.size ≤ k ∧ k < w'.heap.size) ∧ Kep w.heap.size w w' := fun h => h.mono fun _ _ ⟨v, h1, h2, h3⟩ => ⟨v, h1, ⟨own_sq cv_len h2, h2.lt⟩, Kep.of_below h3⟩
 unfold cellsB at hlen ⊢
 by_cases z : empB e.a e.b e.c e.d = true
 ·rw [if_pos z]
  exact fin (pal_no _ _ _ _ (Lib.hid (pes_no _ _ _ _ (Lib.hid (pee _ _ _ _ true z)))) w)
 ·rw [if_neg z] at hlen ⊢
  have z : empB e.a e.b e.c e.d = false := by simpa using z
  have q : e.a ≤ e.c ∧ e.b ≤ e.d := by
   unfold empB at z
   have := of_decide_eq_false z
   omega
  have l1 := colN_le q.1
  have l2 := colN_le q.2
  have a1 := colN_in ha
  have a2 := colN_in hb
  have a3 := colN_in hc
  have a4 := colN_in hd
  rw [allC_len] at hlen
  exact fin (pal _ _ _ _ (colN e.a) (colN e.b) (colN e.c) (colN e.d) (ncB e.a e.c) (ncB e.b e.d) (Lib.hid (pes _ _ _ _ _ _ _ _ (Lib.hid (pee _ _ _ _ false z)) (Lib.hid (peo _ _ ha hb)) (Lib.hid (peo _ _ hc hd)))) (by unfold ncB; omega) (by unfold ncB; omega) (by omega) (by omega) (by omega) (by omega) (by omega) w)
theorem gins (g : Nat) (S : Nat → Prop) (L : List Ent) (e : Ent) (w : World) (h : GI w g S L) (he : EntOk e) (hl : L.length ≤ 100) : Calls Tryz.prog 93 #[.pointer (some ⟨g, 0, none⟩), .int .u32 e.k, .agg #[.int .i32 e.a, .int .i32 e.b, .int .i32 e.c, .int .i32 e.d]] w
 fun en w' => (∃ v, en = .returned v) ∧ ∃ S', GI w' g S' (L ++ [e]) ∧ More w S S' ∧ Oth S w w' := by
 obtain ⟨vf, h⟩ := h
 have CA := Lib.hid (fun w => pall e he w)
 have CB := Lib.hid (fun x y W F => bel_calls (peb x y W F))
 have CW := Lib.hid (fun (K : List Int) (v : Value) (W : World) (h1 : K.length ≤ 1000000) (h2 : SortS kless K) (h3 : W.ownsRow 0 36 1 v K.length (K.flatMap kv)) => kwith K e.k v W h1 h2 h3)
 have HK := Lib.hid (kf_all L e)
 have HKL := Lib.hid (fun bs j => kf_len hl e.k bs j)
 have HKA := Lib.hid (fun bs j => kf_asc L e.k bs j)
 have HKS := Lib.hid (fun bs i => kf_step L e.k bs i)
 rw [← kf_nil L e.k] at h
 have hC : (cellsB e.a e.b e.c e.d).length ≤ 50 := he.2.2
 have HB : Hid (bksE e = (cellsB e.a e.b e.c e.d).map fun x => bktN x.1 x.2) := Lib.hid rfl
 obtain ⟨key, a, b, c, d⟩ := e
 dsimp only at *
 generalize cellsB a b c d = C at *
 generalize kf L key = Kf at *
 obtain ⟨n, hn⟩ : ∃ n : Nat, n = L.length := ⟨_, rfl⟩
 rw [← hn] at h hl
 have HN : Hid ((L ++ [(⟨key, a, b, c, d⟩ : Ent)]).length = n + 1) := Lib.hid (by simp [hn])
 clear hn
 have HG := Lib.hid h
 have c0 := h.cn
 have f0 := h.fz 1024
 have glt := h.glt
 have hn1 : IntKind.i64.wrap ((n : Int) + 1) = ((n + 1 : Nat) : Int) := by rw [IntKind.wrap_i64]; omega
 clear h he
 have c0' : (w.alloc (.cells #[.int .i32 a, .int .i32 b, .int .i32 c, .int .i32 d] 120)).cell? ⟨g, 1024, none⟩ = some (.int .i64 n) := by rw [World.cell?_alloc_past _ _ _ glt]; exact c0
 have f0' : (w.alloc (.cells #[.int .i32 a, .int .i32 b, .int .i32 c, .int .i32 d] 120)).frozen? ⟨g, 1024, none⟩ = false := by rw [World.frozen?_alloc_past _ _ _ glt]; exact f0
 go_enter Tryz.func93, Tryz.ntmps93
 go_wp2_with ((with_reducible refine (CA.out _).mono ?_); rintro en w3 ⟨v, rfl, ⟨⟨base, cap, rfl, hc⟩, r3⟩, g3⟩)
 have HQ : Hid (Sq cv 2 w3 (.slice base C.length cap) C) := Lib.hid ⟨base, cap, rfl, hc⟩
 obtain ⟨m1, m2⟩ := HG.out.count ((n : Int) + 1)
 have hs3 : (w.setCell ⟨g, 1024, none⟩ (.int .i64 ((n : Int) + 1))).heap.size = w.heap.size := by simp
 have G3 : Hid (GM w3 g S ((n : Int) + 1) vf (Kf [])) := Lib.hid (m1.kep (kep_next (kep_more (Kep.refl _ _) _) g3))
 have O3 : Hid (Oth S w w3) := Lib.hid (m2.trans (More.refl _ _) (Oth.of_kep (kep_next (kep_more (Kep.refl _ _) _) g3)))
 have HF : Hid (∀ k, (Value.slice base C.length cap).ownBlock = some k → ¬ S k ∧ k < w3.heap.size) := Lib.hid fun k hk => by
  obtain ⟨h1, h2⟩ := r3 k hk
  have hS : ¬ S k := fun q => by
   have := HG.out.lt k q
   simp at h1
   omega
  exact ⟨hS, h2⟩
 clear m1 m2 g3 r3 hc c0 f0 c0' f0' hs3
 generalize hlen : C.length = len at *
 have HLEN := Lib.hid hlen
 clear hlen
 go_loopw [21] (fun x wr => ∃ k : Nat, k ≤ len ∧ x = .int .i64 k ∧ Hid (∃ S' vf', GM wr g S' ((n : Int) + 1) vf' (Kf ((C.take k).map fun x => bktN x.1 x.2)) ∧ More w3 S S' ∧ Oth S w3 wr)) (fun x _ => len - (RowKit.intOf x).toNat)
 case atStart => exact ⟨0, by omega, rfl, Lib.hid ⟨S, vf, G3.out, More.refl _ _, ⟨rfl, rfl, Nat.le_refl _, fun _ _ _ => rfl⟩⟩⟩
 case round =>
  obtain ⟨k, hk, rfl, HR⟩ := hrel
  by_cases hlt : k < len
  ·obtain ⟨S', vf', hG, hM, hO⟩ := HR.out
   have hq := HQ.out.oth (fun _ => fun k e s => (HF.out k e).1 s) hO
   have hx : C[k]? = some (C[k]'(by rw [HLEN.out]; exact hlt)) := List.getElem?_eq_getElem _
   generalize C[k]'(by rw [HLEN.out]; exact hlt) = x at hx
   obtain ⟨x0, x1⟩ := x
   obtain ⟨b0, c0, e0, hc⟩ := hq
   injection e0 with e1 e2 e3
   subst e1
   clear e2 e3
   obtain ⟨gl, off, rfl, q⟩ := hc k _ hx
   have q0 := q 0 _ rfl
   have q1 := q 1 _ rfl
   obtain ⟨j, hj⟩ : ∃ j : Nat, bktN x0 x1 = (j : Int) := ⟨(bktN x0 x1).toNat, by have := bkt_in x0 x1; omega⟩
   have hj1 : j < 1024 := by have := bkt_in x0 x1; omega
   have CBx := Lib.hid (fun W F => CB.out x0 x1 W F)
   rw [hj] at CBx
   have hts : Kf ((C.take (k + 1)).map fun x => bktN x.1 x.2) = updF (Kf ((C.take k).map fun x => bktN x.1 x.2)) j (putS kless (Kf ((C.take k).map fun x => bktN x.1 x.2) j) key) := by
    rw [List.take_add_one, hx, List.map_append, ← HKS.out]
    simp [hj]
   have HT := Lib.hid hts
   have CWx := Lib.hid (fun W h3 => CW.out (Kf ((C.take k).map fun x => bktN x.1 x.2) j) (vf' j) W (by have := HKL.out ((C.take k).map fun x => bktN x.1 x.2) j; omega) (HKA.out _ j) h3)
   have HGr := Lib.hid hG
   have HM := Lib.hid hM
   have HO := Lib.hid hO
   clear hG hM hO hts hx hc q hj HR
   generalize Kf ((C.take k).map fun x => bktN x.1 x.2) = Kk at *
   have q0 : wr.cell? ⟨gl, off + k * 2, none⟩ = some (.int .i32 x0) := q0
   have i0 : (0 : Int) ≤ (k : Int) := Int.natCast_nonneg _
   have i1 : (k : Int) < (len : Int) := by omega
   have j0 : (0 : Int) ≤ (j : Int) := Int.natCast_nonneg _
   have j1 : (j : Int) < 1024 := by omega
   go_wp2_with ((with_reducible refine (CBx.out _ (HGr.out.fac.alloc _)).mono ?_); rintro en w5 ⟨rfl, g5⟩
                have G5 := Lib.hid (HGr.out.kep (kep_next (kep_more (Kep.refl _ _) _) g5))
                have y0 := G5.out.c j hj1)
   have G6 : Hid (GM w5.drew g S' ((n : Int) + 1) vf' Kk) := Lib.hid (G5.out.kep (kep_drew (Kep.refl _ _)))
   have k6 : Hid (Kep wr.heap.size wr w5.drew) := Lib.hid (kep_drew (kep_next (kep_more (Kep.refl _ _) _) g5))
   clear g5
   go_region_with ((with_reducible refine (CWx.out _ (G6.out.own j hj1)).mono ?_); rintro en w6 ⟨v6, rfl, r6⟩
                   obtain ⟨⟨b6, n6, c6⟩, hv6, hn6⟩ := own_slice r6.1
                   clear hn6
                   subst hv6
                   dsimp only at r6
                   obtain ⟨S6, n1, n2, n3⟩ := G6.out.stored hj1 r6
                   have s0 : w6.cell? ⟨g, j, none⟩ = some (vf' j) := (World.cell?_of_block (r6.2.1.block g G6.out.glt (fun e => G6.out.off j hj1 e))).trans (G6.out.c j hj1)
                   have s1 : w6.frozen? ⟨g, j, none⟩ = false := (World.frozen?_of_block (r6.2.1.block g G6.out.glt (fun e => G6.out.off j hj1 e))).trans (G6.out.fz j)
                   rw [← HT.out] at n1
                   have N1 := Lib.hid n1
                   have N2 := Lib.hid n2
                   have N3 := Lib.hid n3
                   clear n1 n2 n3 r6)
   go_wp2
   go_roundw
   case rel => exact ⟨k + 1, by omega, by first | rfl | go_num, Lib.hid ⟨S6, _, N1.out, HM.out.trans (Nat.le_trans HO.out.size k6.out.size) N2.out, HO.out.trans HM.out ((Oth.of_kep k6.out).trans (More.refl _ _) N3.out)⟩⟩
   case measure => simp [RowKit.intOf]; omega
  ·have hk2 : ¬ (k : Int) < (len : Int) := by omega
   obtain rfl : k = len := by omega
   go_wp2
   go_end0
   obtain ⟨S', vf', hG, hM, hO⟩ := HR.out
   rw [List.take_of_length_le (Nat.le_of_eq HLEN.out), ← HB.out, HK.out] at hG
   refine ⟨⟨_, rfl⟩, S', ⟨vf', ?_⟩, fun q hq => (hM q hq).imp id (fun h => Nat.le_trans O3.out.size h), O3.out.trans (More.refl _ _) hO⟩
   rw [HN.out]
   exact hG
end Go.Proofs.YtaknmlohnifcdaaGreatDoor
section
namespace Go.Proofs.YtaknmlohnifcdaaGreatDoor
open Go.RowKit Go.Lib Go.Maps

theorem plainElem_bool_inv {H : Type} {P : Program} {e : TypeId} (he : P.underlying e = some .bool) {v : Value} {z : DataW H × List MemPlace} (h : plainElem P e v = some z) : ∃ x, v = .bool x ∧ z = (.lit (.bool x), []) := by
 unfold plainElem at h
 rw [he] at h
 cases v <;> simp at h
 subst h
 exact ⟨_, rfl, rfl⟩
theorem law32 : Keyed Tryz.prog 36 := int_keyed Tryz.underlying36
theorem zeroB (w : World) : (zeroValue 4).run Tryz.prog w = .ok (.bool false) w := by kernel_rfl
theorem kl32 (a : Int) : WideAt.IsKeyLit (.int .u32 a) := trivial
theorem kn32 {a b : Int} (h : a ≠ b) : (Lit.int .u32 a) ≠ (Lit.int .u32 b) := fun e => h (by injection e)
abbrev OwnM (w : World) (k : TypeId) (b n : Nat) (D : DataW Unit) : Prop := w.ownsMap Tryz.prog k (plainElem Tryz.prog 4) b n D
theorem look_bool {w : World} {k t : TypeId} {b n : Nat} {D : DataW Unit} (K : Keyed Tryz.prog k) (ht : Tryz.prog.underlying t = some (.map k 4)) (h : OwnM w k b n D) {key : Value} {kl : Lit} (hkey : keyOf Tryz.prog k key = some kl) :
 ∃ c, (Instr.lookup t (.map (some b)) key false).run Tryz.prog w = .ok (.bool c) w ∧ D.atKey kl (.lit (.bool false)) = .lit (.bool c) := by
 obtain ⟨v, ps, hrun, hv⟩ := h.lookup K ht (zeroB w) (plainElem_bool Tryz.underlying4 false) hkey
 obtain ⟨c, rfl, hc⟩ := plainElem_bool_inv Tryz.underlying4 hv
 exact ⟨c, hrun, congrArg (fun z => z.1) hc⟩
def arrV (vf : Nat → Value) : Array Value := ((List.range 1024).map vf).toArray
theorem arr_load {w : World} {g : Nat} {vf : Nat → Value} (h : ∀ j, j < 1024 → w.cell? ⟨g, j, none⟩ = some (vf j)) : (loadVar 145 ⟨g, 0, none⟩).run Tryz.prog w = .ok (.agg (arrV vf)) w := by
 have e := run_loadCells_list (P := Tryz.prog) w ⟨g, 0, none⟩ ((List.range 1024).map vf) (fun j v hv => by
  rw [List.getElem?_map] at hv
  obtain ⟨i, hi, e⟩ := Option.map_eq_some_iff.1 hv
  have := List.getElem?_eq_some_iff.1 hi
  obtain ⟨hl, e2⟩ := this
  rw [List.getElem_range] at e2
  subst e2
  rw [add_off, Nat.zero_add, ← e]
  exact h j (by simpa using hl))
 rw [List.length_map, List.length_range] at e
 unfold loadVar
 simp only [Sem.run_bind, Tryz.isAgg145, Result.andThen, Tryz.sizeOf145, if_true, e, Sem.run_pure]
 rfl
theorem arr_at (vf : Nat → Value) {t : Nat} (ht : t < 1024) (w : World) : (Instr.index 145 (.agg (arrV vf)) (.int .i64 (t : Int))).run Tryz.prog w = .ok (vf t) w := by
 have h1 : (arrV vf)[t]? = some (vf t) := by
  unfold arrV
  rw [List.getElem?_toArray, List.getElem?_map, List.getElem?_range ht]
  rfl
 have h2 : (0 : Int) ≤ (t : Int) := Int.natCast_nonneg _
 unfold Instr.index
 simp [asIntOf, run_underlying Tryz.underlying145, Tryz.sizeOf144, h1, h2, part, Tryz.isAgg144]
 exact fun h => absurd h (by omega)
theorem wpList_load_run {P : Program} (w : World) {ops : Array Oper} {rest : List Oper} {o : Oper} {a : Act} {Q : Exit → Act → World → Prop} (hg : o.guard = none) (p : Operand) (t : TypeId) (ho : o.op = .load t p) (ad : Addr) (hp : a.eval p = .pointer (some ad)) (v : Value) (hr : (loadVar t ad).run P w = .ok v w)
 (h : wpList P ops Q rest (a.put o.dst v) w) : wpList P ops Q (o :: rest) a w := by
 refine wpList_plain hg fun K hK => ?_
 unfold Oper.wp
 simp [execOp, ho, hp, Instr.loadAt, Instr.sureAddr, Result.andThen, hr]
 exact hK _ _ h
theorem own_map {w : World} {B size n b m : Nat} {e k : TypeId} {v : Value} {xs : List Value} {R : Value → Option (DataW Unit × List MemPlace)} {D : DataW Unit} (h : w.ownsRow B e size v n xs) (hm : w.ownsMap Tryz.prog k R b m D) : some b ≠ v.ownBlock := fun q => by
 obtain ⟨es, clock, hb, _⟩ := hm
 rcases h.2 with ⟨rfl, _⟩ | ⟨g, cap, cur, rfl, _, hg, _⟩
 ·cases q
 ·injection q with q
  have q : b = g := q
  subst q
  rw [hb] at hg
  cases hg
theorem map_kep {w w' : World} {k : TypeId} {R : Value → Option (DataW Unit × List MemPlace)} {b n : Nat} {D : DataW Unit} (h : w.ownsMap Tryz.prog k R b n D) (g : Kep w.heap.size w w') : w'.ownsMap Tryz.prog k R b n D := by
 have hlt := h.lt
 obtain ⟨es, clock, hb, F, hs, hD⟩ := h
 exact ⟨es, clock, (g.block b hlt).trans hb, F, hs, hD⟩
theorem wf_key {K : List Int} (h : ∀ x ∈ K, (Lit.int .u32 x).wf = true) {i : Nat} {x : Int} (hx : K[i]? = some x) : (Lit.int .u32 x).wf = true := h x (List.mem_of_getElem? hx)
end Go.Proofs.YtaknmlohnifcdaaGreatDoor
end
section
namespace Go.Proofs.YtaknmlohnifcdaaGreatDoor
open Go.RowKit Go.Lib Go.Maps Go.ChangeShapes Go.WideElems Go.MapKept

def atV (V : List (Int × Int)) (k : Int) : List Int := (V.filter fun p => decide (p.1 = k)).map fun p => p.2
theorem atV_same (V : List (Int × Int)) (k t : Int) : atV (V ++ [(k, t)]) k = atV V k ++ [t] := by
 unfold atV
 rw [List.filter_append, List.map_append]
 simp
theorem atV_other (V : List (Int × Int)) {k x : Int} (t : Int) (h : x ≠ k) : atV (V ++ [(k, t)]) x = atV V x := by
 unfold atV
 rw [List.filter_append]
 simp [Ne.symm h]
structure PlcD (D : DataW Unit) (V : List (Int × Int)) : Prop where
 has : ∀ k, Maps.has D (.int .u32 k) = true ↔ ∃ p ∈ V, p.1 = k
 val : ∀ k, D.atKey (.int .u32 k) .nil = if atV V k = [] then .nil else .slice (lits .i64 (atV V k)) []
theorem plc_nil : PlcD (.map []) [] := ⟨fun k => by simp [Maps.has], fun k => by rw [if_pos (by rfl)]; rfl⟩
theorem lits_inj {a b : List Int} (h : (lits .i64 a : List (DataW Unit)) = lits .i64 b) : a = b := (List.map_inj_right (fun x y e => by cases e; rfl)).1 h
theorem PlcD.zs {D : DataW Unit} {V : List (Int × Int)} (h : PlcD D V) {w : World} {base : Nat} {e : TypeId} {k : Int} {v : Value} {zs : List Int} (hat : D.atKey (.int .u32 k) .nil = rowDatum .i64 v zs) (hoi : w.ownsInts base e .i64 v zs) : zs = atV V k := by
 rw [h.val] at hat
 rcases hoi.datum (H := Unit) with ⟨e1, e2⟩ | e1
 ·rw [e1] at hat
  split at hat
  ·rename_i c
   rw [e2, c]
  ·cases hat
 ·rw [e1] at hat
  split at hat
  ·cases hat
  ·injection hat with e2
   exact (lits_inj e2).symm
theorem PlcD.step {D : DataW Unit} {V : List (Int × Int)} (h : PlcD D V) (hD : IsMap D) (k t : Int) : PlcD (D.put (.int .u32 k) (.slice (lits .i64 (atV V k ++ [t])) [])) (V ++ [(k, t)]) := by
 refine ⟨fun x => ?_, fun x => ?_⟩
 ·by_cases c : x = k
  ·subst c
   rw [has_put_same hD (kl32 _)]
   exact ⟨fun _ => ⟨(x, t), by simp, rfl⟩, fun _ => rfl⟩
  ·rw [has_put_other (kn32 c), h.has]
   constructor
   ·rintro ⟨p, hp, e⟩
    exact ⟨p, by simp [hp], e⟩
   ·rintro ⟨p, hp, e⟩
    rcases List.mem_append.1 hp with q | q
    ·exact ⟨p, q, e⟩
    ·simp at q
     subst q
     exact absurd e.symm c
 ·by_cases c : x = k
  ·subst c
   rw [atKey_put_same hD (kl32 _), atV_same, if_neg (by simp)]
  ·rw [atKey_put_other (kn32 c), h.val, atV_other _ _ c]
def flatW (Kf : Nat → List Int) (t : Nat) : List (Int × Int) := (List.range t).flatMap fun j => (Kf j).map fun k => (k, (j : Int))
theorem flatW_succ (Kf : Nat → List Int) (t : Nat) : flatW Kf (t + 1) = flatW Kf t ++ (Kf t).map fun k => (k, (t : Int)) := by
 unfold flatW
 rw [List.range_succ, List.flatMap_append]
 simp
theorem flatW_len {Kf : Nat → List Int} (h : ∀ j, (Kf j).length ≤ 1000) : ∀ t, (flatW Kf t).length ≤ t * 1000
 | 0 => by simp [flatW]
 | t + 1 => by
   have := flatW_len h t
   have := h t
   rw [flatW_succ, List.length_append, List.length_map, Nat.succ_mul]
   omega
theorem flatW_100 {Kf : Nat → List Int} (h : ∀ j, (Kf j).length ≤ 100) : ∀ t, (flatW Kf t).length ≤ t * 100
 | 0 => by simp [flatW]
 | t + 1 => by
   have := flatW_100 h t
   have := h t
   rw [flatW_succ, List.length_append, List.length_map, Nat.succ_mul]
   omega
theorem atV_mem {Kf : Nat → List Int} {T : Nat} {x z : Int} : z ∈ atV (flatW Kf T) x ↔ ∃ t : Nat, t < T ∧ z = (t : Int) ∧ x ∈ Kf t := by
 unfold atV flatW
 simp only [List.mem_map, List.mem_filter, List.mem_flatMap, List.mem_range, decide_eq_true_eq]
 constructor
 ·rintro ⟨p, ⟨⟨t, ht, k, hk, rfl⟩, e⟩, rfl⟩
  exact ⟨t, ht, rfl, e ▸ hk⟩
 ·rintro ⟨t, ht, rfl, hx⟩
  exact ⟨(x, (t : Int)), ⟨⟨t, ht, x, hx, rfl⟩, rfl⟩, rfl⟩
theorem atV_len (V : List (Int × Int)) (x : Int) : (atV V x).length ≤ V.length := by
 unfold atV
 rw [List.length_map]
 exact List.length_filter_le _ _
abbrev Grps (w : World) (base b n : Nat) (D : DataW Unit) : Prop := w.ownsGroups Tryz.prog 36 base 3 .i64 b n D
theorem zeroS (w : World) : (zeroValue 184).run Tryz.prog w = .ok (.slice none 0 0) w := by kernel_rfl
theorem groups_isMap {w : World} {base b n : Nat} {D : DataW Unit} (h : Grps w base b n D) : IsMap D := by
 obtain ⟨es, clock, _, _, _, rfl, _⟩ := h
 exact ⟨_, rfl⟩
theorem groups_kep {w w' : World} {base b n : Nat} {D : DataW Unit} (h : Grps w base b n D) (g : Kep w.heap.size w w') : Grps w' base b n D := by
 obtain ⟨es, clock, hb, F, hs, rfl, hbb, hlen, hap⟩ := h
 have hblt : b < w.heap.size := (Array.getElem?_eq_some_iff.1 hb).1
 have hkeep : ∀ (v : Value) (zs : List Int), w.ownsInts base 3 .i64 v zs → w'.ownsInts base 3 .i64 v zs := fun v zs q => ⟨own_kep q.1 g (Nat.le_refl _), q.2⟩
 have hst : ∀ x ∈ es.toList, ∀ z, rowElem (H := Unit) w base 3 .i64 x.val = some z → rowElem w' base 3 .i64 x.val = some z := fun x hx z hz => by
  obtain ⟨zs, ho, rfl⟩ := rowElem_inv hz
  exact rowElem_mk (hkeep _ _ ho)
 obtain ⟨F1, hmap, _⟩ := F.stay hst
 refine ⟨es, clock, (g.block b hblt).trans hb, F1, hs, by rw [hmap], hbb, fun x hx zs ho => ?_, hap⟩
 obtain ⟨y, hy⟩ := F.reads x hx
 obtain ⟨z, hz, _⟩ := rd_val hy
 obtain ⟨zs0, ho0, _⟩ := rowElem_inv hz
 rw [ho.unique (hkeep _ _ ho0)]
 exact hlen x hx zs0 ho0
theorem ints_flat (zs : List Int) : zs.map (Value.int .i64) = zs.flatMap iv := by
 induction zs with
 | nil => rfl
 | cons a l ih => simp [ih]; rfl
theorem plc_look {w W : World} {base b n : Nat} {D : DataW Unit} {V : List (Int × Int)} (h : Grps w base b n D) (hD : PlcD D V) (g : Kep w.heap.size w W) {x : Int} (hw : (Lit.int .u32 x).wf = true) :
 ∃ a cap, (Instr.lookup 177 (.map (some b)) (.int .u32 x) false).run Tryz.prog W = .ok (.slice a (atV V x).length cap) W ∧ Sq iv 1 w (.slice a (atV V x).length cap) (atV V x) := by
 have hkey := keyOf_int_mk (P := Tryz.prog) Tryz.underlying36 hw
 have h2 := groups_kep h g
 obtain ⟨es, clock, hb, F, _, _, _, _, _⟩ := h
 obtain ⟨es2, clock2, hb2, F2, _, hD2, _, _, _⟩ := h2
 have hblt : b < w.heap.size := (Array.getElem?_eq_some_iff.1 hb).1
 have e0 := hb2.symm.trans ((g.block b hblt).trans hb)
 injection e0 with e0
 injection e0 with e1 e2
 subst e1 e2
 rcases Maps.fit_look false law32 Tryz.underlying177 (zeroS W) hb2 F2 hkey with ⟨hrun, _, hat⟩ | ⟨e0, y, hm0, h3, hrun, hR, hat, _⟩
 ·have hn : atV V x = [] := by
   have q := hat .nil
   rw [← hD2, hD.val] at q
   split at q
   ·assumption
   ·cases q
  rw [hn]
  exact ⟨none, 0, hrun, Sq.nil⟩
 ·obtain ⟨zs, ho, rfl⟩ := rowElem_inv hR
  have q := hat .nil
  rw [← hD2] at q
  obtain rfl := hD.zs q ho
  obtain ⟨y, hy⟩ := F.reads e0 hm0
  obtain ⟨z, hz, _⟩ := rd_val hy
  obtain ⟨zs0, ho0, _⟩ := rowElem_inv hz
  obtain rfl : atV V x = zs0 := ho.unique ⟨own_kep ho0.1 g (Nat.le_refl _), ho0.2⟩
  have hs : Sq iv 1 w e0.val (atV V x) := own_sq iv_len (by rw [← ints_flat]; exact ho0.1)
  obtain ⟨a, cap, ev⟩ := hs.shape
  rw [ev] at hs
  simp only [Bool.false_eq_true, if_false] at hrun
  rw [ev] at hrun
  exact ⟨a, cap, hrun, hs⟩
theorem groups_map {w : World} {base b n : Nat} {D : DataW Unit} (h : Grps w base b n D) : ∃ R : Value → Option (DataW Unit × List MemPlace), w.ownsMap Tryz.prog 36 R b n D := by
 obtain ⟨es, clock, hb, F, hs, hD, _⟩ := h
 exact ⟨_, es, clock, hb, F, hs, hD⟩
def PlcR (w w' : World) (V : List (Int × Int)) (v : Value) : Prop := ∃ n D, v = .map (some w.heap.size) ∧ n ≤ V.length ∧ Grps w' (w.heap.size + 1) w.heap.size n D ∧ PlcD D V
theorem plc_back {w1 w2 : World} {base b n : Nat} {D : DataW Unit} {V : List (Int × Int)} {x t : Int} {v v' : Value} {zs : List Int} (hD : PlcD D V) (hm : IsMap D) (hat : D.atKey (.int .u32 x) .nil = rowDatum .i64 v zs) {w : World} {e : TypeId} (hoi : w.ownsInts base e .i64 v zs) (ho2 : w1.ownsInts base e .i64 v' (zs ++ [t]))
 (h : Grps w2 base b (n + 1) (D.put (.int .u32 x) (rowDatum .i64 v' (zs ++ [t])))) : ∃ D2, Grps w2 base b (n + 1) D2 ∧ PlcD D2 (V ++ [(x, t)]) := by
 rw [ho2.datum_pos (by simp)] at h
 refine ⟨_, h, ?_⟩
 rw [hD.zs hat hoi]
 exact hD.step hm x t
theorem gplc (g : Nat) (S : Nat → Prop) (n : Int) (vf : Nat → Value) (Kf : Nat → List Int) (w : World) (h : GM w g S n vf Kf) (hk : ∀ j, (Kf j).length ≤ 1000) (hwf : ∀ j, ∀ x ∈ Kf j, (Lit.int .u32 x).wf = true) :
 Calls Tryz.prog 113 #[.pointer (some ⟨g, 0, none⟩)] w fun en w' => ∃ v, en = .returned v ∧ PlcR w w' (flatW Kf 1024) v ∧ Kep w.heap.size w w' := by
 have HG := Lib.hid h
 have HL := Lib.hid (flatW_len hk)
 have HK := Lib.hid hk
 have HWF := Lib.hid hwf
 have AL := Lib.hid (arr_load (g := g) (w := w.alloc (.map #[] 0)) (h.kep (kep_more (Kep.refl _ _) _)).c)
 have AX := Lib.hid (fun (t : Nat) (ht : t < 1024) W => arr_at vf ht W)
 clear h hk hwf
 obtain ⟨i0, hi, hz0, hz1, hz2⟩ := info_parts info_int
 have HI := Lib.hid hi
 clear hi
 have hmm := @run_makeMap Tryz.prog
 generalize arrV vf = A at *
 go_enter Tryz.func113, Tryz.ntmps113
 go_wp2_with (refine wpList_load_run _ rfl _ 145 rfl _ rfl _ AL.out ?_)
 clear hmm AL
 go_loopw [13] (fun x wr => ∃ t : Nat, t ≤ 1024 ∧ x = .int .i64 t ∧ Hid (Kep w.heap.size w wr ∧ w.heap.size + 1 ≤ wr.heap.size ∧ ∃ m D, m ≤ (flatW Kf t).length ∧ Grps wr (w.heap.size + 1) w.heap.size m D ∧ PlcD D (flatW Kf t))) (fun x _ => 1024 - (RowKit.intOf x).toNat)
 case atStart => exact ⟨0, by omega, rfl, Lib.hid ⟨kep_more (Kep.refl _ _) _, by simp, 0, _, Nat.zero_le _, World.ownsGroups_made _ _ _ _ _, plc_nil⟩⟩
 case round =>
  obtain ⟨t, ht, rfl, HR⟩ := hrel
  by_cases hlt : t < 1024
  ·have hq := own_sq kv_len (HG.out.own t hlt)
   obtain ⟨base, cap, hv⟩ := hq.shape
   rw [hv] at hq
   have HQ := Lib.hid hq
   have ix : ∀ W, (Instr.index 145 (.agg A) (.int .i64 (t : Int))).run Tryz.prog W = .ok (.slice base (Kf t).length cap) W := fun W => by rw [← hv]; exact AX.out t hlt W
   have hlen := HK.out t
   have HW := Lib.hid (HWF.out t)
   have HFT : Hid (flatW Kf (t + 1) = flatW Kf t ++ (Kf t).map fun k => (k, (t : Int))) := Lib.hid (flatW_succ Kf t)
   have HLT := Lib.hid (HL.out t)
   clear hq hv
   generalize Kf t = K at *
   generalize flatW Kf t = V at *
   generalize hn : K.length = nk at *
   have HN := Lib.hid hn
   clear hn
   have i1 : (t : Int) < 1024 := by omega
   go_wp2
   go_loopw [19] (fun x wr => ∃ i : Nat, i ≤ nk ∧ x = .int .i64 i ∧ Hid (Kep w.heap.size w wr ∧ w.heap.size + 1 ≤ wr.heap.size ∧ ∃ m D, m ≤ (V ++ (K.take i).map fun k => (k, (t : Int))).length ∧ Grps wr (w.heap.size + 1) w.heap.size m D ∧ PlcD D (V ++ (K.take i).map fun k => (k, (t : Int))))) (fun x _ => nk - (RowKit.intOf x).toNat)
   case atStart => exact ⟨0, by omega, rfl, by rw [List.take_zero, List.map_nil, List.append_nil]; exact HR⟩
   case round =>
    obtain ⟨i, hi2, rfl, HR2⟩ := hrel
    by_cases hlt2 : i < nk
    ·have hx : K[i]? = some (K[i]'(by rw [HN.out]; exact hlt2)) := List.getElem?_eq_getElem _
     generalize K[i]'(by rw [HN.out]; exact hlt2) = x at hx
     obtain ⟨hK, hsz, m, D, hm, hown, hS⟩ := HR2.out
     obtain ⟨gk, off, rfl, y0⟩ := ksq_at HQ.out hx
     have y1 := hK.holds (World.block_lt_of_cell? _ _ y0) y0
     have HKEY := Lib.hid (keyOf_int_mk (P := Tryz.prog) Tryz.underlying36 (wf_key HW.out hx))
     have hts : V ++ (K.take (i + 1)).map (fun k => (k, (t : Int))) = (V ++ (K.take i).map fun k => (k, (t : Int))) ++ [(x, (t : Int))] := by rw [List.take_add_one, hx, List.map_append, List.append_assoc]; rfl
     have HTS := Lib.hid hts
     have hml : m < 10000000 := by
      have := HLT.out
      have := HN.out
      rw [List.length_append, List.length_map, List.length_take] at hm
      omega
     have hm2 : m + 1 ≤ (V ++ (K.take (i + 1)).map (fun k => (k, (t : Int)))).length := by rw [hts, List.length_append]; simp; simp at hm; omega
     have HIM := Lib.hid (groups_isMap hown)
     have HK1 := Lib.hid hK
     have HO := Lib.hid hown
     have HST := Lib.hid hS
     have HM2 := Lib.hid hm2
     have HSZ := Lib.hid hsz
     clear hK hm hown hS hts hm2 hx y0 HR HR2 hsz
     have j0 : (0 : Int) ≤ (i : Int) := Int.natCast_nonneg _
     have j2 : (i : Int) < (nk : Int) := by omega
     have wft : (Lit.int .i64 (t : Int)).wf = true := WalkArith.wf_i64 (by omega)
     have HWT := Lib.hid wft
     clear wft
     go_wp2_with (first
      | (at_lookup; refine wpList_lookup_groups _ rfl _ _ 177 rfl 36 184 3 .i64 law32 Tryz.underlying177 (zeroS _) (w.heap.size + 1) w.heap.size m _ rfl HO.out (by unfold maxLen; omega) _ _ rfl HKEY.out ?_; intro v zs hat hoi hzl hback; have HAT := Lib.hid hat; have HOI := Lib.hid hoi; have HBK := Lib.hid hback; clear hat hoi hback)
      | (at_builtin; refine wpList_append_own_at _ rfl _ _ 184 rfl (w.heap.size + 1) 3 i0 (.int .i64 0) 1 8 Tryz.underlying184 HI.out hz0 hz1 hz2 rfl (by decide) _ _ _ rfl (HOI.out.1.alloc _) ⟨wr.heap.size, 0, none⟩ 1 1 [.int .i64 t] rfl rfl (cell_one_new _ _ _) (ints_oneCell .i64 [(t : Int)]) (by unfold maxLen; omega) (by omega) (by have := HSZ.out; simp; omega) ?_; intro v' w1 hown' hgrow hnil hloc; have HOW := Lib.hid (HOI.out.appended hown' HWT.out); have HGR := Lib.hid ((World.grownBy_alloc _ _ _).trans hgrow); have HLC := Lib.hid hloc; clear hown' hgrow hnil hloc)
      | (at_mapUpdate; refine wpList_mapUpdate_back _ rfl _ _ _ 177 rfl HBK.out rfl rfl rfl HGR.out HOW.out (by simp; omega) (HLC.out.imp id (fun h => ⟨_, h, by simp⟩)) ?_; intro w2 hown2 hgrow2; have H2 := Lib.hid hown2; have G2 := Lib.hid hgrow2; clear hown2 hgrow2))
     go_roundw
     case rel =>
      obtain ⟨D2, q1, q2⟩ := plc_back HST.out HIM.out HAT.out HOI.out HOW.out H2.out
      rw [← HTS.out] at q2
      have k1 : Kep w.heap.size w _ := HK1.out.row HGR.out HK1.out.size (fun k e => by have := (HOI.out.1.lt k e).1; omega)
      exact ⟨i + 1, by omega, by first | rfl | go_num, Lib.hid ⟨k1.row G2.out k1.size (fun k e => by injection e with e; omega), Nat.le_trans HSZ.out (Nat.le_trans HGR.out.size G2.out.size), m + 1, D2, HM2.out, q1, q2⟩⟩
     case measure => simp [RowKit.intOf]; omega
    ·have i2 : ¬ (i : Int) < (nk : Int) := by omega
     obtain rfl : i = nk := by omega
     rw [List.take_of_length_le (Nat.le_of_eq HN.out), ← HFT.out] at HR2
     clear HR
     go_wp2
     go_roundw
     case rel => exact ⟨t + 1, by omega, by first | rfl | go_num, HR2⟩
     case measure => simp [RowKit.intOf]; omega
  ·have i2 : ¬ (t : Int) < 1024 := by omega
   obtain rfl : t = 1024 := by omega
   obtain ⟨hK, _, m, D, hm, hown, hS⟩ := HR.out
   clear HR
   have HK1 := Lib.hid hK
   have HO := Lib.hid hown
   have HS := Lib.hid hS
   have HM := Lib.hid hm
   clear hK hown hS hm
   go_wp2
   go_ret
   exact ⟨_, rfl, ⟨m, D, rfl, HM.out, HO.out, HS.out⟩, HK1.out⟩
end Go.Proofs.YtaknmlohnifcdaaGreatDoor
end
