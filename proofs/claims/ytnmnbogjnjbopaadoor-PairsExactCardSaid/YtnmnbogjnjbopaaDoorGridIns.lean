/-
  Package grid: Insert.
-/
import Derived.Test.YtnmnbogjnjbopaaDoorGridIs
import Derived.Test.YtnmnbogjnjbopaaDoorCellOps
import Derived.Deep.DeepCutAuto
namespace Go.Proofs.YtnmnbogjnjbopaaDoor
open Go.RowKit Go.Lib

/-- The cells of an entry's box. -/
theorem pall (e : Ent) (he : EntOk e) (w : World) : Calls Tryd.prog 62 #[.agg #[.int .i32 e.a, .int .i32 e.b, .int .i32 e.c, .int .i32 e.d]] w
    fun en w' => ∃ v, en = .returned v ∧ (Sq cv 2 w' v (cellsB e.a e.b e.c e.d) ∧ ∀ k, v.ownBlock = some k → w.heap.size ≤ k ∧ k < w'.heap.size) ∧ Kep w.heap.size w w' := by
  obtain ⟨_, ⟨ha, hb, hc, hd⟩, hlen⟩ := he
  have fin : ∀ {C : List (Int × Int)}, (Calls Tryd.prog 62 #[.agg #[.int .i32 e.a, .int .i32 e.b, .int .i32 e.c, .int .i32 e.d]] w fun en w' => ∃ v, en = .returned v ∧ w'.ownsRow w.heap.size 92 2 v C.length (C.flatMap cv) ∧ Below w.heap.size w w') →
      Calls Tryd.prog 62 #[.agg #[.int .i32 e.a, .int .i32 e.b, .int .i32 e.c, .int .i32 e.d]] w fun en w' => ∃ v, en = .returned v ∧ (Sq cv 2 w' v C ∧ ∀ k, v.ownBlock = some k → w.heap.size ≤ k ∧ k < w'.heap.size) ∧ Kep w.heap.size w w' := fun h => h.mono fun _ _ ⟨v, h1, h2, h3⟩ => ⟨v, h1, ⟨own_sq cv_len h2, h2.lt⟩, Kep.of_below h3⟩
  unfold cellsB at hlen ⊢
  by_cases z : empB e.a e.b e.c e.d = true
  · rw [if_pos z]
    exact fin (pal_no _ _ _ _ (Lib.hid (pes_no _ _ _ _ (Lib.hid (pee _ _ _ _ true z)))) w)
  · rw [if_neg z] at hlen ⊢
    have z : empB e.a e.b e.c e.d = false := by simpa using z
    have q : e.a ≤ e.c ∧ e.b ≤ e.d := by
      unfold empB at z
      have := of_decide_eq_false z
      omega
    have l1 := colN_le q.1
    have l2 := colN_le q.2
    have a1 := colN_in ha
    have a2 := colN_in hb
    have a3 := colN_in hc
    have a4 := colN_in hd
    rw [allC_len] at hlen
    exact fin (pal _ _ _ _ (colN e.a) (colN e.b) (colN e.c) (colN e.d) (ncB e.a e.c) (ncB e.b e.d) (Lib.hid (pes _ _ _ _ _ _ _ _ (Lib.hid (pee _ _ _ _ false z)) (Lib.hid (peo _ _ ha hb)) (Lib.hid (peo _ _ hc hd)))) (by unfold ncB; omega) (by unfold ncB; omega) (by omega) (by omega) (by omega) (by omega) (by omega) w)
theorem off_of {S S' : Nat → Prop} {v : Value} {B : Nat} (hv : ∀ k, v.ownBlock = some k → ¬ S k ∧ k < B) (hm : ∀ k, S' k → S k ∨ B ≤ k) : Off S' v := fun k e s => by
  rcases hm k s with q | q
  · exact (hv k e).1 q
  · have := (hv k e).2; omega
set_option maxRecDepth 100000 in
set_option maxHeartbeats 4000000 in
theorem gins (g : Nat) (S : Nat → Prop) (L : List Ent) (e : Ent) (w : World) (h : GI w g S L) (he : EntOk e) (hl : L.length ≤ 100) : Calls Tryd.prog 37 #[.pointer (some ⟨g, 0, none⟩), .int .u32 e.k, .agg #[.int .i32 e.a, .int .i32 e.b, .int .i32 e.c, .int .i32 e.d]] w
    fun en w' => (∃ v, en = .returned v) ∧ ∃ S', GI w' g S' (L ++ [e]) ∧ More w S S' ∧ Oth S w w' := by
  obtain ⟨vf, h⟩ := h
  have CA := Lib.hid (fun w => pall e he w)
  have CB := Lib.hid (fun x y W F => bel_calls (peb x y W F))
  have CW := Lib.hid (fun (K : List Int) (v : Value) (W : World) (h1 : K.length ≤ 1000000) (h2 : SortS kless K) (h3 : W.ownsRow 0 42 1 v K.length (K.flatMap kv)) => kwith K e.k v W h1 h2 h3)
  have HK := Lib.hid (kf_all L e)
  have HKL := Lib.hid (fun bs j => kf_len hl e.k bs j)
  have HKA := Lib.hid (fun bs j => kf_asc L e.k bs j)
  have HKS := Lib.hid (fun bs i => kf_step L e.k bs i)
  rw [← kf_nil L e.k] at h
  have hC : (cellsB e.a e.b e.c e.d).length ≤ 50 := he.2.2
  have HB : Hid (bksE e = (cellsB e.a e.b e.c e.d).map fun x => bktN x.1 x.2) := Lib.hid rfl
  obtain ⟨key, a, b, c, d⟩ := e
  dsimp only at *
  generalize cellsB a b c d = C at *
  generalize kf L key = Kf at *
  obtain ⟨n, hn⟩ : ∃ n : Nat, n = L.length := ⟨_, rfl⟩
  rw [← hn] at h hl
  have HN : Hid ((L ++ [(⟨key, a, b, c, d⟩ : Ent)]).length = n + 1) := Lib.hid (by simp [hn])
  clear hn
  have HG := Lib.hid h
  have c0 := h.cn
  have f0 := h.fz 1024
  have glt := h.glt
  have hn1 : IntKind.i64.wrap ((n : Int) + 1) = ((n + 1 : Nat) : Int) := by rw [IntKind.wrap_i64]; omega
  clear h he
  have c0' : (w.alloc (.cells #[.int .i32 a, .int .i32 b, .int .i32 c, .int .i32 d] 60)).cell? ⟨g, 1024, none⟩ = some (.int .i64 n) := by rw [World.cell?_alloc_past _ _ _ glt]; exact c0
  have f0' : (w.alloc (.cells #[.int .i32 a, .int .i32 b, .int .i32 c, .int .i32 d] 60)).frozen? ⟨g, 1024, none⟩ = false := by rw [World.frozen?_alloc_past _ _ _ glt]; exact f0
  go_enter Tryd.func37, Tryd.ntmps37
  go_wp2_with ((with_reducible refine (CA.out _).mono ?_); rintro en w3 ⟨v, rfl, ⟨⟨base, cap, rfl, hc⟩, r3⟩, g3⟩)
  have HQ : Hid (Sq cv 2 w3 (.slice base C.length cap) C) := Lib.hid ⟨base, cap, rfl, hc⟩
  obtain ⟨m1, m2⟩ := HG.out.count ((n : Int) + 1)
  have hs3 : (w.setCell ⟨g, 1024, none⟩ (.int .i64 ((n : Int) + 1))).heap.size = w.heap.size := by simp
  have G3 : Hid (GM w3 g S ((n : Int) + 1) vf (Kf [])) := Lib.hid (m1.kep (kep_next (kep_more (Kep.refl _ _) _) g3))
  have O3 : Hid (Oth S w w3) := Lib.hid (m2.trans (More.refl _ _) (Oth.of_kep (kep_next (kep_more (Kep.refl _ _) _) g3)))
  have HF : Hid (∀ k, (Value.slice base C.length cap).ownBlock = some k → ¬ S k ∧ k < w3.heap.size) := Lib.hid fun k hk => by
    obtain ⟨h1, h2⟩ := r3 k hk
    have hS : ¬ S k := fun q => by
      have := HG.out.lt k q
      simp at h1
      omega
    exact ⟨hS, h2⟩
  clear m1 m2 g3 r3 hc c0 f0 c0' f0' hs3
  generalize hlen : C.length = len at *
  have HLEN := Lib.hid hlen
  clear hlen
  go_loopw [21] (fun x wr => ∃ k : Nat, k ≤ len ∧ x = .int .i64 k ∧ Hid (∃ S' vf', GM wr g S' ((n : Int) + 1) vf' (Kf ((C.take k).map fun x => bktN x.1 x.2)) ∧ More w3 S S' ∧ Oth S w3 wr)) (fun x _ => len - (RowKit.intOf x).toNat)
  case atStart => exact ⟨0, by omega, rfl, Lib.hid ⟨S, vf, G3.out, More.refl _ _, ⟨rfl, rfl, Nat.le_refl _, fun _ _ _ => rfl⟩⟩⟩
  case round =>
    obtain ⟨k, hk, rfl, HR⟩ := hrel
    by_cases hlt : k < len
    · obtain ⟨S', vf', hG, hM, hO⟩ := HR.out
      have hq := HQ.out.oth (fun _ => fun k e s => (HF.out k e).1 s) hO
      have hx : C[k]? = some (C[k]'(by rw [HLEN.out]; exact hlt)) := List.getElem?_eq_getElem _
      generalize C[k]'(by rw [HLEN.out]; exact hlt) = x at hx
      obtain ⟨x0, x1⟩ := x
      obtain ⟨b0, c0, e0, hc⟩ := hq
      injection e0 with e1 e2 e3
      subst e1
      clear e2 e3
      obtain ⟨gl, off, rfl, q⟩ := hc k _ hx
      have q0 := q 0 _ rfl
      have q1 := q 1 _ rfl
      obtain ⟨j, hj⟩ : ∃ j : Nat, bktN x0 x1 = (j : Int) := ⟨(bktN x0 x1).toNat, by have := bkt_in x0 x1; omega⟩
      have hj1 : j < 1024 := by have := bkt_in x0 x1; omega
      have CBx := Lib.hid (fun W F => CB.out x0 x1 W F)
      rw [hj] at CBx
      have hts : Kf ((C.take (k + 1)).map fun x => bktN x.1 x.2) = updF (Kf ((C.take k).map fun x => bktN x.1 x.2)) j (putS kless (Kf ((C.take k).map fun x => bktN x.1 x.2) j) key) := by
        rw [List.take_add_one, hx, List.map_append, ← HKS.out]
        simp [hj]
      have HT := Lib.hid hts
      have CWx := Lib.hid (fun W h3 => CW.out (Kf ((C.take k).map fun x => bktN x.1 x.2) j) (vf' j) W (by have := HKL.out ((C.take k).map fun x => bktN x.1 x.2) j; omega) (HKA.out _ j) h3)
      have HGr := Lib.hid hG
      have HM := Lib.hid hM
      have HO := Lib.hid hO
      clear hG hM hO hts hx hc q hj HR
      generalize Kf ((C.take k).map fun x => bktN x.1 x.2) = Kk at *
      have q0 : wr.cell? ⟨gl, off + k * 2, none⟩ = some (.int .i32 x0) := q0
      have i0 : (0 : Int) ≤ (k : Int) := Int.natCast_nonneg _
      have i1 : (k : Int) < (len : Int) := by omega
      have j0 : (0 : Int) ≤ (j : Int) := Int.natCast_nonneg _
      have j1 : (j : Int) < 1024 := by omega
      go_wp2_with ((with_reducible refine (CBx.out _ (HGr.out.fac.alloc _)).mono ?_); rintro en w5 ⟨rfl, g5⟩
                   have G5 := Lib.hid (HGr.out.kep (kep_next (kep_more (Kep.refl _ _) _) g5))
                   have y0 := G5.out.c j hj1)
      have G6 : Hid (GM w5.drew g S' ((n : Int) + 1) vf' Kk) := Lib.hid (G5.out.kep (kep_drew (Kep.refl _ _)))
      have k6 : Hid (Kep wr.heap.size wr w5.drew) := Lib.hid (kep_drew (kep_next (kep_more (Kep.refl _ _) _) g5))
      clear g5
      go_region_with ((with_reducible refine (CWx.out _ (G6.out.own j hj1)).mono ?_); rintro en w6 ⟨v6, rfl, r6⟩
                      obtain ⟨⟨b6, n6, c6⟩, hv6, hn6⟩ := own_slice r6.1
                      clear hn6
                      subst hv6
                      dsimp only at r6
                      obtain ⟨S6, n1, n2, n3⟩ := G6.out.stored hj1 r6
                      have s0 : w6.cell? ⟨g, j, none⟩ = some (vf' j) := (World.cell?_of_block (r6.2.1.block g G6.out.glt (fun e => G6.out.off j hj1 e))).trans (G6.out.c j hj1)
                      have s1 : w6.frozen? ⟨g, j, none⟩ = false := (World.frozen?_of_block (r6.2.1.block g G6.out.glt (fun e => G6.out.off j hj1 e))).trans (G6.out.fz j)
                      rw [← HT.out] at n1
                      have N1 := Lib.hid n1
                      have N2 := Lib.hid n2
                      have N3 := Lib.hid n3
                      clear n1 n2 n3 r6)
      go_wp2
      go_roundw
      case rel => exact ⟨k + 1, by omega, by first | rfl | go_num, Lib.hid ⟨S6, _, N1.out, HM.out.trans (Nat.le_trans HO.out.size k6.out.size) N2.out, HO.out.trans HM.out ((Oth.of_kep k6.out).trans (More.refl _ _) N3.out)⟩⟩
      case measure => simp [RowKit.intOf]; omega
    · have hk2 : ¬ (k : Int) < (len : Int) := by omega
      obtain rfl : k = len := by omega
      go_wp2
      go_end0
      obtain ⟨S', vf', hG, hM, hO⟩ := HR.out
      rw [List.take_of_length_le (Nat.le_of_eq HLEN.out), ← HB.out, HK.out] at hG
      refine ⟨⟨_, rfl⟩, S', ⟨vf', ?_⟩, fun q hq => (hM q hq).imp id (fun h => Nat.le_trans O3.out.size h), O3.out.trans (More.refl _ _) hO⟩
      rw [HN.out]
      exact hG
end Go.Proofs.YtnmnbogjnjbopaaDoor
