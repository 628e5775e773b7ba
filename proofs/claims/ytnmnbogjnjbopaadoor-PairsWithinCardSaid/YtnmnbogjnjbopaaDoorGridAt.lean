/-
  Package grid: At, Len; the methods of a nil grid.
-/
import Derived.Test.YtnmnbogjnjbopaaDoorGridIns
import Derived.Lib.SliceRun
namespace Go.Proofs.YtnmnbogjnjbopaaDoor
open Go.RowKit Go.Lib

theorem made_nil (w : World) : (w.alloc (.cells #[] 42)).ownsRow w.heap.size 42 1 (.slice (some ⟨w.heap.size, 0, none⟩) 0 0) ([] : List Int).length (([] : List Int).flatMap kv) := World.ownsRow_made w #[] 0 (Nat.le_refl _) (Nat.zero_le _) rfl
theorem sl_nil (w : World) : (binOp .eql 27 (.slice none 0 0) (.slice none 0 0)).run Tryd.prog w = .ok (.bool true) w := Lib.run_eql_slice_nil (P := Tryd.prog) w 27 42 none 0 0 0 0 Tryd.underlying27
theorem sl_some (a : Addr) (n c : Nat) (w : World) : (binOp .eql 27 (.slice (some a) n c) (.slice none 0 0)).run Tryd.prog w = .ok (.bool false) w := Lib.run_eql_slice_nil (P := Tryd.prog) w 27 42 (some a) n c 0 0 Tryd.underlying27
set_option maxRecDepth 100000 in
theorem kclone (K : List Int) (v : Value) (w : World) (hl : K.length ≤ 1000000) (h : w.ownsRow 0 42 1 v K.length (K.flatMap kv)) :
    Calls Tryd.prog 48 #[v] w fun e w' => ∃ v', e = .returned v' ∧ w'.ownsRow w.heap.size 42 1 v' K.length (K.flatMap kv) ∧ Kep w.heap.size w w' := by
  have HQ : Hid (Sq kv 1 (w.alloc (.cells #[] 42)) v K) := Lib.hid ((own_sq kv_len h).kep (kep_more (Kep.refl _ _) _))
  have HL := Lib.hid hl
  rcases h.2 with ⟨rfl, h0⟩ | ⟨g, cap, cur, rfl, _⟩
  · obtain rfl := List.length_eq_zero_iff.1 h0
    clear HQ hl h h0
    have e0 := sl_nil
    go_enter Tryd.func48, Tryd.ntmps48
    go_wp2
    go_ret
    exact ⟨_, rfl, World.ownsRow_nil _ _ _ _, Kep.refl _ _⟩
  · clear hl h
    have e0 := sl_some
    go_enter Tryd.func48, Tryd.ntmps48
    go_wp2_with (at_builtin; refine wpList_appAll kv 1 kv_len kv_one rfl _ _ 27 rfl 42 _ 4 Tryd.underlying27 info_kk rfl (by decide) w.heap.size _ (.slice (some ⟨w.heap.size, 0, none⟩) 0 0) (.slice (some ⟨g, 0, none⟩) K.length cap) ([] : List Int) K rfl (made_nil w) rfl HQ.out (by rw [List.length_nil, Nat.zero_add]; have := HL.out; unfold maxLen; omega) (by rw [List.length_nil, Nat.zero_add]; have := HL.out; omega) (by simp) ?_; intro v5 w5 o5 k5; have O5 := Lib.hid o5; have K5 := Lib.hid k5; clear o5 k5)
    go_ret
    exact ⟨_, rfl, by simpa using O5.out, ((kep_more (Kep.refl _ _) _).trans K5.out)⟩
set_option maxRecDepth 100000 in
set_option maxHeartbeats 2000000 in
theorem gat (g : Nat) (S : Nat → Prop) (L : List Ent) (x y : Int) (w : World) (h : GI w g S L) (hl : L.length ≤ 100) (hx : In3 x) (hy : In3 y) : Calls Tryd.prog 21 #[.pointer (some ⟨g, 0, none⟩), .agg #[.int .i32 x, .int .i32 y]] w
    fun en w' => ∃ v, en = .returned v ∧ (Sq kv 1 w' v (atL L (bktN (colN x) (colN y))) ∧ Fresh w v) ∧ Kep w.heap.size w w' := by
  obtain ⟨vf, h⟩ := h
  have CO := Lib.hid (fun W => bel_calls (peo x y hx hy W))
  obtain ⟨j, hj⟩ : ∃ j : Nat, bktN (colN x) (colN y) = (j : Int) := ⟨(bktN (colN x) (colN y)).toNat, by have := bkt_in (colN x) (colN y); omega⟩
  have hj1 : j < 1024 := by have := bkt_in (colN x) (colN y); omega
  have CB := Lib.hid (fun W F => bel_calls (peb (colN x) (colN y) W F))
  rw [hj] at CB ⊢
  have hlen : (atL L (j : Int)).length ≤ 1000000 := by
    have q := accA_len L (j : Int) L.length (Nat.le_refl _)
    rw [accA_all (Nat.le_refl _)] at q
    omega
  have HG := Lib.hid (h.kep (kep_more (Kep.refl _ _) (.cells #[.int .i32 x, .int .i32 y] 24)))
  have CC := Lib.hid (fun (W : World) (q : W.ownsRow 0 42 1 (vf j) (atL L (j : Int)).length ((atL L (j : Int)).flatMap kv)) => kclone _ _ W hlen q)
  clear h hx hy hj hlen hl
  generalize colN x = p at *
  generalize colN y = q at *
  have i0 : (0 : Int) ≤ (j : Int) := Int.natCast_nonneg _
  have i1 : (j : Int) < 1024 := by omega
  go_enter Tryd.func21, Tryd.ntmps21
  go_wp2_with fail
  generalize hW : World.alloc w _ = W1 at *
  have hk1 : Hid (Kep w.heap.size w W1) := Lib.hid (by rw [← hW]; exact kep_more (Kep.refl _ _) _)
  have b0 : W1.drew.cell? ⟨w.heap.size, 0, none⟩ = some (.int .i32 x) := by rw [World.cell?_drew, ← hW, World.cell?_alloc_at _ _ _ _ (by simp)]; rfl
  have b1 : W1.drew.cell? ⟨w.heap.size, 1, none⟩ = some (.int .i32 y) := by rw [World.cell?_drew, ← hW, World.cell?_alloc_at _ _ _ _ (by simp)]; rfl
  have GD := Lib.hid (HG.out.kep (kep_drew (Kep.refl _ _)))
  have hk2 : Hid (Kep w.heap.size w W1.drew) := Lib.hid (kep_drew hk1.out)
  clear hW
  go_region_with (first
    | ((with_reducible refine (CO.out _).mono ?_); rintro en w2 ⟨rfl, g2⟩
       have G2 := Lib.hid (GD.out.kep g2)
       have K2 := Lib.hid (hk2.out.trans (g2.mono hk2.out.size))
       clear g2)
    | ((with_reducible refine (CB.out _ (Hid.out G2).fac).mono ?_); rintro en w3 ⟨rfl, g3⟩
       have G3 := Lib.hid (G2.out.kep g3)
       have K3 := Lib.hid (K2.out.trans (g3.mono K2.out.size))
       have y0 := G3.out.c j hj1
       clear g3)
    | ((with_reducible refine (CC.out _ (G3.out.own j hj1)).mono ?_); rintro en w4 ⟨v4, rfl, o4, g4⟩
       have K4 := Lib.hid (K3.out.trans (g4.mono K3.out.size))
       have Q4 := Lib.hid (own_sq kv_len o4)
       have F4 := Lib.hid (fresh_own o4 K3.out.size)
       clear o4 g4))
  go_wp2
  go_ret
  exact ⟨_, rfl, ⟨Q4.out, F4.out⟩, K4.out⟩
theorem glen (g : Nat) (S : Nat → Prop) (L : List Ent) (w : World) (h : GI w g S L) : Calls Tryd.prog 16 #[.pointer (some ⟨g, 0, none⟩)] w fun en w' => en = .returned (.int .i64 L.length) ∧ Kep w.heap.size w w' := by
  obtain ⟨vf, h⟩ := h
  have c := h.cn
  clear h
  go_enter Tryd.func16, Tryd.ntmps16
  go_wp2
  go_ret
  exact ⟨rfl, Kep.refl _ _⟩
theorem glen_nil (w : World) : Calls Tryd.prog 16 #[.pointer none] w fun en w' => en = .returned (.int .i64 0) ∧ Kep w.heap.size w w' := by
  go_enter Tryd.func16, Tryd.ntmps16
  go_wp2
  go_ret
  exact ⟨rfl, Kep.refl _ _⟩
theorem gcand_nil (w : World) : Calls Tryd.prog 18 #[.pointer none] w fun en w' => ∃ v, en = .returned v ∧ (Sq pv 2 w' v ([] : List (Int × Int)) ∧ Fresh w v) ∧ Kep w.heap.size w w' := by
  go_enter Tryd.func18, Tryd.ntmps18
  go_wp2
  go_ret
  exact ⟨_, rfl, ⟨Sq.nil, fun g e => by cases e⟩, Kep.refl _ _⟩
end Go.Proofs.YtnmnbogjnjbopaaDoor
