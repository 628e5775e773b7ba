/-
  Package correct: a shift added to (push).
-/
import Derived.Test.YtlbbacmpdlghaaaCorOps1
import Derived.Test.YtlbbacmpdlghaaaFrO
import Derived.Deep.DeepCutAuto
import Derived.Deep.QuietTactic
import Derived.BigQuiet
namespace Go.Proofs.Ytlbbacmpdlghaaa
open Go.RowKit Go.Lib

def flatS (D : List Sh) : List Value := D.flatMap shv
theorem flatS_len (D : List Sh) : (flatS D).length = D.length * 2 := cat_len shv_len D
theorem flatS_at {D : List Sh} {i : Nat} {s : Sh} (h : D[i]? = some s) : (flatS D)[i * 2]? = some (.int .i64 s.1) ∧ (flatS D)[i * 2 + 1]? = some (.int .i64 s.2) := ⟨cat_get shv_len D i s h 0 (by decide), cat_get shv_len D i s h 1 (by decide)⟩
theorem flatS_set : ∀ (D : List Sh) (i : Nat) (s : Sh) (a b : Int), D[i]? = some s → (flatS D).set (i * 2) (.int .i64 a) = flatS (D.set i (a, s.2)) ∧ (flatS D).set (i * 2 + 1) (.int .i64 b) = flatS (D.set i (s.1, b))
  | [], _, _, _, _, h => by simp at h
  | y :: l, 0, s, a, b, h => by
    simp at h
    subst h
    exact ⟨rfl, rfl⟩
  | y :: l, i + 1, s, a, b, h => by
    have e := flatS_set l i s a b (by simpa using h)
    have f : ∀ y (l : List Sh), flatS (y :: l) = shv y ++ flatS l := fun y l => by simp [flatS]
    have q : ∀ (l : List Value) (k : Nat) (v : Value), (shv y ++ l).set ((i + 1) * 2 + k) v = shv y ++ l.set (i * 2 + k) v := fun l k v => by
      rw [List.set_append_right _ _ (by rw [shv_len]; omega), shv_len]
      congr 2
      omega
    rw [List.set_cons_succ, List.set_cons_succ, f, f, f, ← e.1, ← e.2]
    exact ⟨q _ 0 _, q _ 1 _⟩
/-- The shifts, in a block of the call's own; wa: the world below, wb: the world at a call's start. -/
structure SX (wa wb w : World) (ga : Nat) (D : List Sh) : Prop where
  kep : Kep wa.heap.size wa w
  fr : FrO ga ga wb w
  lg : wa.heap.size ≤ ga
  z : ZC w ga (flatS D)
theorem SX.on {wa wb w w' : World} {ga : Nat} {D : List Sh} (h : SX wa wb w ga D) (g : Kep w.heap.size w w') : SX wa wb w' ga D := ⟨h.kep.trans (g.mono h.kep.size), h.fr.kep g, h.lg, h.z.kep g⟩
theorem SX.setx {wa wb w : World} {ga i : Nat} {D : List Sh} {s : Sh} (h : SX wa wb w ga D) (hs : D[i]? = some s) (a : Int) : SX wa wb (w.setCell ⟨ga, i * 2, none⟩ (.int .i64 a)) ga (D.set i (a, s.2)) :=
  ⟨h.kep.setCell h.lg _, h.fr.set1 _, h.lg, by rw [← (flatS_set D i s a 0 hs).1]; exact h.z.put _ (by rw [flatS_len]; have := (List.getElem?_eq_some_iff.1 hs).1; omega)⟩
theorem SX.sety {wa wb w : World} {ga i : Nat} {D : List Sh} {s : Sh} (h : SX wa wb w ga D) (hs : D[i]? = some s) (b : Int) : SX wa wb (w.setCell ⟨ga, i * 2 + 1, none⟩ (.int .i64 b)) ga (D.set i (s.1, b)) :=
  ⟨h.kep.setCell h.lg _, h.fr.set1 _, h.lg, by rw [← (flatS_set D i s 0 b hs).2]; exact h.z.put _ (by rw [flatS_len]; have := (List.getElem?_eq_some_iff.1 hs).1; omega)⟩
theorem SX.start {wa wb w : World} {ga : Nat} {D : List Sh} (h : SX wa wb w ga D) : SX wa w w ga D := ⟨h.kep, .refl _ _ _, h.lg, h.z⟩
set_option maxRecDepth 100000 in
set_option maxHeartbeats 4000000 in
theorem cpush {D : List Sh} {i n : Nat} {s : Sh} {sg sh nx ny fx fy sx sy a b : Int} {wa wb w : World} {ga tb cb ca : Nat} (h : SX wa wb w ga D) (hs : D[i]? = some s) (hn : D.length = n)
    (ht : w.cell? ⟨tb, 0, none⟩ = some (.slice (some ⟨ga, 0, none⟩) n ca)) (hx : w.cell? ⟨cb, 2, none⟩ = some (.int .i32 nx)) (hy : w.cell? ⟨cb, 3, none⟩ = some (.int .i32 ny)) (n1 : tb ≠ ga) (n2 : cb ≠ ga)
    (X1 : KFr sh nx fx) (X2 : KFr sh ny fy) (e1 : IntKind.i64.wrap (sg * fx) = sx) (e2 : IntKind.i64.wrap (s.1 + sx) = a) (e3 : IntKind.i64.wrap (sg * fy) = sy) (e4 : IntKind.i64.wrap (s.2 + sy) = b) :
    Calls Try.prog 28 #[.int .i64 (i : Int), .int .i64 sg, .int .i64 sh, .pointer (some ⟨tb, 0, none⟩), .pointer (some ⟨cb, 0, none⟩)] w fun e w' => e = .returned (.tuple #[]) ∧ SX wa wb w' ga (D.set i (a, b)) := by
  have hin : i < n := by rw [← hn]; exact (List.getElem?_eq_some_iff.1 hs).1
  have i0 : (0 : Int) ≤ (i : Int) := Int.natCast_nonneg _
  have i1 : (i : Int) < (n : Int) := by omega
  have C1 := Lib.hid X1
  have C2 := Lib.hid X2
  have HS := Lib.hid hs
  have HC : Hid (SX wa wb w.drew ga D) := Lib.hid (h.on (kep_drew (Kep.refl _ _)))
  clear X1 X2 hs hn h hin
  go_enter Try.func28, Try.ntmps28
  go_upto_region 0 with fail
  go_cut [] (fun wx => Hid (SX wa wb wx ga (D.set i (a, s.2))) ∧ wx.cell? ⟨tb, 0, none⟩ = some (.slice (some ⟨ga, 0, none⟩) n ca) ∧ wx.cell? ⟨cb, 3, none⟩ = some (.int .i32 ny))
  case first =>
    refine wp_region_noPanic ?_
    refine wp_region_held_drew (S := (fun w' => w'.cell? ⟨tb, 0, none⟩ = some (.slice (some ⟨ga, 0, none⟩) n ca) ∧ w'.cell? ⟨cb, 2, none⟩ = some (.int .i32 nx) ∧ w'.cell? ⟨cb, 3, none⟩ = some (.int .i32 ny))) (by kernel_rfl) (⟨by rw [World.cell?_drew]; exact ht, by rw [World.cell?_drew]; exact hx, by rw [World.cell?_drew]; exact hy⟩) (fun hH => ?_)
    clear ht hx hy
    generalize w.drew = Y0 at *
    refine rtk 0 (oi := ⟨some 8, .load 44 (.tmp 3), _, _, _, none⟩) (v := ?_) rfl ?_ hH ?_
    rotate_left
    · (intro w hSw; (try dsimp only at hSw); go_simp; (try with_reducible rfl))
    refine rtk 1 (oi := ⟨some 9, .move (.tmp 0), _, _, _, none⟩) (v := ?_) rfl ?_ hH ?_
    rotate_left
    · (intro w hSw; (try dsimp only at hSw); go_simp; (try with_reducible rfl))
    refine rtk 2 (oi := ⟨some 10, .indexAddr 44 (.tmp 8) (.tmp 9), _, _, _, none⟩) (v := ?_) rfl ?_ hH ?_
    rotate_left
    · (intro w hSw; (try dsimp only at hSw); go_simp; (try with_reducible rfl))
    try simp only [Act.put, List.setIfInBounds_toArray, List.set_cons_zero, List.set_cons_succ]
    refine rtk 3 (oi := ⟨some 11, .fieldAddr 50 (.tmp 10) 0, _, _, _, none⟩) (v := ?_) rfl ?_ hH ?_
    rotate_left
    · (intro w hSw; (try dsimp only at hSw); go_simp; (try with_reducible rfl))
    refine rtk 5 (oi := ⟨some 13, .move (.tmp 1), _, _, _, none⟩) (v := ?_) rfl ?_ hH ?_
    rotate_left
    · (intro w hSw; (try dsimp only at hSw); go_simp; (try with_reducible rfl))
    refine rtk 6 (oi := ⟨some 14, .move (.tmp 2), _, _, _, none⟩) (v := ?_) rfl ?_ hH ?_
    rotate_left
    · (intro w hSw; (try dsimp only at hSw); go_simp; (try with_reducible rfl))
    refine rtk 7 (oi := ⟨some 15, .fieldAddr 37 (.tmp 4) 1, _, _, _, none⟩) (v := ?_) rfl ?_ hH ?_
    rotate_left
    · (intro w hSw; (try dsimp only at hSw); go_simp; (try with_reducible rfl))
    try simp only [Act.put, List.setIfInBounds_toArray, List.set_cons_zero, List.set_cons_succ]
    refine rtk 8 (oi := ⟨some 16, .fieldAddr 30 (.tmp 15) 0, _, _, _, none⟩) (v := ?_) rfl ?_ hH ?_
    rotate_left
    · (intro w hSw; (try dsimp only at hSw); go_simp; (try with_reducible rfl))
    refine rtk 9 (oi := ⟨some 17, .load 21 (.tmp 16), _, _, _, none⟩) (v := ?_) rfl ?_ hH ?_
    rotate_left
    · (intro w hSw; (try dsimp only at hSw); go_simp; (try with_reducible rfl))
    try simp only [Act.put, List.setIfInBounds_toArray, List.set_cons_zero, List.set_cons_succ]
    refine wpAnyH_ready (rs := [4, 10]) (by kernel_rfl) (by simp) ?_
    refine AllReadyH.cons (o := ⟨some 12, .load 2 (.tmp 11), _, _, _, none⟩) rfl (fun K hK => ?_) (AllReadyH.cons (o := ⟨some 18, .call { callee := .value (.func 24), args := #[.tmp 14, .tmp 17], argTypes := #[2, 21] }, _, _, _, none⟩) rfl (fun K hK => ?_) AllReadyH.nil)
    · have a0 : Y0.cell? ⟨ga, i * 2, none⟩ = some (.int .i64 s.1) := HC.out.z.i (flatS_at HS.out).1
      go_simp
      refine hK.out _ _ hH (fun hH2 => ?_)
      clear a0
      clear hK K hH; have hH := hH2; clear hH2
      try simp only [Act.put, List.setIfInBounds_toArray, List.set_cons_zero, List.set_cons_succ]
      refine wpAnyH_ready (rs := [10]) (by kernel_rfl) (by simp) ?_
      refine AllReadyH.cons (o := ⟨some 18, .call { callee := .value (.func 24), args := #[.tmp 14, .tmp 17], argTypes := #[2, 21] }, _, _, _, none⟩) rfl (fun K hK => ?_) AllReadyH.nil
      go_simp
      (with_reducible refine (C1.out _).mono ?_); rintro e v1 ⟨rfl, g⟩
      replace HC := Lib.hid (HC.out.on g)
      refine hK.out _ _ (by obtain ⟨q0, q1, q2⟩ := id hH; exact ⟨g.all q0, g.all q1, g.all q2⟩) (fun hH2 => ?_)
      clear g
      clear hK K hH; have hH := hH2; clear hH2
      refine rtk 11 (oi := ⟨some 19, .binOp .mul 2 (.tmp 13) (.tmp 18) 2, _, _, _, none⟩) (v := ?_) rfl ?_ hH ?_
      rotate_left
      · (intro w hSw; (try dsimp only at hSw); go_simp; (try with_reducible rfl))
      refine rtk 12 (oi := ⟨some 20, .binOp .add 2 (.tmp 12) (.tmp 19) 2, _, _, _, none⟩) (v := ?_) rfl ?_ hH ?_
      rotate_left
      · (intro w hSw; (try dsimp only at hSw); go_simp; (try with_reducible rfl))
      refine rtk 13 (oi := ⟨some 21, .indexAddr 44 (.tmp 8) (.tmp 9), _, _, _, none⟩) (v := ?_) rfl ?_ hH ?_
      rotate_left
      · (intro w hSw; (try dsimp only at hSw); go_simp; (try with_reducible rfl))
      try simp only [Act.put, List.setIfInBounds_toArray, List.set_cons_zero, List.set_cons_succ]
      refine rtk 14 (oi := ⟨some 22, .fieldAddr 50 (.tmp 21) 0, _, _, _, none⟩) (v := ?_) rfl ?_ hH ?_
      rotate_left
      · (intro w hSw; (try dsimp only at hSw); go_simp; (try with_reducible rfl))
      try simp only [Act.put, List.setIfInBounds_toArray, List.set_cons_zero, List.set_cons_succ]
      refine wpAnyH_ready (rs := [15]) (by kernel_rfl) (by simp) ?_
      refine AllReadyH.cons (o := ⟨none, .store 2 (.tmp 22) (.tmp 20), _, _, _, none⟩) rfl (fun K hK => ?_) AllReadyH.nil
      have a0 : v1.cell? ⟨ga, i * 2, none⟩ = some (.int .i64 s.1) := HC.out.z.i (flatS_at HS.out).1
      have f0 := HC.out.z.frz (i * 2)
      have hz := HC.out.z.lt
      obtain ⟨q0, q1, q2⟩ := id hH
      go_simp
      refine hK.out _ _ (by (try dsimp only); exact ⟨sset_far q0 (fun e => n1 e.symm), sset_far q1 (fun e => n2 e.symm), sset_far q2 (fun e => n2 e.symm)⟩) (fun hH2 => ?_)
      clear a0 f0 hz q0 q1 q2
      clear hK K hH; have hH := hH2; clear hH2
      try simp only [Act.put, List.setIfInBounds_toArray, List.set_cons_zero, List.set_cons_succ]
      refine wpAnyH_done (by kernel_rfl) ?_ _
      refine NoPanic.normal ?_
      obtain ⟨q0, q1, q2⟩ := hH
      have H9 := Lib.hid (HC.out.setx HS.out a)
      go_wp2_with fail
      go_meet
      exact ⟨H9, q0, q2⟩
    · go_simp
      (with_reducible refine (C1.out _).mono ?_); rintro e v1 ⟨rfl, g⟩
      replace HC := Lib.hid (HC.out.on g)
      refine hK.out _ _ (by obtain ⟨q0, q1, q2⟩ := id hH; exact ⟨g.all q0, g.all q1, g.all q2⟩) (fun hH2 => ?_)
      clear g
      clear hK K hH; have hH := hH2; clear hH2
      refine rtk 11 (oi := ⟨some 19, .binOp .mul 2 (.tmp 13) (.tmp 18) 2, _, _, _, none⟩) (v := ?_) rfl ?_ hH ?_
      rotate_left
      · (intro w hSw; (try dsimp only at hSw); go_simp; (try with_reducible rfl))
      try simp only [Act.put, List.setIfInBounds_toArray, List.set_cons_zero, List.set_cons_succ]
      refine wpAnyH_ready (rs := [4]) (by kernel_rfl) (by simp) ?_
      refine AllReadyH.cons (o := ⟨some 12, .load 2 (.tmp 11), _, _, _, none⟩) rfl (fun K hK => ?_) AllReadyH.nil
      have a0 : v1.cell? ⟨ga, i * 2, none⟩ = some (.int .i64 s.1) := HC.out.z.i (flatS_at HS.out).1
      go_simp
      refine hK.out _ _ hH (fun hH2 => ?_)
      clear a0
      clear hK K hH; have hH := hH2; clear hH2
      refine rtk 12 (oi := ⟨some 20, .binOp .add 2 (.tmp 12) (.tmp 19) 2, _, _, _, none⟩) (v := ?_) rfl ?_ hH ?_
      rotate_left
      · (intro w hSw; (try dsimp only at hSw); go_simp; (try with_reducible rfl))
      refine rtk 13 (oi := ⟨some 21, .indexAddr 44 (.tmp 8) (.tmp 9), _, _, _, none⟩) (v := ?_) rfl ?_ hH ?_
      rotate_left
      · (intro w hSw; (try dsimp only at hSw); go_simp; (try with_reducible rfl))
      refine rtk 14 (oi := ⟨some 22, .fieldAddr 50 (.tmp 21) 0, _, _, _, none⟩) (v := ?_) rfl ?_ hH ?_
      rotate_left
      · (intro w hSw; (try dsimp only at hSw); go_simp; (try with_reducible rfl))
      try simp only [Act.put, List.setIfInBounds_toArray, List.set_cons_zero, List.set_cons_succ]
      refine wpAnyH_ready (rs := [15]) (by kernel_rfl) (by simp) ?_
      refine AllReadyH.cons (o := ⟨none, .store 2 (.tmp 22) (.tmp 20), _, _, _, none⟩) rfl (fun K hK => ?_) AllReadyH.nil
      have a0 : v1.cell? ⟨ga, i * 2, none⟩ = some (.int .i64 s.1) := HC.out.z.i (flatS_at HS.out).1
      have f0 := HC.out.z.frz (i * 2)
      have hz := HC.out.z.lt
      obtain ⟨q0, q1, q2⟩ := id hH
      go_simp
      refine hK.out _ _ (by (try dsimp only); exact ⟨sset_far q0 (fun e => n1 e.symm), sset_far q1 (fun e => n2 e.symm), sset_far q2 (fun e => n2 e.symm)⟩) (fun hH2 => ?_)
      clear a0 f0 hz q0 q1 q2
      clear hK K hH; have hH := hH2; clear hH2
      try simp only [Act.put, List.setIfInBounds_toArray, List.set_cons_zero, List.set_cons_succ]
      refine wpAnyH_done (by kernel_rfl) ?_ _
      refine NoPanic.normal ?_
      obtain ⟨q0, q1, q2⟩ := hH
      have H9 := Lib.hid (HC.out.setx HS.out a)
      go_wp2_with fail
      go_meet
      exact ⟨H9, q0, q2⟩
  case rest =>
    obtain ⟨HD, ht, hy⟩ := hcut
    clear HC
    have HC := Lib.hid (HD.out.on (kep_drew (Kep.refl _ _)))
    have HT : Hid ((D.set i (a, s.2))[i]? = some (a, s.2)) := Lib.hid (by rw [List.getElem?_set_self (List.getElem?_eq_some_iff.1 HS.out).1])
    clear HD HS
    have HS := HT
    clear HT
    go_upto_region 1 with fail
    refine wp_region_noPanic ?_
    refine wp_region_held_drew (S := (fun w' => w'.cell? ⟨tb, 0, none⟩ = some (.slice (some ⟨ga, 0, none⟩) n ca) ∧ w'.cell? ⟨cb, 3, none⟩ = some (.int .i32 ny))) (by kernel_rfl) (⟨by rw [World.cell?_drew]; exact ht, by rw [World.cell?_drew]; exact hy⟩) (fun hH => ?_)
    clear ht hy
    generalize wc.drew = Y1 at *
    refine rtk 0 (oi := ⟨some 23, .load 44 (.tmp 3), _, _, _, none⟩) (v := ?_) rfl ?_ hH ?_
    rotate_left
    · (intro w hSw; (try dsimp only at hSw); go_simp; (try with_reducible rfl))
    refine rtk 1 (oi := ⟨some 24, .move (.tmp 0), _, _, _, none⟩) (v := ?_) rfl ?_ hH ?_
    rotate_left
    · (intro w hSw; (try dsimp only at hSw); go_simp; (try with_reducible rfl))
    refine rtk 2 (oi := ⟨some 25, .indexAddr 44 (.tmp 23) (.tmp 24), _, _, _, none⟩) (v := ?_) rfl ?_ hH ?_
    rotate_left
    · (intro w hSw; (try dsimp only at hSw); go_simp; (try with_reducible rfl))
    try simp only [Act.put, List.setIfInBounds_toArray, List.set_cons_zero, List.set_cons_succ]
    refine rtk 3 (oi := ⟨some 26, .fieldAddr 50 (.tmp 25) 1, _, _, _, none⟩) (v := ?_) rfl ?_ hH ?_
    rotate_left
    · (intro w hSw; (try dsimp only at hSw); go_simp; (try with_reducible rfl))
    refine rtk 5 (oi := ⟨some 28, .move (.tmp 1), _, _, _, none⟩) (v := ?_) rfl ?_ hH ?_
    rotate_left
    · (intro w hSw; (try dsimp only at hSw); go_simp; (try with_reducible rfl))
    refine rtk 6 (oi := ⟨some 29, .move (.tmp 2), _, _, _, none⟩) (v := ?_) rfl ?_ hH ?_
    rotate_left
    · (intro w hSw; (try dsimp only at hSw); go_simp; (try with_reducible rfl))
    refine rtk 7 (oi := ⟨some 30, .fieldAddr 37 (.tmp 4) 1, _, _, _, none⟩) (v := ?_) rfl ?_ hH ?_
    rotate_left
    · (intro w hSw; (try dsimp only at hSw); go_simp; (try with_reducible rfl))
    try simp only [Act.put, List.setIfInBounds_toArray, List.set_cons_zero, List.set_cons_succ]
    refine rtk 8 (oi := ⟨some 31, .fieldAddr 30 (.tmp 30) 1, _, _, _, none⟩) (v := ?_) rfl ?_ hH ?_
    rotate_left
    · (intro w hSw; (try dsimp only at hSw); go_simp; (try with_reducible rfl))
    refine rtk 9 (oi := ⟨some 32, .load 21 (.tmp 31), _, _, _, none⟩) (v := ?_) rfl ?_ hH ?_
    rotate_left
    · (intro w hSw; (try dsimp only at hSw); go_simp; (try with_reducible rfl))
    try simp only [Act.put, List.setIfInBounds_toArray, List.set_cons_zero, List.set_cons_succ]
    refine wpAnyH_ready (rs := [4, 10]) (by kernel_rfl) (by simp) ?_
    refine AllReadyH.cons (o := ⟨some 27, .load 2 (.tmp 26), _, _, _, none⟩) rfl (fun K hK => ?_) (AllReadyH.cons (o := ⟨some 33, .call { callee := .value (.func 24), args := #[.tmp 29, .tmp 32], argTypes := #[2, 21] }, _, _, _, none⟩) rfl (fun K hK => ?_) AllReadyH.nil)
    · have a0 : Y1.cell? ⟨ga, i * 2 + 1, none⟩ = some (.int .i64 s.2) := HC.out.z.i (flatS_at HS.out).2
      go_simp
      refine hK.out _ _ hH (fun hH2 => ?_)
      clear a0
      clear hK K hH; have hH := hH2; clear hH2
      try simp only [Act.put, List.setIfInBounds_toArray, List.set_cons_zero, List.set_cons_succ]
      refine wpAnyH_ready (rs := [10]) (by kernel_rfl) (by simp) ?_
      refine AllReadyH.cons (o := ⟨some 33, .call { callee := .value (.func 24), args := #[.tmp 29, .tmp 32], argTypes := #[2, 21] }, _, _, _, none⟩) rfl (fun K hK => ?_) AllReadyH.nil
      go_simp
      (with_reducible refine (C2.out _).mono ?_); rintro e v2 ⟨rfl, g⟩
      replace HC := Lib.hid (HC.out.on g)
      refine hK.out _ _ (by obtain ⟨q0, q2⟩ := id hH; exact ⟨g.all q0, g.all q2⟩) (fun hH2 => ?_)
      clear g
      clear hK K hH; have hH := hH2; clear hH2
      refine rtk 11 (oi := ⟨some 34, .binOp .mul 2 (.tmp 28) (.tmp 33) 2, _, _, _, none⟩) (v := ?_) rfl ?_ hH ?_
      rotate_left
      · (intro w hSw; (try dsimp only at hSw); go_simp; (try with_reducible rfl))
      refine rtk 12 (oi := ⟨some 35, .binOp .add 2 (.tmp 27) (.tmp 34) 2, _, _, _, none⟩) (v := ?_) rfl ?_ hH ?_
      rotate_left
      · (intro w hSw; (try dsimp only at hSw); go_simp; (try with_reducible rfl))
      refine rtk 13 (oi := ⟨some 36, .indexAddr 44 (.tmp 23) (.tmp 24), _, _, _, none⟩) (v := ?_) rfl ?_ hH ?_
      rotate_left
      · (intro w hSw; (try dsimp only at hSw); go_simp; (try with_reducible rfl))
      try simp only [Act.put, List.setIfInBounds_toArray, List.set_cons_zero, List.set_cons_succ]
      refine rtk 14 (oi := ⟨some 37, .fieldAddr 50 (.tmp 36) 1, _, _, _, none⟩) (v := ?_) rfl ?_ hH ?_
      rotate_left
      · (intro w hSw; (try dsimp only at hSw); go_simp; (try with_reducible rfl))
      try simp only [Act.put, List.setIfInBounds_toArray, List.set_cons_zero, List.set_cons_succ]
      refine wpAnyH_ready (rs := [15]) (by kernel_rfl) (by simp) ?_
      refine AllReadyH.cons (o := ⟨none, .store 2 (.tmp 37) (.tmp 35), _, _, _, none⟩) rfl (fun K hK => ?_) AllReadyH.nil
      have a0 : v2.cell? ⟨ga, i * 2 + 1, none⟩ = some (.int .i64 s.2) := HC.out.z.i (flatS_at HS.out).2
      have f0 := HC.out.z.frz (i * 2 + 1)
      have hz := HC.out.z.lt
      obtain ⟨q0, q2⟩ := id hH
      go_simp
      refine hK.out _ _ (by (try dsimp only); exact ⟨sset_far q0 (fun e => n1 e.symm), sset_far q2 (fun e => n2 e.symm)⟩) (fun hH2 => ?_)
      clear a0 f0 hz q0 q2
      clear hK K hH; have hH := hH2; clear hH2
      try simp only [Act.put, List.setIfInBounds_toArray, List.set_cons_zero, List.set_cons_succ]
      refine wpAnyH_done (by kernel_rfl) ?_ _
      refine NoPanic.normal ?_
      have H9 := HC.out.sety HS.out b
      rw [List.set_set] at H9
      have H8 := Lib.hid H9
      clear H9
      go_wp2_with fail
      go_end0
      exact ⟨rfl, H8.out⟩
    · go_simp
      (with_reducible refine (C2.out _).mono ?_); rintro e v2 ⟨rfl, g⟩
      replace HC := Lib.hid (HC.out.on g)
      refine hK.out _ _ (by obtain ⟨q0, q2⟩ := id hH; exact ⟨g.all q0, g.all q2⟩) (fun hH2 => ?_)
      clear g
      clear hK K hH; have hH := hH2; clear hH2
      refine rtk 11 (oi := ⟨some 34, .binOp .mul 2 (.tmp 28) (.tmp 33) 2, _, _, _, none⟩) (v := ?_) rfl ?_ hH ?_
      rotate_left
      · (intro w hSw; (try dsimp only at hSw); go_simp; (try with_reducible rfl))
      try simp only [Act.put, List.setIfInBounds_toArray, List.set_cons_zero, List.set_cons_succ]
      refine wpAnyH_ready (rs := [4]) (by kernel_rfl) (by simp) ?_
      refine AllReadyH.cons (o := ⟨some 27, .load 2 (.tmp 26), _, _, _, none⟩) rfl (fun K hK => ?_) AllReadyH.nil
      have a0 : v2.cell? ⟨ga, i * 2 + 1, none⟩ = some (.int .i64 s.2) := HC.out.z.i (flatS_at HS.out).2
      go_simp
      refine hK.out _ _ hH (fun hH2 => ?_)
      clear a0
      clear hK K hH; have hH := hH2; clear hH2
      refine rtk 12 (oi := ⟨some 35, .binOp .add 2 (.tmp 27) (.tmp 34) 2, _, _, _, none⟩) (v := ?_) rfl ?_ hH ?_
      rotate_left
      · (intro w hSw; (try dsimp only at hSw); go_simp; (try with_reducible rfl))
      refine rtk 13 (oi := ⟨some 36, .indexAddr 44 (.tmp 23) (.tmp 24), _, _, _, none⟩) (v := ?_) rfl ?_ hH ?_
      rotate_left
      · (intro w hSw; (try dsimp only at hSw); go_simp; (try with_reducible rfl))
      refine rtk 14 (oi := ⟨some 37, .fieldAddr 50 (.tmp 36) 1, _, _, _, none⟩) (v := ?_) rfl ?_ hH ?_
      rotate_left
      · (intro w hSw; (try dsimp only at hSw); go_simp; (try with_reducible rfl))
      try simp only [Act.put, List.setIfInBounds_toArray, List.set_cons_zero, List.set_cons_succ]
      refine wpAnyH_ready (rs := [15]) (by kernel_rfl) (by simp) ?_
      refine AllReadyH.cons (o := ⟨none, .store 2 (.tmp 37) (.tmp 35), _, _, _, none⟩) rfl (fun K hK => ?_) AllReadyH.nil
      have a0 : v2.cell? ⟨ga, i * 2 + 1, none⟩ = some (.int .i64 s.2) := HC.out.z.i (flatS_at HS.out).2
      have f0 := HC.out.z.frz (i * 2 + 1)
      have hz := HC.out.z.lt
      obtain ⟨q0, q2⟩ := id hH
      go_simp
      refine hK.out _ _ (by (try dsimp only); exact ⟨sset_far q0 (fun e => n1 e.symm), sset_far q2 (fun e => n2 e.symm)⟩) (fun hH2 => ?_)
      clear a0 f0 hz q0 q2
      clear hK K hH; have hH := hH2; clear hH2
      try simp only [Act.put, List.setIfInBounds_toArray, List.set_cons_zero, List.set_cons_succ]
      refine wpAnyH_done (by kernel_rfl) ?_ _
      refine NoPanic.normal ?_
      have H9 := HC.out.sety HS.out b
      rw [List.set_set] at H9
      have H8 := Lib.hid H9
      clear H9
      go_wp2_with fail
      go_end0
      exact ⟨rfl, H8.out⟩
end Go.Proofs.Ytlbbacmpdlghaaa
