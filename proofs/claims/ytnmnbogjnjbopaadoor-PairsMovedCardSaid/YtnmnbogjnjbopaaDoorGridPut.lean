/-
  Package grid: slices.Insert of one key into an ascending list of the call's own; 'with'.
-/
import Derived.Test.YtnmnbogjnjbopaaDoorGridKeys
import Derived.Laws.OwnMore
import Derived.Test.YtnmnbogjnjbopaaDoorIter
namespace Go.Proofs.YtnmnbogjnjbopaaDoor
open Go.RowKit Go.Lib

theorem info_kk : (Tryd.prog.info? 42).map (fun i => (i.zero, i.size, i.bytes)) = some (some (.int .u32 0), 1, 4) := by kernel_rfl
theorem kvs_len (K : List Int) : (K.flatMap kv).length = K.length := by rw [cat_len kv_len, Nat.mul_one]
theorem kvs_take (K : List Int) (i : Nat) : (K.flatMap kv).take i = (K.take i).flatMap kv := by
  induction K generalizing i with
  | nil => simp
  | cons x K ih => cases i with
    | zero => simp
    | succ i => simp [kv, ih]
theorem kvs_drop (K : List Int) (i : Nat) : (K.flatMap kv).drop i = (K.drop i).flatMap kv := by
  induction K generalizing i with
  | nil => simp
  | cons x K ih => cases i with
    | zero => simp
    | succ i => simp [kv, ih]
theorem kvs_one (K : List Int) : ∀ u ∈ K.flatMap kv, u.oneCell' = true := fun u hu => by
  obtain ⟨x, _, hx⟩ := List.mem_flatMap.1 hu
  exact kv_one x u hx
/-- A list of cells written over another from place o on. -/
def overL (xs : List Value) (o : Nat) (vs : List Value) : List Value := xs.take o ++ vs ++ xs.drop (o + vs.length)
theorem overL_set {xs : List Value} {o : Nat} {v : Value} {r : List Value} (h : o + (v :: r).length ≤ xs.length) : overL (xs.set o v) (o + 1) r = overL xs o (v :: r) := by
  have ho : o < xs.length := by simp at h; omega
  unfold overL
  rw [List.take_set, List.drop_set_of_lt (by omega), List.take_add_one, List.getElem?_eq_getElem ho, List.length_cons]
  rw [show (xs.take o ++ (some xs[o]).toList).set o v = xs.take o ++ [v] by
    rw [List.set_append_right _ _ (by simp; omega)]
    simp [Nat.min_eq_left (Nat.le_of_lt ho)]]
  rw [show o + 1 + r.length = o + (r.length + 1) by omega]
  simp
theorem own_over {B : Nat} {e : TypeId} {g n cap : Nat} : ∀ (vs : List Value) (o : Nat) (w : World) (xs : List Value), w.ownsRow B e 1 (.slice (some ⟨g, 0, none⟩) n cap) n xs → o + vs.length ≤ n → (w.setCells g o vs).ownsRow B e 1 (.slice (some ⟨g, 0, none⟩) n cap) n (overL xs o vs)
  | [], o, w, xs, h, _ => by
    have : overL xs o [] = xs := by unfold overL; simp
    rw [this]
    exact h
  | v :: r, o, w, xs, h, hl => by
    have hx : xs.length = n := by rw [h.1, Nat.mul_one]
    rw [← overL_set (by rw [hx]; exact hl)]
    exact own_over r (o + 1) _ _ (h.stored o v).1 (by simp at hl; omega)
theorem own_room {w : World} {B : Nat} {e : TypeId} {g n cap : Nat} {xs : List Value} (h : w.ownsRow B e 1 (.slice (some ⟨g, 0, none⟩) n cap) n xs) (hc : n + 1 ≤ cap) : ∃ u, w.ownsRow B e 1 (.slice (some ⟨g, 0, none⟩) (n + 1) cap) (n + 1) (xs ++ [u]) := by
  obtain ⟨h1, ⟨h2, _⟩ | ⟨g', cap', cur, h', hb, hg, hnc, hcm, hcs, htake⟩⟩ := h
  · simp at h2
  · simp only [Value.slice.injEq, Option.some.injEq, Addr.mk.injEq, and_true, true_and] at h'
    obtain ⟨rfl, rfl⟩ := h'
    have hs : n < cur.toList.length := by simp [hcs]; omega
    refine ⟨cur.toList[n], by simp [h1], .inr ⟨g, cap, cur, rfl, hb, hg, hc, hcm, hcs, ?_⟩⟩
    rw [Nat.mul_one] at htake ⊢
    rw [List.take_add_one, htake, List.getElem?_eq_getElem hs]
    rfl
theorem oth_setCells {S : Nat → Prop} {w : World} (g : Nat) (hg : S g) : ∀ (vs : List Value) (o : Nat) (w1 : World), Oth S w w1 → Oth S w (w1.setCells g o vs)
  | [], _, _, h => h
  | v :: r, o, w1, h => oth_setCells g hg r (o + 1) _ ⟨h.os, h.output, by rw [World.size_setCell]; exact h.size, fun k hk hn => by
      rw [Below.heap_setCell w1 ⟨g, o, none⟩ v k (fun e => hn (by rw [show k = g from e]; exact hg))]
      exact h.block k hk hn⟩

/-- What Insert leaves: the key in its place, in the list's own block or in a new one. -/
def Ins (w : World) (v : Value) (R : List Int) (v' : Value) (w' : World) : Prop := w'.ownsRow 0 42 1 v' R.length (R.flatMap kv) ∧ Oth (fun k => v.ownBlock = some k) w w' ∧ ∀ k, v'.ownBlock = some k → v.ownBlock = some k ∨ w.heap.size ≤ k
theorem src_key (w : World) (key : Int) : Src Tryd.prog 1 27 (.slice (some ⟨w.heap.size, 0, none⟩) 1 1) 1 [.int .u32 key] (w.alloc (.cells #[.int .u32 key] 42)) :=
  Src.ofSlice _ Tryd.underlying27 ⟨w.heap.size, 0, none⟩ 1 1 [.int .u32 key] rfl (fun j u hu => by
    rw [add_off, World.cell?_alloc_at _ _ _ _ rfl]
    simpa using hu) (fun u hu => by simp at hu; subst hu; rfl)
theorem row_new (W : World) (R : List Int) (cap : Nat) (row : Array Value) (hr : row.toList.take R.length = R.flatMap kv) (hs : row.size = cap) (hn : R.length ≤ cap) (hm : cap ≤ maxLen) : (W.alloc (.cells row 42)).ownsRow 0 42 1 (.slice (some ⟨W.heap.size, 0, none⟩) R.length cap) R.length (R.flatMap kv) :=
  ⟨by rw [kvs_len, Nat.mul_one], .inr ⟨_, cap, row, rfl, Nat.zero_le _, heap_alloc_new _ _, hn, hm, by rw [Nat.mul_one]; exact hs, by rw [Nat.mul_one]; exact hr⟩⟩
theorem zc_size (n : Nat) : (Builtin.zeroCells (Value.int .u32 0).cells n).size = n := by simp [Builtin.zeroCells, Value.cells]
theorem oth_drewed {S : Nat → Prop} {w w1 : World} (h : Oth S w w1) : Oth S w w1.drew := ⟨h.os, h.output, h.size, h.block⟩
theorem oth_alloc {S : Nat → Prop} {w w1 : World} (h : Oth S w w1) (o : Obj) : Oth S w (w1.alloc o) := ⟨h.os, h.output, by rw [World.size_alloc]; exact Nat.le_succ_of_le h.size, fun k hk hn => (Below.heap_alloc _ _ k (Nat.lt_of_lt_of_le hk h.size)).trans (h.block k hk hn)⟩
theorem oth_refl (S : Nat → Prop) (w : World) : Oth S w w := ⟨rfl, rfl, Nat.le_refl _, fun _ _ _ => rfl⟩
abbrev InsC (w : World) (v : Value) (K : List Int) (i : Nat) (key : Int) : Prop := Calls Tryd.prog 80 #[v, .int .i64 i, .slice (some ⟨w.heap.size, 0, none⟩) 1 1] (w.alloc (.cells #[.int .u32 key] 42)) fun e w' => ∃ v', e = .returned v' ∧ Ins w v (K.take i ++ key :: K.drop i) v' w'
theorem cap_ok {W : World} {n c : Nat} (hn : n ≤ 1000001) : n ≤ grownCap W n c 42 ∧ grownCap W n c 42 ≤ maxLen := ⟨grownCap_ge _ _ _ _, grownCap_le_maxLen _ _ _ _ (by unfold maxLen; omega)⟩
set_option maxHeartbeats 2000000 in
set_option maxRecDepth 100000 in
/-- At the end. -/
theorem kins_end (K : List Int) (key : Int) (v : Value) (w : World) (hl : K.length ≤ 1000000) (h : w.ownsRow 0 42 1 v K.length (K.flatMap kv)) : InsC w v K K.length key := by
  obtain ⟨i0, hi0, hz0, hzs, hzb⟩ := info_parts info_kk
  obtain ⟨W, hW⟩ : ∃ W, W = w.alloc (.cells #[.int .u32 key] 42) := ⟨_, rfl⟩
  have hown : W.ownsRow 0 42 1 v K.length (K.flatMap kv) := by rw [hW]; exact h.alloc _
  have hnews : ∀ (j : Nat) (u : Value), [Value.int .u32 key][j]? = some u → W.cell? ((⟨w.heap.size, 0, none⟩ : Addr).add j) = some u := fun j u hu => by
    rw [hW, add_off, World.cell?_alloc_at _ _ _ _ rfl]
    simpa using hu
  have hoth : Oth (fun k => v.ownBlock = some k) w W := by rw [hW]; exact oth_alloc (oth_refl _ _) _
  obtain ⟨v1, w1, hrun, r1, r2, _⟩ := run_append_own (P := Tryd.prog) W 0 27 27 42 i0 (.int .u32 0) 1 4 Tryd.underlying27 hi0 hz0 hzs hzb rfl (by decide) v K.length (K.flatMap kv) hown ⟨w.heap.size, 0, none⟩ 1 1 [.int .u32 key] rfl hnews (fun u hu => by simp at hu; subst hu; rfl) (by unfold maxLen; omega) (by omega) (Nat.zero_le _)
  have fr := append_where (P := Tryd.prog) W 0 27 27 42 i0 (.int .u32 0) 1 4 Tryd.underlying27 hi0 hz0 hzs hzb v K.length (K.flatMap kv) hown ⟨w.heap.size, 0, none⟩ 1 1 (by decide) [.int .u32 key] rfl hnews (fun u hu => by simp at hu; subst hu; rfl) (by unfold maxLen; omega) (by omega) v1 w1 hrun
  have R : Ins w v (K.take K.length ++ key :: K.drop K.length) v1 w1 := by
    rw [show K.take K.length ++ key :: K.drop K.length = K ++ [key] by simp]
    refine ⟨by simpa [kv] using r1, ⟨r2.os.trans hoth.os, r2.output.trans hoth.output, Nat.le_trans hoth.size r2.size, fun k hk hn => (r2.block k (Nat.lt_of_lt_of_le hk hoth.size) (fun e => hn e.symm)).trans (hoth.block k hk hn)⟩, fun k hk => ?_⟩
    rcases fr k hk with q | q
    · exact .inl q
    · exact .inr (Nat.le_trans hoth.size q)
  unfold InsC
  rw [← hW]
  obtain ⟨base, n, cap, hv, hn⟩ : ∃ base n cap, v = .slice base n cap ∧ K.length = n := by
    rcases h.2 with ⟨rfl, q⟩ | ⟨g, cap, cur, rfl, _⟩
    · exact ⟨none, 0, 0, rfl, q⟩
    · exact ⟨_, _, cap, rfl, rfl⟩
  have hnil : base = none → n = 0 := fun e => by
    rcases h.2 with ⟨_, q⟩ | ⟨g, cap', cur, q, _⟩
    · rw [← hn]; exact q
    · rw [hv, e] at q; simp at q
  clear hnews hoth r1 r2 fr hown h hW
  have HR := Lib.hid R
  clear R
  generalize K.take K.length ++ key :: K.drop K.length = R at *
  subst hv
  rw [hn] at hl ⊢
  clear hn
  cases base with
  | none =>
    have h0 := hnil rfl
    subst h0
    go_enter Tryd.func80, Tryd.ntmps80
    go_wp2_with (at_builtin; refine Lib.wpList_append_run _ rfl _ _ _ _ rfl _ _ rfl rfl _ _ hrun ?_)
    go_ret
    exact ⟨_, rfl, HR.out⟩
  | some a =>
    obtain ⟨ab, ao, asp⟩ := a
    go_enter Tryd.func80, Tryd.ntmps80
    go_wp2_with (at_builtin; refine Lib.wpList_append_run _ rfl _ _ _ _ rfl _ _ rfl rfl _ _ hrun ?_)
    all_goals (go_ret; exact ⟨_, rfl, HR.out⟩)
set_option maxHeartbeats 4000000 in
set_option maxRecDepth 100000 in
/-- Ahead of the end, and there is room. -/
theorem kins_shift (K : List Int) (key : Int) (b n c i : Nat) (w : World) (hl : n ≤ 1000000) (hn : K.length = n) (hi : i < n) (hroom : n + 1 ≤ c) (_hc63 : c ≤ maxLen) (h : w.ownsRow 0 42 1 (.slice (some ⟨b, 0, none⟩) n c) n (K.flatMap kv)) : InsC w (.slice (some ⟨b, 0, none⟩) n c) K i key := by
  obtain ⟨i0, hi0, hz0, hzs, hzb⟩ := info_parts info_kk
  have hsi : (Tryd.prog.info? 42).map (·.size) = some 1 := by rw [hi0]; simp [hzs]
  obtain ⟨W, hW⟩ : ∃ W, W = w.alloc (.cells #[.int .u32 key] 42) := ⟨_, rfl⟩
  have hown : W.ownsRow 0 42 1 (.slice (some ⟨b, 0, none⟩) n c) n (K.flatMap kv) := by rw [hW]; exact h.alloc _
  have hoth : Oth (fun k => (Value.slice (some ⟨b, 0, none⟩) n c).ownBlock = some k) w W := by rw [hW]; exact oth_alloc (oth_refl _ _) _
  have hbw : b < w.heap.size := (h.lt b rfl).2
  have hvb : w.heap.size ≠ b := by omega
  have hk0 : W.cell? ⟨w.heap.size, 0, none⟩ = some (.int .u32 key) := by rw [hW, World.cell?_alloc_at _ _ _ _ rfl]; rfl
  have hgv : W.heap[w.heap.size]? = some (.cells #[.int .u32 key] 42 (0, 0)) := by rw [hW]; exact heap_alloc_new _ _
  obtain ⟨cur, hg, hcs⟩ : ∃ cur, W.heap[b]? = some (.cells cur 42 (0, 0)) ∧ cur.size = c := by
    rcases hown.2 with ⟨q, _⟩ | ⟨g, cap, cur, q, _, hg, _, _, hcs, _⟩
    · simp at q
    · simp only [Value.slice.injEq, Option.some.injEq, Addr.mk.injEq, and_true, true_and] at q
      obtain ⟨rfl, rfl⟩ := q
      exact ⟨cur, hg, by rw [hcs, Nat.mul_one]⟩
  have hov : ∀ lb cb, (callFunc 103 #[.slice (some ⟨w.heap.size, 0, none⟩) 1 1, .slice (some ⟨b, i + 1, none⟩) lb cb]).run Tryd.prog W = .ok (.value (.bool false)) W := fun lb cb => by
    have e := Lib.run_overlaps_apart (P := Tryd.prog) W 27 4 42 Tryd.underlying27 1 Tryd.sizeOf42 ⟨w.heap.size, 0, none⟩ ⟨b, i + 1, none⟩ 1 1 lb cb hvb 42 42 1 c
      (by simp [World.shape?, hgv]) (by simp [World.shape?, hg, hcs]) (by omega) (by rw [hW]; exact World.frozen?_alloc_at _ _ _ _ rfl) (by rw [hW]; exact World.frozen?_alloc_at _ _ _ _ rfl)
    rw [run_callFunc_extern Tryd.func103 (by kernel_rfl) (by kernel_rfl) (by kernel_rfl) (e := Extern.SlicesOverlaps.overlaps #[27, 27] #[4]) (by kernel_rfl), e]
    rfl
  have hcl : (K.flatMap kv).length = n := by rw [kvs_len, hn]
  have hsp : ∀ j, j < n + 1 → (W.cell? ⟨b, j, none⟩).isSome = true := fun j hj => by
    simp only [World.cell?, hg]
    rw [Array.getElem?_eq_getElem (by omega)]
    rfl
  have hfz : ∀ j, W.frozen? ⟨b, j, none⟩ = false := fun j => hown.frozenAt j
  have hcs2 : ∀ j u, (K.flatMap kv)[j]? = some u → W.cell? ⟨b, j, none⟩ = some u := fun j u hu => by
    have := hown.cells (g := b) rfl j u hu
    rw [add_off, Nat.zero_add] at this
    exact this
  have hdl : ((K.flatMap kv).drop i).length = n - i := by rw [List.length_drop, hcl]
  have hcp1 : ∀ ty dc sc, (Builtin.copy_ #[27, 27] ty #[.slice (some ⟨b, i + 1, none⟩) (n - i) dc, .slice (some ⟨b, i, none⟩) (n + 1 - i) sc]).run Tryd.prog W.drew = .ok (goInt ((K.flatMap kv).drop i).length) (W.drew.setCells b (i + 1) ((K.flatMap kv).drop i)) := fun ty dc sc =>
    run_copy_cells W.drew _ _ ty 42 b (i + 1) (n - i) dc ⟨b, i, none⟩ (n + 1 - i) sc ((K.flatMap kv).drop i) Tryd.underlying27 hsi (by rw [hdl]; simp only [Nat.min_def]; split <;> omega)
      (fun j v hj => by rw [add_off]; exact hcs2 (i + j) v (by rwa [List.getElem?_drop] at hj))
      (fun j hj => hsp _ (by omega)) (fun j hj => hfz _) (fun v hv => kvs_one K v (List.mem_of_mem_drop hv))
  obtain ⟨W1, hW1⟩ : ∃ W1, W1 = W.drew.setCells b (i + 1) ((K.flatMap kv).drop i) := ⟨_, rfl⟩
  obtain ⟨u, hu⟩ := own_room hown hroom
  have hown1 := own_over ((K.flatMap kv).drop i) (i + 1) W.drew _ (own_drewN (m := 1) hu) (by omega)
  rw [← hW1] at hown1 hcp1
  have hoth1 : Oth (fun k => (Value.slice (some ⟨b, 0, none⟩) n c).ownBlock = some k) w W1 := by rw [hW1]; exact oth_setCells (S := fun k => (Value.slice (some ⟨b, 0, none⟩) n c).ownBlock = some k) b rfl _ _ _ (oth_drewed hoth)
  have hsp1 : (W1.cell? ⟨b, i, none⟩).isSome = true := by
    rw [hW1, World.cell?_setCells_out b _ _ _ _ (fun _ _ => .inl (by simp))]
    exact hsp i (by omega)
  have hk1 : W1.cell? ⟨w.heap.size, 0, none⟩ = some (.int .u32 key) := by
    rw [hW1, World.cell?_setCells_out b _ _ _ _ (fun h _ => absurd h hvb)]
    exact hk0
  have hcp2 : ∀ ty dc, (Builtin.copy_ #[27, 27] ty #[.slice (some ⟨b, i, none⟩) (n + 1 - i) dc, .slice (some ⟨w.heap.size, 0, none⟩) 1 1]).run Tryd.prog W1 = .ok (goInt 1) (W1.setCells b i [.int .u32 key]) := fun ty dc =>
    run_copy_cells W1 _ _ ty 42 b i (n + 1 - i) dc ⟨w.heap.size, 0, none⟩ 1 1 [.int .u32 key] Tryd.underlying27 hsi (by simp only [List.length_singleton, Nat.min_def]; split <;> omega)
      (fun j v hj => by
        cases j with
        | zero => simp at hj; subst hj; exact hk1
        | succ j => simp at hj)
      (fun j hj => by simp at hj; subst hj; exact hsp1) (fun j hj => hown1.frozenAt _) (fun v hv => by simp at hv; subst hv; rfl)
  have R : Ins w (.slice (some ⟨b, 0, none⟩) n c) (K.take i ++ key :: K.drop i) (.slice (some ⟨b, 0, none⟩) (n + 1) c) (W1.setCells b i [.int .u32 key]) := by
    have hlen : (K.take i ++ key :: K.drop i).length = n + 1 := by simp [hn]; omega
    refine ⟨?_, oth_setCells (S := fun k => (Value.slice (some ⟨b, 0, none⟩) n c).ownBlock = some k) b rfl _ _ _ hoth1, fun k hk => .inl hk⟩
    have := own_over [Value.int .u32 key] i W1 _ hown1 (by simp; omega)
    rw [hlen]
    have e : overL (overL (K.flatMap kv ++ [u]) (i + 1) ((K.flatMap kv).drop i)) i [Value.int .u32 key] = (K.take i ++ key :: K.drop i).flatMap kv := by
      unfold overL
      rw [List.flatMap_append, List.flatMap_cons, ← kvs_take, ← kvs_drop]
      rw [show (K.flatMap kv ++ [u]).drop (i + 1 + ((K.flatMap kv).drop i).length) = [] from List.drop_eq_nil_of_le (by rw [List.length_append, hcl, hdl, List.length_singleton]; omega), List.append_nil]
      have t1 : (K.flatMap kv ++ [u]).take (i + 1) = (K.flatMap kv).take i ++ [(K.flatMap kv)[i]'(by omega)] := by
        rw [List.take_append_of_le_length (by omega), List.take_add_one, List.getElem?_eq_getElem (by omega)]
        rfl
      have l1 : ((K.flatMap kv).take i ++ [(K.flatMap kv)[i]'(by omega)]).length = i + 1 := by simp [hcl]; omega
      have l2 : ((K.flatMap kv).take i).length = i := by rw [List.length_take]; omega
      rw [t1, List.length_singleton, List.drop_left' l1, List.append_assoc ((K.flatMap kv).take i), List.take_left' l2]
      simp [kv]
    rw [e] at this
    exact this
  have R' : ∃ v1 w1, v1 = Value.slice (some ⟨b, 0, none⟩) (n + 1) c ∧ w1 = W1.setCells b i [.int .u32 key] ∧ Ins w (.slice (some ⟨b, 0, none⟩) n c) (K.take i ++ key :: K.drop i) v1 w1 := ⟨_, _, rfl, rfl, R⟩
  obtain ⟨v1, w1, hv1, hw1, R⟩ := R'
  rw [← hw1] at hcp2
  unfold InsC
  rw [← hW]
  have HR := Lib.hid R
  clear R hW hown hoth hk0 hg hgv hsp hfz hcs2 hown1 hoth1 hsp1 hk1 hu hw1 hW1
  generalize K.take i ++ key :: K.drop i = R at *
  have mixed : Tryd.prog.follows .mixedOrders = true := by kernel_rfl
  unfold maxLen at _hc63
  have hz2 : ¬ ((i : Int) = (n : Int)) := by omega
  have hwr : IntKind.i64.wrap ((i : Int) + 1) = (i : Int) + 1 := by rw [IntKind.wrap_i64]; omega
  have hb1 : (0 : Int) ≤ (i : Int) + 1 := by omega
  have hin : i ≤ n := by omega
  have htn : ((i : Int) + 1).toNat = i + 1 := by omega
  have hb2 : ¬ (c = i + 1) := by omega
  have hb3 : (i : Int) ≤ (n : Int) + 1 := by omega
  have hb4 : ¬ (c = i) := by omega
  go_enter Tryd.func80, Tryd.ntmps80
  go_wp2_with (simp only [hov])
  go_region_law_o (refine step_copy_runI rfl _ _ 27 27 rfl _ _ (by simp [Act.eval, Act.put]) (by simp [Act.eval, Act.put]) (hcp1 _ _ _) ?_)
  go_wp2_with (at_builtin; refine wpList_copy_runI _ rfl _ _ 27 27 rfl _ _ rfl rfl (hcp2 _ _) ?_)
  go_ret
  subst hv1
  exact ⟨_, rfl, HR.out⟩
set_option maxHeartbeats 4000000 in
set_option maxRecDepth 100000 in
/-- Ahead of the end, and there is no room. -/
theorem kins_grow (K : List Int) (key : Int) (b n c i : Nat) (w : World) (hl : n ≤ 1000000) (hn : K.length = n) (hi : i < n) (hnc : n ≤ c) (hroom : c < n + 1) (h : w.ownsRow 0 42 1 (.slice (some ⟨b, 0, none⟩) n c) n (K.flatMap kv)) : InsC w (.slice (some ⟨b, 0, none⟩) n c) K i key := by
  obtain ⟨i0, hi0, hz0, hzs, hzb⟩ := info_parts info_kk
  have hsi : (Tryd.prog.info? 42).map (·.size) = some 1 := by rw [hi0]; simp [hzs]
  obtain ⟨W, hW⟩ : ∃ W, W = w.alloc (.cells #[.int .u32 key] 42) := ⟨_, rfl⟩
  have hown : W.ownsRow 0 42 1 (.slice (some ⟨b, 0, none⟩) n c) n (K.flatMap kv) := by rw [hW]; exact h.alloc _
  have hoth : Oth (fun k => (Value.slice (some ⟨b, 0, none⟩) n c).ownBlock = some k) w W := by rw [hW]; exact oth_alloc (oth_refl _ _) _
  have hsz : W.heap.size = w.heap.size + 1 := by rw [hW]; simp
  have hbw : b < w.heap.size := (h.lt b rfl).2
  have hk0 : W.cell? ⟨w.heap.size, 0, none⟩ = some (.int .u32 key) := by rw [hW, World.cell?_alloc_at _ _ _ _ rfl]; rfl
  have hcl : (K.flatMap kv).length = n := by rw [kvs_len, hn]
  have hdl : ((K.flatMap kv).drop i).length = n - i := by rw [List.length_drop, hcl]
  have hcs2 : ∀ j u, (K.flatMap kv)[j]? = some u → W.cell? ⟨b, j, none⟩ = some u := fun j u hu => by
    have := hown.cells (g := b) rfl j u hu
    rw [add_off, Nat.zero_add] at this
    exact this
  have hold : (Builtin.firstCells i0.size i (.slice (some ⟨b, 0, none⟩) i c)).run Tryd.prog W.drew = .ok ((K.flatMap kv).take i).toArray W.drew := by
    rw [hzs]
    exact run_firstCells_some W.drew 1 i ⟨b, 0, none⟩ i c ((K.flatMap kv).take i) (by rw [List.length_take]; omega) (fun j v hj => by
      rw [add_off, Nat.zero_add]
      rw [List.getElem?_take] at hj
      split at hj
      · exact hcs2 j v hj
      · cases hj)
  have hik : i + (n + 1 - i) = n + 1 := by omega
  obtain ⟨g1, g2⟩ := cap_ok (W := W) (n := n + 1) (c := c) (by omega)
  obtain ⟨G, hG⟩ : ∃ G, G = grownCap W (n + 1) c 42 := ⟨_, rfl⟩
  rw [← hG] at g1 g2
  obtain ⟨ROW, hROW⟩ : ∃ ROW : Array Value, ROW = ((K.flatMap kv).take i).toArray ++ Builtin.zeroCells (Value.int .u32 0).cells (n + 1 - i) ++ Builtin.zeroCells (Value.int .u32 0).cells (G - (n + 1)) := ⟨_, rfl⟩
  have hrs : ROW.size = G := by
    rw [hROW, Array.size_append, Array.size_append, zc_size, zc_size, List.size_toArray, List.length_take]
    omega
  obtain ⟨W1, hW1⟩ : ∃ W1, W1 = W.drew.alloc (.cells ROW 42) := ⟨_, rfl⟩
  have hrz : ∀ ty, (Builtin.append_ #[27, 3] ty #[.slice (some ⟨b, 0, none⟩) i c, .int .i64 ((n : Int) + 1 - (i : Int))]).run Tryd.prog W = .ok (.slice (some ⟨W.heap.size, 0, none⟩) (n + 1) G) W1 := fun ty => by
    have e := Lib.run_append_grow_zeros (P := Tryd.prog) W 27 3 ty 42 i0 _ .i64 .i64 Tryd.underlying27 Tryd.underlying3 hi0 hz0 (some ⟨b, 0, none⟩) i c ((K.flatMap kv).take i) hold (n + 1 - i) (by omega) (by omega) (by omega) (by omega) (by rw [hzb]; omega) (by rw [hzb, hik]; exact growslice_fits hroom (by omega))
    rw [hik, ← hG, ← hROW, ← hW1] at e
    rw [show (n : Int) + 1 - (i : Int) = ((n + 1 - i : Nat) : Int) by omega]
    exact e
  have hg1 : W1.heap[W.heap.size]? = some (.cells ROW 42 (0, 0)) := by rw [hW1]; exact heap_alloc_new W.drew _
  have own1 : W1.ownsRow 0 42 1 (.slice (some ⟨W.heap.size, 0, none⟩) (n + 1) G) (n + 1) (ROW.toList.take (n + 1)) := ⟨by simp [hrs]; omega, .inr ⟨_, G, ROW, rfl, Nat.zero_le _, hg1, g1, g2, by rw [hrs, Nat.mul_one], by rw [Nat.mul_one]⟩⟩
  have oth1 : Oth (fun k => (Value.slice (some ⟨b, 0, none⟩) n c).ownBlock = some k) w W1 := by rw [hW1]; exact oth_alloc (oth_drewed hoth) _
  have hk1 : W1.cell? ⟨w.heap.size, 0, none⟩ = some (.int .u32 key) := by rw [hW1, World.cell?_alloc_past _ _ _ (by show w.heap.size < W.heap.size; omega)]; exact hk0
  have hcs3 : ∀ j u, (K.flatMap kv)[j]? = some u → W1.cell? ⟨b, j, none⟩ = some u := fun j u hu => by
    rw [hW1, World.cell?_alloc_past _ _ _ (by show b < W.heap.size; omega)]
    exact hcs2 j u hu
  have some1 : ∀ j, j < n + 1 → (W1.cell? ⟨W.heap.size, j, none⟩).isSome = true := fun j hj => by
    simp only [World.cell?, hg1]
    rw [Array.getElem?_eq_getElem (by omega)]
    rfl
  have hcpA : ∀ ty dc, (Builtin.copy_ #[27, 27] ty #[.slice (some ⟨W.heap.size, i, none⟩) (n + 1 - i) dc, .slice (some ⟨w.heap.size, 0, none⟩) 1 1]).run Tryd.prog W1 = .ok (goInt 1) (W1.setCells W.heap.size i [.int .u32 key]) := fun ty dc =>
    run_copy_cells W1 _ _ ty 42 W.heap.size i (n + 1 - i) dc ⟨w.heap.size, 0, none⟩ 1 1 [.int .u32 key] Tryd.underlying27 hsi (by simp only [List.length_singleton, Nat.min_def]; split <;> omega)
      (fun j v hj => by
        cases j with
        | zero => simp at hj; subst hj; exact hk1
        | succ j => simp at hj)
      (fun j hj => by simp at hj; subst hj; exact some1 _ (by omega)) (fun j hj => own1.frozenAt _) (fun v hv => by simp at hv; subst hv; rfl)
  obtain ⟨W2, hW2⟩ : ∃ W2, W2 = W1.setCells W.heap.size i [.int .u32 key] := ⟨_, rfl⟩
  rw [← hW2] at hcpA
  have own2 := own_over [Value.int .u32 key] i W1 _ own1 (by simp; omega)
  rw [← hW2] at own2
  have hcs4 : ∀ j u, (K.flatMap kv)[j]? = some u → W2.cell? ⟨b, j, none⟩ = some u := fun j u hu => by
    rw [hW2, World.cell?_setCells_out _ _ _ _ _ (fun e _ => absurd e (show b ≠ W.heap.size by omega))]
    exact hcs3 j u hu
  have some2 : ∀ j, j < n + 1 → (W2.cell? ⟨W.heap.size, j, none⟩).isSome = true := fun j hj => by
    rw [hW2]
    exact isSome_setCells _ _ _ _ (fun t ht => by simp at ht; subst ht; exact some1 _ (by omega)) _ (some1 j hj)
  have hcpB : ∀ ty dc sc, (Builtin.copy_ #[27, 27] ty #[.slice (some ⟨W.heap.size, i + 1, none⟩) (n - i) dc, .slice (some ⟨b, i, none⟩) (n - i) sc]).run Tryd.prog W2.drew = .ok (goInt ((K.flatMap kv).drop i).length) (W2.drew.setCells W.heap.size (i + 1) ((K.flatMap kv).drop i)) := fun ty dc sc =>
    run_copy_cells W2.drew _ _ ty 42 W.heap.size (i + 1) (n - i) dc ⟨b, i, none⟩ (n - i) sc ((K.flatMap kv).drop i) Tryd.underlying27 hsi (by rw [hdl]; simp only [Nat.min_def]; split <;> omega)
      (fun j v hj => by rw [add_off]; exact hcs4 (i + j) v (by rwa [List.getElem?_drop] at hj))
      (fun j hj => some2 _ (by omega)) (fun j hj => own2.frozenAt _) (fun v hv => kvs_one K v (List.mem_of_mem_drop hv))
  have own3 := own_over ((K.flatMap kv).drop i) (i + 1) W2.drew _ (own_drewN (m := 1) own2) (by omega)
  have oth2 : Oth (fun k => (Value.slice (some ⟨b, 0, none⟩) n c).ownBlock = some k) w W2 := by
    rw [hW2]
    refine ⟨oth1.os, oth1.output, by rw [show W1.setCells W.heap.size i [Value.int .u32 key] = W1.setCell ⟨W.heap.size, i, none⟩ (.int .u32 key) from rfl, World.size_setCell]; exact oth1.size, fun k hk hq => ?_⟩
    rw [show W1.setCells W.heap.size i [Value.int .u32 key] = W1.setCell ⟨W.heap.size, i, none⟩ (.int .u32 key) from rfl, Below.heap_setCell _ _ _ _ (show k ≠ W.heap.size by omega)]
    exact oth1.block k hk hq
  have oth3 : Oth (fun k => (Value.slice (some ⟨b, 0, none⟩) n c).ownBlock = some k) w (W2.drew.setCells W.heap.size (i + 1) ((K.flatMap kv).drop i)) := by
    have q : Oth (fun k => (Value.slice (some ⟨b, 0, none⟩) n c).ownBlock = some k ∨ k = W.heap.size) w (W2.drew.setCells W.heap.size (i + 1) ((K.flatMap kv).drop i)) := oth_setCells _ (.inr rfl) _ _ _ ⟨oth2.os, oth2.output, oth2.size, fun k hk hq => oth2.block k hk (fun e => hq (.inl e))⟩
    exact ⟨q.os, q.output, q.size, fun k hk hq => q.block k hk (fun e => e.elim hq (fun e => by omega))⟩
  have R : Ins w (.slice (some ⟨b, 0, none⟩) n c) (K.take i ++ key :: K.drop i) (.slice (some ⟨W.heap.size, 0, none⟩) (n + 1) G) (W2.drew.setCells W.heap.size (i + 1) ((K.flatMap kv).drop i)) := by
    have hlen : (K.take i ++ key :: K.drop i).length = n + 1 := by simp [hn]; omega
    refine ⟨?_, oth3, fun k hk => .inr (by injection hk with hk; have e : W.heap.size = k := hk; omega)⟩
    rw [hlen]
    have l2 : ((K.flatMap kv).take i).length = i := by rw [List.length_take]; omega
    have tr : (ROW.toList.take (n + 1)).take i = (K.flatMap kv).take i := by
      rw [List.take_take, Nat.min_eq_left (by omega), hROW, Array.toList_append, Array.toList_append, List.append_assoc]
      exact List.take_left' l2
    have lr : (ROW.toList.take (n + 1)).length = n + 1 := by simp [hrs]; omega
    have e : overL (overL (ROW.toList.take (n + 1)) i [Value.int .u32 key]) (i + 1) ((K.flatMap kv).drop i) = (K.take i ++ key :: K.drop i).flatMap kv := by
      unfold overL
      rw [tr, List.flatMap_append, List.flatMap_cons, ← kvs_take, ← kvs_drop]
      have l3 : ((K.flatMap kv).take i ++ [Value.int .u32 key]).length = i + 1 := by simp [hcl]; omega
      rw [List.take_left' l3, show ((K.flatMap kv).take i ++ [Value.int .u32 key] ++ (ROW.toList.take (n + 1)).drop (i + [Value.int .u32 key].length)).drop (i + 1 + ((K.flatMap kv).drop i).length) = [] from List.drop_eq_nil_of_le (by rw [List.length_append, l3, List.length_drop, lr, hdl, List.length_singleton]; omega)]
      simp [kv]
    rw [e] at own3
    exact own3
  obtain ⟨w1, hw1⟩ : ∃ w1, w1 = W2.drew.setCells W.heap.size (i + 1) ((K.flatMap kv).drop i) := ⟨_, rfl⟩
  rw [← hw1] at hcpB R
  unfold InsC
  rw [← hW]
  have HR := Lib.hid R
  obtain ⟨N, hN⟩ : ∃ N, N = W.heap.size := ⟨_, rfl⟩
  rw [← hN] at hrz hcpA hcpB HR
  clear R hW hown hoth hk0 hsz hcs2 hold hROW hrs hW1 hg1 own1 oth1 hk1 hcs3 some1 hW2 own2 hcs4 some2 own3 oth2 oth3 hw1 hik hG hN hbw h
  generalize K.take i ++ key :: K.drop i = R at *
  have mixed : Tryd.prog.follows .mixedOrders = true := by kernel_rfl
  unfold maxLen at g2
  have hz2 : ¬ ((i : Int) = (n : Int)) := by omega
  have hz3 : (c : Int) < (n : Int) + 1 := by omega
  have hwr : IntKind.i64.wrap ((i : Int) + 1) = (i : Int) + 1 := by rw [IntKind.wrap_i64]; omega
  have hb1 : (0 : Int) ≤ (i : Int) + 1 := by omega
  have hin : i ≤ n := by omega
  have htn : ((i : Int) + 1).toNat = i + 1 := by omega
  have hGi : ¬ (G = i) := by omega
  have hGim : ¬ (G = i + 1) := by omega
  have hci : ¬ (c = i) := by omega
  have hb3 : (i : Int) ≤ (n : Int) := by omega
  go_enter Tryd.func80, Tryd.ntmps80
  go_wp2_with (first
    | (at_builtin; refine Lib.wpList_append_run _ rfl _ _ _ _ rfl _ _ rfl rfl _ _ (hrz _) ?_)
    | (at_builtin; refine wpList_copy_runI _ rfl _ _ 27 27 rfl _ _ rfl rfl (hcpA _ _) ?_))
  go_region_law_o (refine step_copy_runI rfl _ _ 27 27 rfl _ _ (by simp [Act.eval, Act.put]) (by simp [Act.eval, Act.put]) (hcpB _ _ _) ?_)
  go_wp2
  go_ret
  exact ⟨_, rfl, HR.out⟩
/-- One key put into a list of the call's own. -/
theorem kins (K : List Int) (key : Int) (i : Nat) (v : Value) (w : World) (hl : K.length ≤ 1000000) (hi : i ≤ K.length) (h : w.ownsRow 0 42 1 v K.length (K.flatMap kv)) : InsC w v K i key := by
  by_cases c : i = K.length
  · subst c
    exact kins_end K key v w hl h
  · rcases h.2 with ⟨_, q⟩ | ⟨g, cap, cur, rfl, _, _, h1, h2, _⟩
    · omega
    · by_cases r : K.length + 1 ≤ cap
      · exact kins_shift K key g K.length cap i w hl rfl (by omega) r h2 h
      · exact kins_grow K key g K.length cap i w hl rfl (by omega) h1 (by omega) h
set_option maxRecDepth 100000 in
/-- A key put in its place, unless it is there. -/
theorem kwith (K : List Int) (key : Int) (v : Value) (w : World) (hl : K.length ≤ 1000000) (asc : SortS kless K) (h : w.ownsRow 0 42 1 v K.length (K.flatMap kv)) :
    Calls Tryd.prog 63 #[v, .int .u32 key] w fun e w' => ∃ v', e = .returned v' ∧ Ins w v (putS kless K key) v' w' := by
  have CI := Lib.hid (kins K key (lessN K key) v w hl (lessN_le K key) h)
  have hq := own_sq kv_len h
  obtain ⟨base, cap, rfl⟩ := hq.shape
  have CS := Lib.hid (ksearch base cap K key w hq hl asc)
  by_cases c : key ∈ K
  · have R : Ins w (.slice base K.length cap) (putS kless K key) (.slice base K.length cap) w := by
      rw [putS_has asc c]
      exact ⟨h, oth_refl _ _, fun k hk => .inl hk⟩
    have HR := Lib.hid R
    rw [decide_eq_true c] at CS
    generalize putS kless K key = R at *
    generalize K.length = n at *
    clear h hq hl c R CI
    generalize lessN K key = t at *
    go_enter Tryd.func63, Tryd.ntmps63
    go_wp2_with ((with_reducible refine (CS.out).mono ?_); rintro e w' ⟨rfl, rfl⟩)
    go_ret
    exact ⟨_, rfl, HR.out⟩
  · unfold InsC at CI
    rw [← putS_new asc c] at CI
    rw [decide_eq_false c] at CS
    generalize putS kless K key = R at *
    generalize K.length = n at *
    clear h hq hl c
    generalize lessN K key = t at *
    go_enter Tryd.func63, Tryd.ntmps63
    go_wp2_with (first
      | ((with_reducible refine (CS.out).mono ?_); rintro e w' ⟨rfl, rfl⟩)
      | ((with_reducible refine (CI.out).mono ?_); rintro e w2 ⟨v2, rfl, r2⟩; have R2 := Lib.hid r2; clear r2))
    go_ret
    exact ⟨_, rfl, R2.out⟩
end Go.Proofs.YtnmnbogjnjbopaaDoor
