/-
  Package step: moved views, and a body that touches nothing (no program).
-/
import Derived.Test.YtaknmlohnifcdaaGreatDoorJ19CtsMath
import Derived.Test.YtaknmlohnifcdaaGreatDoorJ18ViewMath
namespace Go.Proofs.YtaknmlohnifcdaaGreatDoor
open Go.RowKit Go.Lib

/-- The sums of rounds and the shifts, for bodies that look alike to the contacts. -/
theorem sumJ_like {A B : List Bd} {C : List Ct} {x y : Bd} (hk : y.k = x.k) (hm : y.m = x.m) (h : ∀ c ∈ C, stJ B c = stJ A c) (f : Ct → Int) : sumJ f B C y = sumJ f A C x := by
  unfold sumJ
  refine congrArg isum (List.map_congr_left fun c hc => ?_)
  unfold conJ
  rw [h c hc, hk, hm]
theorem rndB_like {A B : List Bd} {C : List Ct} {x : Bd} (h : ∀ c ∈ C, stJ B c = stJ A c) : rndB B C x = rndB A C x := by
  unfold rndB rndX rndY
  rw [sumJ_like (x := x) rfl rfl h, sumJ_like (x := x) rfl rfl h]
/-- Another place. -/
theorem bdK_mv (dx dy : Int) {L : List Bd} {k : Int} (h : (look L k).isSome = true) : bdK (L.map (mvB dx dy)) k = mvB dx dy (bdK L k) := by
  obtain ⟨x, hx⟩ := Option.isSome_iff_exists.1 h
  rw [bdK_eq hx, bdK_eq (x := mvB dx dy x) (by rw [look_map (g := mvB dx dy) (fun _ => rfl), hx]; rfl)]
theorem stJ_mv (dx dy : Int) {L : List Bd} {c : Ct} (h : RgC L c) : stJ (L.map (mvB dx dy)) c = stJ L c := by
  unfold stJ
  rw [bdK_mv dx dy h.lo, bdK_mv dx dy h.hi]
  rfl
theorem rnd_mv (dx dy : Int) {L : List Bd} {C : List Ct} (h : ∀ c ∈ C, RgC L c) : rndL (L.map (mvB dx dy)) C = (rndL L C).map (mvB dx dy) := by
  unfold rndL
  rw [List.map_map, List.map_map]
  refine List.map_congr_left fun x _ => ?_
  show rndB (L.map (mvB dx dy)) C (mvB dx dy x) = mvB dx dy (rndB L C x)
  unfold rndB rndX rndY
  rw [sumJ_like (x := x) (y := mvB dx dy x) rfl rfl (fun c hc => stJ_mv dx dy (h c hc)), sumJ_like (x := x) (y := mvB dx dy x) rfl rfl (fun c hc => stJ_mv dx dy (h c hc))]
  rfl
theorem slv_mv (dx dy : Int) {L : List Bd} {C : List Ct} (h : ∀ c ∈ C, RgC L c) : ∀ n, (slvN C (L.map (mvB dx dy)) n).1 = (slvN C L n).1.map (mvB dx dy)
  | 0 => rfl
  | n + 1 => by
    show rndL (slvN C (L.map (mvB dx dy)) n).1 C = (rndL (slvN C L n).1 C).map _
    rw [slv_mv dx dy h n, rnd_mv dx dy fun c hc => rgc_slv (h c hc) n]
theorem grvB_mv (dx dy : Int) (x : Bd) : grvB (mvB dx dy x) = mvB dx dy (grvB x) := by
  unfold grvB
  by_cases h : 0 < x.m
  · rw [if_pos h, if_pos (show 0 < (mvB dx dy x).m from h)]
    rfl
  · rw [if_neg h, if_neg (show ¬ 0 < (mvB dx dy x).m from h)]
theorem stpV_mv (dx dy : Int) {L : List Bd} (h : Vw L) : stpV (L.map (mvB dx dy)) = (stpV L).map (mvB dx dy) := by
  unfold stpV
  rw [cons_mv, ← slv_mv dx dy (jarg_stp h).rg]
  congr 2
  unfold stpG
  rw [List.map_map, List.map_map]
  exact List.map_congr_left fun x _ => grvB_mv dx dy x
theorem stpS_mv (dx dy : Int) {L : List Bd} (h : Vw L) : stpS (L.map (mvB dx dy)) = stpS L := by
  unfold stpS shfL
  rw [cons_mv, List.map_map]
  refine List.map_congr_left fun x _ => ?_
  have q : ∀ f : Ct → Int, shfI f (L.map (mvB dx dy)) (consL L) (mvB dx dy x) = shfI f L (consL L) x := fun f => by
    unfold shfI
    refine congrArg isum (List.map_congr_left fun c hc => ?_)
    have r := rsc_cons h c hc
    unfold conS
    rw [bdK_mv dx dy r.lo, bdK_mv dx dy r.hi]
    rfl
  show shfB (L.map (mvB dx dy)) (consL L) (mvB dx dy x) = shfB L (consL L) x
  unfold shfB
  rw [q, q]
theorem mtC_false {x : Bd} {s : Sh} (h : mtC x s = false) : limW (mtX x s) = mtX x s ∧ limW (mtY x s) = mtY x s := by
  unfold mtC at h
  rw [Bool.or_eq_false_iff] at h
  have h1 := of_decide_eq_false h.1
  have h2 := of_decide_eq_false h.2
  exact ⟨Classical.byContradiction fun q => h1 q, Classical.byContradiction fun q => h2 q⟩
theorem mtB_mv (dx dy : Int) {x : Bd} {s : Sh} (h : mtC x s = false) (k : mtC (mvB dx dy x) s = false) : mtB (mvB dx dy x) s = mvB dx dy (mtB x s) := by
  have h1 := mtC_false h
  have k1 := mtC_false k
  have e1 : mtX (mvB dx dy x) s = mtX x s + dx := by unfold mtX mvB; dsimp only; omega
  have e2 : mtY (mvB dx dy x) s = mtY x s + dy := by unfold mtY mvB; dsimp only; omega
  unfold mtB
  rw [h1.1, h1.2, k1.1, k1.2, e1, e2]
  rfl
theorem mtL_mv (dx dy : Int) : ∀ {V : List Bd} {S : List Sh}, (mtA V S).any id = false → (mtA (V.map (mvB dx dy)) S).any id = false → mtL (V.map (mvB dx dy)) S = (mtL V S).map (mvB dx dy)
  | [], _, _, _ => rfl
  | _ :: _, [], _, _ => rfl
  | x :: V, s :: S, h, k => by
    have h : (mtC x s || (mtA V S).any id) = false := h
    have k : (mtC (mvB dx dy x) s || (mtA (V.map (mvB dx dy)) S).any id) = false := k
    rw [Bool.or_eq_false_iff] at h k
    show mtB (mvB dx dy x) s :: mtL (V.map (mvB dx dy)) S = mvB dx dy (mtB x s) :: (mtL V S).map (mvB dx dy)
    rw [mtB_mv dx dy h.1 k.1, mtL_mv dx dy h.2 k.2]
theorem stpC_false {L : List Bd} (h : stpC L = false) : (mtA (stpV L) (stpS L)).any id = false := by
  unfold stpC at h
  rw [Bool.or_eq_false_iff] at h
  exact h.2
/-- Moving commutes with a step. -/
theorem stp_mv (dx dy : Int) {L : List Bd} (h : Vw L) (c1 : stpC L = false) (c2 : stpC (L.map (mvB dx dy)) = false) : stpL (L.map (mvB dx dy)) = (stpL L).map (mvB dx dy) := by
  have h2 := stpC_false c2
  unfold stpL
  rw [stpV_mv dx dy h, stpS_mv dx dy h] at h2 ⊢
  exact mtL_mv dx dy (stpC_false c1) h2
/-- Without a body whose key no contact has. -/
theorem look_filt {q key : Int} (hq : key ≠ q) : ∀ A : List Bd, look (A.filter fun y => decide (y.k ≠ q)) key = look A key
  | [] => rfl
  | x :: A => by
    by_cases c : x.k = q
    · rw [List.filter_cons_of_neg (by simp [c]), look_filt hq A]
      show _ = if x.k = key then some x else look A key
      rw [if_neg (by omega)]
    · rw [List.filter_cons_of_pos (p := fun y : Bd => decide (y.k ≠ q)) (decide_eq_true c)]
      show (if x.k = key then some x else look _ key) = if x.k = key then some x else look A key
      rw [look_filt hq A]
theorem bdK_filt {q key : Int} (hq : key ≠ q) (A : List Bd) : bdK (A.filter fun y => decide (y.k ≠ q)) key = bdK A key := by unfold bdK; rw [look_filt hq]
theorem stJ_filt {q : Int} {c : Ct} (h : c.lo ≠ q ∧ c.hi ≠ q) (A : List Bd) : stJ (A.filter fun y => decide (y.k ≠ q)) c = stJ A c := by unfold stJ; rw [bdK_filt h.1, bdK_filt h.2]
theorem rnd_filt {q : Int} {C : List Ct} (h : ∀ c ∈ C, c.lo ≠ q ∧ c.hi ≠ q) (A : List Bd) : rndL (A.filter fun y => decide (y.k ≠ q)) C = (rndL A C).filter fun y => decide (y.k ≠ q) := by
  unfold rndL
  rw [List.filter_map]
  exact List.map_congr_left fun x _ => rndB_like fun c hc => stJ_filt (h c hc) A
theorem slv_filt {q : Int} {C : List Ct} (h : ∀ c ∈ C, c.lo ≠ q ∧ c.hi ≠ q) (A : List Bd) : ∀ n, (slvN C (A.filter fun y => decide (y.k ≠ q)) n).1 = (slvN C A n).1.filter fun y => decide (y.k ≠ q)
  | 0 => rfl
  | n + 1 => by
    show rndL (slvN C (A.filter fun y => decide (y.k ≠ q)) n).1 C = (rndL (slvN C A n).1 C).filter _
    rw [slv_filt h A n, rnd_filt h]
theorem shf_unused {f : Ct → Int} {L : List Bd} {C : List Ct} {x : Bd} (h : ∀ c ∈ C, c.lo ≠ x.k ∧ c.hi ≠ x.k) : shfI f L C x = 0 := by
  unfold shfI
  refine isum_zero fun a ha => ?_
  obtain ⟨c, hc, rfl⟩ := List.mem_map.1 ha
  unfold conS
  rw [if_neg (h c hc).1, if_neg (h c hc).2]
theorem drop_k {α β : Type} (f : α → β) (L : List α) (k : Nat) : (L.take k ++ L.drop (k + 1)).map f = (L.map f).take k ++ (L.map f).drop (k + 1) := by rw [List.map_append, List.map_take, List.map_drop]
section
variable {L : List Bd} {k : Nat} {x : Bd}
theorem cons_lone (h : Vw L) (hx : L[k]? = some x) (hl : ∀ c ∈ consL L, c.lo ≠ x.k ∧ c.hi ≠ x.k) : consL (L.take k ++ L.drop (k + 1)) = consL L := by
  rw [cons_gone h.asc hx]
  exact List.filter_eq_self.2 fun c hc => decide_eq_true (hl c hc)
theorem stpV_at (h : Vw L) (hx : L[k]? = some x) : ∃ y, (stpV L)[k]? = some y ∧ SmJ (grvB x) y ∧ ((∀ c ∈ consL L, c.lo ≠ x.k ∧ c.hi ≠ x.k) → y = grvB x) := by
  have hg : (stpG L)[k]? = some (grvB x) := by unfold stpG; rw [List.getElem?_map, hx]; rfl
  have vb := vb_of ((vw_G h).ok _ (List.mem_of_getElem? hg))
  obtain ⟨y, hy, sm, _, hs⟩ := slv_at (C := consL L) vb hg 4
  refine ⟨y, hy, sm, fun hl => ?_⟩
  have v := hs (.inr (by rw [grvB_k]; exact hl))
  obtain ⟨a1, a2, a3, a4, a5, a6, a7, a8⟩ := sm
  cases y
  generalize grvB x = g at *
  cases g
  dsimp only at *
  rw [a1, a2, a3, a4, a5, a6, a7, a8, v.1, v.2]
/-- A body that touches nothing moves freely. -/
theorem stp_free (h : Vw L) (hx : L[k]? = some x) (hl : ∀ c ∈ consL L, c.lo ≠ x.k ∧ c.hi ≠ x.k) : (stpL L)[k]? = some (frB x) := by
  obtain ⟨y, hy, _, e⟩ := stpV_at h hx
  have hs : (stpS L)[k]? = some (0, 0) := by
    unfold stpS shfL
    rw [List.getElem?_map, hx]
    show some (shfB L (consL L) x) = _
    unfold shfB
    rw [shf_unused hl, shf_unused hl]
  unfold stpL
  rw [mtL_at hy hs, e hl]
  rfl
/-- The other bodies are as without it. -/
theorem stp_rest (h : Vw L) (hx : L[k]? = some x) (hl : ∀ c ∈ consL L, c.lo ≠ x.k ∧ c.hi ≠ x.k) : stpL (L.take k ++ L.drop (k + 1)) = (stpL L).take k ++ (stpL L).drop (k + 1) := by
  have hc := cons_lone h hx hl
  have hG : stpG (L.take k ++ L.drop (k + 1)) = (stpG L).filter fun y => decide (y.k ≠ x.k) := by
    have g : (stpG L)[k]? = some (grvB x) := by unfold stpG; rw [List.getElem?_map, hx]; rfl
    have e := gone_at (vw_G h).asc g
    rw [grvB_k] at e
    rw [← e]
    exact drop_k grvB L k
  have hV : stpV (L.take k ++ L.drop (k + 1)) = (stpV L).take k ++ (stpV L).drop (k + 1) := by
    obtain ⟨y, hy, sm, _⟩ := stpV_at h hx
    have e := gone_at (vw_V h).asc hy
    rw [sm.k, grvB_k] at e
    rw [e]
    unfold stpV
    rw [hc, hG, slv_filt hl]
  have hS : stpS (L.take k ++ L.drop (k + 1)) = (stpS L).take k ++ (stpS L).drop (k + 1) := by
    unfold stpS shfL
    rw [hc, ← drop_k]
    refine List.map_congr_left fun z _ => ?_
    have q : ∀ f : Ct → Int, shfI f (L.take k ++ L.drop (k + 1)) (consL L) z = shfI f L (consL L) z := fun f => by
      unfold shfI
      refine congrArg isum (List.map_congr_left fun c hc => ?_)
      rw [gone_at h.asc hx]
      unfold conS
      rw [bdK_filt (hl c hc).1, bdK_filt (hl c hc).2]
    unfold shfB
    rw [q, q]
  have ll := lenS L
  unfold stpL
  rw [hV, hS]
  unfold mtL
  rw [List.zipWith_append (by rw [List.length_take, List.length_take, ll]), List.take_zipWith, List.drop_zipWith]
/-- A body in no pair touches nothing. -/
theorem lone_cons (h : Vw L) (hx : L[k]? = some x) (hl : lonB L x.k = true) : ∀ c ∈ consL L, c.lo ≠ x.k ∧ c.hi ≠ x.k := fun c hc => by
  rw [lon_rest h.asc hx, decide_eq_true_iff, List.length_filter_eq_length_iff] at hl
  obtain ⟨u, hu, v, hv, hk, ht, rfl⟩ := (cons_mem h.asc c).1 hc
  exact of_decide_eq_true (hl _ ((pairs_mem h.asc _).2 ⟨u, hu, v, hv, hk, tch_ov (h.ok u hu) (h.ok v hv) ht, rfl⟩))
end
/-- What a step keeps of a body. -/
theorem stp_at {L : List Bd} {i : Nat} {x : Bd} (h : Vw L) (hx : L[i]? = some x) : ∃ a b c d, (stpL L)[i]? = some ⟨x.k, x.r, x.ax, x.ay, x.m, x.o, a, b, c, d⟩ := by
  obtain ⟨y, hy, sm, _⟩ := stpV_at h hx
  have g : (grvB x).k = x.k ∧ (grvB x).r = x.r ∧ (grvB x).ax = x.ax ∧ (grvB x).ay = x.ay ∧ (grvB x).m = x.m ∧ (grvB x).o = x.o := by
    unfold grvB
    split <;> exact ⟨rfl, rfl, rfl, rfl, rfl, rfl⟩
  obtain ⟨g1, g2, g3, g4, g5, g6⟩ := g
  have hl : i < (stpS L).length := by rw [lenS]; exact (List.getElem?_eq_some_iff.1 hy).1
  unfold stpL
  rw [mtL_at hy (List.getElem?_eq_getElem hl)]
  generalize (stpS L)[i] = s
  refine ⟨limW (mtX y s), limW (mtY y s), y.vx, y.vy, ?_⟩
  unfold mtB plB
  rw [sm.k, sm.r, sm.ax, sm.ay, sm.m, sm.o, g1, g2, g3, g4, g5, g6]
theorem stpN_at {L : List Bd} {i : Nat} {x : Bd} (h : Vw L) (hx : L[i]? = some x) : ∀ n, ∃ a b c d, (stpN L n)[i]? = some ⟨x.k, x.r, x.ax, x.ay, x.m, x.o, a, b, c, d⟩
  | 0 => ⟨x.px, x.py, x.vx, x.vy, hx⟩
  | n + 1 => by
    obtain ⟨_, _, _, _, e⟩ := stpN_at h hx n
    have := stp_at (vw_N h n) e
    exact this
theorem stpL_len (L : List Bd) : (stpL L).length = L.length := by unfold stpL; rw [mtL_len (lenS L), lenV]
theorem stpN_len (L : List Bd) : ∀ n, (stpN L n).length = L.length
  | 0 => rfl
  | n + 1 => by
    show (stpL (stpN L n)).length = _
    rw [stpL_len, stpN_len L n]
end Go.Proofs.YtaknmlohnifcdaaGreatDoor
