/-
  Package grid: the law GridOrder.
-/
import Derived.Test.YtnmnbogjnjbopaaDoorGridFill
import Derived.Deep.DeepCutAuto
namespace Go.Proofs.YtnmnbogjnjbopaaDoor
open Go.RowKit Go.Lib

theorem ord_mem (L : List Ent) (k : Nat) (x : Ent) : x ∈ (L.drop k ++ L.take k) ++ (L.drop k).take 1 ↔ x ∈ L := by
  have h : x ∈ L ↔ x ∈ L.take k ∨ x ∈ L.drop k := by rw [← List.mem_append, List.take_append_drop]
  rw [List.mem_append, List.mem_append, h]
  refine ⟨fun q => ?_, fun q => ?_⟩
  · rcases q with (q | q) | q
    · exact .inr q
    · exact .inl q
    · exact .inr (List.mem_of_mem_take q)
  · rcases q with q | q
    · exact .inl (.inr q)
    · exact .inl (.inl q)
theorem cand_ext {L M : List Ent} (h : ∀ x, x ∈ M ↔ x ∈ L) : candL M = candL L := SortS.ext pless_strict (candL_spec M).1 (candL_spec L).1 fun p => by
  rw [(candL_spec M).2, (candL_spec L).2]
  exact ⟨fun ⟨x, hx, y, hy, q⟩ => ⟨x, (h x).1 hx, y, (h y).1 hy, q⟩, fun ⟨x, hx, y, hy, q⟩ => ⟨x, (h x).2 hx, y, (h y).2 hy, q⟩⟩
theorem at_ext {L M : List Ent} {n : Int} (h : ∀ x, x ∈ M ↔ x ∈ L) : atL M n = atL L n := SortS.ext kless_strict (atL_spec M n).1 (atL_spec L n).1 fun p => by
  rw [(atL_spec M n).2, (atL_spec L n).2]
  exact ⟨fun ⟨x, hx, q⟩ => ⟨x, (h x).1 hx, q⟩, fun ⟨x, hx, q⟩ => ⟨x, (h x).2 hx, q⟩⟩
theorem ord_len {L : List Ent} {k : Nat} (h : k < L.length) : ((L.drop k ++ L.take k) ++ (L.drop k).take 1).length = L.length + 1 := by simp; omega
theorem sq_take {α : Type} {f : α → List Value} {n : Nat} {w : World} {L : List α} {b : Option Addr} {m c c' k : Nat} (h : Sq f n w (.slice b m c) L) (hk : k ≤ L.length) : Sq f n w (.slice b k c') (L.take k) := by
  obtain ⟨base, cap, e, hc⟩ := h
  injection e with e1 e2 e3
  subst e1
  refine ⟨b, c', by rw [List.length_take, Nat.min_eq_left hk], fun j x hx => hc j x ?_⟩
  rw [List.getElem?_take] at hx
  split at hx
  · exact hx
  · cases hx
theorem sq_lt_size {α : Type} {f : α → List Value} {n : Nat} (hf : ∀ x, (f x).length = n) (hn : 0 < n) {w : World} {L : List α} {g o m c : Nat} (hL : 0 < L.length) (h : Sq f n w (.slice (some ⟨g, o, none⟩) m c) L) : g < w.heap.size := by
  obtain ⟨base, cap, e, hc⟩ := h
  injection e with e1 e2 e3
  subst e1
  obtain ⟨g', o', e, hi⟩ := hc 0 _ (List.getElem?_eq_getElem hL)
  injection e with e
  injection e with e1 e2
  subst e1
  have hx : 0 < (f (L[0]'hL)).length := by rw [hf]; exact hn
  exact World.block_lt_of_cell? _ _ (hi 0 _ (List.getElem?_eq_getElem hx))
theorem off_ne {S : Nat → Prop} {g o m c : Nat} (h : ¬ S g) : Off S (.slice (some ⟨g, o, none⟩) m c) := fun j e => by
  simp [Value.ownBlock] at e
  subst e
  exact h
set_option maxRecDepth 100000 in
set_option maxHeartbeats 2000000 in
theorem gdl_bad (AW : Hid GAwake) (t px py : Int) (L : List Ent) (hl9 : L.length ≤ 9223372036854775807) (HF : Hid (∀ x ∈ L, FitE x)) (v : Value) (w : World) (F0 : Fac w) (hq : Sq ev 5 w v L) (hfew : fewB L = false) : Calls Tryd.prog 5 #[v, .int .u8 t, .agg #[.int .i32 px, .int .i32 py]] w fun e w' => e = .returned (.bool true) ∧ Kep w.heap.size w w' := by
  obtain ⟨base, cap, rfl⟩ := hq.shape
  have HQ := Lib.hid hq
  clear hq
  have FW : Hid (∀ v w, Sq ev 5 w v L → Calls Tryd.prog 14 #[v] w fun e w' => e = .returned (.bool false) ∧ Kep w.heap.size w w') := Lib.hid (fun v w h => by have := rfw L hl9 HF v w h; rw [hfew] at this; exact this)
  go_enter Tryd.func5, Tryd.ntmps5
  go_wp2_with (first
    | ((with_reducible refine (AW.out _ (F0.kep (by (repeat (first | with_reducible assumption | refine kep_more ?_ _ | refine kep_drew ?_ | exact Kep.refl _ _))))).mono ?_); rintro e w1 ⟨rfl, g1⟩
       first
         | (replace gg := kep_next gg g1)
         | (have n0 := Kep.all g1 (a := ⟨w.heap.size, 0, none⟩) (v := .int .i32 px) (by (repeat (first | rw [World.cell?_drew] | rw [World.cell?_alloc_past _ _ _ (by first | (simp; done) | (simp; omega))])); rw [World.cell?_alloc_at _ _ _ _ (by simp)]; rfl)
            have n1 := Kep.all g1 (a := ⟨w.heap.size, 1, none⟩) (v := .int .i32 py) (by (repeat (first | rw [World.cell?_drew] | rw [World.cell?_alloc_past _ _ _ (by first | (simp; done) | (simp; omega))])); rw [World.cell?_alloc_at _ _ _ _ (by simp)]; rfl)
            have gg := kep_next (kep_more (Kep.refl _ _) _) g1
            have ql := HQ.out.kep (kep_next (kep_more (Kep.refl _ _) _) g1)))
    | ((with_reducible refine (FW.out _ _ ql).mono ?_); rintro e w2 ⟨rfl, g2⟩
       replace ql := ql.kep g2
       replace n0 := Kep.all g2 (a := ⟨w.heap.size, 0, none⟩) (v := .int .i32 px) n0
       replace n1 := Kep.all g2 (a := ⟨w.heap.size, 1, none⟩) (v := .int .i32 py) n1
       replace gg := kep_next gg g2
       have zn_w2 : w.heap.size < w2.heap.size := World.block_lt_of_cell? _ _ n0))
  go_ret
  exact ⟨rfl, gg⟩
set_option maxRecDepth 100000 in
set_option maxHeartbeats 2000000 in
theorem gdl_nil (AW : Hid GAwake) (t px py : Int) (L : List Ent) (hl9 : L.length ≤ 9223372036854775807) (HF : Hid (∀ x ∈ L, FitE x)) (v : Value) (w : World) (F0 : Fac w) (hq : Sq ev 5 w v L) (hfew : fewB L = true) (hnil : L = []) : Calls Tryd.prog 5 #[v, .int .u8 t, .agg #[.int .i32 px, .int .i32 py]] w fun e w' => e = .returned (.bool true) ∧ Kep w.heap.size w w' := by
  obtain ⟨base, cap, rfl⟩ := hq.shape
  have HQ := Lib.hid hq
  clear hq
  have FW : Hid (∀ v w, Sq ev 5 w v L → Calls Tryd.prog 14 #[v] w fun e w' => e = .returned (.bool true) ∧ Kep w.heap.size w w') := Lib.hid (fun v w h => by have := rfw L hl9 HF v w h; rw [hfew] at this; exact this)
  have hl0 : L.length = 0 := by rw [hnil]; rfl
  rw [hl0] at HQ ⊢
  go_enter Tryd.func5, Tryd.ntmps5
  go_wp2_with (first
    | ((with_reducible refine (AW.out _ (F0.kep (by (repeat (first | with_reducible assumption | refine kep_more ?_ _ | refine kep_drew ?_ | exact Kep.refl _ _))))).mono ?_); rintro e w1 ⟨rfl, g1⟩
       first
         | (replace gg := kep_next gg g1)
         | (have n0 := Kep.all g1 (a := ⟨w.heap.size, 0, none⟩) (v := .int .i32 px) (by (repeat (first | rw [World.cell?_drew] | rw [World.cell?_alloc_past _ _ _ (by first | (simp; done) | (simp; omega))])); rw [World.cell?_alloc_at _ _ _ _ (by simp)]; rfl)
            have n1 := Kep.all g1 (a := ⟨w.heap.size, 1, none⟩) (v := .int .i32 py) (by (repeat (first | rw [World.cell?_drew] | rw [World.cell?_alloc_past _ _ _ (by first | (simp; done) | (simp; omega))])); rw [World.cell?_alloc_at _ _ _ _ (by simp)]; rfl)
            have gg := kep_next (kep_more (Kep.refl _ _) _) g1
            have ql := HQ.out.kep (kep_next (kep_more (Kep.refl _ _) _) g1)))
    | ((with_reducible refine (FW.out _ _ ql).mono ?_); rintro e w2 ⟨rfl, g2⟩
       replace ql := ql.kep g2
       replace n0 := Kep.all g2 (a := ⟨w.heap.size, 0, none⟩) (v := .int .i32 px) n0
       replace n1 := Kep.all g2 (a := ⟨w.heap.size, 1, none⟩) (v := .int .i32 py) n1
       replace gg := kep_next gg g2
       have zn_w2 : w.heap.size < w2.heap.size := World.block_lt_of_cell? _ _ n0))
  go_ret
  exact ⟨rfl, gg⟩
set_option maxRecDepth 100000 in
set_option maxHeartbeats 800000 in
theorem gdl_ok {GI : World → Nat → (Nat → Prop) → List Ent → Prop} (O : GOps GI) (AW : Hid GAwake) (t : Int) (ht : 0 ≤ t ∧ t < 256) (px py : Int) (hx : In3 px) (hy : In3 py) (L : List Ent) (hl9 : L.length ≤ 9223372036854775807) (HF : Hid (∀ x ∈ L, FitE x)) (v : Value) (w : World) (F0 : Fac w) (hq : Sq ev 5 w v L) (HU : Hid (∀ x ∈ L, (Lit.int .u32 x.k).wf = true)) (HCAP : ∀ b m c, v = .slice b m c → m ≤ c) (hfew : fewB L = true) (hn0 : 0 < L.length) : Calls Tryd.prog 5 #[v, .int .u8 t, .agg #[.int .i32 px, .int .i32 py]] w fun e w' => e = .returned (.bool true) ∧ Kep w.heap.size w w' := by
  obtain ⟨base, cap, rfl⟩ := hq.shape
  have HQ := Lib.hid hq
  clear hq
  have FW : Hid (∀ v w, Sq ev 5 w v L → Calls Tryd.prog 14 #[v] w fun e w' => e = .returned (.bool true) ∧ Kep w.heap.size w w') := Lib.hid (fun v w h => by have := rfw L hl9 HF v w h; rw [hfew] at this; exact this)
  have hcap := HCAP _ _ _ rfl
  clear HCAP
  obtain ⟨gl, off, rfl⟩ : ∃ gl off, base = some ⟨gl, off, none⟩ := by
    obtain ⟨_, _, he, hc⟩ := HQ.out
    injection he with h1 _ h3
    subst h1
    obtain ⟨g, o, h, _⟩ := hc 0 _ (List.getElem?_eq_getElem hn0)
    exact ⟨g, o, h⟩
  obtain ⟨hm, hcl⟩ := few_ok hfew
  have HOK : Hid (∀ x ∈ L, EntOk x) := Lib.hid (fun x hx => ⟨HU.out x hx, HF.out x hx, hcl x hx⟩)
  have HFC : Hid (∀ x ∈ L, FitE x ∧ (cellsB x.a x.b x.c x.d).length ≤ 1000000) := Lib.hid (fun x hx => ⟨HF.out x hx, by have := hcl x hx; omega⟩)
  have ll : ((L.length : Int) == (L.length : Int)) = true := by simp
  clear hcl
  have hn1 : ((L.length : Int) == 0) = false := beq_false_of_ne (by omega)
  obtain ⟨k, hk⟩ : ∃ k : Nat, t % (L.length : Int) = (k : Int) := ⟨(t % (L.length : Int)).toNat, by have := Int.emod_nonneg t (show (L.length : Int) ≠ 0 by omega); omega⟩
  have hkl : k < L.length := by have := Int.emod_lt_of_pos t (show (0 : Int) < L.length by omega); omega
  have hkc : k < cap := by omega
  have hmem := Lib.hid (ord_mem L k)
  have HOK2 : Hid (∀ x ∈ (L.drop k ++ L.take k) ++ (L.drop k).take 1, EntOk x) := Lib.hid (fun x hx => HOK.out x ((hmem.out x).1 hx))
  have hlH := ord_len hkl
  have t1 : True := trivial
  go_enter Tryd.func5, Tryd.ntmps5
  go_wp2_with (first
    | ((with_reducible refine (AW.out _ (F0.kep (by (repeat (first | with_reducible assumption | refine kep_more ?_ _ | refine kep_drew ?_ | exact Kep.refl _ _))))).mono ?_); rintro e w1 ⟨rfl, g1⟩
       have n0 := Kep.all g1 (a := ⟨w.heap.size, 0, none⟩) (v := .int .i32 px) (by (repeat (first | rw [World.cell?_drew] | rw [World.cell?_alloc_past _ _ _ (by first | (simp; done) | (simp; omega))])); rw [World.cell?_alloc_at _ _ _ _ (by simp)]; rfl)
       have n1 := Kep.all g1 (a := ⟨w.heap.size, 1, none⟩) (v := .int .i32 py) (by (repeat (first | rw [World.cell?_drew] | rw [World.cell?_alloc_past _ _ _ (by first | (simp; done) | (simp; omega))])); rw [World.cell?_alloc_at _ _ _ _ (by simp)]; rfl)
       have gg := kep_next (kep_more (Kep.refl _ _) _) g1
       have ql := HQ.out.kep (kep_next (kep_more (Kep.refl _ _) _) g1)
       have zn_w1 : w.heap.size < w1.heap.size := World.block_lt_of_cell? _ _ n0)
    | ((with_reducible refine (FW.out _ _ ql).mono ?_); rintro e w2 ⟨rfl, g2⟩
       replace ql := ql.kep g2
       replace n0 := Kep.all g2 (a := ⟨w.heap.size, 0, none⟩) (v := .int .i32 px) n0
       replace n1 := Kep.all g2 (a := ⟨w.heap.size, 1, none⟩) (v := .int .i32 py) n1
       replace gg := kep_next gg g2
       have zn_w2 : w.heap.size < w2.heap.size := World.block_lt_of_cell? _ _ n0)
    | ((have _t := t1); refine (fill_any O w2.heap.size (fun j => j = w2.heap.size) [] L _ _ (O.kep (O.new w2 (F0.kep gg)) (kep_more (Kep.refl _ _) _)) (ql.kep (kep_more (kep_more (Kep.refl _ _) _) _)) (fun hl => off_ge ev_len (by decide) ql (fun k q => by omega) hl) HOK.out (by simp; omega)).mono ?_; rintro e w3 ⟨⟨u, rfl⟩, S3, hgi, hm3, ho3⟩
       clear t1 _t
       have hz2 : (w2.alloc (.cells Tryd.zeroCells30 30)).heap.size = w2.heap.size + 1 := by simp
       have hz3 : ((w2.alloc (.cells Tryd.zeroCells30 30)).alloc (.cells Tryd.zeroCells30 30)).heap.size = w2.heap.size + 2 := by simp
       have hhi := O.kept (O.new (w2.alloc (.cells Tryd.zeroCells30 30)) (F0.kep (kep_more gg _))) (fun j hj => ho3.block j (by rw [hz3]; rw [hz2] at hj; omega) (by rw [hz2] at hj; omega)) (O.fac hgi)
       rw [hz2] at hhi
       rw [List.nil_append] at hgi
       have K3 : Kep w2.heap.size w2 w3 := (kep_more (kep_more (Kep.refl _ _) _) _).trans (ho3.kep (by rw [hz3]; omega) (fun k q => by omega))
       have HS3 : Hid (∀ j, S3 j → j = w2.heap.size ∨ w2.heap.size + 2 ≤ j) := Lib.hid (fun j q => by rcases hm3 j q with q | q; exact .inl q; exact .inr (by rw [hz3] at q; exact q))
       have hs3 : w2.heap.size + 2 ≤ w3.heap.size := by have := ho3.size; rw [hz3] at this; exact this
       have HGL : Hid (gl < w2.heap.size) := Lib.hid (sq_lt_size ev_len (by decide) hn0 ql)
       clear hm3 ho3 hz2 hz3)
    | (refine (fill_any O (w2.heap.size + 1) (fun j => j = w2.heap.size + 1) ([]) (L.drop k) _ _ hhi (sq_drop rfl (fun i x h => by obtain ⟨_, _, he, hc⟩ := ql.kep K3; injection he with h1 _ h3; subst h1 h3; exact hc i x h)) (fun _ => off_ne (by have := HGL.out; intro q; first | omega | (dsimp only at q; omega))) (fun x hx => HOK.out x (List.mem_of_mem_drop hx)) (by simp; omega)).mono ?_; rintro e w4 ⟨⟨u, rfl⟩, S4, hhj4, hm, ho⟩
       have hlt3 := Lib.hid (O.lt hgi)
       replace hgi := O.kept hgi (fun j hj => ho.block j (hlt3.out j hj) (fun q => by have a := HS3.out j hj; first | omega | (dsimp only at q; omega))) (O.fac hhj4)
       have HLT : Hid (∀ j, S3 j → j < w3.heap.size) := hlt3
       replace K3 := K3.trans (ho.kep (by have := K3.size; omega) (fun j q => by first | omega | (dsimp only at q; omega)))
       have HS4 : Hid (∀ j, S4 j → j = w2.heap.size + 1 ∨ w3.heap.size ≤ j) := Lib.hid (fun j q => by rcases hm j q with q | q; exact .inl q; exact .inr (by have := hs3; omega))
       have hs4 : w3.heap.size ≤ w4.heap.size := by have := ho.size; omega
       clear hm ho hlt3 hhi)
    | (refine (fill_any O (w2.heap.size + 1) S4 ([] ++ L.drop k) (L.take k) _ _ hhj4 (sq_take (ql.kep K3) (by omega)) (fun _ => off_ne (by have := HGL.out; intro q; have := HS4.out _ q; omega)) (fun x hx => HOK.out x (List.mem_of_mem_take hx)) (by simp; omega)).mono ?_; rintro e w5 ⟨⟨u, rfl⟩, S5, hhj5, hm, ho⟩
       have hlt4 := Lib.hid (O.lt hgi)
       replace hgi := O.kept hgi (fun j hj => ho.block j (hlt4.out j hj) (fun q => by have a := HS3.out j hj; have b := HLT.out j hj; have c := HS4.out j q; omega)) (O.fac hhj5)
       replace K3 := K3.trans (ho.kep (by have := K3.size; omega) (fun j q => by have c := HS4.out j q; omega))
       have HS5 : Hid (∀ j, S5 j → j = w2.heap.size + 1 ∨ w3.heap.size ≤ j) := Lib.hid (fun j q => by rcases hm j q with q | q; exact HS4.out j q; exact .inr (by have := hs4; omega))
       have hs5 : w3.heap.size ≤ w5.heap.size := by have := ho.size; omega
       clear hm ho hlt4 hhj4 HS4)
    | (refine (fill_any O (w2.heap.size + 1) S5 (([] ++ L.drop k) ++ L.take k) ((L.drop k).take 1) _ _ hhj5 (sq_take (sq_drop (c := cap - k) rfl (fun i x h => by obtain ⟨_, _, he, hc⟩ := ql.kep K3; injection he with h1 _ h3; subst h1 h3; exact hc i x h)) (by simp; omega)) (fun _ => off_ne (by have := HGL.out; intro q; have := HS5.out _ q; omega)) (fun x hx => HOK.out x (List.mem_of_mem_drop (List.mem_of_mem_take hx))) (by simp; omega)).mono ?_; rintro e w6 ⟨⟨u, rfl⟩, S6, hhj6, hm, ho⟩
       have hlt5 := Lib.hid (O.lt hgi)
       replace hgi := O.kept hgi (fun j hj => ho.block j (hlt5.out j hj) (fun q => by have a := HS3.out j hj; have b := HLT.out j hj; have c := HS5.out j q; omega)) (O.fac hhj6)
       replace K3 := K3.trans (ho.kep (by have := K3.size; omega) (fun j q => by have c := HS5.out j q; omega))
       have HS6 : Hid (∀ j, S6 j → j = w2.heap.size + 1 ∨ w3.heap.size ≤ j) := Lib.hid (fun j q => by rcases hm j q with q | q; exact HS5.out j q; exact .inr (by have := hs5; omega))
       have hs6 : w3.heap.size ≤ w6.heap.size := by have := ho.size; omega
       clear hm ho hlt5 hhj5 HS5))
  rw [List.nil_append] at hhj6
  replace n0 := K3.all n0
  replace n1 := K3.all n1
  replace gg := kep_next gg K3
  have LH : Hid (∀ w, GI w (w2.heap.size + 1) S6 ((L.drop k ++ L.take k) ++ (L.drop k).take 1) → Calls Tryd.prog 16 #[.pointer (some ⟨w2.heap.size + 1, 0, none⟩)] w fun en w' => en = .returned (.int .i64 ((L.length : Int) + 1)) ∧ Kep w.heap.size w w') := Lib.hid (fun w h => by
    have e : ((L.length + 1 : Nat) : Int) = (L.length : Int) + 1 := by omega
    have := O.len _ _ _ w h (by rw [hlH]; omega)
    rw [hlH, e] at this
    exact this)
  have lw : IntKind.i64.wrap ((L.length : Int) + 1) = (L.length : Int) + 1 := by rw [IntKind.wrap_i64]; omega
  have lle : (((L.length : Int) + 1) == IntKind.i64.wrap ((L.length : Int) + 1)) = true := by rw [lw]; simp
  clear lw
  clear ql K3 HS3 HS6 HLT HGL hs3 hs4 hs5 hs6 hk FW
  refine wp_region_noPanic ?_
  refine wp_region_held_drew (S := (fun w' => w'.cell? ⟨w.heap.size, 0, none⟩ = some (.int .i32 px) ∧ w'.cell? ⟨w.heap.size, 1, none⟩ = some (.int .i32 py) ∧ Kep w.heap.size w w')) (by kernel_rfl) (⟨by rw [World.cell?_drew]; exact n0, by rw [World.cell?_drew]; exact n1, kep_drew gg⟩) (fun hH => ?_)
  refine wpAnyH_ready (rs := [0]) (by kernel_rfl) (by simp) ?_
  refine AllReadyH.cons (o := { dst := some 44, op := Op.call { callee := Callee.value (Operand.func 18), args := #[Operand.tmp 8], argTypes := #[30] }, type := _, pos := _, after := _, guard := none }) rfl (fun K hK => ?_) AllReadyH.nil
  go_simp
  refine (O.cand w2.heap.size S3 L _ (O.kep hgi (kep_drew (Kep.refl _ _))) HOK.out (by omega)).mono ?_; rintro e v10_0 ⟨c1, rfl, ⟨qc, _⟩, g⟩
  replace hgi := O.kep (O.kep hgi (kep_drew (Kep.refl _ _))) g
  replace hhj6 := O.kep (O.kep hhj6 (kep_drew (Kep.refl _ _))) g
  refine hK.out _ _ (by (try dsimp only); (go_split_ands; exact ⟨Kep.all g (by assumption), Kep.all g (by assumption), kep_next (by assumption) g⟩)) (fun hH2 => ?_)
  clear hK K hH; have hH := hH2; clear hH2
  try simp only [Act.put, List.setIfInBounds_toArray, List.set_cons_zero, List.set_cons_succ]
  refine wpAnyH_ready (rs := [1]) (by kernel_rfl) (by simp) ?_
  refine AllReadyH.cons (o := { dst := some 45, op := Op.call { callee := Callee.value (Operand.func 18), args := #[Operand.tmp 9], argTypes := #[30] }, type := _, pos := _, after := _, guard := none }) rfl (fun K hK => ?_) AllReadyH.nil
  go_simp
  refine (O.cand (w2.heap.size + 1) S6 ((L.drop k ++ L.take k) ++ (L.drop k).take 1) _ hhj6 HOK2.out (by rw [hlH]; omega)).mono ?_; rintro e v10_1 ⟨c2, rfl, ⟨qd, _⟩, g⟩
  replace hgi := O.kep hgi g
  replace hhj6 := O.kep hhj6 g
  replace qc := qc.kep g
  rw [cand_ext hmem.out] at qd
  refine hK.out _ _ (by (try dsimp only); (go_split_ands; exact ⟨Kep.all g (by assumption), Kep.all g (by assumption), kep_next (by assumption) g⟩)) (fun hH2 => ?_)
  clear hK K hH; have hH := hH2; clear hH2
  try simp only [Act.put, List.setIfInBounds_toArray, List.set_cons_zero, List.set_cons_succ]
  refine wpAnyH_ready (rs := [2]) (by kernel_rfl) (by simp) ?_
  refine AllReadyH.cons (o := { dst := some 46, op := Op.call { callee := Callee.value (Operand.func 17), args := #[Operand.tmp 44, Operand.tmp 45], argTypes := #[35, 35] }, type := _, pos := _, after := _, guard := none }) rfl (fun K hK => ?_) AllReadyH.nil
  go_simp
  refine (spm (candL L) (by have := candL_len hm; omega) _ _ _ qc qd).mono ?_; rintro e v10_2 ⟨rfl, g⟩
  replace hgi := O.kep hgi g
  replace hhj6 := O.kep hhj6 g
  refine hK.out _ _ (by (try dsimp only); (go_split_ands; exact ⟨Kep.all g (by assumption), Kep.all g (by assumption), kep_next (by assumption) g⟩)) (fun hH2 => ?_)
  clear hK K hH; have hH := hH2; clear hH2
  try simp only [Act.put, List.setIfInBounds_toArray, List.set_cons_zero, List.set_cons_succ]
  refine wpAnyH_take (i := 3) (oi := { dst := some 47, op := Op.move (Operand.tmp 46), type := _, pos := _, after := _, guard := none }) (v := ?_) rfl (by kernel_rfl) (by kernel_rfl) (by kernel_rfl) (fun _ _ _ h => h) (Or.inl ⟨by rfl, ?_⟩) hH ?_
  rotate_left
  · (intro w hSw; (try dsimp only at hSw); go_simp; (try with_reducible rfl))
  try simp only [Act.put, List.setIfInBounds_toArray, List.set_cons_zero, List.set_cons_succ]
  refine wpAnyH_take (i := 4) (oi := { dst := some 48, op := Op.load 24 (Operand.tmp 5), type := _, pos := _, after := _, guard := some (3, true) }) (v := ?_) rfl (by kernel_rfl) (by kernel_rfl) (by kernel_rfl) (fun _ _ _ h => h) (Or.inl ⟨by rfl, ?_⟩) hH ?_
  rotate_left
  · (intro w hSw; (try dsimp only at hSw); go_simp; (try with_reducible rfl))
  try simp only [Act.put, List.setIfInBounds_toArray, List.set_cons_zero, List.set_cons_succ]
  refine wpAnyH_take (i := 6) (oi := { dst := some 50, op := Op.load 24 (Operand.tmp 5), type := _, pos := _, after := _, guard := some (3, true) }) (v := ?_) rfl (by kernel_rfl) (by kernel_rfl) (by kernel_rfl) (fun _ _ _ h => h) (Or.inl ⟨by rfl, ?_⟩) hH ?_
  rotate_left
  · (intro w hSw; (try dsimp only at hSw); go_simp; (try with_reducible rfl))
  try simp only [Act.put, List.setIfInBounds_toArray, List.set_cons_zero, List.set_cons_succ]
  refine wpAnyH_ready (rs := [5]) (by kernel_rfl) (by simp) ?_
  refine AllReadyH.cons (o := { dst := some 49, op := Op.call { callee := Callee.value (Operand.func 21), args := #[Operand.tmp 8, Operand.tmp 48], argTypes := #[30, 24] }, type := _, pos := _, after := _, guard := some (3, true) }) rfl (fun K hK => ?_) AllReadyH.nil
  go_simp
  refine (O.at_ w2.heap.size S3 L px py _ hgi HOK.out (by omega) hx hy).mono ?_; rintro e v10_5 ⟨k1, rfl, ⟨qk, _⟩, g⟩
  replace hgi := O.kep hgi g
  replace hhj6 := O.kep hhj6 g
  refine hK.out _ _ (by (try dsimp only); (go_split_ands; exact ⟨Kep.all g (by assumption), Kep.all g (by assumption), kep_next (by assumption) g⟩)) (fun hH2 => ?_)
  clear hK K hH; have hH := hH2; clear hH2
  try simp only [Act.put, List.setIfInBounds_toArray, List.set_cons_zero, List.set_cons_succ]
  refine wpAnyH_ready (rs := [7]) (by kernel_rfl) (by simp) ?_
  refine AllReadyH.cons (o := { dst := some 51, op := Op.call { callee := Callee.value (Operand.func 21), args := #[Operand.tmp 9, Operand.tmp 50], argTypes := #[30, 24] }, type := _, pos := _, after := _, guard := some (3, true) }) rfl (fun K hK => ?_) AllReadyH.nil
  go_simp
  refine (O.at_ (w2.heap.size + 1) S6 ((L.drop k ++ L.take k) ++ (L.drop k).take 1) px py _ hhj6 HOK2.out (by rw [hlH]; omega) hx hy).mono ?_; rintro e v10_7 ⟨k2, rfl, ⟨qm, _⟩, g⟩
  replace hgi := O.kep hgi g
  replace hhj6 := O.kep hhj6 g
  replace qk := qk.kep g
  rw [at_ext hmem.out] at qm
  refine hK.out _ _ (by (try dsimp only); (go_split_ands; exact ⟨Kep.all g (by assumption), Kep.all g (by assumption), kep_next (by assumption) g⟩)) (fun hH2 => ?_)
  clear hK K hH; have hH := hH2; clear hH2
  try simp only [Act.put, List.setIfInBounds_toArray, List.set_cons_zero, List.set_cons_succ]
  refine wpAnyH_ready (rs := [8]) (by kernel_rfl) (by simp) ?_
  refine AllReadyH.cons (o := { dst := some 52, op := Op.call { callee := Callee.value (Operand.func 20), args := #[Operand.tmp 49, Operand.tmp 51], argTypes := #[27, 27] }, type := _, pos := _, after := _, guard := some (3, true) }) rfl (fun K hK => ?_) AllReadyH.nil
  go_simp
  refine (keys_any _ _ _ _ _ (keyS.klst qk) (keyS.klst qm) (by have := atL_len (n := bktN (colN px) (colN py)) hm; omega) true (by simp)).mono ?_; rintro e v10_8 ⟨rfl, g⟩
  replace hgi := O.kep hgi g
  replace hhj6 := O.kep hhj6 g
  refine hK.out _ _ (by (try dsimp only); (go_split_ands; exact ⟨Kep.all g (by assumption), Kep.all g (by assumption), kep_next (by assumption) g⟩)) (fun hH2 => ?_)
  clear hK K hH; have hH := hH2; clear hH2
  try simp only [Act.put, List.setIfInBounds_toArray, List.set_cons_zero, List.set_cons_succ]
  refine wpAnyH_take (i := 9) (oi := { dst := some 53, op := Op.pick (Operand.tmp 47) (Operand.tmp 52) (Operand.const (Value.bool false)), type := _, pos := _, after := _, guard := none }) (v := ?_) rfl (by kernel_rfl) (by kernel_rfl) (by kernel_rfl) (fun _ _ _ h => h) (Or.inl ⟨by rfl, ?_⟩) hH ?_
  rotate_left
  · (intro w hSw; (try dsimp only at hSw); go_simp; (try with_reducible rfl))
  try simp only [Act.put, List.setIfInBounds_toArray, List.set_cons_zero, List.set_cons_succ]
  refine wpAnyH_take (i := 10) (oi := { dst := some 54, op := Op.move (Operand.tmp 53), type := _, pos := _, after := _, guard := none }) (v := ?_) rfl (by kernel_rfl) (by kernel_rfl) (by kernel_rfl) (fun _ _ _ h => h) (Or.inl ⟨by rfl, ?_⟩) hH ?_
  rotate_left
  · (intro w hSw; (try dsimp only at hSw); go_simp; (try with_reducible rfl))
  try simp only [Act.put, List.setIfInBounds_toArray, List.set_cons_zero, List.set_cons_succ]
  refine wpAnyH_ready (rs := [11]) (by kernel_rfl) (by simp) ?_
  refine AllReadyH.cons (o := { dst := some 55, op := Op.call { callee := Callee.value (Operand.func 16), args := #[Operand.tmp 9], argTypes := #[30] }, type := _, pos := _, after := _, guard := some (10, true) }) rfl (fun K hK => ?_) AllReadyH.nil
  go_simp
  refine (LH.out _ hhj6).mono ?_; rintro e v10_11 ⟨rfl, g⟩
  replace hgi := O.kep hgi g
  replace hhj6 := O.kep hhj6 g
  refine hK.out _ _ (by (try dsimp only); (go_split_ands; exact ⟨Kep.all g (by assumption), Kep.all g (by assumption), kep_next (by assumption) g⟩)) (fun hH2 => ?_)
  clear hK K hH; have hH := hH2; clear hH2
  try simp only [Act.put, List.setIfInBounds_toArray, List.set_cons_zero, List.set_cons_succ]
  refine wpAnyH_ready (rs := [12]) (by kernel_rfl) (by simp) ?_
  refine AllReadyH.cons (o := { dst := some 56, op := Op.call { callee := Callee.value (Operand.func 16), args := #[Operand.tmp 8], argTypes := #[30] }, type := _, pos := _, after := _, guard := some (10, true) }) rfl (fun K hK => ?_) AllReadyH.nil
  go_simp
  refine (O.len w2.heap.size S3 L _ hgi (by omega)).mono ?_; rintro e v10_12 ⟨rfl, g⟩
  refine hK.out _ _ (by (try dsimp only); (go_split_ands; exact ⟨Kep.all g (by assumption), Kep.all g (by assumption), kep_next (by assumption) g⟩)) (fun hH2 => ?_)
  clear hK K hH; have hH := hH2; clear hH2
  try simp only [Act.put, List.setIfInBounds_toArray, List.set_cons_zero, List.set_cons_succ]
  refine wpAnyH_take (i := 13) (oi := { dst := some 57, op := Op.binOp BinOp.add 3 (Operand.tmp 56) (Operand.const (Value.int IntKind.i64 1)) 3, type := _, pos := _, after := _, guard := some (10, true) }) (v := ?_) rfl (by kernel_rfl) (by kernel_rfl) (by kernel_rfl) (fun _ _ _ h => h) (Or.inl ⟨by rfl, ?_⟩) hH ?_
  rotate_left
  · (intro w hSw; (try dsimp only at hSw); go_simp; (try with_reducible rfl))
  try simp only [Act.put, List.setIfInBounds_toArray, List.set_cons_zero, List.set_cons_succ]
  refine wpAnyH_take (i := 14) (oi := { dst := some 58, op := Op.binOp BinOp.eql 3 (Operand.tmp 55) (Operand.tmp 57) 3, type := _, pos := _, after := _, guard := some (10, true) }) (v := ?_) rfl (by kernel_rfl) (by kernel_rfl) (by kernel_rfl) (fun _ _ _ h => h) (Or.inl ⟨by rfl, ?_⟩) hH ?_
  rotate_left
  · (intro w hSw; (try dsimp only at hSw); go_simp; (try with_reducible rfl))
  try simp only [Act.put, List.setIfInBounds_toArray, List.set_cons_zero, List.set_cons_succ]
  refine wpAnyH_take (i := 15) (oi := { dst := some 59, op := Op.pick (Operand.tmp 54) (Operand.tmp 58) (Operand.const (Value.bool false)), type := _, pos := _, after := _, guard := none }) (v := ?_) rfl (by kernel_rfl) (by kernel_rfl) (by kernel_rfl) (fun _ _ _ h => h) (Or.inl ⟨by rfl, ?_⟩) hH ?_
  rotate_left
  · (intro w hSw; (try dsimp only at hSw); go_simp; (try with_reducible rfl))
  try simp only [Act.put, List.setIfInBounds_toArray, List.set_cons_zero, List.set_cons_succ]
  refine wpAnyH_take (i := 16) (oi := { dst := some 6, op := Op.assign (Operand.tmp 59), type := _, pos := _, after := _, guard := none }) (v := ?_) rfl (by kernel_rfl) (by kernel_rfl) (by kernel_rfl) (fun _ _ _ h => h) (Or.inl ⟨by rfl, ?_⟩) hH ?_
  rotate_left
  · (intro w hSw; (try dsimp only at hSw); go_simp; (try with_reducible rfl))
  try simp only [Act.put, List.setIfInBounds_toArray, List.set_cons_zero, List.set_cons_succ]
  refine wpAnyH_done (by kernel_rfl) ?_ _
  refine NoPanic.normal ?_
  clear n0 n1 gg
  obtain ⟨n0, n1, gg⟩ := hH
  go_wp2_with fail
  go_ret
  exact ⟨rfl, gg⟩
/-- The law GridOrder. -/
theorem gdl_law {GI : World → Nat → (Nat → Prop) → List Ent → Prop} (O : GOps GI) (AW : GAwake) (t : Int) (ht : 0 ≤ t ∧ t < 256) (px py : Int) (hx : In3 px) (hy : In3 py) (L : List Ent) (hl9 : L.length ≤ 9223372036854775807) (HF : Hid (∀ x ∈ L, FitE x)) (v : Value) (w : World) (F0 : Fac w) (hq : Sq ev 5 w v L) (HU : Hid (∀ x ∈ L, (Lit.int .u32 x.k).wf = true)) (HCAP : ∀ b m c, v = .slice b m c → m ≤ c) : Calls Tryd.prog 5 #[v, .int .u8 t, .agg #[.int .i32 px, .int .i32 py]] w fun e w' => e = .returned (.bool true) ∧ Kep w.heap.size w w' := by
  cases hfew : fewB L
  · exact gdl_bad (Lib.hid AW) t px py L hl9 HF v w F0 hq hfew
  · by_cases hn : L = []
    · exact gdl_nil (Lib.hid AW) t px py L hl9 HF v w F0 hq hfew hn
    · exact gdl_ok O (Lib.hid AW) t ht px py hx hy L hl9 HF v w F0 hq HU HCAP hfew (List.length_pos_iff.2 hn)
end Go.Proofs.YtnmnbogjnjbopaaDoor
