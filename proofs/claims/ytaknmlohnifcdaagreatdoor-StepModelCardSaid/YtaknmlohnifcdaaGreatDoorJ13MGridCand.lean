import Derived.Test.YtaknmlohnifcdaaGreatDoorJ12MGridKeyz
import Derived.Test.YtaknmlohnifcdaaGreatDoorMGridSort
import Derived.Test.YtaknmlohnifcdaaGreatDoorJ08MGridCon
import Derived.Deep.DeepCutAuto
import Derived.Deep.QuietTactic
import Derived.BigQuiet
set_option maxHeartbeats 8000000
set_option maxRecDepth 100000
section
namespace Go.Proofs.YtaknmlohnifcdaaGreatDoor
open Go.RowKit Go.Lib Go.Maps Go.MapKept

theorem clear_run {w : World} {t k e ty : TypeId} (ht : Tryz.prog.underlying t = some (.map k e)) {R : Value → Option (DataW Unit × List MemPlace)} {b n : Nat} {D : DataW Unit} (hown : w.ownsMap Tryz.prog k R b n D) :
 ∃ w', (Builtin.clear_ #[t] ty #[.map (some b)]).run Tryz.prog w = .ok (.tuple #[]) w' ∧ w'.ownsMap Tryz.prog k R b 0 (.map []) ∧ w.grownBy w' (some b) := by
 obtain ⟨es, clock, hb, _⟩ := hown
 have hlt : b < w.heap.size := (Array.getElem?_eq_some_iff.1 hb).1
 exact ⟨w.putObj b (.map #[] clock), by simp [Builtin.clear_, run_underlying ht, Go.MapKept.run_getObj_map (P := Tryz.prog) hb, Go.MapKept.run_setObj_map (P := Tryz.prog) _ hb, World.putObj], ⟨#[], clock, World.putObj_heap_same hlt, ⟨by simp, stamped_empty clock, by simp⟩, Nat.le_refl _, rfl⟩, grownBy_putObj' _ _ _⟩
theorem gabove (base : Option Addr) (cap : Nat) (K : List Int) (x : Int) (w w2 : World) (h0 : Sq kv 1 w (.slice base K.length cap) K) (h : Sq kv 1 w2 (.slice base K.length cap) K) (hc : K.length ≤ cap) (hl : K.length ≤ 1000) (asc : SortS kless K) (hx : x ∈ K) :
 Calls Tryz.prog 116 #[.slice base K.length cap, .int .u32 x] w fun e w' => ∃ b' c', e = .returned (.slice b' (abv K x).length c') ∧ Sq kv 1 w2 (.slice b' (abv K x).length c') (abv K x) ∧ w = w' := by
 have C := Lib.hid (ksearch base cap K x w h0 (by omega) asc)
 clear h0
 have h0 := lessN_at asc hx
 have h1 : lessN K x < K.length := (List.getElem?_eq_some_iff.1 h0).1
 have hlen : (abv K x).length = K.length - (lessN K x + 1) := by unfold abv; rw [List.length_drop]
 have HE : Hid (abv K x = K.drop (lessN K x + 1)) := Lib.hid rfl
 obtain ⟨g, off, rfl, _⟩ := ksq_at h h0
 obtain ⟨bb, cc, eb, hcs⟩ := h
 have HC := Lib.hid hcs
 injection eb with eb1 eb2 eb3
 subst eb1 eb3
 obtain ⟨i, hi⟩ : ∃ i, i = lessN K x := ⟨_, rfl⟩
 rw [← hi] at h1 hlen HE C
 generalize abv K x = A at *
 obtain ⟨n, hn⟩ : ∃ n, n = K.length := ⟨_, rfl⟩
 have HN := Lib.hid hn.symm
 rw [← hn] at h1 hlen hc hl C ⊢
 generalize decide (x ∈ K) = z at C
 clear hi hn h0 hx asc hcs eb2
 by_cases hcap : cap = i + 1
 ·have hn1 : n = i + 1 := by omega
  subst hn1
  subst hcap
  have hA : A.length = 0 := by omega
  go_enter Tryz.func116, Tryz.ntmps116
  go_wp2_with ((with_reducible refine (C.out).mono ?_); rintro e w1 ⟨rfl, rfl⟩)
  go_ret
  rw [hA]
  exact ⟨_, _, rfl, sq_zero (List.length_eq_zero_iff.1 hA) rfl, rfl⟩
 ·obtain ⟨r, hr⟩ : ∃ r, r = n - (i + 1) := ⟨_, rfl⟩
  rw [← hr] at hlen
  have HR := Lib.hid hr
  clear hr
  go_enter Tryz.func116, Tryz.ntmps116
  go_wp2_with ((with_reducible refine (C.out).mono ?_); rintro e w1 ⟨rfl, rfl⟩)
  go_ret
  rw [hlen]
  have er := HR.out
  subst er
  have hs : Sq kv 1 w2 (.slice (some ⟨g, off + (i + 1), none⟩) (n - (i + 1)) (cap - (i + 1))) A := by
   rw [HE.out]
   exact sq_drop1 HN.out HC.out
  exact ⟨_, _, rfl, hs, rfl⟩
theorem map_kepB {w w' : World} {k : TypeId} {R : Value → Option (DataW Unit × List MemPlace)} {b n B : Nat} {D : DataW Unit} (h : w.ownsMap Tryz.prog k R b n D) (g : Kep B w w') (hb : b < B) : w'.ownsMap Tryz.prog k R b n D := by
 obtain ⟨es, clock, hc, F, hs, hD⟩ := h
 exact ⟨es, clock, (g.block b hb).trans hc, F, hs, hD⟩
structure Fr (wb : World) (fb : Nat) (wr : World) : Prop where
 os : wr.os = wb.os
 output : wr.output = wb.output
 size : wb.heap.size ≤ wr.heap.size
 block : ∀ k, k < wb.heap.size → k ≠ fb → wr.heap[k]? = wb.heap[k]?
theorem Fr.refl (wb : World) (fb : Nat) : Fr wb fb wb := ⟨rfl, rfl, Nat.le_refl _, fun _ _ _ => rfl⟩
theorem Fr.row {wb wr w' : World} {fb : Nat} {row : Option Nat} (h : Fr wb fb wr) (g : wr.grownBy w' row) (hr : ∀ k, row = some k → k = fb ∨ wb.heap.size ≤ k) : Fr wb fb w' :=
 ⟨g.os.trans h.os, g.output.trans h.output, Nat.le_trans h.size g.size, fun k hk hn => (g.block k (Nat.lt_of_lt_of_le hk h.size) (fun e => by rcases hr k e.symm with q | q <;> omega)).trans (h.block k hk hn)⟩
theorem Fr.kep {wb wr w' : World} {fb : Nat} (h : Fr wb fb wr) (g : Kep wb.heap.size wr w') : Fr wb fb w' :=
 ⟨g.os.trans h.os, g.output.trans h.output, Nat.le_trans h.size g.size, fun k hk hn => (g.block k hk).trans (h.block k hk hn)⟩
theorem Fr.alloc {wb wr : World} {fb : Nat} (h : Fr wb fb wr) (o : Obj) : Fr wb fb (wr.alloc o) := h.kep (((Kep.refl _ _).alloc h.size o))
theorem Fr.down {wb wr : World} {fb : Nat} (h : Fr wb fb wr) (hf : fb ≤ wb.heap.size) : Kep fb wb wr := ⟨h.os, h.output, h.size, fun k hk => h.block k (by omega) (by omega)⟩
theorem Fr.cell {wb wr : World} {fb b o : Nat} {v : Value} (h : Fr wb fb wr) (hb : b ≠ fb) (hc : wb.cell? ⟨b, o, none⟩ = some v) : wr.cell? ⟨b, o, none⟩ = some v :=
 (World.cell?_of_block (w := wb) (h.block b (World.block_lt_of_cell? _ _ hc) hb)).trans hc
structure CO (wb : World) (fb : Nat) (wr : World) (lv : Value) (A : List (Int × Int)) : Prop where
 fr : Fr wb fb wr
 fnd : OwnM wr 75 fb 0 (.map [])
 own : wr.ownsRow wb.heap.size 75 2 lv A.length (flatP A)
structure CR (wb : World) (fb : Nat) (wr : World) (lv : Value) (A : List (Int × Int)) (z : Bool) (V : List (Int × Int)) : Prop where
 fr : Fr wb fb wr
 fnd : ∃ M E n, n ≤ V.length ∧ M.length ≤ V.length ∧ OwnM wr 75 fb n E ∧ wr.ownsRow wb.heap.size 75 2 lv (A ++ M).length (flatP (A ++ M)) ∧ Found z V M E
theorem CO.start {wb wr : World} {fb : Nat} {lv : Value} {A : List (Int × Int)} (h : CO wb fb wr lv A) (z : Bool) : CR wb fb wr lv A z [] :=
 ⟨h.fr, [], _, 0, Nat.zero_le _, Nat.zero_le _, h.fnd, by rw [List.append_nil]; exact h.own, found_nil z⟩
theorem CR.push {wb W4 w6 : World} {fb n : Nat} {lv v6 : Value} {A M V : List (Int × Int)} {z : Bool} {E : DataW Unit} {p : Int × Int} {o : Obj} (hF : Fr wb fb W4) (hf : OwnM W4 75 fb n E) (ho : W4.ownsRow wb.heap.size 75 2 lv (A ++ M).length (flatP (A ++ M)))
 (g6 : (W4.alloc o).grownBy w6 lv.ownBlock) (o6 : w6.ownsRow wb.heap.size 75 2 v6 (A ++ M ++ [p]).length ((A ++ M ++ [p]).flatMap pv)) (hn : n ≤ V.length) (hl : (M ++ [p]).length ≤ V.length) (F : Found z V (M ++ [p]) E) : CR wb fb w6 v6 A z V := by
 refine ⟨(hF.alloc o).row g6 (fun k e => .inr (ho.lt k e).1), M ++ [p], E, n, hn, hl, (hf.alloc o).kept g6 (own_map ho hf), ?_, F⟩
 rw [← List.append_assoc]
 exact o6
theorem found_look {w : World} {z : Bool} {V M : List (Int × Int)} {fb n : Nat} {E : DataW Unit} (hF : Found z V M E) (ho : OwnM w 75 fb n E) {p : Int × Int} (hw : WfP p) :
 (Instr.lookup 179 (.map (some fb)) (aggP p) false).run Tryz.prog w = .ok (.bool (Maps.has E (klP p))) w := by
 obtain ⟨c, hrun, hat⟩ := look_bool lawP Tryz.underlying179 ho (keyOfP hw)
 cases hh : Maps.has E (klP p) with
 | true =>
   rw [hF.val p hw hh] at hat
   have e := Lit.bool.inj (DataW.lit.inj hat)
   subst e
   exact hrun
 | false =>
   rw [atKey_of_not_has hh] at hat
   have e := Lit.bool.inj (DataW.lit.inj hat)
   subst e
   exact hrun
theorem visX_len {Kf : Nat → List Int} (h : ∀ j, (Kf j).length ≤ 100) (zs : List Int) (x : Int) (A : List Int) : ∀ i, (visX Kf zs x i A).length ≤ i * 100 + A.length := by
 intro i
 have q : ∀ l : List Int, (l.flatMap fun t => (abv (Kf t.toNat) x).map fun y => (x, y)).length ≤ l.length * 100 := fun l => by
  induction l with
  | nil => simp
  | cons a l ih =>
    rw [List.flatMap_cons, List.length_append, List.length_map, List.length_cons]
    have h1 : (abv (Kf a.toNat) x).length ≤ 100 := by
     unfold abv
     rw [List.length_drop]
     have := h a.toNat
     omega
    omega
 have h1 := q (zs.take i)
 have h2 : (zs.take i).length ≤ i := by rw [List.length_take]; omega
 unfold visX
 rw [List.length_append, List.length_map]
 omega
theorem take_snoc {K : List Int} {j : Nat} {x : Int} (h : K[j]? = some x) (f : Int → List (Int × Int)) : (K.take (j + 1)).flatMap f = (K.take j).flatMap f ++ f x := by
 rw [List.take_add_one, h, List.flatMap_append]
 simp
theorem row_end {Kf : Nat → List Int} {R : List (Int × Int)} {zs : List Int} {x : Int} {z : Bool} {M m : List (Int × Int)} {E : DataW Unit} (hR : SortS pless R) (hF : Found z (visX Kf zs x zs.length []) M E) (hs : ∀ j, SortS kless (Kf j))
 (hzs : ∀ t : Int, t ∈ zs ↔ ∃ j : Nat, j < 1024 ∧ t = (j : Int) ∧ x ∈ Kf j) (hmem : ∀ p, p ∈ R ↔ ∃ t : Nat, t < 1024 ∧ p.1 ∈ Kf t ∧ p.2 ∈ Kf t ∧ p.1 < p.2) (hp : M.Perm m) (ho : m.Pairwise fun p q => ¬ q.2 < p.2) : m = rowL R x := by
 refine row_done hR hF.nodup (fun p => ?_) hp ho
 rw [hF.mem, visX_mem, hmem]
 constructor
 ·rintro ⟨e, t, ht, h2⟩
  obtain ⟨j, hj, rfl, hx⟩ := (hzs t).1 ht
  rw [Int.toNat_natCast] at h2
  have h3 := (mem_abv (hs j) hx).1 h2
  exact ⟨⟨j, hj, e ▸ hx, h3.1, e ▸ h3.2⟩, e⟩
 ·rintro ⟨⟨j, hj, h1, h2, h3⟩, e⟩
  rw [e] at h1 h3
  refine ⟨e, (j : Int), (hzs _).2 ⟨j, hj, rfl, h1⟩, ?_⟩
  rw [Int.toNat_natCast]
  exact (mem_abv (hs j) h1).2 ⟨h2, h3⟩
theorem isq_at {w : World} {base : Option Addr} {n cap k : Nat} {K : List Int} {x : Int} (h : Sq iv 1 w (.slice base n cap) K) (hx : K[k]? = some x) : ∃ g off, base = some ⟨g, off, none⟩ ∧ w.cell? ⟨g, off + k, none⟩ = some (.int .i64 x) := by
 obtain ⟨b, c, e, hc⟩ := h
 injection e with e1 e2 e3
 subst e1
 obtain ⟨g, off, e, hi⟩ := hc k x hx
 have := hi 0 _ rfl
 rw [Nat.mul_one] at this
 exact ⟨g, off, e, this⟩
theorem gcand (g : Nat) (S : Nat → Prop) (L : List Ent) (w : World) (h : GI w g S L) (hL : ∀ x ∈ L, EntOk x) (hl : L.length ≤ 100) : Calls Tryz.prog 94 #[.pointer (some ⟨g, 0, none⟩)] w
 fun en w' => ∃ v, en = .returned v ∧ (Sq pv 2 w' v (candL L) ∧ Fresh w v) ∧ Kep w.heap.size w w' := by
 obtain ⟨vf, h⟩ := h
 have hk : ∀ j : Nat, (atL L (j : Int)).length ≤ 100 := fun j => by
  have q := accA_len L (j : Int) L.length (Nat.le_refl _)
  rw [accA_all (Nat.le_refl _)] at q
  omega
 have hwf : ∀ j : Nat, ∀ x ∈ atL L (j : Int), (Lit.int .u32 x).wf = true := fun j x hx => by
  obtain ⟨e, he, _, rfl⟩ := ((atL_spec L (j : Int)).2 x).1 hx
  exact (hL e he).1
 have CP := Lib.hid (gplc g S _ vf _ w h (fun j => Nat.le_trans (hk j) (by decide)) hwf)
 have HMEM := Lib.hid (fun p => cand_mem L p)
 have HRS := Lib.hid (candL_spec L).1
 have has : ∀ j : Nat, SortS kless (atL L (j : Int)) := fun j => (atL_spec L (j : Int)).1
 generalize candL L = R at *
 obtain ⟨Kf, hKf⟩ : ∃ Kf : Nat → List Int, Kf = fun (j : Nat) => atL L (j : Int) := ⟨_, rfl⟩
 rw [← hKf] at h CP
 have HK : Hid (∀ j, (Kf j).length ≤ 100) := Lib.hid (by rw [hKf]; exact hk)
 have HWF : Hid (∀ j, ∀ x ∈ Kf j, (Lit.int .u32 x).wf = true) := Lib.hid (by rw [hKf]; exact hwf)
 have HAS : Hid (∀ j, SortS kless (Kf j)) := Lib.hid (by rw [hKf]; exact has)
 have HM : Hid (∀ p : Int × Int, p ∈ R ↔ ∃ t : Nat, t < 1024 ∧ p.1 ∈ Kf t ∧ p.2 ∈ Kf t ∧ p.1 < p.2) := Lib.hid (by rw [hKf]; exact HMEM.out)
 generalize ((L.length : Nat) : Int) = ne at h CP
 clear hKf hk hwf has hL hl HMEM
 have HG := Lib.hid h
 clear h
 have hmm := @run_makeMap Tryz.prog
 have CK := Lib.hid (fun b W => ukeys_any b W)
 go_enter Tryz.func94, Tryz.ntmps94
 go_wp2_with (first
  | ((with_reducible refine (CP.out).mono ?_); rintro en w1 ⟨v, rfl, ⟨n, D, rfl, hn, hg1, hd1⟩, k1⟩; have HG1 := Lib.hid hg1; have HD1 := Lib.hid hd1; have HN := Lib.hid hn; have K1 := Lib.hid k1; clear hn hg1 hd1 k1)
  | ((with_reducible refine (CK.out _ _).mono ?_); rintro en w2 ⟨rfl, rfl⟩
     have C3 : Hid (Calls Tryz.prog 114 #[.func (.func 144) #[] #[.pointer (some ⟨w1.heap.size + 1, 0, none⟩)]] ((w1.alloc (.map #[] 0)).alloc (.cells #[.map (some w.heap.size)] 177)) fun e w' => ∃ v K, e = .returned v ∧ (SortS kless K ∧ (∀ x, x ∈ K ↔ Maps.has D (.int .u32 x) = true) ∧ K.length ≤ n) ∧ (Sq kv 1 w' v K ∧ ∀ k, v.ownBlock = some k → w1.heap.size + 2 ≤ k) ∧ Kep (w1.heap.size + 2) ((w1.alloc (.map #[] 0)).alloc (.cells #[.map (some w.heap.size)] 177)) w') := Lib.hid (by
      obtain ⟨R0, hm0⟩ := groups_map (groups_kep HG1.out (kep_more (kep_more (Kep.refl _ _) (.map #[] 0)) (.cells #[.map (some w.heap.size)] 177)))
      have hsz := hm0.size_le
      have hn2 : n ≤ 102400 := Nat.le_trans HN.out (flatW_100 HK.out 1024)
      have hs2 : ((w1.alloc (.map #[] 0)).alloc (.cells #[.map (some w.heap.size)] 177)).heap.size = w1.heap.size + 2 := by simp
      have q := usorted_any (w1.heap.size + 1) D (by omega) ((w1.alloc (.map #[] 0)).alloc (.cells #[.map (some w.heap.size)] 177)) (fun W gW => ukeys_seq _ _ _ D W (bel_all gW (by rw [World.cell?_alloc_at _ _ _ _ (by simp)]; rfl)) (map_bel hm0 gW))
      refine q.mono ?_
      rintro e w' ⟨v, K, e1, ⟨e2, e3, e4⟩, ⟨e5, e6⟩, e7⟩
      unfold Fresh at e6
      rw [hs2] at e6 e7
      exact ⟨v, K, e1, ⟨e2, e3, Nat.le_trans e4 hsz⟩, ⟨e5, e6⟩, e7⟩))
  | ((with_reducible refine (C3.out).mono ?_); rintro en wb ⟨kvv, K, rfl, ⟨hk1, hk2, hk3⟩, ⟨hk4, hk5⟩, hk6⟩; obtain ⟨ka, kcap, rfl⟩ := hk4.shape))
 have hs2 : ((w1.alloc (.map #[] 0)).alloc (.cells #[.map (some w.heap.size)] 177)).heap.size = w1.heap.size + 2 := by simp
 have H0 : Hid (CO wb w1.heap.size wb (.slice none 0 0) ((K.take 0).flatMap (rowL R))) := Lib.hid (by
  refine ⟨Fr.refl _ _, ?_, ?_⟩
  ·exact map_kep (World.ownsMap.alloc (World.ownsMap_made w1 Tryz.prog 75 _) _) (by rw [hs2]; exact hk6)
  ·rw [List.take_zero, List.flatMap_nil]
   exact World.ownsRow_nil _ _ _ _)
 have hw1b : Kep w1.heap.size w1 wb := (kep_more (kep_more (Kep.refl _ _) (.map #[] 0)) (.cells #[.map (some w.heap.size)] 177)).trans (hk6.mono (by omega))
 have hbs : w1.heap.size + 2 ≤ wb.heap.size := by have := hk6.size; rw [hs2] at this; exact this
 have KW1 : Hid (∀ wr, Fr wb w1.heap.size wr → Kep w1.heap.size w1 wr) := Lib.hid fun wr fr => hw1b.trans (fr.down (by omega))
 have KW0 : Hid (∀ wr, Fr wb w1.heap.size wr → Kep w.heap.size w wr) := Lib.hid fun wr fr => K1.out.trans ((KW1.out wr fr).mono K1.out.size)
 have HBS := Lib.hid hbs
 have HW01 := Lib.hid K1.out.size
 have HKS := Lib.hid hk4
 have HK5 := Lib.hid hk5
 have HKA := Lib.hid hk1
 have HKX : Hid (∀ x ∈ K, ∃ t : Nat, t < 1024 ∧ x ∈ Kf t) := Lib.hid fun x hx => by
  obtain ⟨p, hp, e⟩ := (HD1.out.has x).1 ((hk2 x).1 hx)
  unfold flatW at hp
  simp at hp
  obtain ⟨t, ht, k, hk, rfl⟩ := hp
  exact ⟨t, ht, e ▸ hk⟩
 have HALL : Hid (K.flatMap (rowL R) = R) := Lib.hid (rows_all HRS.out hk1 fun p hp => by
  obtain ⟨t, ht, h1, _⟩ := (HM.out p).1 hp
  refine (hk2 _).2 ((HD1.out.has _).2 ⟨(p.1, (t : Int)), ?_, rfl⟩)
  unfold flatW
  simp
  exact ⟨t, ht, p.1, h1, rfl, rfl⟩)
 have HK3 : Hid (K.length ≤ 102400) := Lib.hid (Nat.le_trans hk3 (Nat.le_trans HN.out (flatW_100 HK.out 1024)))
 generalize hnk : K.length = nk at *
 have HNK := Lib.hid hnk
 have hnk2 := HK3.out
 clear CP CK C3 hmm hk1 hk2 hk3 hk4 hk5 hk6 hw1b hbs hs2 hnk HK3
 generalize hfb : w1.heap.size = fb at *
 have HFB := Lib.hid hfb
 clear hfb
 go_loopw [3, 23] (fun lv x wr => ∃ j : Nat, j ≤ nk ∧ x = .int .i64 j ∧ Hid (CO wb fb wr lv ((K.take j).flatMap (rowL R)) ∧ ((K.take j).flatMap (rowL R)).length ≤ j * 20000000)) (fun _ x _ => nk - (RowKit.intOf x).toNat)
 case atStart => exact ⟨0, by omega, rfl, Lib.hid ⟨H0.out, by simp⟩⟩
 case round =>
  obtain ⟨j, hj, rfl, HR⟩ := hrel
  clear H0
  by_cases hlt : j < nk
  ·have hx : K[j]? = some (K[j]'(by rw [HNK.out]; exact hlt)) := List.getElem?_eq_getElem _
   generalize K[j]'(by rw [HNK.out]; exact hlt) = x at hx
   obtain ⟨gk, off, rfl, y0⟩ := ksq_at HKS.out hx
   have hgk : fb + 2 ≤ gk := HK5.out gk rfl
   have y1 : wr.cell? ⟨gk, off + j, none⟩ = some (.int .u32 x) := HR.out.1.fr.cell (by omega) y0
   have hxK := List.mem_of_getElem? hx
   have HXT := Lib.hid (HKX.out x hxK)
   have hwx : (Lit.int .u32 x).wf = true := by obtain ⟨t, _, ht⟩ := HXT.out; exact HWF.out t x ht
   have HWX := Lib.hid hwx
   have LK : Hid (∀ W, Fr wb fb W → ∃ a cap, (Instr.lookup 177 (.map (some w.heap.size)) (.int .u32 x) false).run Tryz.prog W = .ok (.slice a (atV (flatW Kf 1024) x).length cap) W ∧ Sq iv 1 w1 (.slice a (atV (flatW Kf 1024) x).length cap) (atV (flatW Kf 1024) x)) := Lib.hid fun W fr => plc_look HG1.out HD1.out (by rw [HFB.out]; exact KW1.out W fr) HWX.out
   have HZS : Hid (∀ t : Int, t ∈ atV (flatW Kf 1024) x ↔ ∃ j : Nat, j < 1024 ∧ t = (j : Int) ∧ x ∈ Kf j) := Lib.hid fun t => atV_mem
   have hzl : (atV (flatW Kf 1024) x).length ≤ 102400 := Nat.le_trans (atV_len _ _) (flatW_100 HK.out 1024)
   have HTS := Lib.hid (take_snoc hx (rowL R))
   generalize atV (flatW Kf 1024) x = zs at *
   generalize hnz : zs.length = nz at *
   have HNZ := Lib.hid hnz
   obtain ⟨a, zcap, hr1, hs1⟩ := LK.out wr HR.out.1.fr
   have HS1 := Lib.hid hs1
   obtain ⟨z, hz⟩ : ∃ z, z = decide ((1 : Int) < (nz : Int)) := ⟨_, rfl⟩
   have HZ := Lib.hid hz
   have hz2 := hz.symm
   have HA := Lib.hid HR.out.2
   have H1 : Hid (CR wb fb wr u3 ((K.take j).flatMap (rowL R)) z (visX Kf zs x 0 [])) := Lib.hid (HR.out.1.start z)
   have OL := HR.out.1.own
   generalize (K.take j).flatMap (rowL R) = A at *
   obtain ⟨s3, e3, hs3⟩ := own_slice OL
   obtain ⟨sb, sn, sc⟩ := s3
   dsimp only at e3 hs3
   generalize hnA : A.length = nA at *
   have HNA := Lib.hid hnA
   subst sn
   subst e3
   clear hs1 hz hnz hnA OL hx hxK y0 HR hwx
   have j0 : (0 : Int) ≤ (j : Int) := Int.natCast_nonneg _
   have j1 : (j : Int) < (nk : Int) := by omega
   go_wp2
   go_loopw [3, 33] (fun lv x' wr => ∃ i : Nat, i ≤ nz ∧ x' = .int .i64 i ∧ Hid (CR wb fb wr lv A z (visX Kf zs x i []))) (fun _ x _ => nz - (RowKit.intOf x).toNat)
   case atStart => exact ⟨0, by omega, rfl, H1⟩
   case round =>
    obtain ⟨i, hi, rfl, HR2⟩ := hrel
    clear H1 hr1 y1
    by_cases hlt2 : i < nz
    ·have hx : zs[i]? = some (zs[i]'(by rw [HNZ.out]; exact hlt2)) := List.getElem?_eq_getElem _
     generalize zs[i]'(by rw [HNZ.out]; exact hlt2) = t0 at hx
     obtain ⟨t, ht, rfl, hxt⟩ := (HZS.out t0).1 (List.mem_of_getElem? hx)
     obtain ⟨gz, zoff, rfl, y0⟩ := isq_at HS1.out hx
     have y1 : wr.cell? ⟨gz, zoff + i, none⟩ = some (.int .i64 (t : Int)) := (KW1.out wr HR2.out.fr).holds (by rw [← HFB.out]; exact World.block_lt_of_cell? _ _ y0) y0
     have GW := HG.out.kep (KW0.out wr HR2.out.fr)
     have y2 := GW.c t ht
     have hq := own_sq kv_len (HG.out.own t ht)
     obtain ⟨base, cap, hv⟩ := hq.shape
     have hrm := own_rmy (HG.out.own t ht)
     rw [hv] at hq y2 hrm
     have CA := Lib.hid (gabove base cap (Kf t) x wr w (hq.kep (KW0.out wr HR2.out.fr)) hq (hrm _ _ _ rfl) (Nat.le_trans (HK.out t) (by decide)) (HAS.out t) hxt)
     have HB1 : Hid (visX Kf zs x i (abv (Kf t) x) = visX Kf zs x (i + 1) []) := Lib.hid (by have q := visX_row Kf zs x hx; rw [Int.toNat_natCast] at q; exact q)
     have HBA := Lib.hid (abv_asc x (HAS.out t))
     have HBW : Hid (∀ y ∈ abv (Kf t) x, (Lit.int .u32 y).wf = true) := Lib.hid fun y hy => HWF.out t y ((mem_abv (HAS.out t) hxt).1 hy).1
     have hbl : (abv (Kf t) x).length ≤ 100 := by unfold abv; rw [List.length_drop]; have := HK.out t; omega
     have HX := Lib.hid hx
     generalize hkl : (Kf t).length = kl at *
     generalize abv (Kf t) x = B at *
     generalize hnb : B.length = nb at *
     have HNB := Lib.hid hnb
     clear hx hxt y0 GW hq hv hrm hkl hnb
     have i0 : (0 : Int) ≤ (i : Int) := Int.natCast_nonneg _
     have i1 : (i : Int) < (nz : Int) := by omega
     have t0 : (0 : Int) ≤ (t : Int) := Int.natCast_nonneg _
     have t1 : (t : Int) < 1024 := by omega
     go_wp2_with ((with_reducible refine (CA.out).mono ?_); rintro en w5 ⟨b5, c5, rfl, hs5, rfl⟩; have HS5 := Lib.hid hs5; clear hs5)
     go_loopw [3, 46] (fun lv x' wr => ∃ jj : Nat, jj ≤ nb ∧ x' = .int .i64 jj ∧ Hid (CR wb fb wr lv A z (visX Kf zs x i (B.take jj)))) (fun _ x _ => nb - (RowKit.intOf x).toNat)
     case atStart => exact ⟨0, by omega, rfl, by rw [List.take_zero]; exact HR2⟩
     case round =>
      obtain ⟨jj, hjj, rfl, HR3⟩ := hrel
      clear y1 y2 HR2
      by_cases hlt3 : jj < nb
      ·have hy : B[jj]? = some (B[jj]'(by rw [HNB.out]; exact hlt3)) := List.getElem?_eq_getElem _
       generalize B[jj]'(by rw [HNB.out]; exact hlt3) = y at hy
       obtain ⟨gb, boff, rfl, y0⟩ := ksq_at HS5.out hy
       have y1 : wr.cell? ⟨gb, boff + jj, none⟩ = some (.int .u32 y) := (KW0.out wr HR3.out.fr).holds (World.block_lt_of_cell? _ _ y0) y0
       have HWY := Lib.hid (HBW.out y (List.mem_of_getElem? hy))
       have fr4 := HR3.out.fr.alloc (.cells #[.int .u32 x, .int .u32 y] 75)
       obtain ⟨M, E, n3, n1, n2, o1, o2, F⟩ := HR3.out.fnd
       obtain ⟨a2, c2, hr2, _⟩ := LK.out _ fr4
       have hr3 := found_look F (o1.alloc (.cells #[.int .u32 x, .int .u32 y] 75)) (p := (x, y)) ⟨HWX.out, HWY.out⟩
       have hfh := F.has (x, y) ⟨HWX.out, HWY.out⟩
       have hvn := visX_next Kf zs x i hy
       have hvl := visX_len HK.out zs x (B.take jj) i
       rw [List.length_take] at hvl
       have hvs : (visX Kf zs x i (B.take (jj + 1))).length = (visX Kf zs x i (B.take jj)).length + 1 := by rw [hvn]; simp
       have hfresh : z = false → ¬ (x, y) ∈ visX Kf zs x i (B.take jj) := fun e => by
        have e2 := of_decide_eq_false (HZ.out.symm.trans e)
        obtain rfl : i = 0 := by omega
        exact visX_fresh HBA.out hy
       have HF4 := Lib.hid fr4
       have HO1 := Lib.hid (o1.alloc (.cells #[.int .u32 x, .int .u32 y] 75))
       have HO2 := Lib.hid (o2.alloc (.cells #[.int .u32 x, .int .u32 y] 75))
       have HO3 := Lib.hid o2
       have HFS := Lib.hid HR3.out.fr.size
       have HB0 : Hid ((wr.alloc (.cells #[.int .u32 x, .int .u32 y] 75)).cell? ⟨wr.heap.size, 0, none⟩ = some (.int .u32 x)) := Lib.hid (by rw [World.cell?_alloc_at _ _ _ _ rfl]; rfl)
       have HB2 : Hid ((wr.alloc (.cells #[.int .u32 x, .int .u32 y] 75)).cell? ⟨wr.heap.size, 1, none⟩ = some (.int .u32 y)) := Lib.hid (by rw [World.cell?_alloc_at _ _ _ _ rfl]; rfl)
       have HKEY : Hid (keyOf Tryz.prog 75 (.agg #[.int .u32 x, .int .u32 y]) = some (klP (x, y))) := Lib.hid (keyOfP (p := (x, y)) ⟨HWX.out, HWY.out⟩)
       have HIM := Lib.hid o1.isMap
       have HM1 : Hid ((M ++ [(x, y)]).length ≤ (visX Kf zs x i (B.take (jj + 1))).length) := Lib.hid (by rw [hvs]; simp; exact n2)
       have HN3 : Hid (n3 + 1 ≤ (visX Kf zs x i (B.take (jj + 1))).length) := Lib.hid (by rw [hvs]; omega)
       have HM0 : Hid (M.length ≤ (visX Kf zs x i (B.take (jj + 1))).length) := Lib.hid (by rw [hvs]; omega)
       have hAM : (A ++ M).length ≤ 3000000000000 := by
        have := HA.out
        have := HNA.out
        rw [List.length_append]
        omega
       have HAM := Lib.hid hAM
       have hn9 : n3 ≤ 20000000 := by omega
       have HFR := Lib.hid hfresh
       have HFF := Lib.hid F
       have HFH := Lib.hid hfh
       have HVN := Lib.hid hvn
       clear y0 hy fr4 n1 n2 o1 o2 F hfh hvn hvl hvs hfresh hAM
       have k0 : (0 : Int) ≤ (jj : Int) := Int.natCast_nonneg _
       have k1 : (jj : Int) < (nb : Int) := by omega
       unfold aggP at hr3
       dsimp only at hr3
       cases z with
       | false =>
         have HPL : Hid (Found false (visX Kf zs x i (B.take (jj + 1))) (M ++ [(x, y)]) E) := Lib.hid (by rw [HVN.out]; exact HFF.out.plain (HFR.out rfl))
         clear hr3 HR3
         go_wp2_with (at_builtin; refine wpList_app2 pv 2 pv_len pv_one rfl _ _ 87 rfl 75 _ 8 Tryz.underlying87 info_pair rfl (by decide) wb.heap.size _ _ (A ++ M) (x, y) rfl HO2.out _ (by first | rfl | simp) rfl _ rfl (by have := HAM.out; unfold maxLen; omega) (by have := HAM.out; omega) HF4.out.size ?_; intro v6 w6 o6 k6 g6; have R6 := Lib.hid (CR.push (A := A) (M := M) HF4.out HO1.out HO2.out g6 o6 (by have := HN3.out; omega) HM1.out HPL.out); clear o6 k6 g6)
         go_roundw
         case rel => exact ⟨jj + 1, by omega, by first | rfl | go_num, R6⟩
         case measure => simp [RowKit.intOf]; omega
       | true =>
         have hfh := HFH.out
         generalize hzz : Maps.has E (klP (x, y)) = zz at hr3
         rw [hzz] at hfh
         cases zz with
         | true =>
           have HPL : Hid (Found true (visX Kf zs x i (B.take (jj + 1))) M E) := Lib.hid (by rw [HVN.out]; exact HFF.out.skip (hfh.1 rfl).1)
           have R6 : Hid (CR wb fb (wr.alloc (.cells #[.int .u32 x, .int .u32 y] 75)) u3 A true (visX Kf zs x i (B.take (jj + 1)))) := Lib.hid ⟨HF4.out, M, E, n3, by have := HN3.out; omega, HM0.out, HO1.out, HO2.out, HPL.out⟩
           clear hfh hzz HR3
           go_wp2
           go_roundw
           case rel => exact ⟨jj + 1, by omega, by first | rfl | go_num, R6⟩
           case measure => simp [RowKit.intOf]; omega
         | false =>
           have HPL : Hid (Found true (visX Kf zs x i (B.take (jj + 1))) (M ++ [(x, y)]) (E.put (klP (x, y)) (.lit (.bool true)))) := Lib.hid (by
            rw [HVN.out]
            exact HFF.out.put HIM.out ⟨HWX.out, HWY.out⟩ (fun q => by have := hfh.2 ⟨q, rfl⟩; cases this))
           clear hfh hzz HR3
           go_wp2_with (first
            | (at_mapUpdate; refine wpList_mapUpdate_own _ rfl _ _ _ 179 rfl 75 4 lawP Tryz.underlying179 (plainElem Tryz.prog 4) fb n3 E (by rfl) HO1.out (by unfold maxLen; omega) _ _ (klP (x, y)) (by rfl) (by rfl) HKEY.out (.lit (.bool true)) [] (plainElem_bool Tryz.underlying4 true) ?_; intro w5 h5 g5; have O5 := Lib.hid h5; have P5 := Lib.hid (HO2.out.kept g5 (.inr (fun e => own_map HO2.out HO1.out e.symm))); have F5 := Lib.hid (HF4.out.row g5 (fun k e => .inl (by injection e with e; exact e.symm))); have q0 : w5.cell? ⟨wr.heap.size, 0, none⟩ = some (.int .u32 x) := (World.cell?_of_block (g5.block wr.heap.size (by simp) (fun e => by injection e with e; have := HFS.out; have := HBS.out; omega))).trans HB0.out; have q1 : w5.cell? ⟨wr.heap.size, 1, none⟩ = some (.int .u32 y) := (World.cell?_of_block (g5.block wr.heap.size (by simp) (fun e => by injection e with e; have := HFS.out; have := HBS.out; omega))).trans HB2.out; clear h5 g5)
            | (at_builtin; refine wpList_app2 pv 2 pv_len pv_one rfl _ _ 87 rfl 75 _ 8 Tryz.underlying87 info_pair rfl (by decide) wb.heap.size _ _ (A ++ M) (x, y) rfl P5.out _ (by first | rfl | simp) rfl _ rfl (by have := HAM.out; unfold maxLen; omega) (by have := HAM.out; omega) F5.out.size ?_; intro v6 w6 o6 k6 g6; have R6 := Lib.hid (CR.push (A := A) (M := M) F5.out O5.out P5.out g6 o6 HN3.out HM1.out HPL.out); clear o6 k6 g6))
           go_roundw
           case rel => exact ⟨jj + 1, by omega, by first | rfl | go_num, R6⟩
           case measure => simp [RowKit.intOf]; omega
      ·have i2 : ¬ (jj : Int) < (nb : Int) := by omega
       obtain rfl : jj = nb := by omega
       have HR4 := HR3
       rw [List.take_of_length_le (Nat.le_of_eq HNB.out), HB1.out] at HR4
       clear HR3
       go_wp2
       go_roundw
       case rel => exact ⟨i + 1, by omega, by first | rfl | go_num, HR4⟩
       case measure => simp [RowKit.intOf]; omega
    ·obtain rfl : i = nz := by omega
     have i2 : ¬ (i : Int) < (i : Int) := by omega
     obtain ⟨M, E, n3, n1, n2, o1, o2, F⟩ := HR2.out.fnd
     have hvl := visX_len HK.out zs x [] i
     rw [List.length_nil] at hvl
     have HML : Hid (M.length ≤ 10240000) := Lib.hid (by omega)
     rw [← HNZ.out] at F
     have HEND := Lib.hid (fun m (h1 : M.Perm m) h2 => row_end (m := m) HRS.out F HAS.out HZS.out HM.out h1 h2)
     have hAM : (A ++ M).length ≤ 3000000000000 := by
      have := HA.out
      have := HNA.out
      rw [List.length_append]
      omega
     have FIN : Hid (∀ (w' : World) (lv : Value) (m : List (Int × Int)), M.Perm m → (m.Pairwise fun p q => ¬ q.2 < p.2) → Fr wb fb w' → OwnM w' 75 fb 0 (.map []) → w'.ownsRow wb.heap.size 75 2 lv (A ++ m).length (flatP (A ++ m)) → CO wb fb w' lv ((K.take (j + 1)).flatMap (rowL R)) ∧ ((K.take (j + 1)).flatMap (rowL R)).length ≤ (j + 1) * 20000000) := Lib.hid fun w' lv m h1 h2 h3 h4 h5 => by
      have e := HEND.out m h1 h2
      rw [HTS.out, ← e]
      refine ⟨⟨h3, h4, h5⟩, ?_⟩
      have := h1.length_eq
      have := HML.out
      have := HA.out
      have := HNA.out
      rw [List.length_append]
      omega
     have HO1 := Lib.hid o1
     have HO2 := Lib.hid o2
     have HF2 := Lib.hid HR2.out.fr
     have hshape := o2.2
     have HAM := Lib.hid hAM
     obtain ⟨w5, hrun, h5, g5⟩ := clear_run (ty := 0) Tryz.underlying179 o1
     have O5 := Lib.hid h5
     have P5 := Lib.hid (o2.kept g5 (.inr (fun e => own_map o2 o1 e.symm)))
     have F5 := Lib.hid (HR2.out.fr.row g5 (fun k e => .inl (by injection e with e; exact e.symm)))
     clear n1 n2 o1 o2 F hvl HR2 hAM h5 g5 HO1 HO2 HF2
     rcases hshape with ⟨rfl, e0⟩ | ⟨g2, cap2, cur, rfl, hB, hg2, hc2, _⟩
     ·rw [List.length_append] at e0
      have eM : M = [] := List.length_eq_zero_iff.1 (by omega)
      have eA : nA = 0 := by have := HNA.out; omega
      have C := Lib.hid (fun W => psort_none none 0 (.func (.func 118) #[] #[]) W)
      subst eA
      go_wp2_with ((with_reducible refine (C.out _).mono ?_); rintro en w6 ⟨rfl, rfl⟩)
      go_roundw
      case rel => exact ⟨j + 1, by omega, by first | rfl | go_num, Lib.hid (FIN.out _ _ [] (by rw [eM]) List.Pairwise.nil F5.out O5.out (by rw [← eM]; exact P5.out))⟩
      case measure => simp [RowKit.intOf]; omega
     ·generalize hN2 : (A ++ M).length = n2 at *
      have HN2 := Lib.hid hN2
      rw [List.length_append] at hN2
      by_cases hM : M = []
      ·have en : n2 = nA := by rw [hM] at hN2; have := HNA.out; simp at hN2; omega
       have C := Lib.hid (fun p c W => psort_none p c (.func (.func 118) #[] #[]) W)
       subst en
       by_cases hcap : cap2 = n2
       ·subst hcap
        go_wp2_with ((with_reducible refine (C.out _ _ _).mono ?_); rintro en w6 ⟨rfl, rfl⟩)
        go_roundw
        case rel => exact ⟨j + 1, by omega, by first | rfl | go_num, Lib.hid (FIN.out _ _ [] (by rw [hM]) List.Pairwise.nil F5.out O5.out (by rw [← hM, HN2.out]; exact P5.out))⟩
        case measure => simp [RowKit.intOf]; omega
       ·go_wp2_with ((with_reducible refine (C.out _ _ _).mono ?_); rintro en w6 ⟨rfl, rfl⟩)
        go_roundw
        case rel => exact ⟨j + 1, by omega, by first | rfl | go_num, Lib.hid (FIN.out _ _ [] (by rw [hM]) List.Pairwise.nil F5.out O5.out (by rw [← hM, HN2.out]; exact P5.out))⟩
        case measure => simp [RowKit.intOf]; omega
      ·have hm0 : 0 < M.length := List.length_pos_iff.2 hM
       generalize hnM : M.length = nM at *
       have HNM := Lib.hid hnM
       clear hnM
       have en : n2 = nA + nM := by have := HNA.out; omega
       subst en
       have hcap : ¬ cap2 = nA := by omega
       have C := Lib.hid (fun (W : World) (q : W.ownsRow wb.heap.size 75 2 (.slice (some ⟨g2, 0, none⟩) (A ++ M).length cap2) (A ++ M).length (flatP (A ++ M))) => psub q (by have := HAM.out; rw [HN2.out]; omega) (cap2 - nA))
       rw [HNA.out, HNM.out, HN2.out] at C
       go_wp2_with ((with_reducible refine (C.out _ P5.out).mono ?_); rintro en w6 ⟨rfl, ⟨m, q1, q2, q3⟩, q4, q5⟩)
       go_roundw
       case rel => exact ⟨j + 1, by omega, by first | rfl | go_num, Lib.hid (FIN.out _ _ m q1 q2 (F5.out.kep q5) (map_kepB O5.out q5 (by have := HBS.out; omega)) q3)⟩
       case measure => simp [RowKit.intOf]; omega
  ·obtain rfl : j = nk := by omega
   have i2 : ¬ (j : Int) < (j : Int) := by omega
   have HE := HR.out.1
   rw [List.take_of_length_le (Nat.le_of_eq HNK.out), HALL.out] at HE
   have HX := Lib.hid HE
   clear HE HR
   go_wp2
   go_ret
   exact ⟨_, rfl, ⟨own_sq pv_len HX.out.own, fresh_own HX.out.own (by have := HBS.out; have := HW01.out; omega)⟩, KW0.out _ HX.out.fr⟩
end Go.Proofs.YtaknmlohnifcdaaGreatDoor
end
namespace Go.Proofs.YtaknmlohnifcdaaGreatDoor
open Go.RowKit Go.Lib
def isNil : Option Value → Bool
 | some (.slice none 0 0) => true
 | _ => false
theorem isNil_eq {o : Option Value} (h : isNil o = true) : o = some (.slice none 0 0) := by
 unfold isNil at h
 split at h
 ·rfl
 ·cases h
def isZero : Option Value → Bool
 | some (.int .i64 0) => true
 | _ => false
theorem isZero_eq {o : Option Value} (h : isZero o = true) : o = some (.int .i64 0) := by
 unfold isZero at h
 split at h
 ·rfl
 ·cases h
def tailZ : List Value → Bool
 | [] => false
 | x :: r => match r with
   | [] => isZero (some x)
   | _ :: _ => isNil (some x) && tailZ r
theorem tailZ_nil : ∀ {l : List Value}, tailZ l = true → ∀ j, j + 1 < l.length → l[j]? = some (.slice none 0 0)
 | [], _, j, hj => by simp at hj
 | [x], _, j, hj => by simp at hj
 | x :: y :: r, h, j, hj => by
   unfold tailZ at h
   simp only [Bool.and_eq_true] at h
   cases j with
   | zero => exact isNil_eq h.1
   | succ j => exact tailZ_nil h.2 j (by simpa using hj)
theorem tailZ_last : ∀ {l : List Value}, tailZ l = true → l[l.length - 1]? = some (.int .i64 0)
 | [], h => by cases h
 | [x], h => isZero_eq h
 | x :: y :: r, h => by
   unfold tailZ at h
   simp only [Bool.and_eq_true] at h
   have := tailZ_last h.2
   simpa using this
theorem zeros_tail : tailZ Tryz.zeroCells147.toList = true := by decide +kernel
theorem gnew (w : World) (F : Fac w) : GI (w.alloc (.cells Tryz.zeroCells147 147)) w.heap.size (fun k => k = w.heap.size) [] := by
 have hs : Tryz.zeroCells147.toList.length = 1025 := Tryz.zeroCells147_size
 have hz : ∀ j, j < 1024 → Tryz.zeroCells147[j]? = some (.slice none 0 0) := fun j hj => by
  have := tailZ_nil zeros_tail j (by omega)
  rw [Array.getElem?_toList] at this
  exact this
 have hi : Tryz.zeroCells147[1024]? = some (.int .i64 0) := by
  have := tailZ_last zeros_tail
  rw [hs, Array.getElem?_toList] at this
  exact this
 generalize Tryz.zeroCells147 = Z at *
 exact ⟨fun _ => .slice none 0 0, {
  c := fun j hj => by rw [World.cell?_alloc_at _ _ _ _ rfl]; exact hz j hj
  cn := by rw [World.cell?_alloc_at _ _ _ _ rfl]; exact hi
  fz := fun j => World.frozen?_alloc_at _ _ _ _ rfl
  own := fun j hj => World.ownsRow_nil _ _ _ _
  apart := fun i j _ _ _ k e => (by cases e)
  off := fun j _ e => (by cases e)
  sg := rfl
  sv := fun j _ k e => (by cases e)
  only := fun k e => .inl e
  fac := F.alloc _
  nf := fun e => by have := F.lt; omega }⟩
theorem gi_kep {w w' : World} {g : Nat} {S : Nat → Prop} {L : List Ent} (h : GI w g S L) (k : Kep w.heap.size w w') : GI w' g S L := by
 obtain ⟨vf, h⟩ := h
 exact ⟨vf, h.kept (fun j hj => k.block j (h.lt j hj)) (h.fac.kep k)⟩
end Go.Proofs.YtaknmlohnifcdaaGreatDoor
