/-
  Package grid: the reference's Candidates.
-/
import Derived.Test.YtnmnbogjnjbopaaDoorGridRef2
import Derived.Test.YtnmnbogjnjbopaaDoorCellCon
import Derived.Deep.DeepCutAuto
import Derived.Deep.QuietTactic
import Derived.BigQuiet
namespace Go.Proofs.YtnmnbogjnjbopaaDoor
open Go.RowKit Go.Lib

/-- What a list of entries is to be: numbers that fit, boxes of few cells. -/
def FitE (e : Ent) : Prop := In3 e.a ∧ In3 e.b ∧ In3 e.c ∧ In3 e.d
theorem ral_any {a b c d : Int} (ha : In3 a) (hb : In3 b) (hc : In3 c) (hd : In3 d) (hn : (cellsB a b c d).length ≤ 1000000) : RAl a b c d (cellsB a b c d) := by
  unfold cellsB at hn ⊢
  by_cases h : c < a ∨ d < b
  · rw [show empB a b c d = true from decide_eq_true h, if_pos rfl]
    exact ral_no a b c d h
  · have e : empB a b c d = false := decide_eq_false h
    rw [e, if_neg (by simp), allC_len] at hn
    rw [e, if_neg (by simp)]
    have a1 := colN_in ha
    have a2 := colN_in hb
    have a3 := colN_in hc
    have a4 := colN_in hd
    have m1 := colN_le (show a ≤ c by omega)
    have m2 := colN_le (show b ≤ d by omega)
    exact ral_walk a b c d _ _ _ _ (ncB a c) (ncB b d) (Lib.hid (rem _ _ _ _ false e)) (Lib.hid (rcl ha)) (Lib.hid (rcl hb)) (Lib.hid (rcl hc)) (Lib.hid (rcl hd)) (by unfold ncB; omega) (by unfold ncB; omega) (by omega) (by omega) (by omega) (by omega) hn
theorem rbs_any {e : Ent} (h : FitE e) (hn : (cellsB e.a e.b e.c e.d).length ≤ 1000000) : RBs e.a e.b e.c e.d (bksE e) := rbs e.a e.b e.c e.d _ hn (Lib.hid (ral_any h.1 h.2.1 h.2.2.1 h.2.2.2 hn))
/-- The lists of buckets, after k entries. -/
def Bks (B : Nat) (L : List Ent) (w1 : World) (k : Nat) (out : Value) (wr : World) : Prop := Kep w1.heap.size w1 wr ∧ ∃ ss : List Sl, ss.length = k ∧ wr.ownsRow B 82 1 out ss.length (ss.flatMap sv) ∧
  ∀ (i : Nat) (s : Sl) (x : Ent), ss[i]? = some s → L[i]? = some x → s.2.1 = (bksE x).length ∧ wr.ownsRow 0 3 1 (.slice s.1 s.2.1 s.2.2) (bksE x).length ((bksE x).flatMap iv)
theorem Bks.next {L : List Ent} {w1 wr w2 w3 : World} {k : Nat} {out v v' : Value} {e : Ent} {ss : List Sl} {s : Sl} (h0 : Kep w1.heap.size w1 wr) (hl : ss.length = k)
    (hs : ∀ (i : Nat) (s : Sl) (x : Ent), ss[i]? = some s → L[i]? = some x → s.2.1 = (bksE x).length ∧ wr.ownsRow 0 3 1 (.slice s.1 s.2.1 s.2.2) (bksE x).length ((bksE x).flatMap iv))
    (ho : wr.ownsRow w1.heap.size 82 1 out ss.length (ss.flatMap sv)) (he : L[k]? = some e) (g2 : Kep wr.heap.size wr w2) (hv : v = .slice s.1 s.2.1 s.2.2) (hsl : s.2.1 = (bksE e).length) (hw2 : w2.ownsRow wr.heap.size 3 1 v (bksE e).length ((bksE e).flatMap iv)) {tmp : Obj}
    (o3 : w3.ownsRow w1.heap.size 82 1 v' (ss ++ [s]).length ((ss ++ [s]).flatMap sv)) (k3 : Kep w1.heap.size w2 w3) (g3 : (w2.alloc tmp).grownBy w3 out.ownBlock) : Bks w1.heap.size L w1 (k + 1) v' w3 := by
  have o2 := own_kep ho g2 (Nat.le_refl _)
  refine ⟨(h0.trans (g2.mono h0.size)).trans k3, ss ++ [s], by rw [List.length_append, hl]; rfl, o3, fun i t x hi hx => ?_⟩
  have keep : ∀ {n : Nat} {u : Value} {xs : List Value}, w2.ownsRow 0 3 1 u n xs → w3.ownsRow 0 3 1 u n xs := fun h => (h.alloc tmp).kept g3 (own_apart h o2 (by decide))
  by_cases hik : i < ss.length
  · rw [List.getElem?_append_left hik] at hi
    obtain ⟨a, b⟩ := hs i t x hi hx
    exact ⟨a, keep (own_kep b g2 (Nat.le_refl _))⟩
  · have hi2 : i = ss.length := by
      have := (List.getElem?_eq_some_iff.1 hi).1
      rw [List.length_append] at this
      simp at this
      omega
    subst hi2
    rw [List.getElem?_append_right (Nat.le_refl _), Nat.sub_self] at hi
    injection hi with hi
    subst hi
    rw [hl, he] at hx
    injection hx with hx
    subst hx
    exact ⟨hsl, keep (own_base (by rw [← hv]; exact hw2) (Nat.zero_le _))⟩
theorem info_ints : (Tryd.prog.info? 82).map (fun i => (i.zero, i.size, i.bytes)) = some (some (.slice none 0 0), 1, 24) := by kernel_rfl
abbrev RCa (L : List Ent) : Prop := ∀ v w, Sq ev 5 w v L → Calls Tryd.prog 19 #[v] w fun e w' => ∃ v', e = .returned v' ∧ (Sq pv 2 w' v' (candL L) ∧ Rmy v') ∧ Kep w.heap.size w w'
set_option maxRecDepth 100000 in
set_option maxHeartbeats 8000000 in
theorem rca (L : List Ent) (hm : L.length ≤ 40) (HF : Hid (∀ x ∈ L, FitE x ∧ (cellsB x.a x.b x.c x.d).length ≤ 1000000)) : RCa L := fun v w h => by
  obtain ⟨base, cap, rfl, H⟩ := h
  have HC := Lib.hid H
  clear H
  generalize hl : L.length = len at *
  have HN := Lib.hid hl
  clear hl
  go_enter Tryd.func19, Tryd.ntmps19
  go_wp2_with fail
  go_loopw [4, 5] (fun out i wr => ∃ k : Nat, k ≤ len ∧ i = .int .i64 k ∧ Hid (Bks w.heap.size L w k out wr)) (fun _ i _ => len - (RowKit.intOf i).toNat)
  case atStart => exact ⟨0, by omega, rfl, Lib.hid ⟨Kep.refl _ _, [], rfl, World.ownsRow_nil _ _ _ _, fun i s x hi => by simp at hi⟩⟩
  case round =>
    obtain ⟨k, hk, rfl, HP⟩ := hrel
    by_cases hlt : k < len
    · have hb : L[k]? = some (L[k]'(by rw [HN.out]; exact hlt)) := List.getElem?_eq_getElem _
      generalize L[k]'(by rw [HN.out]; exact hlt) = x at hb
      obtain ⟨gl, off, rfl, q⟩ := HC.out k x hb
      obtain ⟨h0, ss, hss, ho, hs⟩ := HP.out
      obtain ⟨hf, hcl⟩ := HF.out x (List.mem_of_getElem? hb)
      have A1 := Lib.hid (rbs_any hf hcl)
      have t1 : wr.cell? ⟨gl, off + k * 5 + 1, none⟩ = some (.int .i32 x.a) := h0.all (q 1 _ rfl)
      have t2 : wr.cell? ⟨gl, off + k * 5 + 2, none⟩ = some (.int .i32 x.b) := h0.all (q 2 _ rfl)
      have t3 : wr.cell? ⟨gl, off + k * 5 + 3, none⟩ = some (.int .i32 x.c) := h0.all (q 3 _ rfl)
      have t4 : wr.cell? ⟨gl, off + k * 5 + 4, none⟩ = some (.int .i32 x.d) := h0.all (q 4 _ rfl)
      have HB := Lib.hid hb
      have H0 := Lib.hid h0
      have HSS := Lib.hid hss
      have HO := Lib.hid ho
      have HS := Lib.hid hs
      clear hb q h0 hss ho hs hf hcl HP
      go_wp2_with (first
        | ((with_reducible refine (A1.out _).mono ?_); rintro e w2 ⟨l2, rfl, q2, g2⟩
           obtain ⟨s2, hs2, hn2⟩ := own_slice q2.2
           have HQ2 := Lib.hid q2.2
           have HS2 := Lib.hid hs2
           have HN2 := Lib.hid hn2
           subst hs2
           clear q2 hn2)
        | (at_builtin; refine wpList_app2 sv 1 sv_len sv_one rfl _ _ 86 rfl 82 _ 24 Tryd.underlying86 info_ints rfl (by decide) w.heap.size _ _ ss s2 rfl (own_kep HO.out g2 (Nat.le_refl _)) _ (by first | rfl | simp) rfl _ rfl (by rw [HSS.out]; unfold maxLen; omega) (by rw [HSS.out]; omega) (Nat.le_trans H0.out.size g2.size) ?_; intro v3 w3 o3 k3 g3))
      have HM := Lib.hid (Bks.next H0.out HSS.out HS.out HO.out HB.out g2 rfl HN2.out HQ2.out o3 k3 g3)
      clear o3 k3 g3 g2
      go_roundw
      case rel => exact ⟨k + 1, by omega, by go_num, HM⟩
      case measure => simp [RowKit.intOf]; omega
    · obtain rfl : k = len := by omega
      obtain ⟨h0, ss, hss, ho, hs⟩ := HP.out
      have H0 := Lib.hid h0
      have HSS := Lib.hid hss
      have HO := Lib.hid (own_sq sv_len ho)
      have HS := Lib.hid hs
      clear h0 hss ho hs HP
      obtain ⟨sb, sc, he, hsq⟩ := HO.out
      rw [HSS.out] at he
      subst he
      have HQ := Lib.hid hsq
      have HOS : Hid (∀ (i : Nat) (s : Sl) (x : Ent), ss[i]? = some s → L[i]? = some x → s.2.1 = (bksE x).length ∧ Sq iv 1 wr (.slice s.1 s.2.1 s.2.2) (bksE x)) := Lib.hid (fun i s x a b => ⟨(HS.out i s x a b).1, own_sq iv_len (HS.out i s x a b).2⟩)
      clear hsq hk hlt HO HS
      obtain ⟨w2, hw2⟩ : ∃ x, x = wr := ⟨_, rfl⟩
      subst hw2
      obtain ⟨n, hn⟩ : ∃ n, n = k := ⟨_, rfl⟩
      subst hn
      go_wp2_with fail
      go_loopw [3, 6, 7, 8, 9] (fun out i _ _ _ wr => ∃ a : Nat, a ≤ n ∧ i = .int .i64 a ∧ Hid (Sq pv 2 wr out (accO L a) ∧ Rmy out ∧ Kep w2.heap.size w2 wr)) (fun _ i _ _ _ _ => n - (RowKit.intOf i).toNat)
      case atStart => exact ⟨0, by omega, rfl, Lib.hid ⟨Sq.nil, fun b m c e => by injection e with _ e1 e2; omega, Kep.refl _ _⟩⟩
      case round =>
        obtain ⟨a, ha, rfl, HP⟩ := hrel
        by_cases hlt : a < n
        · have hb : L[a]? = some (L[a]'(by rw [HN.out]; exact hlt)) := List.getElem?_eq_getElem _
          generalize L[a]'(by rw [HN.out]; exact hlt) = x at hb
          obtain ⟨gl, off, rfl, q⟩ := HC.out a x hb
          obtain ⟨xk, hxk⟩ : ∃ xk, xk = x.k := ⟨_, rfl⟩
          have HX0 : Hid (w2.cell? ⟨gl, off + a * 5, none⟩ = some (.int .u32 xk)) := Lib.hid (by rw [hxk]; exact H0.out.all (q 0 _ rfl))
          have HXK := Lib.hid hxk
          have HX := Lib.hid hb
          have HAL : Hid ((accO L a).length ≤ 1600) := Lib.hid (by
            have h1 := accO_len L a (by rw [HN.out]; omega)
            rw [HN.out] at h1
            have h2 := Nat.mul_le_mul (show a ≤ 40 by omega) hm
            omega)
          have hsa : ss[a]? = some (ss[a]'(by rw [HSS.out]; exact hlt)) := List.getElem?_eq_getElem _
          generalize ss[a]'(by rw [HSS.out]; exact hlt) = sa at hsa
          obtain ⟨gs, os, rfl, qs⟩ := HQ.out a sa hsa
          obtain ⟨la, HLA⟩ := HOS.out a sa x hsa hb
          obtain ⟨ba, na, ca⟩ := sa
          dsimp only at la HLA
          subst la
          have HS0 : Hid (w2.cell? ⟨gs, os + a, none⟩ = some (.slice ba (bksE x).length ca)) := Lib.hid (by have := qs 0 _ rfl; rw [Nat.mul_one] at this; exact this)
          have HLAH := Lib.hid HLA
          clear q hb hxk hsa qs HLA
          go_wp2_with fail
          obtain ⟨wd, hwd⟩ : ∃ x, x = wr := ⟨_, rfl⟩
          subst hwd
          go_loopw [3, 7, 8, 9] (fun out i _ _ wr => ∃ b : Nat, b ≤ n ∧ i = .int .i64 b ∧ Hid (Sq pv 2 wr out (accI L x (accO L a) b) ∧ Rmy out ∧ Kep w2.heap.size w2 wr)) (fun _ i _ _ _ => n - (RowKit.intOf i).toNat)
          case atStart => exact ⟨0, by omega, rfl, by simpa [accI] using HP⟩
          case round =>
            obtain ⟨b, hb, rfl, HR⟩ := hrel
            by_cases hlt2 : b < n
            · have hbb : L[b]? = some (L[b]'(by rw [HN.out]; exact hlt2)) := List.getElem?_eq_getElem _
              generalize L[b]'(by rw [HN.out]; exact hlt2) = y at hbb
              obtain ⟨_, _, e0, q⟩ := HC.out b y hbb
              injection e0 with e0
              injection e0 with e1 e2
              subst e1 e2
              obtain ⟨yk, hyk⟩ : ∃ yk, yk = y.k := ⟨_, rfl⟩
              have HY0 : Hid (w2.cell? ⟨gl, off + b * 5, none⟩ = some (.int .u32 yk)) := Lib.hid (by rw [hyk]; exact H0.out.all (q 0 _ rfl))
              have HYK := Lib.hid hyk
              have HY := Lib.hid hbb
              have hsb : ss[b]? = some (ss[b]'(by rw [HSS.out]; exact hlt2)) := List.getElem?_eq_getElem _
              generalize ss[b]'(by rw [HSS.out]; exact hlt2) = sb at hsb
              obtain ⟨_, _, e0, qs⟩ := HQ.out b sb hsb
              injection e0 with e0
              injection e0 with e1 e2
              subst e1 e2
              obtain ⟨lb, HLB⟩ := HOS.out b sb y hsb hbb
              obtain ⟨bb, nb, cb⟩ := sb
              dsimp only at lb HLB
              subst lb
              have HS1 : Hid (w2.cell? ⟨gs, os + b, none⟩ = some (.slice bb (bksE y).length cb)) := Lib.hid (by have := qs 0 _ rfl; rw [Nat.mul_one] at this; exact this)
              have HLBH := Lib.hid HLB
              clear q hbb hyk hsb qs HLB
              have gg := HR.out.2.2
              have x0 := gg.all HX0.out
              have y0 := gg.all HY0.out
              by_cases hxy : yk ≤ xk
              · go_wp2_with fail
                go_quiet (fail)
                go_wp2_with fail
                go_roundw
                case rel => exact ⟨b + 1, by omega, by go_num, Lib.hid (by
                    rw [accI_succ HY.out]
                    have e : candT x y = false := by unfold candT; rw [decide_eq_false (by rw [← HXK.out, ← HYK.out]; omega)]; rfl
                    unfold stepC
                    rw [e]
                    exact ⟨HR.out.1.kep (kep_drewN (Kep.refl _ _) _), HR.out.2.1, kep_drewN gg _⟩)⟩
                case measure => simp [RowKit.intOf]; omega
              · go_wp2_with fail
                go_quiet (fail)
                go_wp2_with fail
                have HCM : Hid (candT x y = comE x y) := Lib.hid (by unfold candT; rw [decide_eq_true (by rw [← HXK.out, ← HYK.out]; omega)]; rfl)
                obtain ⟨w3, hw3⟩ : ∃ w3, w3 = wr.drewN nq := ⟨_, rfl⟩
                have hg3 : Kep w2.heap.size w2 w3 := by rw [hw3]; exact kep_drewN gg _
                have HSO := Lib.hid (show Sq pv 2 w3 _ _ from HR.out.1.kep (by rw [hw3]; exact kep_drewN (Kep.refl _ _) _))
                have HRO := Lib.hid HR.out.2.1
                rw [← hw3]
                obtain ⟨acc, hacc⟩ : ∃ acc, acc = accI L x (accO L a) b := ⟨_, rfl⟩
                rw [← hacc] at HSO
                have HACL : Hid (acc.length ≤ 1000000) := Lib.hid (by have h1 := accI_len L x (accO L a) b; rw [← hacc] at h1; have := HAL.out; omega)
                have HAC := Lib.hid hacc
                have HX3 := Lib.hid (hg3.all HX0.out)
                have HY3 := Lib.hid (hg3.all HY0.out)
                have HA3 := Lib.hid (hg3.all HS0.out)
                have HB3 := Lib.hid (hg3.all HS1.out)
                have HLA3 := Lib.hid (HLAH.out.kep hg3)
                have HLB3 := Lib.hid (HLBH.out.kep hg3)
                have HG3 := Lib.hid hg3
                clear hw3 hacc hg3 gg x0 y0 HR
                obtain ⟨lx, hlx⟩ : ∃ lx, lx = (bksE x).length := ⟨_, rfl⟩
                rw [← hlx] at HA3 HLA3
                have HLX := Lib.hid hlx
                clear hlx
                have hlxm : lx ≤ 1000000 := by rw [HLX.out]; have := (HF.out x (List.mem_of_getElem? HX.out)).2; unfold bksE bksB; rw [List.length_map]; omega
                obtain ⟨_, _, e0, hj⟩ := HLA3.out
                injection e0 with e1 e2 e3
                subst e1 e3
                have HJ := Lib.hid hj
                clear hj e2
                go_loopw [8, 9] (fun common j wr => ∃ (c : Nat) (z : Bool), c ≤ lx ∧ j = .int .i64 c ∧ common = .bool z ∧ Hid (((bksE x).take c).any (fun m => (bksE y).contains m) = z) ∧ Hid (Kep w3.heap.size w3 wr)) (fun _ j _ => lx - (RowKit.intOf j).toNat)
                case atStart => exact ⟨0, false, by omega, rfl, rfl, Lib.hid (by simp), Lib.hid (Kep.refl _ _)⟩
                case round =>
                  obtain ⟨c, z, hc, rfl, rfl, HZ, HK⟩ := hrel
                  have gg := HK.out
                  have s0 := gg.all HA3.out
                  have s1 := gg.all HB3.out
                  by_cases hlt3 : c < lx
                  · have hm2 : (bksE x)[c]? = some ((bksE x)[c]'(by rw [← HLX.out]; exact hlt3)) := List.getElem?_eq_getElem _
                    generalize (bksE x)[c]'(by rw [← HLX.out]; exact hlt3) = m at hm2
                    obtain ⟨gj, oj, rfl, qj⟩ := HJ.out c m hm2
                    have m0 : wr.cell? ⟨gj, oj + c, none⟩ = some (.int .i64 m) := by have := gg.all (qj 0 _ rfl); rw [Nat.mul_one] at this; exact this
                    have HMS := Lib.hid (any_succ (t := fun m => (bksE y).contains m) hm2)
                    clear hm2 qj
                    cases z
                    · obtain ⟨z1, hz1⟩ : ∃ z1, (bksE y).contains m = z1 := ⟨_, rfl⟩
                      have HSK : Hid (∀ v w, Sq iv 1 w v (bksE y) → Calls Tryd.prog 46 #[v, .int .i64 m] w fun e w' => e = .returned (.bool z1) ∧ Kep w.heap.size w w') := Lib.hid (fun v w h => (rhs (bksE y) m (by have := (HF.out y (List.mem_of_getElem? HY.out)).2; unfold bksE bksB; rw [List.length_map]; omega) v w h).mono fun _ _ h => ⟨by rw [h.1, hz1], by rw [← h.2]; exact Kep.refl _ _⟩)
                      have HZ1 := Lib.hid hz1
                      clear hz1
                      go_wp2_with fail
                      refine wp_region_noPanic ?_
                      refine wp_region_held_drew (S := (fun w' => w'.cell? ⟨gs, os + a, none⟩ = some (.slice (some ⟨gj, oj, none⟩) lx ca) ∧ w'.cell? ⟨gs, os + b, none⟩ = some (.slice bb (bksE y).length cb) ∧ w'.cell? ⟨gj, oj + c, none⟩ = some (.int .i64 m) ∧ Kep w3.heap.size w3 w')) (by kernel_rfl) (⟨by rw [World.cell?_drew]; exact s0, by rw [World.cell?_drew]; exact s1, by rw [World.cell?_drew]; exact m0, kep_drew gg⟩) (fun hH => ?_)
                      refine wpAnyH_take (i := 0) (oi := { dst := some 57, op := Op.move (Operand.tmp 8), type := _, pos := _, after := _, guard := none }) (v := ?_) rfl (by kernel_rfl) (by kernel_rfl) (by kernel_rfl) (fun _ _ _ h => h) (Or.inl ⟨by rfl, ?_⟩) hH ?_
                      rotate_left
                      · (intro w hSw; (try dsimp only at hSw); go_simp; (try with_reducible rfl))
                      try simp only [Act.put, List.setIfInBounds_toArray, List.set_cons_zero, List.set_cons_succ]
                      refine wpAnyH_take (i := 1) (oi := { dst := some 58, op := Op.move (Operand.tmp 57), type := _, pos := _, after := _, guard := none }) (v := ?_) rfl (by kernel_rfl) (by kernel_rfl) (by kernel_rfl) (fun _ _ _ h => h) (Or.inl ⟨by rfl, ?_⟩) hH ?_
                      rotate_left
                      · (intro w hSw; (try dsimp only at hSw); go_simp; (try with_reducible rfl))
                      try simp only [Act.put, List.setIfInBounds_toArray, List.set_cons_zero, List.set_cons_succ]
                      refine wpAnyH_take (i := 2) (oi := { dst := some 59, op := Op.move (Operand.tmp 4), type := _, pos := _, after := _, guard := some (1, false) }) (v := ?_) rfl (by kernel_rfl) (by kernel_rfl) (by kernel_rfl) (fun _ _ _ h => h) (Or.inl ⟨by rfl, ?_⟩) hH ?_
                      rotate_left
                      · (intro w hSw; (try dsimp only at hSw); go_simp; (try with_reducible rfl))
                      try simp only [Act.put, List.setIfInBounds_toArray, List.set_cons_zero, List.set_cons_succ]
                      refine wpAnyH_take (i := 3) (oi := { dst := some 60, op := Op.move (Operand.tmp 7), type := _, pos := _, after := _, guard := some (1, false) }) (v := ?_) rfl (by kernel_rfl) (by kernel_rfl) (by kernel_rfl) (fun _ _ _ h => h) (Or.inl ⟨by rfl, ?_⟩) hH ?_
                      rotate_left
                      · (intro w hSw; (try dsimp only at hSw); go_simp; (try with_reducible rfl))
                      try simp only [Act.put, List.setIfInBounds_toArray, List.set_cons_zero, List.set_cons_succ]
                      refine wpAnyH_take (i := 4) (oi := { dst := some 61, op := Op.indexAddr 86 (Operand.tmp 59) (Operand.tmp 60), type := _, pos := _, after := _, guard := some (1, false) }) (v := ?_) rfl (by kernel_rfl) (by kernel_rfl) (by kernel_rfl) (fun _ _ _ h => h) (Or.inl ⟨by rfl, ?_⟩) hH ?_
                      rotate_left
                      · (intro w hSw; (try dsimp only at hSw); go_simp; (try with_reducible rfl))
                      try simp only [Act.put, List.setIfInBounds_toArray, List.set_cons_zero, List.set_cons_succ]
                      refine wpAnyH_take (i := 5) (oi := { dst := some 62, op := Op.load 82 (Operand.tmp 61), type := _, pos := _, after := _, guard := some (1, false) }) (v := ?_) rfl (by kernel_rfl) (by kernel_rfl) (by kernel_rfl) (fun _ _ _ h => h) (Or.inl ⟨by rfl, ?_⟩) hH ?_
                      rotate_left
                      · (intro w hSw; (try dsimp only at hSw); go_simp; (try with_reducible rfl))
                      try simp only [Act.put, List.setIfInBounds_toArray, List.set_cons_zero, List.set_cons_succ]
                      refine wpAnyH_take (i := 6) (oi := { dst := some 63, op := Op.move (Operand.tmp 4), type := _, pos := _, after := _, guard := some (1, false) }) (v := ?_) rfl (by kernel_rfl) (by kernel_rfl) (by kernel_rfl) (fun _ _ _ h => h) (Or.inl ⟨by rfl, ?_⟩) hH ?_
                      rotate_left
                      · (intro w hSw; (try dsimp only at hSw); go_simp; (try with_reducible rfl))
                      try simp only [Act.put, List.setIfInBounds_toArray, List.set_cons_zero, List.set_cons_succ]
                      refine wpAnyH_take (i := 7) (oi := { dst := some 64, op := Op.move (Operand.tmp 6), type := _, pos := _, after := _, guard := some (1, false) }) (v := ?_) rfl (by kernel_rfl) (by kernel_rfl) (by kernel_rfl) (fun _ _ _ h => h) (Or.inl ⟨by rfl, ?_⟩) hH ?_
                      rotate_left
                      · (intro w hSw; (try dsimp only at hSw); go_simp; (try with_reducible rfl))
                      try simp only [Act.put, List.setIfInBounds_toArray, List.set_cons_zero, List.set_cons_succ]
                      refine wpAnyH_take (i := 8) (oi := { dst := some 65, op := Op.indexAddr 86 (Operand.tmp 63) (Operand.tmp 64), type := _, pos := _, after := _, guard := some (1, false) }) (v := ?_) rfl (by kernel_rfl) (by kernel_rfl) (by kernel_rfl) (fun _ _ _ h => h) (Or.inl ⟨by rfl, ?_⟩) hH ?_
                      rotate_left
                      · (intro w hSw; (try dsimp only at hSw); go_simp; (try with_reducible rfl))
                      try simp only [Act.put, List.setIfInBounds_toArray, List.set_cons_zero, List.set_cons_succ]
                      refine wpAnyH_take (i := 9) (oi := { dst := some 66, op := Op.load 82 (Operand.tmp 65), type := _, pos := _, after := _, guard := some (1, false) }) (v := ?_) rfl (by kernel_rfl) (by kernel_rfl) (by kernel_rfl) (fun _ _ _ h => h) (Or.inl ⟨by rfl, ?_⟩) hH ?_
                      rotate_left
                      · (intro w hSw; (try dsimp only at hSw); go_simp; (try with_reducible rfl))
                      try simp only [Act.put, List.setIfInBounds_toArray, List.set_cons_zero, List.set_cons_succ]
                      refine wpAnyH_take (i := 10) (oi := { dst := some 67, op := Op.move (Operand.tmp 9), type := _, pos := _, after := _, guard := some (1, false) }) (v := ?_) rfl (by kernel_rfl) (by kernel_rfl) (by kernel_rfl) (fun _ _ _ h => h) (Or.inl ⟨by rfl, ?_⟩) hH ?_
                      rotate_left
                      · (intro w hSw; (try dsimp only at hSw); go_simp; (try with_reducible rfl))
                      try simp only [Act.put, List.setIfInBounds_toArray, List.set_cons_zero, List.set_cons_succ]
                      refine wpAnyH_take (i := 11) (oi := { dst := some 68, op := Op.indexAddr 82 (Operand.tmp 66) (Operand.tmp 67), type := _, pos := _, after := _, guard := some (1, false) }) (v := ?_) rfl (by kernel_rfl) (by kernel_rfl) (by kernel_rfl) (fun _ _ _ h => h) (Or.inl ⟨by rfl, ?_⟩) hH ?_
                      rotate_left
                      · (intro w hSw; (try dsimp only at hSw); go_simp; (try with_reducible rfl))
                      try simp only [Act.put, List.setIfInBounds_toArray, List.set_cons_zero, List.set_cons_succ]
                      refine wpAnyH_take (i := 12) (oi := { dst := some 69, op := Op.load 3 (Operand.tmp 68), type := _, pos := _, after := _, guard := some (1, false) }) (v := ?_) rfl (by kernel_rfl) (by kernel_rfl) (by kernel_rfl) (fun _ _ _ h => h) (Or.inl ⟨by rfl, ?_⟩) hH ?_
                      rotate_left
                      · (intro w hSw; (try dsimp only at hSw); go_simp; (try with_reducible rfl))
                      try simp only [Act.put, List.setIfInBounds_toArray, List.set_cons_zero, List.set_cons_succ]
                      refine wpAnyH_ready (rs := [13]) (by kernel_rfl) (by simp) ?_
                      refine AllReadyH.cons (o := { dst := some 70, op := Op.call { callee := Callee.value (Operand.func 46), args := #[Operand.tmp 62, Operand.tmp 69], argTypes := #[82, 3] }, type := _, pos := _, after := _, guard := some (1, false) }) rfl (fun K hK => ?_) AllReadyH.nil
                      go_simp
                      (with_reducible refine (HSK.out _ _ (HLB3.out.kep hH.2.2.2)).mono ?_); rintro e v18_13 ⟨rfl, g⟩
                      refine hK.out _ _ (by (try dsimp only); (go_split_ands; exact ⟨Kep.all g (by assumption), Kep.all g (by assumption), Kep.all g (by assumption), kep_next (by assumption) g⟩)) (fun hH2 => ?_)
                      clear hK K hH; have hH := hH2; clear hH2
                      try simp only [Act.put, List.setIfInBounds_toArray, List.set_cons_zero, List.set_cons_succ]
                      refine wpAnyH_take (i := 14) (oi := { dst := some 71, op := Op.pick (Operand.tmp 58) (Operand.const (Value.bool true)) (Operand.tmp 70), type := _, pos := _, after := _, guard := none }) (v := ?_) rfl (by kernel_rfl) (by kernel_rfl) (by kernel_rfl) (fun _ _ _ h => h) (Or.inl ⟨by rfl, ?_⟩) hH ?_
                      rotate_left
                      · (intro w hSw; (try dsimp only at hSw); go_simp; (try with_reducible rfl))
                      try simp only [Act.put, List.setIfInBounds_toArray, List.set_cons_zero, List.set_cons_succ]
                      refine wpAnyH_take (i := 15) (oi := { dst := some 8, op := Op.assign (Operand.tmp 71), type := _, pos := _, after := _, guard := none }) (v := ?_) rfl (by kernel_rfl) (by kernel_rfl) (by kernel_rfl) (fun _ _ _ h => h) (Or.inl ⟨by rfl, ?_⟩) hH ?_
                      rotate_left
                      · (intro w hSw; (try dsimp only at hSw); go_simp; (try with_reducible rfl))
                      try simp only [Act.put, List.setIfInBounds_toArray, List.set_cons_zero, List.set_cons_succ]
                      refine wpAnyH_done (by kernel_rfl) ?_ _
                      refine NoPanic.normal ?_
                      clear s0 s1 m0 gg
                      obtain ⟨s0, s1, m0, gg⟩ := hH
                      go_wp2_with fail
                      go_roundw
                      case rel => exact ⟨c + 1, _, by omega, by go_num, rfl, Lib.hid (by rw [HMS.out, HZ.out, HZ1.out]; rfl), Lib.hid gg⟩
                      case measure => simp [RowKit.intOf]; omega
                    · go_wp2_with fail
                      refine wp_region_noPanic ?_
                      refine wp_region_held_drew (S := (fun w' => w'.cell? ⟨gs, os + a, none⟩ = some (.slice (some ⟨gj, oj, none⟩) lx ca) ∧ w'.cell? ⟨gs, os + b, none⟩ = some (.slice bb (bksE y).length cb) ∧ w'.cell? ⟨gj, oj + c, none⟩ = some (.int .i64 m) ∧ Kep w3.heap.size w3 w')) (by kernel_rfl) (⟨by rw [World.cell?_drew]; exact s0, by rw [World.cell?_drew]; exact s1, by rw [World.cell?_drew]; exact m0, kep_drew gg⟩) (fun hH => ?_)
                      refine wpAnyH_take (i := 0) (oi := { dst := some 57, op := Op.move (Operand.tmp 8), type := _, pos := _, after := _, guard := none }) (v := ?_) rfl (by kernel_rfl) (by kernel_rfl) (by kernel_rfl) (fun _ _ _ h => h) (Or.inl ⟨by rfl, ?_⟩) hH ?_
                      rotate_left
                      · (intro w hSw; (try dsimp only at hSw); go_simp; (try with_reducible rfl))
                      try simp only [Act.put, List.setIfInBounds_toArray, List.set_cons_zero, List.set_cons_succ]
                      refine wpAnyH_take (i := 1) (oi := { dst := some 58, op := Op.move (Operand.tmp 57), type := _, pos := _, after := _, guard := none }) (v := ?_) rfl (by kernel_rfl) (by kernel_rfl) (by kernel_rfl) (fun _ _ _ h => h) (Or.inl ⟨by rfl, ?_⟩) hH ?_
                      rotate_left
                      · (intro w hSw; (try dsimp only at hSw); go_simp; (try with_reducible rfl))
                      try simp only [Act.put, List.setIfInBounds_toArray, List.set_cons_zero, List.set_cons_succ]
                      refine wpAnyH_take (i := 2) (oi := { dst := some 59, op := Op.move (Operand.tmp 4), type := _, pos := _, after := _, guard := some (1, false) }) (v := undef) rfl (by kernel_rfl) (by kernel_rfl) (by kernel_rfl) (fun _ _ _ h => h) (Or.inr ⟨by rfl, rfl⟩) hH ?_
                      try simp only [Act.put, List.setIfInBounds_toArray, List.set_cons_zero, List.set_cons_succ]
                      refine wpAnyH_take (i := 3) (oi := { dst := some 60, op := Op.move (Operand.tmp 7), type := _, pos := _, after := _, guard := some (1, false) }) (v := undef) rfl (by kernel_rfl) (by kernel_rfl) (by kernel_rfl) (fun _ _ _ h => h) (Or.inr ⟨by rfl, rfl⟩) hH ?_
                      try simp only [Act.put, List.setIfInBounds_toArray, List.set_cons_zero, List.set_cons_succ]
                      refine wpAnyH_take (i := 4) (oi := { dst := some 61, op := Op.indexAddr 86 (Operand.tmp 59) (Operand.tmp 60), type := _, pos := _, after := _, guard := some (1, false) }) (v := undef) rfl (by kernel_rfl) (by kernel_rfl) (by kernel_rfl) (fun _ _ _ h => h) (Or.inr ⟨by rfl, rfl⟩) hH ?_
                      try simp only [Act.put, List.setIfInBounds_toArray, List.set_cons_zero, List.set_cons_succ]
                      refine wpAnyH_take (i := 5) (oi := { dst := some 62, op := Op.load 82 (Operand.tmp 61), type := _, pos := _, after := _, guard := some (1, false) }) (v := undef) rfl (by kernel_rfl) (by kernel_rfl) (by kernel_rfl) (fun _ _ _ h => h) (Or.inr ⟨by rfl, rfl⟩) hH ?_
                      try simp only [Act.put, List.setIfInBounds_toArray, List.set_cons_zero, List.set_cons_succ]
                      refine wpAnyH_take (i := 6) (oi := { dst := some 63, op := Op.move (Operand.tmp 4), type := _, pos := _, after := _, guard := some (1, false) }) (v := undef) rfl (by kernel_rfl) (by kernel_rfl) (by kernel_rfl) (fun _ _ _ h => h) (Or.inr ⟨by rfl, rfl⟩) hH ?_
                      try simp only [Act.put, List.setIfInBounds_toArray, List.set_cons_zero, List.set_cons_succ]
                      refine wpAnyH_take (i := 7) (oi := { dst := some 64, op := Op.move (Operand.tmp 6), type := _, pos := _, after := _, guard := some (1, false) }) (v := undef) rfl (by kernel_rfl) (by kernel_rfl) (by kernel_rfl) (fun _ _ _ h => h) (Or.inr ⟨by rfl, rfl⟩) hH ?_
                      try simp only [Act.put, List.setIfInBounds_toArray, List.set_cons_zero, List.set_cons_succ]
                      refine wpAnyH_take (i := 8) (oi := { dst := some 65, op := Op.indexAddr 86 (Operand.tmp 63) (Operand.tmp 64), type := _, pos := _, after := _, guard := some (1, false) }) (v := undef) rfl (by kernel_rfl) (by kernel_rfl) (by kernel_rfl) (fun _ _ _ h => h) (Or.inr ⟨by rfl, rfl⟩) hH ?_
                      try simp only [Act.put, List.setIfInBounds_toArray, List.set_cons_zero, List.set_cons_succ]
                      refine wpAnyH_take (i := 9) (oi := { dst := some 66, op := Op.load 82 (Operand.tmp 65), type := _, pos := _, after := _, guard := some (1, false) }) (v := undef) rfl (by kernel_rfl) (by kernel_rfl) (by kernel_rfl) (fun _ _ _ h => h) (Or.inr ⟨by rfl, rfl⟩) hH ?_
                      try simp only [Act.put, List.setIfInBounds_toArray, List.set_cons_zero, List.set_cons_succ]
                      refine wpAnyH_take (i := 10) (oi := { dst := some 67, op := Op.move (Operand.tmp 9), type := _, pos := _, after := _, guard := some (1, false) }) (v := undef) rfl (by kernel_rfl) (by kernel_rfl) (by kernel_rfl) (fun _ _ _ h => h) (Or.inr ⟨by rfl, rfl⟩) hH ?_
                      try simp only [Act.put, List.setIfInBounds_toArray, List.set_cons_zero, List.set_cons_succ]
                      refine wpAnyH_take (i := 11) (oi := { dst := some 68, op := Op.indexAddr 82 (Operand.tmp 66) (Operand.tmp 67), type := _, pos := _, after := _, guard := some (1, false) }) (v := undef) rfl (by kernel_rfl) (by kernel_rfl) (by kernel_rfl) (fun _ _ _ h => h) (Or.inr ⟨by rfl, rfl⟩) hH ?_
                      try simp only [Act.put, List.setIfInBounds_toArray, List.set_cons_zero, List.set_cons_succ]
                      refine wpAnyH_take (i := 12) (oi := { dst := some 69, op := Op.load 3 (Operand.tmp 68), type := _, pos := _, after := _, guard := some (1, false) }) (v := undef) rfl (by kernel_rfl) (by kernel_rfl) (by kernel_rfl) (fun _ _ _ h => h) (Or.inr ⟨by rfl, rfl⟩) hH ?_
                      try simp only [Act.put, List.setIfInBounds_toArray, List.set_cons_zero, List.set_cons_succ]
                      refine wpAnyH_take (i := 13) (oi := { dst := some 70, op := Op.call { callee := Callee.value (Operand.func 46), args := #[Operand.tmp 62, Operand.tmp 69], argTypes := #[82, 3] }, type := _, pos := _, after := _, guard := some (1, false) }) (v := undef) rfl (by kernel_rfl) (by kernel_rfl) (by kernel_rfl) (fun _ _ _ h => h) (Or.inr ⟨by rfl, rfl⟩) hH ?_
                      try simp only [Act.put, List.setIfInBounds_toArray, List.set_cons_zero, List.set_cons_succ]
                      refine wpAnyH_take (i := 14) (oi := { dst := some 71, op := Op.pick (Operand.tmp 58) (Operand.const (Value.bool true)) (Operand.tmp 70), type := _, pos := _, after := _, guard := none }) (v := ?_) rfl (by kernel_rfl) (by kernel_rfl) (by kernel_rfl) (fun _ _ _ h => h) (Or.inl ⟨by rfl, ?_⟩) hH ?_
                      rotate_left
                      · (intro w hSw; (try dsimp only at hSw); go_simp; (try with_reducible rfl))
                      try simp only [Act.put, List.setIfInBounds_toArray, List.set_cons_zero, List.set_cons_succ]
                      refine wpAnyH_take (i := 15) (oi := { dst := some 8, op := Op.assign (Operand.tmp 71), type := _, pos := _, after := _, guard := none }) (v := ?_) rfl (by kernel_rfl) (by kernel_rfl) (by kernel_rfl) (fun _ _ _ h => h) (Or.inl ⟨by rfl, ?_⟩) hH ?_
                      rotate_left
                      · (intro w hSw; (try dsimp only at hSw); go_simp; (try with_reducible rfl))
                      try simp only [Act.put, List.setIfInBounds_toArray, List.set_cons_zero, List.set_cons_succ]
                      refine wpAnyH_done (by kernel_rfl) ?_ _
                      refine NoPanic.normal ?_
                      clear s0 s1 m0 gg
                      obtain ⟨s0, s1, m0, gg⟩ := hH
                      go_wp2_with fail
                      go_roundw
                      case rel => exact ⟨c + 1, _, by omega, by go_num, rfl, Lib.hid (by rw [HMS.out, HZ.out]; rfl), Lib.hid gg⟩
                      case measure => simp [RowKit.intOf]; omega
                  · have HCOM : Hid (candT x y = z) := Lib.hid (by
                      rw [HCM.out, ← HZ.out]
                      unfold comE
                      rw [List.take_of_length_le (by rw [← HLX.out]; omega)])
                    clear HCM
                    cases z
                    · go_wp2_with fail
                      go_roundw
                      case rel => exact ⟨b + 1, by omega, by go_num, Lib.hid (by
                          rw [accI_succ HY.out, ← HAC.out]
                          unfold stepC
                          rw [HCOM.out]
                          exact ⟨HSO.out.kep gg, HRO.out, kep_next HG3.out gg⟩)⟩
                      case measure => simp [RowKit.intOf]; omega
                    · have PP := Lib.hid (rpp acc xk yk HACL.out)
                      have x0 := gg.all HX3.out
                      have y0 := gg.all HY3.out
                      go_wp2_with fail
                      refine wp_region_noPanic ?_
                      refine wp_region_held_drew (S := (fun w' => w'.cell? ⟨gl, off + a * 5, none⟩ = some (.int .u32 xk) ∧ w'.cell? ⟨gl, off + b * 5, none⟩ = some (.int .u32 yk) ∧ Kep w3.heap.size w3 w')) (by kernel_rfl) (⟨by rw [World.cell?_drew]; exact x0, by rw [World.cell?_drew]; exact y0, kep_drew gg⟩) (fun hH => ?_)
                      refine wpAnyH_take (i := 0) (oi := { dst := some 73, op := Op.move (Operand.tmp 3), type := _, pos := _, after := _, guard := none }) (v := ?_) rfl (by kernel_rfl) (by kernel_rfl) (by kernel_rfl) (fun _ _ _ h => h) (Or.inl ⟨by rfl, ?_⟩) hH ?_
                      rotate_left
                      · (intro w hSw; (try dsimp only at hSw); go_simp; (try with_reducible rfl))
                      try simp only [Act.put, List.setIfInBounds_toArray, List.set_cons_zero, List.set_cons_succ]
                      refine wpAnyH_take (i := 1) (oi := { dst := some 74, op := Op.move (Operand.tmp 0), type := _, pos := _, after := _, guard := none }) (v := ?_) rfl (by kernel_rfl) (by kernel_rfl) (by kernel_rfl) (fun _ _ _ h => h) (Or.inl ⟨by rfl, ?_⟩) hH ?_
                      rotate_left
                      · (intro w hSw; (try dsimp only at hSw); go_simp; (try with_reducible rfl))
                      try simp only [Act.put, List.setIfInBounds_toArray, List.set_cons_zero, List.set_cons_succ]
                      refine wpAnyH_take (i := 2) (oi := { dst := some 75, op := Op.move (Operand.tmp 6), type := _, pos := _, after := _, guard := none }) (v := ?_) rfl (by kernel_rfl) (by kernel_rfl) (by kernel_rfl) (fun _ _ _ h => h) (Or.inl ⟨by rfl, ?_⟩) hH ?_
                      rotate_left
                      · (intro w hSw; (try dsimp only at hSw); go_simp; (try with_reducible rfl))
                      try simp only [Act.put, List.setIfInBounds_toArray, List.set_cons_zero, List.set_cons_succ]
                      refine wpAnyH_take (i := 3) (oi := { dst := some 76, op := Op.indexAddr 22 (Operand.tmp 74) (Operand.tmp 75), type := _, pos := _, after := _, guard := none }) (v := ?_) rfl (by kernel_rfl) (by kernel_rfl) (by kernel_rfl) (fun _ _ _ h => h) (Or.inl ⟨by rfl, ?_⟩) hH ?_
                      rotate_left
                      · (intro w hSw; (try dsimp only at hSw); go_simp; (try with_reducible rfl))
                      try simp only [Act.put, List.setIfInBounds_toArray, List.set_cons_zero, List.set_cons_succ]
                      refine wpAnyH_take (i := 4) (oi := { dst := some 77, op := Op.fieldAddr 49 (Operand.tmp 76) 0, type := _, pos := _, after := _, guard := none }) (v := ?_) rfl (by kernel_rfl) (by kernel_rfl) (by kernel_rfl) (fun _ _ _ h => h) (Or.inl ⟨by rfl, ?_⟩) hH ?_
                      rotate_left
                      · (intro w hSw; (try dsimp only at hSw); go_simp; (try with_reducible rfl))
                      try simp only [Act.put, List.setIfInBounds_toArray, List.set_cons_zero, List.set_cons_succ]
                      refine wpAnyH_take (i := 5) (oi := { dst := some 78, op := Op.load 42 (Operand.tmp 77), type := _, pos := _, after := _, guard := none }) (v := ?_) rfl (by kernel_rfl) (by kernel_rfl) (by kernel_rfl) (fun _ _ _ h => h) (Or.inl ⟨by rfl, ?_⟩) hH ?_
                      rotate_left
                      · (intro w hSw; (try dsimp only at hSw); go_simp; (try with_reducible rfl))
                      try simp only [Act.put, List.setIfInBounds_toArray, List.set_cons_zero, List.set_cons_succ]
                      refine wpAnyH_take (i := 6) (oi := { dst := some 79, op := Op.move (Operand.tmp 0), type := _, pos := _, after := _, guard := none }) (v := ?_) rfl (by kernel_rfl) (by kernel_rfl) (by kernel_rfl) (fun _ _ _ h => h) (Or.inl ⟨by rfl, ?_⟩) hH ?_
                      rotate_left
                      · (intro w hSw; (try dsimp only at hSw); go_simp; (try with_reducible rfl))
                      try simp only [Act.put, List.setIfInBounds_toArray, List.set_cons_zero, List.set_cons_succ]
                      refine wpAnyH_take (i := 7) (oi := { dst := some 80, op := Op.move (Operand.tmp 7), type := _, pos := _, after := _, guard := none }) (v := ?_) rfl (by kernel_rfl) (by kernel_rfl) (by kernel_rfl) (fun _ _ _ h => h) (Or.inl ⟨by rfl, ?_⟩) hH ?_
                      rotate_left
                      · (intro w hSw; (try dsimp only at hSw); go_simp; (try with_reducible rfl))
                      try simp only [Act.put, List.setIfInBounds_toArray, List.set_cons_zero, List.set_cons_succ]
                      refine wpAnyH_take (i := 8) (oi := { dst := some 81, op := Op.indexAddr 22 (Operand.tmp 79) (Operand.tmp 80), type := _, pos := _, after := _, guard := none }) (v := ?_) rfl (by kernel_rfl) (by kernel_rfl) (by kernel_rfl) (fun _ _ _ h => h) (Or.inl ⟨by rfl, ?_⟩) hH ?_
                      rotate_left
                      · (intro w hSw; (try dsimp only at hSw); go_simp; (try with_reducible rfl))
                      try simp only [Act.put, List.setIfInBounds_toArray, List.set_cons_zero, List.set_cons_succ]
                      refine wpAnyH_take (i := 9) (oi := { dst := some 82, op := Op.fieldAddr 49 (Operand.tmp 81) 0, type := _, pos := _, after := _, guard := none }) (v := ?_) rfl (by kernel_rfl) (by kernel_rfl) (by kernel_rfl) (fun _ _ _ h => h) (Or.inl ⟨by rfl, ?_⟩) hH ?_
                      rotate_left
                      · (intro w hSw; (try dsimp only at hSw); go_simp; (try with_reducible rfl))
                      try simp only [Act.put, List.setIfInBounds_toArray, List.set_cons_zero, List.set_cons_succ]
                      refine wpAnyH_take (i := 10) (oi := { dst := some 83, op := Op.load 42 (Operand.tmp 82), type := _, pos := _, after := _, guard := none }) (v := ?_) rfl (by kernel_rfl) (by kernel_rfl) (by kernel_rfl) (fun _ _ _ h => h) (Or.inl ⟨by rfl, ?_⟩) hH ?_
                      rotate_left
                      · (intro w hSw; (try dsimp only at hSw); go_simp; (try with_reducible rfl))
                      try simp only [Act.put, List.setIfInBounds_toArray, List.set_cons_zero, List.set_cons_succ]
                      refine wpAnyH_take (i := 11) (oi := { dst := some 84, op := Op.build 44 #[(0, Operand.tmp 78), (1, Operand.tmp 83)], type := _, pos := _, after := _, guard := none }) (v := ?_) rfl (by kernel_rfl) (by kernel_rfl) (by kernel_rfl) (fun _ _ _ h => h) (Or.inl ⟨by rfl, ?_⟩) hH ?_
                      rotate_left
                      · (intro w hSw; (try dsimp only at hSw); go_simp; (try with_reducible rfl))
                      try simp only [Act.put, List.setIfInBounds_toArray, List.set_cons_zero, List.set_cons_succ]
                      refine wpAnyH_ready (rs := [12]) (by kernel_rfl) (by simp) ?_
                      refine AllReadyH.cons (o := { dst := some 85, op := Op.call { callee := Callee.value (Operand.func 47), args := #[Operand.tmp 73, Operand.tmp 84], argTypes := #[35, 44] }, type := _, pos := _, after := _, guard := none }) rfl (fun K hK => ?_) AllReadyH.nil
                      go_simp
                      (with_reducible refine (PP.out _ _ (HSO.out.kep hH.2.2) HRO.out).mono ?_); rintro e v20_12 ⟨v', rfl, ⟨qv, rv⟩, g⟩
                      refine hK.out _ _ (by (try dsimp only); (go_split_ands; exact ⟨Kep.all g (by assumption), Kep.all g (by assumption), kep_next (by assumption) g⟩)) (fun hH2 => ?_)
                      clear hK K hH; have hH := hH2; clear hH2
                      try simp only [Act.put, List.setIfInBounds_toArray, List.set_cons_zero, List.set_cons_succ]
                      refine wpAnyH_take (i := 13) (oi := { dst := some 3, op := Op.assign (Operand.tmp 85), type := _, pos := _, after := _, guard := none }) (v := ?_) rfl (by kernel_rfl) (by kernel_rfl) (by kernel_rfl) (fun _ _ _ h => h) (Or.inl ⟨by rfl, ?_⟩) hH ?_
                      rotate_left
                      · (intro w hSw; (try dsimp only at hSw); go_simp; (try with_reducible rfl))
                      try simp only [Act.put, List.setIfInBounds_toArray, List.set_cons_zero, List.set_cons_succ]
                      refine wpAnyH_done (by kernel_rfl) ?_ _
                      refine NoPanic.normal ?_
                      clear x0 y0 gg
                      obtain ⟨x0, y0, gg⟩ := hH
                      go_wp2_with fail
                      go_roundw
                      case rel => exact ⟨b + 1, by omega, by go_num, Lib.hid (by
                          rw [accI_succ HY.out, ← HAC.out]
                          unfold stepC
                          rw [HCOM.out, ← HXK.out, ← HYK.out]
                          exact ⟨qv, rv, kep_next HG3.out gg⟩)⟩
                      case measure => simp [RowKit.intOf]; omega
            · go_wp2_with fail
              go_roundw
              case rel => exact ⟨a + 1, by omega, by go_num, by
                obtain rfl : b = n := by omega
                rw [accO_succ HX.out, HN.out]
                exact HR⟩
              case measure => simp [RowKit.intOf]; omega
        · go_wp2_with fail
          go_ret
          exact ⟨_, rfl, ⟨by rw [← accO_all (a := a) (by rw [HN.out]; omega)]; exact HP.out.1, HP.out.2.1⟩, H0.out.trans (HP.out.2.2.mono H0.out.size)⟩
end Go.Proofs.YtnmnbogjnjbopaaDoor
