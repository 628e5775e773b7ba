/-
  Package view's reference: lists of keys; Keys, and Same of two differences.
-/
import Derived.Test.YtlfbiijillpnnaaStoreSame
import Derived.Deep.QuietTactic
import Derived.BigQuiet
namespace Go.Proofs.Ytlfbiijillpnnaa
open Go.RowKit Go.Lib

theorem ret_b {a b : Bool} (h : a = b) : Ending.returned (.bool a) = .returned (.bool b) := by rw [h]
/-- A slice that reads as a list of keys. -/
def KLst (w : World) (v : Value) (K : List Int) : Prop := (K = [] ∧ ∃ base cap, v = .slice base 0 cap) ∨
  ∃ g off cap, v = .slice (some ⟨g, off, none⟩) K.length cap ∧ ∀ (k : Nat) (x : Int), K[k]? = some x → w.cell? ⟨g, off + k, none⟩ = some (.int .u32 x)
theorem KLst.shape {w : World} {v : Value} {K : List Int} (h : KLst w v K) : ∃ base cap, v = .slice base K.length cap := by
  rcases h with ⟨rfl, base, cap, rfl⟩ | ⟨g, off, cap, rfl, _⟩
  · exact ⟨base, cap, rfl⟩
  · exact ⟨_, cap, rfl⟩
theorem KLst.kep {w w' : World} {v : Value} {K : List Int} (h : KLst w v K) (g : Kep w.heap.size w w') : KLst w' v K := by
  rcases h with h | ⟨b, off, cap, rfl, hc⟩
  · exact .inl h
  · exact .inr ⟨b, off, cap, rfl, fun k x hx => g.all (hc k x hx)⟩
theorem KLst.at_ {w : World} {base : Option Addr} {n cap k : Nat} {K : List Int} {x : Int} (h : KLst w (.slice base n cap) K) (hx : K[k]? = some x) : ∃ g off, base = some ⟨g, off, none⟩ ∧ w.cell? ⟨g, off + k, none⟩ = some (.int .u32 x) := by
  rcases h with ⟨rfl, _⟩ | ⟨g, off, c, e, hc⟩
  · simp at hx
  · injection e with e1 e2 e3
    exact ⟨g, off, e1, hc k x hx⟩

set_option maxRecDepth 100000 in
set_option maxHeartbeats 1000000 in
theorem keys_len (base1 base2 : Option Addr) (cap1 cap2 n1 n2 : Nat) (w : World) (hn : n1 ≠ n2) : Calls Try.prog 21 #[.slice base1 n1 cap1, .slice base2 n2 cap2] w fun e w' => e = .returned (.bool false) ∧ Kep w.heap.size w w' := by
  have e : ((n1 : Int) != (n2 : Int)) = true := bne_iff_ne.2 (by omega)
  go_enter Try.func21, Try.ntmps21
  go_wp2
  go_ret
  exact ⟨rfl, Kep.refl _ _⟩
set_option maxRecDepth 100000 in
set_option maxHeartbeats 1000000 in
theorem keys_any (v1 v2 : Value) (L M : List Int) (w : World) (h1 : KLst w v1 L) (h2 : KLst w v2 M) (hm : L.length ≤ 1000000000) (z : Bool) (hz : z = decide (L = M)) :
    Calls Try.prog 21 #[v1, v2] w fun e w' => e = .returned (.bool z) ∧ Kep w.heap.size w w' := by
  obtain ⟨base1, cap1, rfl⟩ := h1.shape
  obtain ⟨base2, cap2, rfl⟩ := h2.shape
  by_cases hl : L.length = M.length
  · have H1 := Lib.hid h1
    have H2 := Lib.hid h2
    have HZ := Lib.hid hz
    clear h1 h2 hz
    obtain ⟨n, hn⟩ : ∃ n, n = L.length := ⟨_, rfl⟩
    rw [← hl] at H2 ⊢
    rw [← hn] at H1 H2 hm ⊢
    have HN := Lib.hid hn.symm
    have HM : Hid (M.length = n) := Lib.hid (by omega)
    clear hl hn
    go_enter Try.func21, Try.ntmps21
    go_wp2
    go_loopw [5] (fun i wr => ∃ k : Nat, k ≤ n ∧ i = .int .i64 k ∧ Hid ((∀ j, j < k → L[j]? = M[j]?) ∧ Kep w.heap.size w wr)) (fun i _ => n - (RowKit.intOf i).toNat)
    case atStart => exact ⟨0, Nat.zero_le _, rfl, Lib.hid ⟨fun j hj => by omega, Kep.refl _ _⟩⟩
    case round =>
      obtain ⟨k, hk, rfl, HK⟩ := hrel
      by_cases hlt : k < n
      · have hx : L[k]? = some (L[k]'(by rw [HN.out]; exact hlt)) := List.getElem?_eq_getElem _
        generalize L[k]'(by rw [HN.out]; exact hlt) = x at hx
        have hy : M[k]? = some (M[k]'(by rw [HM.out]; exact hlt)) := List.getElem?_eq_getElem _
        generalize M[k]'(by rw [HM.out]; exact hlt) = y at hy
        obtain ⟨g1, off1, hb1, x0⟩ := KLst.at_ (H1.out.kep HK.out.2) hx
        obtain ⟨g2, off2, hb2, y0⟩ := KLst.at_ (H2.out.kep HK.out.2) hy
        subst hb1
        subst hb2
        have HXY := Lib.hid (And.intro hx hy)
        clear hx hy
        by_cases c : x = y
        · subst c
          have e : (x != x) = false := by simp
          go_wp2_with fail
          go_quiet (fail)
          go_wp2_with fail
          go_roundw
          case rel => exact ⟨k + 1, by omega, by go_num, Lib.hid ⟨fun j hj => by
              by_cases z : j = k
              · subst z; rw [HXY.out.1, HXY.out.2]
              · exact HK.out.1 j (by omega), HK.out.2.drewN _⟩⟩
          case measure => simp [RowKit.intOf]; omega
        · have e : (x != y) = true := bne_iff_ne.2 c
          go_wp2_with fail
          go_quiet (fail)
          go_wp2
          go_ret
          refine ⟨ret_b ?_, HK.out.2.drewN _⟩
          have : L ≠ M := fun q => c (by have q1 := HXY.out.1; have q2 := HXY.out.2; rw [q, q2] at q1; exact (Option.some.inj q1).symm)
          rw [HZ.out, decide_eq_false this]
      · go_wp2
        go_ret
        refine ⟨ret_b ?_, HK.out.2⟩
        have : L = M := List.ext_getElem? fun j => by
          by_cases z : j < k
          · exact HK.out.1 j z
          · rw [List.getElem?_eq_none (by rw [HN.out]; omega), List.getElem?_eq_none (by rw [HM.out]; omega)]
        rw [HZ.out, decide_eq_true this]
  · have : L ≠ M := fun q => hl (by rw [q])
    rw [hz, decide_eq_false this]
    exact keys_len base1 base2 cap1 cap2 _ _ w hl

/-- A difference: what was added, removed, changed. -/
structure Ch where
  add : List Int
  rem : List Int
  chg : List Int
deriving DecidableEq
def CLst (w : World) (v : Value) (c : Ch) : Prop := ∃ v0 v1 v2, v = .agg #[v0, v1, v2] ∧ KLst w v0 c.add ∧ KLst w v1 c.rem ∧ KLst w v2 c.chg
theorem CLst.kep {w w' : World} {v : Value} {c : Ch} (h : CLst w v c) (g : Kep w.heap.size w w') : CLst w' v c := by
  obtain ⟨v0, v1, v2, rfl, h0, h1, h2⟩ := h
  exact ⟨v0, v1, v2, rfl, h0.kep g, h1.kep g, h2.kep g⟩
theorem box_fst {w : World} {x0 x1 x2 : Value} {t : TypeId} {o : Obj} : ((w.alloc (.cells #[x0, x1, x2] t)).alloc o).cell? ⟨w.heap.size, 1, none⟩ = some x1 ∧ ((w.alloc (.cells #[x0, x1, x2] t)).alloc o).cell? ⟨w.heap.size, 2, none⟩ = some x2 := by
  constructor <;> (rw [World.cell?_alloc_past _ _ _ (by simp), World.cell?_alloc_at _ _ _ _ rfl]; rfl)
theorem box_snd {w : World} {x0 x1 x2 : Value} {t : TypeId} {o : Obj} : ((w.alloc o).alloc (.cells #[x0, x1, x2] t)).cell? ⟨w.heap.size + 1, 1, none⟩ = some x1 ∧ ((w.alloc o).alloc (.cells #[x0, x1, x2] t)).cell? ⟨w.heap.size + 1, 2, none⟩ = some x2 := by
  constructor <;> (rw [World.cell?_alloc_at _ _ _ _ (by simp)]; rfl)
theorem ch_eq {a b : Ch} : a = b ↔ a.add = b.add ∧ a.rem = b.rem ∧ a.chg = b.chg := by
  cases a; cases b; simp
set_option maxRecDepth 100000 in
set_option maxHeartbeats 1000000 in
theorem vsame_any (v1 v2 : Value) (a b : Ch) (w : World) (h1 : CLst w v1 a) (h2 : CLst w v2 b) (m0 : a.add.length ≤ 1000000000) (m1 : a.rem.length ≤ 1000000000) (m2 : a.chg.length ≤ 1000000000) :
    Calls Try.prog 16 #[v1, v2] w fun e w' => e = .returned (.bool (decide (a = b))) ∧ Kep w.heap.size w w' := by
  obtain ⟨x0, x1, x2, rfl, p0, p1, p2⟩ := h1
  obtain ⟨y0, y1, y2, rfl, q0, q1, q2⟩ := h2
  obtain ⟨z, hz⟩ : ∃ z, z = decide (a = b) := ⟨_, rfl⟩
  rw [← hz]
  obtain ⟨z0, hz0⟩ : ∃ z, z = decide (a.add = b.add) := ⟨_, rfl⟩
  obtain ⟨z1, hz1⟩ : ∃ z, z = decide (a.rem = b.rem) := ⟨_, rfl⟩
  obtain ⟨z2, hz2⟩ : ∃ z, z = decide (a.chg = b.chg) := ⟨_, rfl⟩
  have e : z = (z0 && (z1 && z2)) := by
    rw [hz, hz0, hz1, hz2, ← Bool.decide_and, ← Bool.decide_and]
    exact decide_eq_decide.2 ch_eq
  have C0 := Lib.hid (fun w' (g : Kep w.heap.size w w') => keys_any x0 y0 _ _ w' (p0.kep g) (q0.kep g) m0 z0 hz0)
  have C1 := Lib.hid (fun w' (g : Kep w.heap.size w w') => keys_any x1 y1 _ _ w' (p1.kep g) (q1.kep g) m1 z1 hz1)
  have C2 := Lib.hid (fun w' (g : Kep w.heap.size w w') => keys_any x2 y2 _ _ w' (p2.kep g) (q2.kep g) m2 z2 hz2)
  obtain ⟨b0, c0, rfl⟩ := p0.shape
  obtain ⟨b1, c1, rfl⟩ := p1.shape
  obtain ⟨b2, c2, rfl⟩ := p2.shape
  obtain ⟨d0, e0, rfl⟩ := q0.shape
  obtain ⟨d1, e1, rfl⟩ := q1.shape
  obtain ⟨d2, e2, rfl⟩ := q2.shape
  subst e
  clear hz hz0 hz1 hz2 p0 p1 p2 q0 q1 q2 m0 m1 m2
  generalize a.add.length = n0 at *
  generalize a.rem.length = n1 at *
  generalize a.chg.length = n2 at *
  generalize b.add.length = o0 at *
  generalize b.rem.length = o1 at *
  generalize b.chg.length = o2 at *
  have K0 : Hid (Kep w.heap.size w ((w.alloc (.cells #[.slice b0 n0 c0, .slice b1 n1 c1, .slice b2 n2 c2] 43)).alloc (.cells #[.slice d0 o0 e0, .slice d1 o1 e1, .slice d2 o2 e2] 43))) := Lib.hid ((Kep.alloc (Kep.refl _ _) (Nat.le_refl _) _).alloc (by simp) _)
  go_enter Try.func16, Try.ntmps16
  cases z0 <;> cases z1
  all_goals go_wp2_with (first
    | ((with_reducible refine (C0.out _ K0.out).mono ?_); rintro e w2 ⟨rfl, k2⟩; have K2 := Lib.hid (K0.out.trans (k2.mono K0.out.size)); have J2 := Lib.hid k2; have f1 := (k2.cell (p := ⟨w.heap.size, 1, none⟩) (by simp; omega)).trans box_fst.1; have f2 := (k2.cell (p := ⟨w.heap.size + 1, 1, none⟩) (by simp)).trans box_snd.1; clear k2)
    | ((with_reducible refine (C1.out _ K2.out).mono ?_); rintro e w3 ⟨rfl, k3⟩; have K3 := Lib.hid (K2.out.trans (k3.mono K2.out.size)); have J3 := J2.out.trans (k3.mono J2.out.size); have f3 := (J3.cell (p := ⟨w.heap.size, 2, none⟩) (by simp; omega)).trans box_fst.2; have f4 := (J3.cell (p := ⟨w.heap.size + 1, 2, none⟩) (by simp)).trans box_snd.2; clear k3 J3)
    | ((with_reducible refine (C2.out _ K3.out).mono ?_); rintro e w4 ⟨rfl, k4⟩; have K4 := Lib.hid (K3.out.trans (k4.mono K3.out.size)); clear k4))
  all_goals go_ret
  all_goals refine ⟨ret_b (by simp), ?_⟩
  all_goals first | exact K4.out | exact K3.out | exact K2.out
end Go.Proofs.Ytlfbiijillpnnaa
