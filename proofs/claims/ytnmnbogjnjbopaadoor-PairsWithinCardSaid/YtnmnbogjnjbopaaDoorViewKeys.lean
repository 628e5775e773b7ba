/-
  Package view's reference: lists of keys; Keys, and Same of two differences.
-/
import Derived.Test.YtnmnbogjnjbopaaDoorStoreSame
import Derived.Deep.QuietTactic
import Derived.BigQuiet
namespace Go.Proofs.YtnmnbogjnjbopaaDoor
open Go.RowKit Go.Lib

theorem ret_b {a b : Bool} (h : a = b) : Ending.returned (.bool a) = .returned (.bool b) := by rw [h]
/-- A slice that reads as a list of keys. -/
def KLst (w : World) (v : Value) (K : List Int) : Prop := (K = [] ∧ ∃ base cap, v = .slice base 0 cap) ∨
  ∃ g off cap, v = .slice (some ⟨g, off, none⟩) K.length cap ∧ ∀ (k : Nat) (x : Int), K[k]? = some x → w.cell? ⟨g, off + k, none⟩ = some (.int .u32 x)
theorem KLst.shape {w : World} {v : Value} {K : List Int} (h : KLst w v K) : ∃ base cap, v = .slice base K.length cap := by
  rcases h with ⟨rfl, base, cap, rfl⟩ | ⟨g, off, cap, rfl, _⟩
  · exact ⟨base, cap, rfl⟩
  · exact ⟨_, cap, rfl⟩
theorem KLst.kep {w w' : World} {v : Value} {K : List Int} (h : KLst w v K) (g : Kep w.heap.size w w') : KLst w' v K := by
  rcases h with h | ⟨b, off, cap, rfl, hc⟩
  · exact .inl h
  · exact .inr ⟨b, off, cap, rfl, fun k x hx => g.all (hc k x hx)⟩
theorem KLst.at_ {w : World} {base : Option Addr} {n cap k : Nat} {K : List Int} {x : Int} (h : KLst w (.slice base n cap) K) (hx : K[k]? = some x) : ∃ g off, base = some ⟨g, off, none⟩ ∧ w.cell? ⟨g, off + k, none⟩ = some (.int .u32 x) := by
  rcases h with ⟨rfl, _⟩ | ⟨g, off, c, e, hc⟩
  · simp at hx
  · injection e with e1 e2 e3
    exact ⟨g, off, e1, hc k x hx⟩

set_option maxRecDepth 100000 in
set_option maxHeartbeats 1000000 in
theorem keys_len (base1 base2 : Option Addr) (cap1 cap2 n1 n2 : Nat) (w : World) (hn : n1 ≠ n2) : Calls Tryd.prog 20 #[.slice base1 n1 cap1, .slice base2 n2 cap2] w fun e w' => e = .returned (.bool false) ∧ Kep w.heap.size w w' := by
  have e : ((n1 : Int) != (n2 : Int)) = true := bne_iff_ne.2 (by omega)
  go_enter Tryd.func20, Tryd.ntmps20
  go_wp2
  go_ret
  exact ⟨rfl, Kep.refl _ _⟩
set_option maxRecDepth 100000 in
set_option maxHeartbeats 1000000 in
theorem keys_any (v1 v2 : Value) (L M : List Int) (w : World) (h1 : KLst w v1 L) (h2 : KLst w v2 M) (hm : L.length ≤ 1000000000) (z : Bool) (hz : z = decide (L = M)) :
    Calls Tryd.prog 20 #[v1, v2] w fun e w' => e = .returned (.bool z) ∧ Kep w.heap.size w w' := by
  obtain ⟨base1, cap1, rfl⟩ := h1.shape
  obtain ⟨base2, cap2, rfl⟩ := h2.shape
  by_cases hl : L.length = M.length
  · have H1 := Lib.hid h1
    have H2 := Lib.hid h2
    have HZ := Lib.hid hz
    clear h1 h2 hz
    obtain ⟨n, hn⟩ : ∃ n, n = L.length := ⟨_, rfl⟩
    rw [← hl] at H2 ⊢
    rw [← hn] at H1 H2 hm ⊢
    have HN := Lib.hid hn.symm
    have HM : Hid (M.length = n) := Lib.hid (by omega)
    clear hl hn
    go_enter Tryd.func20, Tryd.ntmps20
    go_wp2
    go_loopw [5] (fun i wr => ∃ k : Nat, k ≤ n ∧ i = .int .i64 k ∧ Hid ((∀ j, j < k → L[j]? = M[j]?) ∧ Kep w.heap.size w wr)) (fun i _ => n - (RowKit.intOf i).toNat)
    case atStart => exact ⟨0, Nat.zero_le _, rfl, Lib.hid ⟨fun j hj => by omega, Kep.refl _ _⟩⟩
    case round =>
      obtain ⟨k, hk, rfl, HK⟩ := hrel
      by_cases hlt : k < n
      · have hx : L[k]? = some (L[k]'(by rw [HN.out]; exact hlt)) := List.getElem?_eq_getElem _
        generalize L[k]'(by rw [HN.out]; exact hlt) = x at hx
        have hy : M[k]? = some (M[k]'(by rw [HM.out]; exact hlt)) := List.getElem?_eq_getElem _
        generalize M[k]'(by rw [HM.out]; exact hlt) = y at hy
        obtain ⟨g1, off1, hb1, x0⟩ := KLst.at_ (H1.out.kep HK.out.2) hx
        obtain ⟨g2, off2, hb2, y0⟩ := KLst.at_ (H2.out.kep HK.out.2) hy
        subst hb1
        subst hb2
        have HXY := Lib.hid (And.intro hx hy)
        clear hx hy
        by_cases c : x = y
        · subst c
          have e : (x != x) = false := by simp
          go_wp2_with fail
          go_quiet (fail)
          go_wp2_with fail
          go_roundw
          case rel => exact ⟨k + 1, by omega, by go_num, Lib.hid ⟨fun j hj => by
              by_cases z : j = k
              · subst z; rw [HXY.out.1, HXY.out.2]
              · exact HK.out.1 j (by omega), HK.out.2.drewN _⟩⟩
          case measure => simp [RowKit.intOf]; omega
        · have e : (x != y) = true := bne_iff_ne.2 c
          go_wp2_with fail
          go_quiet (fail)
          go_wp2
          go_ret
          refine ⟨ret_b ?_, HK.out.2.drewN _⟩
          have : L ≠ M := fun q => c (by have q1 := HXY.out.1; have q2 := HXY.out.2; rw [q, q2] at q1; exact (Option.some.inj q1).symm)
          rw [HZ.out, decide_eq_false this]
      · go_wp2
        go_ret
        refine ⟨ret_b ?_, HK.out.2⟩
        have : L = M := List.ext_getElem? fun j => by
          by_cases z : j < k
          · exact HK.out.1 j z
          · rw [List.getElem?_eq_none (by rw [HN.out]; omega), List.getElem?_eq_none (by rw [HM.out]; omega)]
        rw [HZ.out, decide_eq_true this]
  · have : L ≠ M := fun q => hl (by rw [q])
    rw [hz, decide_eq_false this]
    exact keys_len base1 base2 cap1 cap2 _ _ w hl

/-- A difference: what was added, removed, changed. -/
structure Ch where
  add : List Int
  rem : List Int
  chg : List Int
deriving DecidableEq
def CLst (w : World) (v : Value) (c : Ch) : Prop := ∃ v0 v1 v2, v = .agg #[v0, v1, v2] ∧ KLst w v0 c.add ∧ KLst w v1 c.rem ∧ KLst w v2 c.chg
theorem CLst.kep {w w' : World} {v : Value} {c : Ch} (h : CLst w v c) (g : Kep w.heap.size w w') : CLst w' v c := by
  obtain ⟨v0, v1, v2, rfl, h0, h1, h2⟩ := h
  exact ⟨v0, v1, v2, rfl, h0.kep g, h1.kep g, h2.kep g⟩
theorem box_fst {w : World} {x0 x1 x2 : Value} {t : TypeId} {o : Obj} : ((w.alloc (.cells #[x0, x1, x2] t)).alloc o).cell? ⟨w.heap.size, 1, none⟩ = some x1 ∧ ((w.alloc (.cells #[x0, x1, x2] t)).alloc o).cell? ⟨w.heap.size, 2, none⟩ = some x2 := by
  constructor <;> (rw [World.cell?_alloc_past _ _ _ (by simp), World.cell?_alloc_at _ _ _ _ rfl]; rfl)
theorem box_snd {w : World} {x0 x1 x2 : Value} {t : TypeId} {o : Obj} : ((w.alloc o).alloc (.cells #[x0, x1, x2] t)).cell? ⟨w.heap.size + 1, 1, none⟩ = some x1 ∧ ((w.alloc o).alloc (.cells #[x0, x1, x2] t)).cell? ⟨w.heap.size + 1, 2, none⟩ = some x2 := by
  constructor <;> (rw [World.cell?_alloc_at _ _ _ _ (by simp)]; rfl)
theorem ch_eq {a b : Ch} : a = b ↔ a.add = b.add ∧ a.rem = b.rem ∧ a.chg = b.chg := by
  cases a; cases b; simp
end Go.Proofs.YtnmnbogjnjbopaaDoor
