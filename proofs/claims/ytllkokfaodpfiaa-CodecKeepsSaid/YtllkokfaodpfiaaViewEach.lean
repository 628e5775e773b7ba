/-
  Package view's reference: each, Check, Sort.
-/
import Derived.Test.YtllkokfaodpfiaaStoreAll
import Derived.Test.YtllkokfaodpfiaaStoreLst
import Derived.Deep.QuietTactic
import Derived.BigQuiet
namespace Go.Proofs.Ytllkokfaodpfiaa
open Go.RowKit Go.Lib

/-- The error of the first body that is not valid. -/
def firstBad : List Bd → Int
  | [] => 0
  | x :: l => if chkB x ≠ 0 then chkB x else firstBad l
def eachE (L : List Bd) : Int := if 4096 < L.length then 12 else firstBad L
theorem bad_drop {L : List Bd} {k : Nat} {x : Bd} (h : L[k]? = some x) : firstBad (L.drop k) = if chkB x ≠ 0 then chkB x else firstBad (L.drop (k + 1)) := by
  obtain ⟨hk, e⟩ := List.getElem?_eq_some_iff.1 h
  rw [List.drop_eq_getElem_cons hk, e]
  rfl
theorem each_full (base : Option Addr) (cap n : Nat) (w : World) (hn : (4096 : Int) < (n : Int)) : Calls Try.prog 27 #[.slice base n cap] w fun e w' => e = .returned (.int .i64 12) ∧ w = w' := by
  go_enter Try.func27, Try.ntmps27
  go_wp2
  go_ret
  exact ⟨rfl, rfl⟩
set_option maxRecDepth 100000 in
set_option maxHeartbeats 1000000 in
theorem each_some (base : Option Addr) (cap : Nat) (L : List Bd) (w : World) (h : Lst w (.slice base L.length cap) L) (hl : L.length ≤ 4096) : Calls Try.prog 27 #[.slice base L.length cap] w fun e w' => e = .returned (.int .i64 (firstBad L)) ∧ Kep w.heap.size w w' := by
  obtain ⟨n, hn⟩ : ∃ n, n = L.length := ⟨_, rfl⟩
  have HN := Lib.hid hn.symm
  rw [← hn] at h hl ⊢
  have H := Lib.hid h
  have hl' : (n : Int) ≤ 4096 := by omega
  clear hn h hl
  go_enter Try.func27, Try.ntmps27
  go_wp2
  go_loopw [3] (fun i wr => ∃ k : Nat, k ≤ n ∧ i = .int .i64 k ∧ Hid (firstBad L = firstBad (L.drop k) ∧ Kep w.heap.size w wr)) (fun i _ => n - (RowKit.intOf i).toNat)
  case atStart => exact ⟨0, Nat.zero_le _, rfl, Lib.hid ⟨by simp, Kep.refl _ _⟩⟩
  case round =>
    obtain ⟨k, hk, rfl, HK⟩ := hrel
    by_cases hlt : k < n
    · have hx : L[k]? = some (L[k]'(by rw [HN.out]; exact hlt)) := List.getElem?_eq_getElem _
      generalize L[k]'(by rw [HN.out]; exact hlt) = x at hx
      obtain ⟨g1, off1, hb1, hc1⟩ := Lst.at_ (H.out.kep HK.out.2) hx
      subst hb1
      obtain ⟨x0, x1, x2, x3, x4, x5, x6, x7, x8, x9⟩ := old_cells (Kep.refl _ _) hc1
      have HX := Lib.hid (bad_drop hx)
      clear hc1 hx
      obtain ⟨c, hc⟩ : ∃ c, c = chkB x := ⟨_, rfl⟩
      have CK := Lib.hid (rckb hc.symm)
      have HC := Lib.hid hc.symm
      clear hc
      by_cases c0 : c = 0
      · subst c0
        go_wp2_with ((with_reducible refine (CK.out _).mono ?_); rintro e w2 ⟨rfl, g2⟩; have K2 := Lib.hid (HK.out.2.trans ((Kep.of_grown g2).mono HK.out.2.size)))
        go_roundw
        case rel => exact ⟨k + 1, by omega, by go_num, Lib.hid ⟨by rw [HK.out.1, HX.out, if_neg (fun q => q HC.out)], K2.out⟩⟩
        case measure => simp [RowKit.intOf]; omega
      · have c1 : (c != 0) = true := bne_iff_ne.2 c0
        go_wp2_with ((with_reducible refine (CK.out _).mono ?_); rintro e w2 ⟨rfl, g2⟩; have K2 := Lib.hid (HK.out.2.trans ((Kep.of_grown g2).mono HK.out.2.size)))
        go_ret
        exact ⟨ret_int64 (by rw [HK.out.1, HX.out, HC.out, if_pos c0]), K2.out⟩
    · go_wp2
      go_ret
      exact ⟨ret_int64 (by rw [HK.out.1, List.drop_eq_nil_of_le (by rw [HN.out]; omega)]; rfl), HK.out.2⟩
theorem each_any (v : Value) (L : List Bd) (w : World) (h : Lst w v L) : Calls Try.prog 27 #[v] w fun e w' => e = .returned (.int .i64 (eachE L)) ∧ Kep w.heap.size w w' := by
  obtain ⟨base, cap, rfl⟩ := h.shape
  unfold eachE
  by_cases c : 4096 < L.length
  · rw [if_pos c]
    exact (each_full base cap L.length w (by omega)).mono fun e w' ⟨h1, h2⟩ => ⟨h1, h2 ▸ Kep.refl _ _⟩
  · rw [if_neg c]; exact each_some base cap L w h (by omega)

/-- The first k + 1 keys ascend. -/
def Ups (L : List Bd) (k : Nat) : Prop := ∀ (j : Nat) (x y : Bd), j < k → L[j]? = some x → L[j + 1]? = some y → x.k < y.k
def decAsc : (L : List Bd) → Decidable (Asc L)
  | [] => .isTrue trivial
  | x :: l =>
    haveI := decAsc l
    inferInstanceAs (Decidable ((∀ y ∈ l, x.k < y.k) ∧ Asc l))
instance (L : List Bd) : Decidable (Asc L) := decAsc L
def vchkE (L : List Bd) : Int := if eachE L ≠ 0 then eachE L else if Asc L then 0 else 10
theorem asc_of_ups {L : List Bd} (h : ∀ (j : Nat) (x y : Bd), L[j]? = some x → L[j + 1]? = some y → x.k < y.k) : Asc L := by
  induction L with
  | nil => trivial
  | cons x l ih =>
    have ha : Asc l := ih fun j a b ha hb => h (j + 1) a b (by simpa using ha) (by simpa using hb)
    refine ⟨?_, ha⟩
    cases l with
    | nil => intro y hy; simp at hy
    | cons z l =>
      have hz := h 0 x z rfl rfl
      intro y hy
      rcases List.mem_cons.1 hy with rfl | hy
      · exact hz
      · have := ha.1 y hy; omega
theorem ups_of_asc : ∀ {L : List Bd}, Asc L → ∀ (j : Nat) (x y : Bd), L[j]? = some x → L[j + 1]? = some y → x.k < y.k
  | [], _, _, _, _, h, _ => by simp at h
  | a :: l, ⟨h1, h2⟩, 0, x, y, hx, hy => by
    simp at hx
    subst hx
    exact h1 y (List.mem_of_getElem? (i := 0) (by simpa using hy))
  | a :: l, ⟨h1, h2⟩, j + 1, x, y, hx, hy => ups_of_asc h2 j x y (by simpa using hx) (by simpa using hy)
set_option maxRecDepth 100000 in
set_option maxHeartbeats 1000000 in
theorem vcheck_some (base : Option Addr) (cap : Nat) (L : List Bd) (w : World) (h : Lst w (.slice base L.length cap) L) (hl : L.length ≤ 1000000) (he : eachE L = 0) (z : Int) (hz : z = if Asc L then 0 else 10) : Calls Try.prog 17 #[.slice base L.length cap] w fun e w' => e = .returned (.int .i64 z) ∧ Kep w.heap.size w w' := by
  have HZ := Lib.hid hz
  clear hz
  have C := Lib.hid (by have := each_any _ L w h; rw [he] at this; exact this)
  obtain ⟨n, hn⟩ : ∃ n, n = L.length := ⟨_, rfl⟩
  have HN := Lib.hid hn.symm
  rw [← hn] at h hl C ⊢
  have H := Lib.hid h
  have hl' : (n : Int) ≤ 1000000 := by omega
  clear hn h hl he
  go_enter Try.func17, Try.ntmps17
  go_wp2_with ((with_reducible refine (C.out).mono ?_); rintro e w2 ⟨rfl, k2⟩; have K2 := Lib.hid k2; clear k2)
  go_loopw [4] (fun i wr => ∃ k : Nat, k ≤ n ∧ i = .int .i64 k ∧ Hid (Ups L k ∧ Kep w.heap.size w wr)) (fun i _ => n - (RowKit.intOf i).toNat)
  case atStart => exact ⟨0, Nat.zero_le _, rfl, Lib.hid ⟨fun j x y hj => by omega, K2.out⟩⟩
  case round =>
    obtain ⟨k, hk, rfl, HK⟩ := hrel
    by_cases hlt : k + 1 < n
    · have hlt' : (k : Int) + 1 < (n : Int) := by omega
      have hx : L[k]? = some (L[k]'(by rw [HN.out]; omega)) := List.getElem?_eq_getElem _
      generalize L[k]'(by rw [HN.out]; omega) = x at hx
      have hy : L[k + 1]? = some (L[k + 1]'(by rw [HN.out]; exact hlt)) := List.getElem?_eq_getElem _
      generalize L[k + 1]'(by rw [HN.out]; exact hlt) = y at hy
      obtain ⟨g1, off1, hb1, hc1⟩ := Lst.at_ (H.out.kep HK.out.2) hx
      obtain ⟨g2, off2, hb2, hc2⟩ := Lst.at_ (H.out.kep HK.out.2) hy
      subst hb1
      cases hb2
      have x0 : wr.cell? ⟨g1, off1 + k * 10, none⟩ = some (.int .u32 x.k) := hc1 0 (by omega)
      have y0 : wr.cell? ⟨g1, off1 + (k + 1) * 10, none⟩ = some (.int .u32 y.k) := hc2 0 (by omega)
      have HXY := Lib.hid (And.intro hx hy)
      obtain ⟨xk, hxk⟩ : ∃ z, z = x.k := ⟨_, rfl⟩
      obtain ⟨yk, hyk⟩ : ∃ z, z = y.k := ⟨_, rfl⟩
      rw [← hxk] at x0
      rw [← hyk] at y0
      have HE := Lib.hid (And.intro hxk hyk)
      have i0 : (0 : Int) ≤ (k : Int) := Int.natCast_nonneg _
      have i1 : (k : Int) < (n : Int) := by omega
      clear hc1 hc2 hx hy hxk hyk
      by_cases c : yk ≤ xk
      · go_wp2_with fail
        go_quiet (fail)
        go_wp2
        go_ret
        refine ⟨ret_int64 ?_, HK.out.2.drewN _⟩
        rw [HZ.out, if_neg (fun a => ?_)]
        have := ups_of_asc a k x y HXY.out.1 HXY.out.2
        rw [← HE.out.1, ← HE.out.2] at this
        omega
      · go_wp2_with fail
        go_quiet (fail)
        go_wp2_with fail
        go_roundw
        case rel => exact ⟨k + 1, by omega, by go_num, Lib.hid ⟨fun j a b hj ha hb => by
            by_cases z : j = k
            · subst z
              have q1 := HXY.out.1
              have q2 := HXY.out.2
              rw [ha] at q1
              rw [hb] at q2
              cases q1
              cases q2
              rw [← HE.out.1, ← HE.out.2]; omega
            · exact HK.out.1 j a b (by omega) ha hb, HK.out.2.drewN _⟩⟩
        case measure => simp [RowKit.intOf]; omega
    · have hlt' : (n : Int) ≤ (k : Int) + 1 := by omega
      go_wp2
      go_ret
      exact ⟨ret_int64 (by rw [HZ.out, if_pos (asc_of_ups fun j x y hx hy => HK.out.1 j x y (by have := (List.getElem?_eq_some_iff.1 hy).1; rw [HN.out] at this; omega) hx hy)]), HK.out.2⟩
theorem vcheck_bad (base : Option Addr) (cap : Nat) (L : List Bd) (w : World) (h : Lst w (.slice base L.length cap) L) (c : Int) (he : eachE L = c) (h0 : c ≠ 0) : Calls Try.prog 17 #[.slice base L.length cap] w fun e w' => e = .returned (.int .i64 c) ∧ Kep w.heap.size w w' := by
  have C := Lib.hid (by have := each_any _ L w h; rw [he] at this; exact this)
  have c1 : (c != 0) = true := bne_iff_ne.2 h0
  clear he h
  go_enter Try.func17, Try.ntmps17
  go_wp2_with ((with_reducible refine (C.out).mono ?_); rintro e w2 ⟨rfl, k2⟩; have K2 := Lib.hid k2; clear k2)
  go_ret
  exact ⟨rfl, K2.out⟩
theorem vcheck_any (v : Value) (L : List Bd) (w : World) (h : Lst w v L) (hl : L.length ≤ 1000000) : Calls Try.prog 17 #[v] w fun e w' => e = .returned (.int .i64 (vchkE L)) ∧ Kep w.heap.size w w' := by
  obtain ⟨base, cap, rfl⟩ := h.shape
  unfold vchkE
  by_cases c : eachE L = 0
  · have d : ¬ (eachE L ≠ 0) := fun q => q c
    rw [if_neg d]; exact vcheck_some base cap L w h hl c _ rfl
  · rw [if_pos c]; exact vcheck_bad base cap L w h _ rfl c

def sortE (L : List Bd) : Int := if eachE L ≠ 0 then eachE L else if (allL L).length < L.length then 10 else 0
def sortL (L : List Bd) : List Bd := if eachE L ≠ 0 then [] else if (allL L).length < L.length then [] else allL L
end Go.Proofs.Ytllkokfaodpfiaa
