import Derived.Test.YtnmnbogjnjbopaaDoorSortLow

/-! SortHigh: SortPart, SortPins, SortPdq, SortTop. -/

section
/-
  The library's sort of a slice of uint32: the partition.
-/
namespace Go.Proofs.YtnmnbogjnjbopaaDoor
open Go.RowKit Go.Lib Go.Sort

theorem scanUp_on (p : Int → Bool) (d : Array Int) (j i : Nat) (h : i ≤ j) (hp : p d[i]! = true) : scanUp p d j i = scanUp p d j (i + 1) := by
  rw [scanUp, if_pos (by simp [h, hp])]
theorem scanUp_off (p : Int → Bool) (d : Array Int) (j i : Nat) (h : ¬ i ≤ j ∨ p d[i]! = false) : scanUp p d j i = i := by
  rw [scanUp, if_neg]
  rcases h with h | h <;> simp [h]
theorem scanDown_on (p : Int → Bool) (d : Array Int) (j i : Nat) (h1 : 1 ≤ j) (h : i ≤ j) (hp : p d[j]! = true) : scanDown p d i j = scanDown p d i (j - 1) := by
  obtain ⟨k, rfl⟩ : ∃ k, j = k + 1 := ⟨j - 1, by omega⟩
  rw [scanDown, if_pos (by simp [h, hp])]
  rfl
theorem scanDown_off (p : Int → Bool) (d : Array Int) (j i : Nat) (h : ¬ i ≤ j ∨ p d[j]! = false) : scanDown p d i j = j := by
  cases j with
  | zero => rfl
  | succ k =>
    rw [scanDown, if_neg]
    rcases h with h | h <;> simp [h]
/-- A place and some Boolean. -/
def someB (e : Ending) (q : Nat) : Prop := ∃ z : Bool, e = .returned (.tuple #[.int .i64 q, .bool z])
def fU (d : Array Int) (a : Nat) : Int → Bool := fun x => ltInt x d[a]!
def fD (d : Array Int) (a : Nat) : Int → Bool := fun x => !ltInt x d[a]!
theorem part_go (a i j p q : Nat) (d : Array Int) (hp : p = scanUp (fU d a) d j i) (hq : q = scanDown (fD d a) d p j) (h : p ≤ q) : partLoop ltInt a i j d = partLoop ltInt a (p + 1) (q - 1) (swp d p q) := by
  rw [partLoop_eq]
  unfold fU at hp
  unfold fD at hq
  simp only [← hp, ← hq]
  rw [if_neg (by omega)]
theorem part_ne (a i j p q : Nat) (d : Array Int) (hp : p = scanUp (fU d a) d j i) (hq : q = scanDown (fD d a) d p j) (h0 : 0 < i) (h : p ≤ q) : p < q := by
  have h1 := scanUp_spec (fU d a) d j _ i rfl
  have h2 := scanDown_spec (fD d a) d p j
  rw [← hp] at h1
  rw [← hq] at h2
  by_cases c : p = q
  · exfalso
    subst c
    have e1 := h1.2.2.2 h2.1
    have e2 := h2.2.2.2 (Nat.le_refl _) (by omega)
    unfold fU at e1
    unfold fD at e2
    rw [e1] at e2
    cases e2
  · omega
theorem part_end (a i j p q : Nat) (d : Array Int) (hp : p = scanUp (fU d a) d j i) (hq : q = scanDown (fD d a) d p j) (h : ¬ p ≤ q) : partLoop ltInt a i j d = (q, d) := by
  rw [partLoop_eq]
  unfold fU at hp
  unfold fD at hq
  simp only [← hp, ← hq]
  rw [if_pos (by omega)]
set_option maxRecDepth 100000 in
set_option maxHeartbeats 4000000 in
theorem upart_any (w0 : World) (g o N cap a b pv : Nat) (d : Array Int) (w : World) (h : AW w0 g o N d w) (hap : a ≤ pv) (hpb : pv < b) (hb : b ≤ N) (hN : N < 4611686018427387904) :
    Calls Tryd.prog 112 #[.slice (some ⟨g, o, none⟩) N cap, .int .i64 a, .int .i64 b, .int .i64 pv] w fun e w' => someB e (partition ltInt d a b pv).1 ∧ AW w0 g o N (partition ltInt d a b pv).2.2 w' := by
  rw [partition_fst, partition_arr]
  obtain ⟨G, hG⟩ := AW.name d
  have hc := h.cell hG
  have hf := h.fz
  have H1 := Lib.hid (h.swapD hG (i := a) (j := pv) (by omega) (by omega))
  obtain ⟨dk, hdk⟩ : ∃ dk, dk = swp d a pv := ⟨_, rfl⟩
  rw [← hdk] at H1 ⊢
  obtain ⟨T, hT⟩ : ∃ T, T = partLoop ltInt a (a + 1) (b - 1) dk := ⟨_, rfl⟩
  rw [← hT]
  obtain ⟨i, hi⟩ : ∃ i : Nat, i = a + 1 := ⟨_, rfl⟩
  obtain ⟨j, hj⟩ : ∃ j : Nat, j = b - 1 := ⟨_, rfl⟩
  have HT : Hid (partLoop ltInt a i j dk = T) := Lib.hid (by rw [hT, hi, hj])
  have ezi : ((a : Int) + 1) = (i : Int) := by omega
  have ezj : ((b : Int) - 1) = (j : Int) := by omega
  have hia : a < i := by omega
  have hij : i ≤ j + 1 := by omega
  have hjb : j < b := by omega
  clear h hG hT hdk hi hj
  go_enter Tryd.func112, Tryd.ntmps112
  go_upto_region 1 with fail
  go_cut [] (fun wx => Hid (AW w0 g o N dk wx))
  case first =>
    by_cases heq : a = pv
    · subst heq
      go_region
      go_wp2_with fail
      go_meet
      case rel => exact H1
    · go_region
      go_wp2_with fail
      go_meet
      case rel => exact H1
  case rest =>
    clear hc hf H1 G
    go_upto_block 0 with fail
    go_cut [10] (fun v wx => ∃ p : Nat, v = .int .i64 p ∧ i ≤ p ∧ p ≤ j + 1 ∧ Hid (p = scanUp (fU dk a) dk j i) ∧ Hid (AW w0 g o N dk wx))
    case first =>
      go_wp2_with fail
      go_loopg [10] (j + 2) (fun k v wr => ∃ p : Nat, v = .int .i64 p ∧ i ≤ p ∧ p ≤ j + 1 ∧ j + 2 ≤ k + p ∧ Hid (scanUp (fU dk a) dk j p = scanUp (fU dk a) dk j i) ∧ Hid (AW w0 g o N dk wr))
      case atStart => exact ⟨i, by first | rfl | go_num, by omega, by omega, by omega, rfl, hcut⟩
      case round =>
        obtain ⟨p, rfl, h1, h2, hk, HS, HA⟩ := hrel
        obtain ⟨G, hG⟩ := AW.name dk
        have hc := HA.out.cell hG
        have hf := HA.out.fz
        have HG := Lib.hid hG
        clear hG
        by_cases hle : p ≤ j
        · go_wp2_with fail
          go_quiet (first | (go_at_call 84; refine Calls.quiet_of_same (uless_any _ _ _)))
          cases hl : ltInt (G p) (G a) with
          | true =>
            go_wp2
            go_roundg (j + 1 - p)
            case measure => omega
            case rel => exact ⟨p + 1, by first | rfl | go_num, by omega, by omega, by omega, Lib.hid ((scanUp_on _ dk j p hle (by unfold fU; rw [← HG.out, ← HG.out, hl] <;> rfl)).symm.trans HS.out), Lib.hid (HA.out.draws nq)⟩
          | false =>
            go_wp2
            go_meet
            case rel => exact ⟨p, by first | rfl | go_num, by omega, by omega, Lib.hid ((scanUp_off _ dk j p (.inr (by unfold fU; rw [← HG.out, ← HG.out, hl] <;> rfl))).symm.trans HS.out), Lib.hid (HA.out.draws nq)⟩
        · go_wp2_with fail
          go_quiet (first | (go_at_call 84; refine Calls.quiet_of_same (uless_any _ _ _)))
          go_wp2
          go_meet
          case rel => exact ⟨p, by first | rfl | go_num, by omega, by omega, Lib.hid ((scanUp_off _ dk j p (.inl hle)).symm.trans HS.out), Lib.hid (HA.out.draws nq)⟩
    case rest =>
      obtain ⟨p, rfl, hip, hpj, HP, HU⟩ := hcut
      go_upto_block 2 with fail
      go_cut [11] (fun v wx => ∃ q : Nat, v = .int .i64 q ∧ p ≤ q + 1 ∧ q ≤ j ∧ Hid (q = scanDown (fD dk a) dk p j) ∧ Hid (AW w0 g o N dk wx))
      case first =>
        go_wp2_with fail
        go_loopg [11] (j + 1) (fun k v wr => ∃ q : Nat, v = .int .i64 q ∧ p ≤ q + 1 ∧ q ≤ j ∧ q + 1 ≤ k ∧ Hid (scanDown (fD dk a) dk p q = scanDown (fD dk a) dk p j) ∧ Hid (AW w0 g o N dk wr))
        case atStart => exact ⟨j, by first | rfl | go_num, by omega, by omega, by omega, rfl, HU⟩
        case round =>
          obtain ⟨q, rfl, h1, h2, hk, HS, HA⟩ := hrel
          obtain ⟨G, hG⟩ := AW.name dk
          have hc := HA.out.cell hG
          have hf := HA.out.fz
          have HG := Lib.hid hG
          clear hG
          by_cases hle : p ≤ q
          · go_wp2_with fail
            go_quiet (first | (go_at_call 84; refine Calls.quiet_of_same (uless_any _ _ _)))
            cases hl : ltInt (G q) (G a) with
            | false =>
              go_wp2
              go_roundg (q)
              case measure => omega
              case rel => exact ⟨q - 1, by first | rfl | go_num, by omega, by omega, by omega, Lib.hid ((scanDown_on _ dk q p (by omega) hle (by unfold fD; rw [← HG.out, ← HG.out, hl] <;> rfl)).symm.trans HS.out), Lib.hid (HA.out.draws nq)⟩
            | true =>
              go_wp2
              go_meet
              case rel => exact ⟨q, by first | rfl | go_num, by omega, by omega, Lib.hid ((scanDown_off _ dk q p (.inr (by unfold fD; rw [← HG.out, ← HG.out, hl] <;> rfl))).symm.trans HS.out), Lib.hid (HA.out.draws nq)⟩
          · go_wp2_with fail
            go_quiet (first | (go_at_call 84; refine Calls.quiet_of_same (uless_any _ _ _)))
            go_wp2
            go_meet
            case rel => exact ⟨q, by first | rfl | go_num, by omega, by omega, Lib.hid ((scanDown_off _ dk q p (.inl hle)).symm.trans HS.out), Lib.hid (HA.out.draws nq)⟩
      case rest =>
        obtain ⟨q, rfl, hpq, hqj, HQ, HB⟩ := hcut
        clear HU
        clear ezi ezj
        by_cases hlt : p ≤ q
        · have hpq2 := part_ne a i j p q dk HP.out HQ.out (by omega) hlt
          have HT2 : Hid (partLoop ltInt a (p + 1) (q - 1) (swp dk p q) = T) := Lib.hid ((part_go a i j p q dk HP.out HQ.out hlt).symm.trans HT.out)
          go_upto_region 10 with fail
          go_cut [] (fun wx => Hid (AW w0 g o N (swp dk p q) wx))
          case first =>
            obtain ⟨G, hG⟩ := AW.name dk
            have hc := HB.out.cell hG
            have hf := HB.out.fz
            have HG := Lib.hid hG
            clear hG
            have HC := Lib.hid (HB.out.swapD HG.out (i := p) (j := q) (by omega) (by omega))
            go_region
            go_wp2_with fail
            go_meet
            case rel => exact HC
          case rest =>
            go_wp2
            go_loopg [10, 11] b (fun k v10 v11 wr => ∃ (i j : Nat) (dk : Array Int), v10 = .int .i64 i ∧ v11 = .int .i64 j ∧ a < i ∧ i ≤ j + 1 ∧ j < b ∧ j + 1 ≤ k + i ∧ Hid (partLoop ltInt a i j dk = T) ∧ Hid (AW w0 g o N dk wr))
            case atStart => exact ⟨p + 1, q - 1, swp dk p q, by first | rfl | go_num, by first | rfl | go_num | (congr 1; omega), by omega, by omega, by omega, by omega, HT2, hcut⟩
            case round =>
              clear HT HP HQ HB HT2 hcut hlt hip hpj hpq hqj hia hij hjb
              obtain ⟨i, j, dk, rfl, rfl, hia, hij, hjb, hk0, HT, HA0⟩ := hrel
              go_upto_block 6 with fail
              go_cut [10] (fun v wx => ∃ p : Nat, v = .int .i64 p ∧ i ≤ p ∧ p ≤ j + 1 ∧ Hid (p = scanUp (fU dk a) dk j i) ∧ Hid (AW w0 g o N dk wx))
              case first =>
                go_wp2_with fail
                go_loopg [10] (j + 2) (fun k v wr => ∃ p : Nat, v = .int .i64 p ∧ i ≤ p ∧ p ≤ j + 1 ∧ j + 2 ≤ k + p ∧ Hid (scanUp (fU dk a) dk j p = scanUp (fU dk a) dk j i) ∧ Hid (AW w0 g o N dk wr))
                case atStart => exact ⟨i, by first | rfl | go_num, by omega, by omega, by omega, rfl, HA0⟩
                case round =>
                  obtain ⟨p, rfl, h1, h2, hk, HS, HA⟩ := hrel
                  obtain ⟨G, hG⟩ := AW.name dk
                  have hc := HA.out.cell hG
                  have hf := HA.out.fz
                  have HG := Lib.hid hG
                  clear hG
                  by_cases hle : p ≤ j
                  · go_wp2_with fail
                    go_quiet (first | (go_at_call 84; refine Calls.quiet_of_same (uless_any _ _ _)))
                    cases hl : ltInt (G p) (G a) with
                    | true =>
                      go_wp2
                      go_roundg (j + 1 - p)
                      case measure => omega
                      case rel => exact ⟨p + 1, by first | rfl | go_num, by omega, by omega, by omega, Lib.hid ((scanUp_on _ dk j p hle (by unfold fU; rw [← HG.out, ← HG.out, hl] <;> rfl)).symm.trans HS.out), Lib.hid (HA.out.draws nq)⟩
                    | false =>
                      go_wp2
                      go_meet
                      case rel => exact ⟨p, by first | rfl | go_num, by omega, by omega, Lib.hid ((scanUp_off _ dk j p (.inr (by unfold fU; rw [← HG.out, ← HG.out, hl] <;> rfl))).symm.trans HS.out), Lib.hid (HA.out.draws nq)⟩
                  · go_wp2_with fail
                    go_quiet (first | (go_at_call 84; refine Calls.quiet_of_same (uless_any _ _ _)))
                    go_wp2
                    go_meet
                    case rel => exact ⟨p, by first | rfl | go_num, by omega, by omega, Lib.hid ((scanUp_off _ dk j p (.inl hle)).symm.trans HS.out), Lib.hid (HA.out.draws nq)⟩
              case rest =>
                obtain ⟨p, rfl, hip, hpj, HP, HU⟩ := hcut
                go_upto_block 8 with fail
                go_cut [11] (fun v wx => ∃ q : Nat, v = .int .i64 q ∧ p ≤ q + 1 ∧ q ≤ j ∧ Hid (q = scanDown (fD dk a) dk p j) ∧ Hid (AW w0 g o N dk wx))
                case first =>
                  go_wp2_with fail
                  go_loopg [11] (j + 1) (fun k v wr => ∃ q : Nat, v = .int .i64 q ∧ p ≤ q + 1 ∧ q ≤ j ∧ q + 1 ≤ k ∧ Hid (scanDown (fD dk a) dk p q = scanDown (fD dk a) dk p j) ∧ Hid (AW w0 g o N dk wr))
                  case atStart => exact ⟨j, by first | rfl | go_num, by omega, by omega, by omega, rfl, HU⟩
                  case round =>
                    obtain ⟨q, rfl, h1, h2, hk, HS, HA⟩ := hrel
                    obtain ⟨G, hG⟩ := AW.name dk
                    have hc := HA.out.cell hG
                    have hf := HA.out.fz
                    have HG := Lib.hid hG
                    clear hG
                    by_cases hle : p ≤ q
                    · go_wp2_with fail
                      go_quiet (first | (go_at_call 84; refine Calls.quiet_of_same (uless_any _ _ _)))
                      cases hl : ltInt (G q) (G a) with
                      | false =>
                        go_wp2
                        go_roundg (q)
                        case measure => omega
                        case rel => exact ⟨q - 1, by first | rfl | go_num, by omega, by omega, by omega, Lib.hid ((scanDown_on _ dk q p (by omega) hle (by unfold fD; rw [← HG.out, ← HG.out, hl] <;> rfl)).symm.trans HS.out), Lib.hid (HA.out.draws nq)⟩
                      | true =>
                        go_wp2
                        go_meet
                        case rel => exact ⟨q, by first | rfl | go_num, by omega, by omega, Lib.hid ((scanDown_off _ dk q p (.inr (by unfold fD; rw [← HG.out, ← HG.out, hl] <;> rfl))).symm.trans HS.out), Lib.hid (HA.out.draws nq)⟩
                    · go_wp2_with fail
                      go_quiet (first | (go_at_call 84; refine Calls.quiet_of_same (uless_any _ _ _)))
                      go_wp2
                      go_meet
                      case rel => exact ⟨q, by first | rfl | go_num, by omega, by omega, Lib.hid ((scanDown_off _ dk q p (.inl hle)).symm.trans HS.out), Lib.hid (HA.out.draws nq)⟩
                case rest =>
                  obtain ⟨q, rfl, hpq, hqj, HQ, HB⟩ := hcut
                  clear HU
                  by_cases hlt : p ≤ q
                  · have hpq2 := part_ne a i j p q dk HP.out HQ.out (by omega) hlt
                    have HT2 : Hid (partLoop ltInt a (p + 1) (q - 1) (swp dk p q) = T) := Lib.hid ((part_go a i j p q dk HP.out HQ.out hlt).symm.trans HT.out)
                    go_upto_region 18 with fail
                    go_cut [] (fun wx => Hid (AW w0 g o N (swp dk p q) wx))
                    case first =>
                      obtain ⟨G, hG⟩ := AW.name dk
                      have hc := HB.out.cell hG
                      have hf := HB.out.fz
                      have HG := Lib.hid hG
                      clear hG
                      have HC := Lib.hid (HB.out.swapD HG.out (i := p) (j := q) (by omega) (by omega))
                      go_region
                      go_wp2_with fail
                      go_meet
                      case rel => exact HC
                    case rest =>
                      go_wp2
                      go_roundg (q - p - 1)
                      case measure => omega
                      case rel => exact ⟨p + 1, q - 1, swp dk p q, by first | rfl | go_num, by first | rfl | go_num | (congr 1; omega), by omega, by omega, by omega, by omega, HT2, hcut⟩
                  · skip
                    have ET := part_end a i j p q dk HP.out HQ.out hlt
                    rw [HT.out] at ET
                    subst ET
                    have hqa : a ≤ q := by omega
                    go_upto_region 21 with fail
                    go_cut [] (fun wx => Hid (AW w0 g o N (swp dk q a) wx))
                    case first =>
                      obtain ⟨G, hG⟩ := AW.name dk
                      have hc := HB.out.cell hG
                      have hf := HB.out.fz
                      have HG := Lib.hid hG
                      clear hG
                      have HC := Lib.hid (HB.out.swapD HG.out (i := q) (j := a) (by omega) (by omega))
                      by_cases heq : q = a
                      · subst heq
                        go_region
                        go_wp2_with fail
                        go_meet
                        case rel => exact HC
                      · go_region
                        go_wp2_with fail
                        go_meet
                        case rel => exact HC
                    case rest =>
                      go_wp2
                      exact bodyPost_ret (v := .tuple #[.int .i64 q, .bool false]) (by simp [results, Tryd.results112, go_sem]) rfl ⟨⟨false, rfl⟩, hcut.out⟩
        · skip
          have ET := part_end a i j p q dk HP.out HQ.out hlt
          rw [HT.out] at ET
          subst ET
          have hqa : a ≤ q := by omega
          go_upto_region 8 with fail
          go_cut [] (fun wx => Hid (AW w0 g o N (swp dk q a) wx))
          case first =>
            obtain ⟨G, hG⟩ := AW.name dk
            have hc := HB.out.cell hG
            have hf := HB.out.fz
            have HG := Lib.hid hG
            clear hG
            have HC := Lib.hid (HB.out.swapD HG.out (i := q) (j := a) (by omega) (by omega))
            by_cases heq : q = a
            · subst heq
              go_region
              go_wp2_with fail
              go_meet
              case rel => exact HC
            · go_region
              go_wp2_with fail
              go_meet
              case rel => exact HC
          case rest =>
            go_wp2
            exact bodyPost_ret (v := .tuple #[.int .i64 q, .bool true]) (by simp [results, Tryd.results112, go_sem]) rfl ⟨⟨true, rfl⟩, hcut.out⟩
end Go.Proofs.YtnmnbogjnjbopaaDoor
end

section
/-
  The library's sort of a slice of uint32: a few shifts.
-/
namespace Go.Proofs.YtnmnbogjnjbopaaDoor
open Go.RowKit Go.Lib Go.Sort

theorem scanS_on (d : Array Int) (b i : Nat) (h : i < b) (hp : ltInt d[i]! d[i - 1]! = false) : scanSorted ltInt d b i = scanSorted ltInt d b (i + 1) := by
  rw [scanSorted, if_pos (by simp [h, hp])]
theorem scanS_off (d : Array Int) (b i : Nat) (h : ¬ i < b ∨ ltInt d[i]! d[i - 1]! = true) : scanSorted ltInt d b i = i := by
  rw [scanSorted, if_neg]
  rcases h with h | h <;> simp [h]
theorem shD_on (d : Array Int) (j : Nat) (hp : ltInt d[j + 1]! d[j]! = true) : shiftDown ltInt (j + 1) d = shiftDown ltInt j (swp d (j + 1) j) := by
  rw [shiftDown, if_neg (by simp [hp])]
theorem shD_off (d : Array Int) (j : Nat) (hp : ltInt d[j + 1]! d[j]! = false) : shiftDown ltInt (j + 1) d = d := by
  rw [shiftDown, if_pos (by simp [hp])]
theorem shU_on (d : Array Int) (b j : Nat) (h : j < b) (hp : ltInt d[j]! d[j - 1]! = true) : shiftUp ltInt b j d = shiftUp ltInt b (j + 1) (swp d j (j - 1)) := by
  rw [shiftUp, if_pos h, if_neg (by simp [hp])]
theorem shU_off (d : Array Int) (b j : Nat) (h : ¬ j < b ∨ ltInt d[j]! d[j - 1]! = false) : shiftUp ltInt b j d = d := by
  rw [shiftUp]
  by_cases c : j < b
  · rw [if_pos c, if_pos (by rcases h with h | h; exact absurd c h; simp [h])]
  · rw [if_neg c]
theorem pins_step (a b s i i2 : Nat) (d : Array Int) (h : i2 = scanSorted ltInt d b i) : partialIns ltInt a b (s + 1) i d = if i2 = b then (d, true) else if b - a < 50 then (d, false) else partialIns ltInt a b s i2 (fixUp ltInt b i2 (fixDown ltInt a i2 (swp d i2 (i2 - 1)))) := by
  rw [partialIns_succ, ← h]
set_option maxRecDepth 100000 in
set_option maxHeartbeats 4000000 in
theorem upins_any (w0 : World) (g o N cap a b : Nat) (d : Array Int) (w : World) (h : AW w0 g o N d w) (hab : a < b) (hb : b ≤ N) (hN : N < 4611686018427387904) :
    Calls Tryd.prog 110 #[.slice (some ⟨g, o, none⟩) N cap, .int .i64 a, .int .i64 b] w fun e w' => e = .returned (.bool (partialInsertionSort ltInt d a b).2) ∧ AW w0 g o N (partialInsertionSort ltInt d a b).1 w' := by
  obtain ⟨T, hT⟩ : ∃ T, T = partialInsertionSort ltInt d a b := ⟨_, rfl⟩
  rw [← hT]
  have H0 := Lib.hid h
  have HT0 : Hid (partialIns ltInt a b 5 (a + 1) d = T) := Lib.hid (by rw [hT]; rfl)
  clear h hT
  go_enter Tryd.func110, Tryd.ntmps110
  go_wp2
  go_loopg [7, 8] 6 (fun k v7 v8 wr => ∃ (i t : Nat) (dk : Array Int), v7 = .int .i64 i ∧ v8 = .int .i64 t ∧ a < i ∧ i ≤ b ∧ t ≤ 5 ∧ 6 ≤ k + t ∧ Hid (partialIns ltInt a b (5 - t) i dk = T) ∧ Hid (AW w0 g o N dk wr))
  case atStart => exact ⟨a + 1, 0, d, by first | rfl | go_num, rfl, by omega, by omega, by omega, by omega, HT0, H0⟩
  case round =>
    obtain ⟨i, t, dk, rfl, rfl, hai, hib, ht, hk0, HT, HA0⟩ := hrel
    clear H0 HT0
    by_cases ht5 : t < 5
    · have HT2 : Hid (partialIns ltInt a b ((5 - (t + 1)) + 1) i dk = T) := Lib.hid (by rw [← HT.out]; congr 1; omega)
      clear HT
      go_upto_block 2 with fail
      go_cut [7] (fun v wx => ∃ p : Nat, v = .int .i64 p ∧ i ≤ p ∧ p ≤ b ∧ Hid (p = scanSorted ltInt dk b i) ∧ Hid (AW w0 g o N dk wx))
      case first =>
        go_wp2_with fail
        go_loopg [7] (b + 1) (fun k v wr => ∃ p : Nat, v = .int .i64 p ∧ i ≤ p ∧ p ≤ b ∧ b + 1 ≤ k + p ∧ Hid (scanSorted ltInt dk b p = scanSorted ltInt dk b i) ∧ Hid (AW w0 g o N dk wr))
        case atStart => exact ⟨i, by first | rfl | go_num, by omega, by omega, by omega, rfl, HA0⟩
        case round =>
          obtain ⟨p, rfl, h1, h2, hk, HS, HA⟩ := hrel
          obtain ⟨G, hG⟩ := AW.name dk
          have hc := HA.out.cell hG
          have hf := HA.out.fz
          have HG := Lib.hid hG
          clear hG
          by_cases hle : p < b
          · go_wp2_with fail
            go_quiet (first | (go_at_call 84; refine Calls.quiet_of_same (uless_any _ _ _)))
            cases hl : ltInt (G p) (G (p - 1)) with
            | false =>
              go_wp2
              go_roundg (b - p)
              case measure => omega
              case rel => exact ⟨p + 1, by first | rfl | go_num, by omega, by omega, by omega, Lib.hid ((scanS_on dk b p hle (by rw [← HG.out, ← HG.out, hl])).symm.trans HS.out), Lib.hid (HA.out.draws nq)⟩
            | true =>
              go_wp2
              go_meet
              case rel => exact ⟨p, by first | rfl | go_num, by omega, by omega, Lib.hid ((scanS_off dk b p (.inr (by rw [← HG.out, ← HG.out, hl]))).symm.trans HS.out), Lib.hid (HA.out.draws nq)⟩
          · go_wp2_with fail
            go_quiet (first | (go_at_call 84; refine Calls.quiet_of_same (uless_any _ _ _)))
            go_wp2
            go_meet
            case rel => exact ⟨p, by first | rfl | go_num, by omega, by omega, Lib.hid ((scanS_off dk b p (.inl hle)).symm.trans HS.out), Lib.hid (HA.out.draws nq)⟩
      case rest =>
        obtain ⟨p, rfl, hip, hpb, HP, HB⟩ := hcut
        have HST := Lib.hid ((pins_step a b (5 - (t + 1)) i p dk HP.out).symm.trans HT2.out)
        clear HT2 HP
        by_cases hpe : p = b
        · have ET := HST.out
          rw [if_pos hpe] at ET
          subst ET
          subst hpe
          go_wp2
          (try simp only [Exit.inBlock, Exit.then])
          exact bodyPost_ret (v := .bool true) (by simp [results, Tryd.results110, go_sem]) rfl ⟨rfl, HB.out⟩
        · by_cases h50 : b - a < 50
          · have ET := HST.out
            rw [if_neg hpe, if_pos h50] at ET
            subst ET
            have hne : ((p : Int) == (b : Int)) = false := by simp; omega
            go_wp2
            (try simp only [Exit.inBlock, Exit.then])
            exact bodyPost_ret (v := .bool false) (by simp [results, Tryd.results110, go_sem]) rfl ⟨rfl, HB.out⟩
          · have ET := HST.out
            rw [if_neg hpe, if_neg h50] at ET
            have HT3 := Lib.hid ET
            clear ET HST
            have hne : ((p : Int) == (b : Int)) = false := by simp; omega
            go_upto_region 11 with fail
            go_cut [] (fun wx => Hid (AW w0 g o N (swp dk p (p - 1)) wx))
            case first =>
              obtain ⟨G, hG⟩ := AW.name dk
              have hc := HB.out.cell hG
              have hf := HB.out.fz
              have HG := Lib.hid hG
              clear hG
              have HC := Lib.hid (HB.out.swapD HG.out (i := p) (j := p - 1) (by omega) (by omega))
              go_region
              go_wp2_with fail
              go_meet
              case rel => exact HC
            case rest =>
              clear HB
              obtain ⟨d1, hd1⟩ : ∃ d1, d1 = swp dk p (p - 1) := ⟨_, rfl⟩
              rw [← hd1] at hcut HT3
              clear hd1
              have HE := hcut
              clear hcut
              go_upto_if 61 with fail
              go_cut [] (fun wx => Hid (AW w0 g o N (fixDown ltInt a p d1) wx))
              case first =>
                by_cases h2 : p - a ≥ 2
                · have HX : Hid (fixDown ltInt a p d1 = shiftDown ltInt (p - 1) d1) := Lib.hid (by unfold fixDown; rw [if_pos h2])
                  go_wp2
                  go_loopg [9] p (fun k v wr => ∃ (j : Nat) (dj : Array Int), v = .int .i64 j ∧ j < p ∧ j + 1 ≤ k ∧ Hid (shiftDown ltInt j dj = fixDown ltInt a p d1) ∧ Hid (AW w0 g o N dj wr))
                  case atStart => exact ⟨p - 1, d1, by first | rfl | go_num | (congr 1; omega), by omega, by omega, Lib.hid HX.out.symm, HE⟩
                  case round =>
                    obtain ⟨j, dj, rfl, hjp, hk, HS, HF⟩ := hrel
                    cases j with
                    | zero =>
                      go_wp2
                      go_meet
                      case rel => exact Lib.hid (by rw [← HS.out]; exact HF.out)
                    | succ j =>
                      obtain ⟨G, hG⟩ := AW.name dj
                      have hc := HF.out.cell hG
                      have hf := HF.out.fz
                      have HG := Lib.hid hG
                      clear hG
                      have j1 : (1 : Int) ≤ ((j + 1 : Nat) : Int) := by omega
                      go_wp2_with fail
                      go_quiet (first | (go_at_call 84; refine Calls.quiet_of_same (uless_any _ _ _)))
                      cases hl : ltInt (G (j + 1)) (G j) with
                      | true =>
                        go_wp2
                        go_region
                        all_goals go_wp2
                        go_roundg (j + 1)
                        case measure => omega
                        case rel => exact ⟨j, swp dj (j + 1) j, by first | rfl | go_num, by omega, by omega, Lib.hid ((shD_on dj j (by rw [← HG.out, ← HG.out, hl])).symm.trans HS.out), Lib.hid ((HF.out.draws (nq + 1)).swap HG.out (by omega) (by omega))⟩
                      | false =>
                        go_wp2
                        go_meet
                        case rel => exact Lib.hid (by rw [← HS.out, shD_off dj j (by rw [← HG.out, ← HG.out, hl])]; exact HF.out.draws nq)
                · have HX : Hid (fixDown ltInt a p d1 = d1) := Lib.hid (by unfold fixDown; rw [if_neg h2])
                  go_wp2
                  go_meet
                  case rel => exact Lib.hid (by rw [HX.out]; exact HE.out)
              case rest =>
                clear HE
                obtain ⟨d2, hd2⟩ : ∃ d2, d2 = fixDown ltInt a p d1 := ⟨_, rfl⟩
                rw [← hd2] at hcut HT3
                clear hd2
                have HE := hcut
                clear hcut
                go_upto_if 98 with fail
                have RND : ∀ wx, AW w0 g o N (fixUp ltInt b p d2) wx → Hid (AW w0 g o N (fixUp ltInt b p d2) wx) := fun _ q => Lib.hid q
                have HRN := Lib.hid RND
                clear RND
                · by_cases h2 : b - p ≥ 2
                  · have HX : Hid (fixUp ltInt b p d2 = shiftUp ltInt b (p + 1) d2) := Lib.hid (by unfold fixUp; rw [if_pos h2])
                    go_wp2
                    go_loopg [10] (b + 1) (fun k v wr => ∃ (j : Nat) (dj : Array Int), v = .int .i64 j ∧ p < j ∧ j ≤ b ∧ b + 1 ≤ k + j ∧ Hid (shiftUp ltInt b j dj = fixUp ltInt b p d2) ∧ Hid (AW w0 g o N dj wr))
                    case atStart => exact ⟨p + 1, d2, by first | rfl | go_num, by omega, by omega, by omega, Lib.hid HX.out.symm, HE⟩
                    case round =>
                      obtain ⟨j, dj, rfl, hpj, hjb, hk, HS, HF⟩ := hrel
                      obtain ⟨G, hG⟩ := AW.name dj
                      have hc := HF.out.cell hG
                      have hf := HF.out.fz
                      have HG := Lib.hid hG
                      clear hG
                      by_cases hlt : j < b
                      · go_wp2_with fail
                        go_quiet (first | (go_at_call 84; refine Calls.quiet_of_same (uless_any _ _ _)))
                        cases hl : ltInt (G j) (G (j - 1)) with
                        | true =>
                          go_wp2
                          go_region
                          all_goals go_wp2
                          go_roundg (b - j)
                          case measure => omega
                          case rel => exact ⟨j + 1, swp dj j (j - 1), by first | rfl | go_num, by omega, by omega, by omega, Lib.hid ((shU_on dj b j hlt (by rw [← HG.out, ← HG.out, hl])).symm.trans HS.out), Lib.hid ((HF.out.draws (nq + 1)).swap HG.out (by omega) (by omega))⟩
                        | false =>
                          go_wp2
                          go_roundg (5 - t)
                          case measure => omega
                          case rel => exact ⟨p, t + 1, _, rfl, by first | rfl | go_num, by omega, by omega, by omega, by omega, HT3, HRN.out _ (by rw [← HS.out, shU_off dj b j (.inr (by rw [← HG.out, ← HG.out, hl]))]; exact HF.out.draws nq)⟩
                      · go_wp2
                        go_roundg (5 - t)
                        case measure => omega
                        case rel => exact ⟨p, t + 1, _, rfl, by first | rfl | go_num, by omega, by omega, by omega, by omega, HT3, HRN.out _ (by rw [← HS.out, shU_off dj b j (.inl hlt)]; exact HF.out)⟩
                  · have HX : Hid (fixUp ltInt b p d2 = d2) := Lib.hid (by unfold fixUp; rw [if_neg h2])
                    go_wp2
                    go_roundg (5 - t)
                    case measure => omega
                    case rel => exact ⟨p, t + 1, _, rfl, by first | rfl | go_num, by omega, by omega, by omega, by omega, HT3, HRN.out _ (by rw [HX.out]; exact HE.out)⟩
    · obtain rfl : t = 5 := by omega
      have ET := HT.out
      have e0 : partialIns ltInt a b (5 - 5) i dk = (dk, false) := rfl
      rw [e0] at ET
      subst ET
      go_wp2
      exact bodyPost_ret (v := .bool false) (by simp [results, Tryd.results110, go_sem]) rfl ⟨rfl, HA0.out⟩
end Go.Proofs.YtnmnbogjnjbopaaDoor
end

section
/-
  The library's sort of a slice of uint32, no number twice.
-/
namespace Go.Proofs.YtnmnbogjnjbopaaDoor
open Go.RowKit Go.Lib Go.Sort

/-- No number twice. -/
def DD (N : Nat) (d : Array Int) : Prop := (d.extract 0 N).toList.Nodup
theorem DD.perm {N a b : Nat} {d d' : Array Int} (h : DD N d) (hp : PermIn a b d d') (hb : b ≤ N) (hN : N ≤ d.size) : DD N d' :=
  (permIn_mono d d' a b 0 N (Nat.zero_le _) hb hN hp).2.2.nodup_iff.2 h
theorem DD.ne {N : Nat} {d : Array Int} (h : DD N d) (hN : N ≤ d.size) {i j : Nat} (hij : i < j) (hj : j < N) : d[i]! ≠ d[j]! := by
  unfold DD at h
  rw [extract_toList d 0 N hN] at h
  have q := List.pairwise_iff_getElem.1 h i j (by simp; omega) (by simp; omega) hij
  simpa using q
theorem DD.lt {N a p : Nat} {d : Array Int} (h : DD N d) (hN : N ≤ d.size) (ha : 0 < a) (hap : a ≤ p) (hp : p < N) (hb : ltInt d[p]! d[a - 1]! = false) : ltInt d[a - 1]! d[p]! = true := by
  have := h.ne hN (i := a - 1) (j := p) (by omega) hp
  unfold ltInt at *
  simp at *
  omega
/-- What the contracts say of the range's end: sorted, permuted. -/
def Srt (a b : Nat) (d : Array Int) (R : Array Int) : Prop := PermIn a b d R ∧ SortedIn ltInt a b R
/-- The state of a round: what sorts the rest sorts the whole. -/
structure PQ (w0 : World) (g o N a b : Nat) (d : Array Int) (a' b' : Nat) (e : Array Int) (W : World) : Prop where
  aw : AW w0 g o N e W
  bel : Go.Sort.Below ltInt a' b' e
  dd : DD N e
  red : ∀ R, PermIn a' b' e R → SortedIn ltInt a' b' R → Srt a b d R
theorem PQ.on {w0 : World} {g o N a b : Nat} {d : Array Int} {a' b' : Nat} {e e2 : Array Int} {W W2 : World} (h : PQ w0 g o N a b d a' b' e W) (hp : PermIn a' b' e e2) (hb : b' ≤ N) (k : AW w0 g o N e2 W2) : PQ w0 g o N a b d a' b' e2 W2 :=
  ⟨k, h.bel.perm (by rw [h.aw.sz]; exact hb) hp, h.dd.perm hp hb (Nat.le_of_eq h.aw.sz.symm), fun R hR hs => h.red R (permIn_trans _ _ _ _ _ hp hR) hs⟩
theorem PQ.done {w0 : World} {g o N a b : Nat} {d : Array Int} {a' b' : Nat} {e e2 : Array Int} {W W2 : World} (h : PQ w0 g o N a b d a' b' e W) (hp : PermIn a' b' e e2) (hs : SortedIn ltInt a' b' e2) (k : AW w0 g o N e2 W2) : ∃ R, Srt a b d R ∧ AW w0 g o N R W2 :=
  ⟨e2, h.red _ hp hs, k⟩
/-- What stands behind a partition: its place, and the two ways on. -/
structure PP (w0 : World) (g o N a b : Nat) (d : Array Int) (a' b' m : Nat) (e : Array Int) (W : World) : Prop where
  aw : AW w0 g o N e W
  b1 : Go.Sort.Below ltInt a' m e
  b2 : Go.Sort.Below ltInt (m + 1) b' e
  dd : DD N e
  left : ∀ L W2, PermIn a' m e L → SortedIn ltInt a' m L → AW w0 g o N L W2 → PQ w0 g o N a b d (m + 1) b' L W2
  right : ∀ L W2, PermIn (m + 1) b' e L → SortedIn ltInt (m + 1) b' L → AW w0 g o N L W2 → PQ w0 g o N a b d a' m L W2
theorem PQ.part {w0 : World} {g o N a b : Nat} {d : Array Int} {a' b' pv : Nat} {e : Array Int} {W : World} (h : PQ w0 g o N a b d a' b' e W) (h1 : a' ≤ pv) (h2 : pv < b') (hb : b' ≤ N) :
    ∃ m e4, m = (partition ltInt e a' b' pv).1 ∧ e4 = (partition ltInt e a' b' pv).2.2 ∧ a' ≤ m ∧ m < b' ∧ ∀ W2, AW w0 g o N e4 W2 → PP w0 g o N a b d a' b' m e4 W2 := by
  have hbs : b' ≤ e.size := by rw [h.aw.sz]; exact hb
  obtain ⟨q1, q2, q3, q4, q5, q6, q7⟩ := round_part swo_ltInt (partition_holds ltInt) h1 h2 hbs h.bel (Prod.ext rfl (Prod.ext rfl rfl) : partition ltInt e a' b' pv = ((partition ltInt e a' b' pv).1, (partition ltInt e a' b' pv).2.1, (partition ltInt e a' b' pv).2.2))
  have hp := (partition_holds ltInt swo_ltInt e a' b' pv h1 h2 hbs).2.2.1
  refine ⟨_, _, rfl, rfl, q1, q2, fun W2 k => ?_⟩
  generalize (partition ltInt e a' b' pv).2.2 = e4 at *
  generalize (partition ltInt e a' b' pv).1 = m at *
  have d4 := h.dd.perm hp hb (Nat.le_of_eq h.aw.sz.symm)
  have s4 : N ≤ e4.size := Nat.le_of_eq k.sz.symm
  refine ⟨k, q4, q5, d4, fun L W3 hL hs kL => ?_, fun L W3 hL hs kL => ?_⟩
  · obtain ⟨r1, r2⟩ := q6 L hL hs
    exact ⟨kL, r1, d4.perm hL (by omega) s4, fun R hR hs2 => by have := r2 R hR hs2; exact h.red R this.1 this.2⟩
  · obtain ⟨r1, r2⟩ := q7 L hL hs
    exact ⟨kL, r1, d4.perm hL hb s4, fun R hR hs2 => by have := r2 R hR hs2; exact h.red R this.1 this.2⟩
theorem int_tdiv8 (n : Nat) : (n : Int).tdiv 8 = ((n / 8 : Nat) : Int) := by rw [Int.tdiv_eq_ediv_of_nonneg (by omega)]; omega
set_option maxRecDepth 100000 in
set_option maxHeartbeats 8000000 in
theorem updq_any (w0 : World) (g o N cap : Nat) (hN : N < 4611686018427387904) : ∀ (n a b lim : Nat) (d : Array Int) (w : World), b - a ≤ n → a ≤ b → b ≤ N → lim ≤ 1000 → AW w0 g o N d w → Go.Sort.Below ltInt a b d → DD N d →
    Calls Tryd.prog 83 #[.slice (some ⟨g, o, none⟩) N cap, .int .i64 a, .int .i64 b, .int .i64 lim] w fun e w' => e = .returned (.tuple #[]) ∧ ∃ R, Srt a b d R ∧ AW w0 g o N R w' := by
  intro n
  induction n using Nat.strongRecOn with
  | _ n IH =>
  intro a b lim d w hn hab hb hlim h hB hD
  have HI := Lib.hid (fun (x y l : Nat) (e : Array Int) (W : World) (q : y - x < n) (q1 : x ≤ y) (q2 : y ≤ N) (q3 : l ≤ 1000) (k : AW w0 g o N e W) (kb : Go.Sort.Below ltInt x y e) (kd : DD N e) => IH (y - x) q x y l e W (Nat.le_refl _) q1 q2 q3 k kb kd)
  have C1 := Lib.hid (fun (x y : Nat) (e : Array Int) (W : World) (k : AW w0 g o N e W) (q1 : x ≤ y) (q2 : y ≤ N) => uins_any w0 g o N cap x y e W k q1 q2 hN)
  have C2 := Lib.hid (fun (x y : Nat) (e : Array Int) (W : World) (k : AW w0 g o N e W) (q1 : x ≤ y) (q2 : y ≤ N) => uheap_any w0 g o N cap x y e W k q1 q2 hN)
  have C3 := Lib.hid (fun (x y : Nat) (e : Array Int) (W : World) (k : AW w0 g o N e W) (q1 : x + 8 ≤ y) (q2 : y ≤ N) => ubrk_any w0 g o N cap x y e W k q1 q2 hN)
  have C4 := Lib.hid (fun (x y : Nat) (e : Array Int) (W : World) (k : AW w0 g o N e W) (q1 : x + 8 ≤ y) (q2 : y ≤ N) => upiv_any w0 g o N cap x y e W k q1 q2 hN)
  have C5 := Lib.hid (fun (x y : Nat) (e : Array Int) (W : World) (k : AW w0 g o N e W) (q1 : x ≤ y) (q2 : y ≤ N) => urev_any w0 g o N cap x y e W k q1 q2 hN)
  have C6 := Lib.hid (fun (x y : Nat) (e : Array Int) (W : World) (k : AW w0 g o N e W) (q1 : x < y) (q2 : y ≤ N) => upins_any w0 g o N cap x y e W k q1 q2 hN)
  have C7 := Lib.hid (fun (x y p : Nat) (e : Array Int) (W : World) (k : AW w0 g o N e W) (q0 : x ≤ p) (q1 : p < y) (q2 : y ≤ N) => upart_any w0 g o N cap x y p e W k q0 q1 q2 hN)
  have H0 : Hid (PQ w0 g o N a b d a b d w) := Lib.hid ⟨h, hB, hD, fun R h1 h2 => ⟨h1, h2⟩⟩
  clear h hB hD IH
  go_enter Tryd.func83, Tryd.ntmps83
  go_wp2
  go_loopg [1, 2, 3, 8, 9] (b - a + 1) (fun k v1 v2 v3 v8 v9 wr => ∃ (x y l : Nat) (wb wp : Bool) (e : Array Int), v1 = .int .i64 x ∧ v2 = .int .i64 y ∧ v3 = .int .i64 l ∧ v8 = .bool wb ∧ v9 = .bool wp ∧ x ≤ y ∧ y ≤ N ∧ l ≤ 1000 ∧ y - x + 1 ≤ k ∧ y - x ≤ n ∧ Hid (PQ w0 g o N a b d x y e wr))
  case atStart => exact ⟨a, b, lim, true, true, d, rfl, rfl, rfl, rfl, rfl, hab, hb, hlim, Nat.le_refl _, hn, H0⟩
  case round =>
    obtain ⟨x, y, l, wb, wp, e0, rfl, rfl, rfl, rfl, rfl, hxy, hyN, hl, hk, hn2, HQ⟩ := hrel
    clear H0 hn hab hb hlim lim
    obtain ⟨m, hm⟩ : ∃ m, m = y - x := ⟨_, rfl⟩
    have ezm : (y : Int) - (x : Int) = (m : Int) := by omega
    by_cases h12 : m ≤ 12
    · have CI := Lib.hid (C1.out x y e0 wr HQ.out.aw hxy hyN)
      go_wp2_with ((with_reducible refine (CI.out).mono ?_); rintro e w1 ⟨rfl, k1⟩)
      (try simp only [Exit.inBlock, Exit.then]); refine bodyPost_ret (results_none rfl _ _ _) rfl ?_
      have q := insertionSort_holds swo_ltInt e0 x y hxy (by rw [HQ.out.aw.sz]; exact hyN)
      exact ⟨rfl, HQ.out.done q.1 q.2 k1⟩
    · by_cases hl0 : l = 0
      · subst hl0
        have CI := Lib.hid (C2.out x y e0 wr HQ.out.aw hxy hyN)
        go_wp2_with ((with_reducible refine (CI.out).mono ?_); rintro e w1 ⟨rfl, k1⟩)
        (try simp only [Exit.inBlock, Exit.then]); refine bodyPost_ret (results_none rfl _ _ _) rfl ?_
        have q := heapSort_holds swo_ltInt e0 x y hxy (by rw [HQ.out.aw.sz]; exact hyN)
        exact ⟨rfl, HQ.out.done q.1 q.2 k1⟩
      · have hlz : ((l : Int) == 0) = false := by simp; omega
        have hlz2 : ¬ (l : Int) = 0 := by omega
        go_upto_if 35 with fail
        go_cut [3] (fun v3 wx => ∃ (l : Nat) (e1 : Array Int), v3 = .int .i64 l ∧ l ≤ 1000 ∧ Hid (PQ w0 g o N a b d x y e1 wx))
        case first =>
          cases wb with
          | false =>
            have CI := Lib.hid (C3.out x y e0 wr HQ.out.aw (by omega) hyN)
            go_wp2_with ((with_reducible refine (CI.out).mono ?_); rintro e w1 ⟨rfl, e1, p1, k1⟩)
            go_meet
            case rel => exact ⟨l - 1, e1, by first | rfl | go_num | (congr 1; omega), by omega, Lib.hid (HQ.out.on p1 hyN k1)⟩
          | true =>
            go_wp2
            go_meet
            case rel => exact ⟨l, e0, rfl, hl, HQ⟩
        case rest =>
          clear HQ hlz hlz2 hl0 hl
          clear l e0
          obtain ⟨l, e0, rfl, hl, HQ⟩ := hcut
          have CI := Lib.hid (C4.out x y e0 wc HQ.out.aw (by omega) hyN)
          go_upto_if 50 with ((with_reducible refine (CI.out).mono ?_); rintro e w1 ⟨p, v, rfl, hp1, hp2, hv, k1⟩)
          have HQ1 := Lib.hid (HQ.out.on (permIn_refl _ _ _) hyN k1)
          clear HQ CI k1
          go_cut [11, 12] (fun v11 v12 wx => ∃ (p v : Nat) (e1 : Array Int), v11 = .int .i64 p ∧ v12 = .int .i64 v ∧ x ≤ p ∧ p < y ∧ v ≤ 2 ∧ Hid (PQ w0 g o N a b d x y e1 wx))
          case first =>
            by_cases hv2 : v = 2
            · subst hv2
              have CI := Lib.hid (C5.out x y e0 w1 HQ1.out.aw hxy hyN)
              go_wp2_with ((with_reducible refine (CI.out).mono ?_); rintro e w2 ⟨rfl, e1, p1, k1⟩)
              go_meet
              case rel => exact ⟨(y - 1) - (p - x), 1, e1, by first | rfl | go_num | (congr 1; omega), rfl, by omega, by omega, by omega, Lib.hid (HQ1.out.on p1 hyN k1)⟩
            · have hvz : ((v : Int) == 2) = false := by simp; omega
              have hvz2 : ¬ (v : Int) = 2 := by omega
              go_wp2
              go_meet
              case rel => exact ⟨p, v, e0, rfl, rfl, hp1, hp2, hv, HQ1⟩
          case rest =>
            clear HQ1 hp1 hp2 hv
            clear p v e0 w1
            obtain ⟨p, v, e0, rfl, rfl, hp1, hp2, hv, HQ⟩ := hcut
            go_upto_region 15 with fail
            go_cut [68] (fun v68 wx => ∃ z : Bool, v68 = .bool z ∧ Hid (PQ w0 g o N a b d x y e0 wx))
            case first =>
              cases wb
              · go_wp2_with fail
                go_meet
                case rel => exact ⟨_, rfl, HQ⟩
              · cases wp
                · go_wp2_with fail
                  go_meet
                  case rel => exact ⟨_, rfl, HQ⟩
                · go_wp2_with fail
                  go_meet
                  case rel => exact ⟨_, rfl, HQ⟩
            case rest =>
              clear HQ
              obtain ⟨z, rfl, HQ⟩ := hcut
              go_upto_if 68 with fail
              go_cut [] (fun wx => ∃ e1, Hid (PQ w0 g o N a b d x y e1 wx))
              case first =>
                cases z with
                | true =>
                  have CI := C6.out x y e0 wc HQ.out.aw (by omega) hyN
                  have q := partialInsertionSort_holds swo_ltInt e0 x y (by omega) (by rw [HQ.out.aw.sz]; exact hyN) HQ.out.bel
                  generalize partialInsertionSort ltInt e0 x y = P at CI q
                  have HP := Lib.hid q
                  clear q
                  obtain ⟨e1, z⟩ := P
                  dsimp only at CI HP
                  have CT := Lib.hid CI
                  clear CI
                  cases z with
                  | true =>
                    go_wp2_with ((with_reducible refine (CT.out).mono ?_); rintro e w2 ⟨rfl, k1⟩)
                    (try simp only [Exit.inBlock, Exit.then]); refine bodyPost_ret (results_none rfl _ _ _) rfl ?_
                    exact ⟨rfl, HQ.out.done HP.out.1 (HP.out.2 (by trivial)) k1⟩
                  | false =>
                    go_wp2_with ((with_reducible refine (CT.out).mono ?_); rintro e w2 ⟨rfl, k1⟩)
                    go_meet
                    case rel => exact ⟨e1, Lib.hid (HQ.out.on HP.out.1 hyN k1)⟩
                | false =>
                  go_wp2
                  go_meet
                  case rel => exact ⟨e0, HQ⟩
              case rest =>
                clear HQ
                clear e0
                obtain ⟨e0, HQ⟩ := hcut
                go_upto_region 17 with fail
                go_cut [87] (fun v87 wx => v87 = .bool false ∧ Hid (PQ w0 g o N a b d x y e0 wx))
                case first =>
                  obtain ⟨G, hG⟩ := AW.name e0
                  have hc := HQ.out.aw.cell hG
                  have hf := HQ.out.aw.fz
                  have HG := Lib.hid hG
                  clear hG
                  by_cases hx0 : 0 < x
                  · have hlt : ltInt (G (x - 1)) (G p) = true := by
                      rw [HG.out, HG.out]
                      refine HQ.out.dd.lt (Nat.le_of_eq HQ.out.aw.sz.symm) hx0 hp1 (by omega) ?_
                      rcases HQ.out.bel with q | q
                      · omega
                      · exact q p hp1 hp2
                    go_wp2_with fail
                    go_quiet (first | (go_at_call 84; refine Calls.quiet_of_same (uless_any _ _ _)))
                    go_wp2_with fail
                    go_meet
                    case rel => exact ⟨by first | rfl | simp [hlt], Lib.hid (HQ.out.on (permIn_refl _ _ _) hyN (HQ.out.aw.draws nq))⟩
                  · obtain rfl : x = 0 := by omega
                    go_wp2_with fail
                    go_quiet (first | (go_at_call 84; refine Calls.quiet_of_same (uless_any _ _ _)))
                    go_wp2_with fail
                    go_meet
                    case rel => exact ⟨by first | rfl | simp, Lib.hid (HQ.out.on (permIn_refl _ _ _) hyN (HQ.out.aw.draws nq))⟩
                case rest =>
                  clear HQ
                  obtain ⟨rfl, HQ⟩ := hcut
                  obtain ⟨m1, e4, hm1, he4, hm2, hm3, HPP⟩ := HQ.out.part hp1 hp2 hyN
                  have CI := C7.out x y p e0 wc HQ.out.aw hp1 hp2 hyN
                  rw [← hm1, ← he4] at CI
                  have CT := Lib.hid CI
                  have HP := Lib.hid HPP
                  clear CI hm1 he4 HPP HQ
                  clear e0
                  go_upto_if 113 with ((with_reducible refine (CT.out).mono ?_); rintro e w2 ⟨⟨z, rfl⟩, k1⟩)
                  have HM := Lib.hid (HP.out w2 k1)
                  clear HP CT k1
                  have t1 : (m : Int).tdiv 8 = ((m / 8 : Nat) : Int) := int_tdiv8 m
                  obtain ⟨ll, hll⟩ : ∃ ll : Nat, ll = m1 - x := ⟨_, rfl⟩
                  obtain ⟨rl, hrl⟩ : ∃ rl : Nat, rl = y - m1 := ⟨_, rfl⟩
                  have u1 : (m1 : Int) - (x : Int) = (ll : Int) := by omega
                  have u2 : (y : Int) - (m1 : Int) = (rl : Int) := by omega
                  by_cases hlr : ll < rl
                  · have CI := Lib.hid (HI.out x m1 l e4 w2 (by omega) hm2 (by omega) hl HM.out.aw HM.out.b1 HM.out.dd)
                    go_wp2_with ((with_reducible refine (CI.out).mono ?_); rintro e w3 ⟨rfl, R, ⟨r1, r2⟩, k2⟩)
                    go_roundg (y - (m1 + 1) + 1)
                    case measure => omega
                    case rel => exact ⟨m1 + 1, y, l, _, z, R, by first | rfl | go_num, rfl, rfl, rfl, rfl, by omega, hyN, hl, by omega, by omega, Lib.hid (HM.out.left R w3 r1 r2 k2)⟩
                  · have CI := HI.out (m1 + 1) y l e4 w2 (by omega) (by omega) hyN hl HM.out.aw HM.out.b2 HM.out.dd
                    rw [show ((m1 + 1 : Nat) : Int) = (m1 : Int) + 1 by omega] at CI
                    have CT := Lib.hid CI
                    clear CI
                    go_wp2_with ((with_reducible refine (CT.out).mono ?_); rintro e w3 ⟨rfl, R, ⟨r1, r2⟩, k2⟩)
                    go_roundg (m1 - x + 1)
                    case measure => omega
                    case rel => exact ⟨x, m1, l, _, z, R, rfl, rfl, rfl, rfl, rfl, by omega, by omega, hl, by omega, by omega, Lib.hid (HM.out.right R w3 r1 r2 k2)⟩
end Go.Proofs.YtnmnbogjnjbopaaDoor
end

section
/-
  The library's sort of a slice of uint32: the whole.
-/
namespace Go.Proofs.YtnmnbogjnjbopaaDoor
open Go.Shelf Go.RowKit Go.Lib Go.Sort

set_option maxHeartbeats 1000000 in
/-- slices.Sort at numbers that are all different. -/
theorem usort_any (g o cap : Nat) (d : Array Int) (w : World) (hh : Holds ku w g o d) (hg : g < w.heap.size) (hN : d.size < 4611686018427387904) (hd : d.toList.Nodup) :
    Calls Tryd.prog 66 #[.slice (some ⟨g, o, none⟩) d.size cap] w fun e w' => e = .returned (.tuple #[]) ∧ ∃ R, Srt 0 d.size d R ∧ AW w g o d.size R w' := by
  have hA : AW w g o d.size d w := ⟨SW.start hh, rfl, d, ⟨fun _ => rfl, hh, hg⟩, rfl⟩
  have hD : DD d.size d := by unfold DD; rw [Array.extract_eq_self_of_le (Nat.le_refl _)]; exact hd
  have hb : bitsLen d.size ≤ 62 := (bitsLen_le_iff d.size 62).2 (by omega)
  have C : Hid (Calls Tryd.prog 83 #[.slice (some ⟨g, o, none⟩) d.size cap, .int .i64 0, .int .i64 d.size, .int .i64 (bitsLen d.size : Nat)] w fun e w' => e = .returned (.tuple #[]) ∧ ∃ R, Srt 0 d.size d R ∧ AW w g o d.size R w') := Lib.hid (updq_any w g o d.size cap hN d.size 0 d.size (bitsLen d.size) d w (by omega) (Nat.zero_le _) (Nat.le_refl _) (by omega) hA (.inl rfl) hD)
  obtain ⟨l, hl⟩ : ∃ l, l = bitsLen d.size := ⟨_, rfl⟩
  rw [← hl] at C hb
  have e3 : IntKind.u64.wrap (d.size : Int) = (d.size : Int) := by rw [IntKind.wrap_u64]; omega
  have CL : Hid (∀ W, Calls Tryd.prog 70 #[.int .u64 (d.size : Int)] W fun e w' => e = .returned (.int .i64 l) ∧ w' = W) := Lib.hid fun W => by
    have h := Any.bits_Len (SlLaysF0.n15.bits (P := Tryd.prog) (ρ := sortP_ren) { sortP with }) (d.size : Int) W (by omega) (by omega)
    rw [Int.toNat_natCast, bitLen_eq _ (by omega), ← hl] at h
    exact h
  generalize d.size = N at *
  clear hh hA hD hl
  go_enter Tryd.func66, Tryd.ntmps66
  go_wp2_with (first | ((with_reducible refine (CL.out _).mono ?_); rintro e w1 ⟨rfl, rfl⟩) | ((with_reducible refine (C.out).mono ?_); rintro e w1 ⟨rfl, k1⟩))
  go_end0
  exact ⟨rfl, k1⟩
end Go.Proofs.YtnmnbogjnjbopaaDoor
end
