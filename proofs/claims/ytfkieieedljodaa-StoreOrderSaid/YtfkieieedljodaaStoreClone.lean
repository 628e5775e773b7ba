/-
  Package store: Clone.
-/
import Derived.Test.YtfkieieedljodaaStoreSet
import Derived.Deep.RegionHeld3
import Derived.Shelf.SlMaps.Clone
import Derived.Shelf.SlicesE.Clone
namespace Go.Proofs.Ytfkieieedljodaa
open Go.RowKit Go.Lib Go.Maps

theorem flat_one : ∀ (D : List Bd), ∀ u ∈ flat D, u.oneCell' = true := fun D u hu => by
  obtain ⟨b, _, hb⟩ := List.mem_flatMap.1 hu
  exact one_cell b u hb
theorem sclone_any {v : Value} {D : List Bd} (w : World) (h : w.ownsRow 0 32 10 v D.length (flat D)) (hn : D.length ≤ 4096) :
    Calls Try.prog 26 #[v] w fun e w' => ∃ v', e = .returned v' ∧ w'.ownsRow w.heap.size 32 10 v' D.length (flat D) ∧ Kep w.heap.size w w' := by
  obtain ⟨i0, hi, hz0, hz1, hz2⟩ := info_parts info_body
  rcases h.2 with ⟨rfl, h0⟩ | ⟨g, cap, cur, rfl, _, hg, hc, _⟩
  · obtain rfl := List.length_eq_zero_iff.1 h0
    have hq := fun w a n c n' c' => Lib.run_eql_slice_nil (P := Try.prog) w 24 32 a n c n' c' Try.underlying24
    clear h hi hz0 hz1 hz2 i0
    go_enter Try.func26, Try.ntmps26
    go_wp2
    go_ret
    exact ⟨_, rfl, World.ownsRow_nil _ _ _ _, Kep.refl _ _⟩
  · have hq := fun w a n c n' c' => Lib.run_eql_slice_nil (P := Try.prog) w 24 32 a n c n' c' Try.underlying24
    have HC : Hid (∀ j u, (flat D)[j]? = some u → w.cell? ((⟨g, 0, none⟩ : Addr).add j) = some u) := Lib.hid (h.cells rfl)
    have HF := Lib.hid h.1
    have HI := Lib.hid hi
    have HN := Lib.hid hn
    clear h hg hi hn hc
    go_enter Try.func26, Try.ntmps26
    go_wp2_with (at_builtin; refine wpList_append_own _ rfl _ _ 24 rfl w.heap.size 32 i0 (.agg #[.int .u32 0, .int .i32 0, .int .i32 0, .int .i32 0, .int .i32 0, .int .i32 0, .int .i32 0, .int .i32 0, .int .i32 0, .int .i32 0]) 10 40 Try.underlying24 HI.out hz0 hz1 hz2 rfl (by decide) _ _ _ rfl (World.ownsRow_made w #[] 0 (Nat.le_refl _) (Nat.zero_le _) (by simp)) ⟨g, 0, none⟩ D.length cap (flat D) rfl HF.out ?qc2 (flat_one D) ?qc4 ?qc5 ?qc6 ?_)
    case qc2 =>
      intro j u hj
      exact Lib.cell?_alloc_some _ (HC.out j u hj)
    case qc4 => rw [Nat.zero_add]; have := HN.out; unfold maxLen; omega
    case qc5 => rw [Nat.zero_add]; have := HN.out; omega
    case qc6 => simp
    intro v' w1 hown hgrow hnil
    have HO := Lib.hid hown
    clear hown hnil
    go_wp2
    go_ret
    exact ⟨v', rfl, by simpa using HO.out, Kep.of_below (((Below.refl _ w).alloc (Nat.le_refl _) _).grown hgrow (by simp) (by intro k hk; simp [Value.ownBlock] at hk; omega))⟩

theorem mclone_nil (w : World) : Calls Try.prog 31 #[.map none] w fun e w' => e = .returned (.map none) ∧ w = w' := by
  have hq := fun w => run_eql_map_nil_sl (P := Try.prog) w 25 _ _ none Try.underlying25
  go_enter Try.func31, Try.ntmps31
  go_wp2
  go_ret
  exact ⟨rfl, rfl⟩
theorem mclone_some (b : Nat) (es : Array MapEntry) (clock : Nat) (w : World) (hb : w.heap[b]? = some (.map es clock)) : Calls Try.prog 31 #[.map (some b)] w fun e w' => e = .returned (.map (some w.heap.size)) ∧ w' = w.alloc (.map es clock) := by
  have hq := fun w => run_eql_map_nil_sl (P := Try.prog) w 25 _ _ (some b) Try.underlying25
  go_enter Try.func31, Try.ntmps31
  go_wp2
  rw [run_callFunc_extern Try.func37 (by kernel_rfl) (by kernel_rfl) (by kernel_rfl) (e := Extern.MapsClone.clone) (by kernel_rfl), run_maps_clone_sl w 25 hb]
  simp only [Result.andThen]
  rw [Oper.upon_value]
  go_wp2
  rw [run_typeAssert_map_sl _ 25 20 _ _ _ Try.underlying25]
  simp only [Result.andThen]
  rw [Oper.upon_value]
  go_wp2
  go_ret
  exact ⟨rfl, rfl⟩
theorem mclone_any {mp : Option Nat} {D : List Bd} (w : World) (h : IdxIs w mp D) : Calls Try.prog 31 #[.map mp] w fun e w' => ∃ mp', e = .returned (.map mp') ∧ IdxIs w' mp' D ∧ (∀ mb, mp' = some mb → w.heap.size ≤ mb ∧ mb < w'.heap.size) ∧ Kep w.heap.size w w' := by
  rcases h with ⟨rfl, rfl⟩ | ⟨mb, Dm, rfl, ⟨es, clock, hb, F, hs, hD⟩, ix⟩
  · exact (mclone_nil w).mono fun e w' ⟨h1, h2⟩ => ⟨none, h1, .inl ⟨rfl, rfl⟩, fun _ q => by (cases q), h2 ▸ Kep.refl _ _⟩
  · refine (mclone_some mb es clock w hb).mono fun e w' ⟨h1, h2⟩ => ⟨some w.heap.size, h1, ?_, fun q e => ?_, ?_⟩
    · exact .inr ⟨_, Dm, rfl, ⟨es, clock, by rw [h2]; exact (MapKept.heap_alloc w _).1, F, hs, hD⟩, ix⟩
    · injection e with e
      subst e h2
      simp
    · rw [h2]; exact Kep.alloc (Kep.refl _ _) (Nat.le_refl _) _
end Go.Proofs.Ytfkieieedljodaa
