/-
  Maps: an entry that is there, found and then stored into, as a tuple assignment does it: the same as storing at its key.
-/
import Derived.Test.YtfkieieedljodaaGrown
import Derived.Maps.OwnSet
import Derived.WideKeyEntry
namespace Go.Proofs.Ytfkieieedljodaa
open Go.RowKit Go.Lib Go.Maps Go.MapKept Go.ChangeMaps
open Go.WideElems (Fit)

theorem setBlock_same {w : World} {b : Nat} {es : Array MapEntry} {clock : Nat} (hb : w.heap[b]? = some (.map es clock)) : setBlock w b (.map es clock) = w := by
  have e : w.heap.setIfInBounds b (.map es clock) = w.heap := by
    apply Array.ext_getElem?
    intro i
    by_cases hi : i = b
    · subst hi; exact (heap_setBlock_same hb _).trans hb.symm
    · exact heap_setBlock_other hb _ hi
  unfold setBlock
  rw [e]

theorem entry_at {P : Program} {H : Type} {k e t : TypeId} {w : World} {R : Value → Option (DataW H × List MemPlace)} {b n : Nat} {D : DataW H} (h : w.ownsMap P k R b n D) (K : Keyed P k) (ht : P.underlying t = some (.map k e)) {z : Value} (hz : (zeroValue e).run P w = .ok z w)
    {key : Value} {kl : Lit} (hkey : keyOf P k key = some kl) (hh : Maps.has D kl = true) (val : Value) :
    ∃ (v0 : Value) (st : Nat), (Instr.mapEntry t (.map (some b)) key).run P w = .ok (.tuple #[v0, .int .i64 st]) w ∧
      (Instr.entryStore t (.map (some b)) (.int .i64 st) val).run P w = (Instr.mapUpdate t (.map (some b)) key val).run P w := by
  obtain ⟨es, clock, hb, F, _, rfl⟩ := h
  have hks : ∀ x ∈ es.toList, ∃ l, keyOf P k x.key = some l := F.keys
  have there : ∃ e0 ∈ es.toList, e0.key = key := by
    rcases Maps.fit_look false K ht hz hb F hkey with ⟨_, _, hat⟩ | ⟨e0, y, hm, hk, _⟩
    · rw [Maps.has_false_of_atKey hat] at hh; cases hh
    · exact ⟨e0, hm, hk⟩
  obtain ⟨e1, m1, k1⟩ := there
  obtain ⟨s1, s2, _⟩ := F.stamped
  rcases K.find w hkey es.toList hks with ⟨_, h2⟩ | ⟨j, e0, h1, h2, h3⟩
  · exact absurd k1 (h2 e1 m1)
  have hj : es[j]? = some e0 := by simpa using h2
  have hsame : es.modify j (fun e => { e with key := key }) = es := by
    apply Array.ext'
    rw [Array.toList_modify, modify_eq_set _ _ _ _ h2]
    have : ({ e0 with key := key } : MapEntry) = e0 := by rw [← h3]
    rw [this]
    exact WideElems.set_self _ _ _ h2
  have hmod : es.modify j (fun e => { e with val := val }) = es.modify j (fun e' => { e' with key := key, val := val }) := by
    apply Array.ext'
    rw [Array.toList_modify, Array.toList_modify, modify_eq_set _ _ _ _ h2, modify_eq_set _ _ _ _ h2, ← h3]
  have hidx : es.findIdx? (fun e => ((e.born : Nat) : Int) == ((e0.born : Nat) : Int)) = some j := by
    rw [WideElems.findIdx_arr]
    exact WideElems.findIdx_born s2 h2
  refine ⟨e0.val, e0.born, ?_, ?_⟩
  · have : (Instr.mapEntry t (.map (some b)) key).run P w = .ok (.tuple #[e0.val, .int .i64 e0.born]) (setBlock w b (.map es clock)) := by
      simp [Instr.mapEntry, run_underlying ht, MapKept.run_getObj_map hb, K.check w false hkey, h1, hj, h3, K.stays w hkey, hsame, MapKept.run_setObj_map _ hb, Result.andThen, setBlock, goInt]
    rw [this, setBlock_same hb]
  · have a1 : (Instr.mapUpdate t (.map (some b)) key val).run P w = .ok () (setBlock w b (.map (es.modify j (fun e' => { e' with key := key, val := val })) clock)) := by
      simp [Instr.mapUpdate, run_underlying ht, MapKept.run_getObj_map hb, K.check w false hkey, h1, hj, h3, K.stays w hkey, MapKept.run_setObj_map _ hb, Result.andThen, setBlock]
    rw [a1]
    simp [Instr.entryStore, MapKept.run_getObj_map hb, asInt, asIntOf, hidx, hmod, MapKept.run_setObj_map _ hb, Result.andThen, setBlock]
end Go.Proofs.Ytfkieieedljodaa
