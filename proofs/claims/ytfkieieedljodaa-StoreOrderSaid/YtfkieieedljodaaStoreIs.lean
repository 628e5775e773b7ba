/-
  Package store: what a store is in memory; find, Len.
-/
import Derived.Test.YtfkieieedljodaaStoreIdx
import Derived.Deep.AppendLies
namespace Go.Proofs.Ytfkieieedljodaa
open Go.RowKit Go.Lib Go.Maps

/-- The value of the field 'indices'. -/
def IdxIs (w : World) (mp : Option Nat) (D : List Bd) : Prop := (mp = none ∧ D = []) ∨ ∃ mb Dm, mp = some mb ∧ w.ownsMap Try.prog 28 (plainElem Try.prog 3) mb D.length Dm ∧ Idx Dm D

/-- The two cells of block sb are a store of the bodies m, which lie as D in the slice v, with their places in the map mp; what it consists of lies in the blocks S. -/
structure SI (w : World) (sb : Nat) (S : Nat → Prop) (m : List Bd) (v : Value) (mp : Option Nat) (D : List Bd) : Prop where
  c0 : w.cell? ⟨sb, 0, none⟩ = some v
  c1 : w.cell? ⟨sb, 1, none⟩ = some (.map mp)
  f0 : w.frozen? ⟨sb, 0, none⟩ = false
  f1 : w.frozen? ⟨sb, 1, none⟩ = false
  ssb : S sb
  own : w.ownsRow 0 32 10 v D.length (flat D)
  sv : ∀ g, v.ownBlock = some g → S g ∧ g ≠ sb
  idx : IdxIs w mp D
  sm : ∀ mb, mp = some mb → S mb
  lt : ∀ k, S k → k < w.heap.size
  perm : D.Perm m
  asc : Asc m
  fits : ∀ b ∈ m, Fits b
  len : m.length ≤ 4096
def StoreIs (w : World) (sb : Nat) (S : Nat → Prop) (m : List Bd) : Prop := ∃ v mp D, SI w sb S m v mp D

/-- The blocks that lay in w, but for those of S, are as they were. -/
structure But (S : Nat → Prop) (w w' : World) : Prop where
  os : w'.os = w.os
  output : w'.output = w.output
  size : w.heap.size ≤ w'.heap.size
  block : ∀ k, k < w.heap.size → ¬ S k → w'.heap[k]? = w.heap[k]?
theorem But.refl (S : Nat → Prop) (w : World) : But S w w := ⟨rfl, rfl, Nat.le_refl _, fun _ _ _ => rfl⟩
theorem But.of_kep {S : Nat → Prop} {w w' : World} (h : Kep w.heap.size w w') : But S w w' := ⟨h.os, h.output, h.size, fun k hk _ => h.block k hk⟩
theorem But.of_grown {S : Nat → Prop} {w w' : World} (h : Grown w w') : But S w w' := .of_kep (Kep.of_grown h)
theorem But.of_by {S : Nat → Prop} {w w' : World} {row : Option Nat} (h : w.grownBy w' row) (hr : ∀ k, row = some k → S k ∨ w.heap.size ≤ k) : But S w w' :=
  ⟨h.os, h.output, h.size, fun k hk hn => h.block k hk (fun e => by rcases hr k e.symm with q | q; exact hn q; omega)⟩
/-- S and the blocks that have been made. -/
def More (S : Nat → Prop) (w w' : World) : Nat → Prop := fun k => S k ∨ (w.heap.size ≤ k ∧ k < w'.heap.size)
theorem But.trans {S : Nat → Prop} {a b c : World} (h : But S a b) (k : But (More S a b) b c) : But S a c :=
  ⟨k.os.trans h.os, k.output.trans h.output, Nat.le_trans h.size k.size, fun i hi hn => (k.block i (Nat.lt_of_lt_of_le hi h.size) (by rintro (q | q); exact hn q; omega)).trans (h.block i hi hn)⟩
theorem But.kep {S : Nat → Prop} {B : Nat} {w w' : World} (h : But S w w') (hB : B ≤ w.heap.size) (hS : ∀ k, S k → B ≤ k) : Kep B w w' :=
  ⟨h.os, h.output, h.size, fun k hk => h.block k (by omega) (fun q => by have := hS k q; omega)⟩

theorem SI.kept {w w' : World} {sb : Nat} {S : Nat → Prop} {m : List Bd} {v : Value} {mp : Option Nat} {D : List Bd} (h : SI w sb S m v mp D) (hs : w.heap.size ≤ w'.heap.size) (hb : ∀ k, S k → w'.heap[k]? = w.heap[k]?) : SI w' sb S m v mp D := by
  have c : ∀ o, w'.cell? ⟨sb, o, none⟩ = w.cell? ⟨sb, o, none⟩ := fun o => World.cell?_of_block (hb sb h.ssb)
  have f : ∀ o, w'.frozen? ⟨sb, o, none⟩ = w.frozen? ⟨sb, o, none⟩ := fun o => World.frozen?_of_block (hb sb h.ssb)
  refine ⟨(c 0).trans h.c0, (c 1).trans h.c1, (f 0).trans h.f0, (f 1).trans h.f1, h.ssb, ⟨h.own.1, ?_⟩, h.sv, ?_, h.sm, fun k hk => Nat.lt_of_lt_of_le (h.lt k hk) hs, h.perm, h.asc, h.fits, h.len⟩
  · rcases h.own.2 with hn | ⟨g, cap, cur, rfl, hg, hgg, rest⟩
    · exact .inl hn
    · exact .inr ⟨g, cap, cur, rfl, hg, (hb g (h.sv g rfl).1).trans hgg, rest⟩
  · rcases h.idx with hn | ⟨mb, Dm, e, ⟨es, clock, hm, r⟩, i⟩
    · exact .inl hn
    · exact .inr ⟨mb, Dm, e, ⟨es, clock, (hb mb (h.sm mb e)).trans hm, r⟩, i⟩
theorem SI.kep {w w' : World} {sb : Nat} {S : Nat → Prop} {m : List Bd} {v : Value} {mp : Option Nat} {D : List Bd} (h : SI w sb S m v mp D) (g : Kep w.heap.size w w') : SI w' sb S m v mp D := h.kept g.size fun k hk => g.block k (h.lt k hk)
theorem SI.grown {w w' : World} {sb : Nat} {S : Nat → Prop} {m : List Bd} {v : Value} {mp : Option Nat} {D : List Bd} (h : SI w sb S m v mp D) (g : Grown w w') : SI w' sb S m v mp D := h.kep (Kep.of_grown g)
theorem StoreIs.kep {w w' : World} {sb : Nat} {S : Nat → Prop} {m : List Bd} (h : StoreIs w sb S m) (g : Kep w.heap.size w w') : StoreIs w' sb S m := by
  obtain ⟨v, mp, D, h⟩ := h; exact ⟨v, mp, D, h.kep g⟩
/-- Another store's steps. -/
theorem StoreIs.apart {w w' : World} {sb : Nat} {S T : Nat → Prop} {m : List Bd} (h : StoreIs w sb S m) (g : But T w w') (hd : ∀ k, S k → ¬ T k) : StoreIs w' sb S m := by
  obtain ⟨v, mp, D, h⟩ := h; exact ⟨v, mp, D, h.kept g.size fun k hk => g.block k (h.lt k hk) (hd k hk)⟩
theorem StoreIs.wider {w : World} {sb : Nat} {S T : Nat → Prop} {m : List Bd} (h : StoreIs w sb S m) (hS : ∀ k, S k → T k) (hT : ∀ k, T k → k < w.heap.size) : StoreIs w sb T m := by
  obtain ⟨v, mp, D, h⟩ := h
  exact ⟨v, mp, D, h.c0, h.c1, h.f0, h.f1, hS _ h.ssb, h.own, fun g e => ⟨hS g (h.sv g e).1, (h.sv g e).2⟩, h.idx, fun mb e => hS mb (h.sm mb e), hT, h.perm, h.asc, h.fits, h.len⟩

theorem SI.length {w : World} {sb : Nat} {S : Nat → Prop} {m : List Bd} {v : Value} {mp : Option Nat} {D : List Bd} (h : SI w sb S m v mp D) : D.length = m.length := h.perm.length_eq
theorem SI.slice {w : World} {sb : Nat} {S : Nat → Prop} {m : List Bd} {v : Value} {mp : Option Nat} {D : List Bd} (h : SI w sb S m v mp D) : (v = .slice none 0 0 ∧ D = []) ∨ ∃ g cap, v = .slice (some ⟨g, 0, none⟩) D.length cap ∧ g ≠ sb ∧ S g ∧ D.length ≤ cap := by
  rcases h.own.2 with ⟨h1, h2⟩ | ⟨g, cap, cur, h1, _, _, h4, _⟩
  · exact .inl ⟨h1, List.length_eq_zero_iff.1 h2⟩
  · have := h.sv g (by rw [h1]; rfl)
    exact .inr ⟨g, cap, h1, this.2, this.1, h4⟩
theorem wf_u32 {b : Bd} (h : Fits b) : (Lit.int .u32 b.k).wf = true := h.1

/-- Looking a key up. -/
theorem SI.look_no {w : World} {sb : Nat} {S : Nat → Prop} {m : List Bd} {v : Value} {mp : Option Nat} {D : List Bd} (h : SI w sb S m v mp D) {key : Int} (hk : (Lit.int .u32 key).wf = true) (e : look m key = none) :
    (Instr.lookup 25 (.map mp) (.int .u32 key) true).run Try.prog w = .ok (.tuple #[.int .i64 0, .bool false]) w := by
  rcases h.idx with ⟨rfl, _⟩ | ⟨mb, Dm, rfl, ho, hi⟩
  · exact Maps.look_nil true law Try.underlying25 (zeroE w) (keyOf_int_mk Try.underlying28 hk)
  · obtain ⟨x, ps, hr, hx⟩ := ho.look_ok law Try.underlying25 (zeroE w) (plainElem_int Try.underlying3 (a := 0) (by decide)) (keyOf_int_mk Try.underlying28 hk)
    have hn := hi.look_none h.perm e
    rw [atKey_of_not_has hn] at hx
    obtain ⟨a, rfl, hz, _⟩ := plainElem_int_inv Try.underlying3 hx
    rw [hn] at hr
    injection hz with hz _
    injection hz with hz
    injection hz with _ hz
    rw [← hz] at hr
    exact hr
theorem SI.look_yes {w : World} {sb : Nat} {S : Nat → Prop} {m : List Bd} {v : Value} {mp : Option Nat} {D : List Bd} (h : SI w sb S m v mp D) {key : Int} (hk : (Lit.int .u32 key).wf = true) {b : Bd} (e : look m key = some b) :
    ∃ i : Nat, D[i]? = some b ∧ b.k = key ∧ (Instr.lookup 25 (.map mp) (.int .u32 key) true).run Try.prog w = .ok (.tuple #[.int .i64 i, .bool true]) w := by
  rcases h.idx with ⟨rfl, rfl⟩ | ⟨mb, Dm, rfl, ho, hi⟩
  · have := h.perm.mem_iff.2 (Go.Proofs.Ytfkieieedljodaa.look_some e).1
    simp at this
  · obtain ⟨i, hD, hb, hh, ha⟩ := hi.look_some h.perm e
    obtain ⟨x, ps, hr, hx⟩ := ho.look_ok law Try.underlying25 (zeroE w) (plainElem_int Try.underlying3 (a := 0) (by decide)) (keyOf_int_mk Try.underlying28 hk)
    rw [ha] at hx
    obtain ⟨a, rfl, hz, _⟩ := plainElem_int_inv Try.underlying3 hx
    rw [hh] at hr
    injection hz with hz _
    injection hz with hz
    injection hz with _ hz
    rw [← hz] at hr
    exact ⟨i, hD, hb, hr⟩

set_option maxRecDepth 100000 in
theorem find_no {w : World} {sb : Nat} {S : Nat → Prop} {m : List Bd} {v : Value} {mp : Option Nat} {D : List Bd} (h : SI w sb S m v mp D) {key : Int} (hk : (Lit.int .u32 key).wf = true) (e : look m key = none) :
    Calls Try.prog 25 #[.pointer (some ⟨sb, 0, none⟩), .int .u32 key] w fun e w' => e = .returned (.tuple #[.int .i64 0, .int .i64 11]) ∧ w = w' := by
  have hr := h.look_no hk e
  have c1 := h.c1
  clear h e hk
  go_enter Try.func25, Try.ntmps25
  go_wp2
  go_ret2
  exact ⟨rfl, rfl⟩
set_option maxRecDepth 100000 in
theorem find_yes {w : World} {sb : Nat} {S : Nat → Prop} {m : List Bd} {v : Value} {mp : Option Nat} {D : List Bd} (h : SI w sb S m v mp D) {key : Int} (hk : (Lit.int .u32 key).wf = true) {b : Bd} (e : look m key = some b) :
    ∃ i : Nat, D[i]? = some b ∧ b.k = key ∧ Calls Try.prog 25 #[.pointer (some ⟨sb, 0, none⟩), .int .u32 key] w fun e w' => e = .returned (.tuple #[.int .i64 i, .int .i64 0]) ∧ w = w' := by
  obtain ⟨i, hD, hb, hr⟩ := h.look_yes hk e
  refine ⟨i, hD, hb, ?_⟩
  have c1 := h.c1
  clear h e hk hD hb
  go_enter Try.func25, Try.ntmps25
  go_wp2
  go_ret2
  exact ⟨rfl, rfl⟩
theorem len_any {w : World} {sb : Nat} {S : Nat → Prop} {m : List Bd} (h : StoreIs w sb S m) :
    Calls Try.prog 17 #[.pointer (some ⟨sb, 0, none⟩)] w fun e w' => e = .returned (.int .i64 m.length) ∧ w = w' := by
  obtain ⟨v, mp, D, h⟩ := h
  have c0 := h.c0
  rw [← h.length]
  rcases h.slice with ⟨rfl, rfl⟩ | ⟨g, cap, rfl, _, _, _⟩
  · clear h
    go_enter Try.func17, Try.ntmps17
    go_wp2
    go_ret
    exact ⟨rfl, rfl⟩
  · clear h
    generalize D.length = n at *
    go_enter Try.func17, Try.ntmps17
    go_wp2
    go_ret
    exact ⟨rfl, rfl⟩
theorem len_nil (w : World) : Calls Try.prog 17 #[.pointer none] w fun e w' => e = .returned (.int .i64 0) ∧ w = w' := by
  go_enter Try.func17, Try.ntmps17
  go_wp2
  go_ret
  exact ⟨rfl, rfl⟩
end Go.Proofs.Ytfkieieedljodaa
