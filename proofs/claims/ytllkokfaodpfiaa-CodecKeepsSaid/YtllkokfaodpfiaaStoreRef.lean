/-
  Package store's reference: Remove, Add, Set.
-/
import Derived.Test.YtllkokfaodpfiaaStorePut
import Derived.Test.YtllkokfaodpfiaaBodyRef
import Derived.Test.YtllkokfaodpfiaaZa
namespace Go.Proofs.Ytllkokfaodpfiaa
open Go.RowKit Go.Lib

theorem Lst.shape {w : World} {v : Value} {L : List Bd} (h : Lst w v L) : ∃ base cap, v = .slice base L.length cap := by
  rcases h with ⟨rfl, base, cap, rfl⟩ | ⟨g, off, cap, rfl, _⟩
  · exact ⟨base, cap, rfl⟩
  · exact ⟨_, _, rfl⟩
theorem Lst.kep {w w' : World} {v : Value} {L : List Bd} (h : Lst w v L) (g : Kep w.heap.size w w') : Lst w' v L := by
  rcases h with h | ⟨b, o, c, h1, h2⟩
  · exact .inl h
  · refine .inr ⟨b, o, c, h1, fun k x hx i hi => ?_⟩
    have e := h2 k x hx i hi
    have n : i < (vals x).length := hi
    rw [List.getElem?_eq_getElem n] at e ⊢
    exact g.all e
/-- A call that hands back a list and an error. -/
def Gives (v : Value) (L : List Bd) (c : Int) (w : World) (e : Ending) (w' : World) : Prop := ∃ v', e = .returned (.tuple #[v', .int .i64 c]) ∧ Lst w' v' L ∧ Kep w.heap.size w w' ∧ (v' = v ∨ New w v' w')
theorem New.older {w a b : World} {v : Value} (h : New a v b) (g : w.heap.size ≤ a.heap.size) : New w v b := ⟨fun q e => ⟨Nat.le_trans g (h.1 q e).1, (h.1 q e).2⟩, h.2⟩
theorem place_none {L : List Bd} {key : Int} (h : look L key = none) : place L key 0 = -1 := (place_eq L key 0).1 h
theorem place_some {L : List Bd} {key : Int} (h : look L key ≠ none) : 0 ≤ place L key 0 := by
  cases e : look L key with
  | none => exact absurd e h
  | some b => obtain ⟨j, hj, _⟩ := (place_eq L key 0).2 b e; rw [hj]; omega
/-- A body with nothing but a key. -/
def bare (key : Int) : Bd := ⟨key, 0, 0, 0, 0, 0, 0, 0, 0, 0⟩
def removeL (L : List Bd) (key : Int) : List Bd := if look L key = none then L else put L (bare key) true
def removeE (L : List Bd) (key : Int) : Int := if look L key = none then 11 else 0

def chkB (b : Bd) : Int := chk b.r b.ax b.ay b.m b.o b.px b.py b.vx b.vy
def addL (L : List Bd) (b : Bd) : List Bd := if chkB b ≠ 0 then L else if look L b.k ≠ none then L else if 4096 ≤ L.length then L else put L b false
def addE (L : List Bd) (b : Bd) : Int := if chkB b ≠ 0 then chkB b else if look L b.k ≠ none then 10 else if 4096 ≤ L.length then 12 else 0
def setL (L : List Bd) (b : Bd) : List Bd := if chkB b ≠ 0 then L else if look L b.k = none then L else put L b false
def setE (L : List Bd) (b : Bd) : Int := if chkB b ≠ 0 then chkB b else if look L b.k = none then 11 else 0
abbrev Rckb (b : Bd) (c : Int) : Prop := Rck b.k b.r b.ax b.ay b.m b.o b.px b.py b.vx b.vy c
theorem rckb {b : Bd} {c : Int} (h : chkB b = c) : Rckb b c := rck b.k b.r b.ax b.ay b.m b.o b.px b.py b.vx b.vy c h

end Go.Proofs.Ytllkokfaodpfiaa
