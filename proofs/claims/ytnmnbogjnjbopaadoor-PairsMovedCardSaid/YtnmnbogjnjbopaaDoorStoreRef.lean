/-
  Package store's reference: Remove, Add, Set.
-/
import Derived.Test.YtnmnbogjnjbopaaDoorStorePut
import Derived.Test.YtnmnbogjnjbopaaDoorBodyRef
namespace Go.Proofs.YtnmnbogjnjbopaaDoor
open Go.RowKit Go.Lib

theorem Lst.shape {w : World} {v : Value} {L : List Bd} (h : Lst w v L) : ∃ base cap, v = .slice base L.length cap := by
  rcases h with ⟨rfl, base, cap, rfl⟩ | ⟨g, off, cap, rfl, _⟩
  · exact ⟨base, cap, rfl⟩
  · exact ⟨_, _, rfl⟩
theorem Lst.kep {w w' : World} {v : Value} {L : List Bd} (h : Lst w v L) (g : Kep w.heap.size w w') : Lst w' v L := by
  rcases h with h | ⟨b, o, c, h1, h2⟩
  · exact .inl h
  · refine .inr ⟨b, o, c, h1, fun k x hx i hi => ?_⟩
    have e := h2 k x hx i hi
    have n : i < (vals x).length := hi
    rw [List.getElem?_eq_getElem n] at e ⊢
    exact g.all e
/-- A call that hands back a list and an error. -/
def Gives (v : Value) (L : List Bd) (c : Int) (w : World) (e : Ending) (w' : World) : Prop := ∃ v', e = .returned (.tuple #[v', .int .i64 c]) ∧ Lst w' v' L ∧ Kep w.heap.size w w' ∧ (v' = v ∨ New w v' w')
theorem New.older {w a b : World} {v : Value} (h : New a v b) (g : w.heap.size ≤ a.heap.size) : New w v b := ⟨fun q e => ⟨Nat.le_trans g (h.1 q e).1, (h.1 q e).2⟩, h.2⟩
theorem place_none {L : List Bd} {key : Int} (h : look L key = none) : place L key 0 = -1 := (place_eq L key 0).1 h
theorem place_some {L : List Bd} {key : Int} (h : look L key ≠ none) : 0 ≤ place L key 0 := by
  cases e : look L key with
  | none => exact absurd e h
  | some b => obtain ⟨j, hj, _⟩ := (place_eq L key 0).2 b e; rw [hj]; omega
/-- A body with nothing but a key. -/
def bare (key : Int) : Bd := ⟨key, 0, 0, 0, 0, 0, 0, 0, 0, 0⟩
def removeL (L : List Bd) (key : Int) : List Bd := if look L key = none then L else put L (bare key) true
def removeE (L : List Bd) (key : Int) : Int := if look L key = none then 11 else 0

def chkB (b : Bd) : Int := chk b.r b.ax b.ay b.m b.o b.px b.py b.vx b.vy
def addL (L : List Bd) (b : Bd) : List Bd := if chkB b ≠ 0 then L else if look L b.k ≠ none then L else if 4096 ≤ L.length then L else put L b false
def addE (L : List Bd) (b : Bd) : Int := if chkB b ≠ 0 then chkB b else if look L b.k ≠ none then 10 else if 4096 ≤ L.length then 12 else 0
def setL (L : List Bd) (b : Bd) : List Bd := if chkB b ≠ 0 then L else if look L b.k = none then L else put L b false
def setE (L : List Bd) (b : Bd) : Int := if chkB b ≠ 0 then chkB b else if look L b.k = none then 11 else 0
abbrev Rckb (b : Bd) (c : Int) : Prop := Rck b.k b.r b.ax b.ay b.m b.o b.px b.py b.vx b.vy c
theorem rckb {b : Bd} {c : Int} (h : chkB b = c) : Rckb b c := rck b.k b.r b.ax b.ay b.m b.o b.px b.py b.vx b.vy c h

set_option maxRecDepth 100000 in
set_option maxHeartbeats 1000000 in
theorem radd_bad (base : Option Addr) (cap : Nat) (L L' : List Bd) (b : Bd) (c p : Int) (n : Nat) (w : World) (_hm : (n : Int) ≤ 1000000000) (Ck : Hid (Rckb b c)) (he : (c != 0) = true)
    (_C1 : Hid (∀ w', Kep w.heap.size w w' → Calls Tryd.prog 35 #[.slice base n cap, .int .u32 b.k] w' fun e w'' => e = .returned (.int .i64 p) ∧ w' = w''))
    (_C2 : Hid (∀ w', Kep w.heap.size w w' → Calls Tryd.prog 119 #[.slice base n cap, .agg #[.int .u32 b.k, .int .i32 b.r, .int .i32 b.ax, .int .i32 b.ay, .int .i32 b.m, .int .i32 b.o, .int .i32 b.px, .int .i32 b.py, .int .i32 b.vx, .int .i32 b.vy], .bool false] w' fun e w'' => ∃ v', e = .returned v' ∧ (Lst w'' v' L' ∧ New w' v' w'') ∧ Kep w'.heap.size w' w''))
    (H : Hid (∀ w', Kep w.heap.size w w' → Lst w' (.slice base n cap) L)) :
    Calls Tryd.prog 98 #[.slice base n cap, .agg #[.int .u32 b.k, .int .i32 b.r, .int .i32 b.ax, .int .i32 b.ay, .int .i32 b.m, .int .i32 b.o, .int .i32 b.px, .int .i32 b.py, .int .i32 b.vx, .int .i32 b.vy]] w (Gives (.slice base n cap) L c w) := by
  go_enter Tryd.func98, Tryd.ntmps98
  go_wp2_with (first
    | ((with_reducible refine (Ck.out _).mono ?_); rintro e w2 ⟨rfl, g2⟩
       have b0 := kept_cell g2 (b := w.heap.size) (o := 0) (v := .int .u32 b.k) (by (repeat (first | rw [World.cell?_drew] | rw [World.cell?_alloc_past _ _ _ (by first | (simp; done) | (simp; omega))])); rw [World.cell?_alloc_at _ _ _ _ (by simp)]; rfl)
       have b1 := kept_cell g2 (b := w.heap.size) (o := 1) (v := .int .i32 b.r) (by (repeat (first | rw [World.cell?_drew] | rw [World.cell?_alloc_past _ _ _ (by first | (simp; done) | (simp; omega))])); rw [World.cell?_alloc_at _ _ _ _ (by simp)]; rfl)
       have b2 := kept_cell g2 (b := w.heap.size) (o := 2) (v := .int .i32 b.ax) (by (repeat (first | rw [World.cell?_drew] | rw [World.cell?_alloc_past _ _ _ (by first | (simp; done) | (simp; omega))])); rw [World.cell?_alloc_at _ _ _ _ (by simp)]; rfl)
       have b3 := kept_cell g2 (b := w.heap.size) (o := 3) (v := .int .i32 b.ay) (by (repeat (first | rw [World.cell?_drew] | rw [World.cell?_alloc_past _ _ _ (by first | (simp; done) | (simp; omega))])); rw [World.cell?_alloc_at _ _ _ _ (by simp)]; rfl)
       have b4 := kept_cell g2 (b := w.heap.size) (o := 4) (v := .int .i32 b.m) (by (repeat (first | rw [World.cell?_drew] | rw [World.cell?_alloc_past _ _ _ (by first | (simp; done) | (simp; omega))])); rw [World.cell?_alloc_at _ _ _ _ (by simp)]; rfl)
       have b5 := kept_cell g2 (b := w.heap.size) (o := 5) (v := .int .i32 b.o) (by (repeat (first | rw [World.cell?_drew] | rw [World.cell?_alloc_past _ _ _ (by first | (simp; done) | (simp; omega))])); rw [World.cell?_alloc_at _ _ _ _ (by simp)]; rfl)
       have b6 := kept_cell g2 (b := w.heap.size) (o := 6) (v := .int .i32 b.px) (by (repeat (first | rw [World.cell?_drew] | rw [World.cell?_alloc_past _ _ _ (by first | (simp; done) | (simp; omega))])); rw [World.cell?_alloc_at _ _ _ _ (by simp)]; rfl)
       have b7 := kept_cell g2 (b := w.heap.size) (o := 7) (v := .int .i32 b.py) (by (repeat (first | rw [World.cell?_drew] | rw [World.cell?_alloc_past _ _ _ (by first | (simp; done) | (simp; omega))])); rw [World.cell?_alloc_at _ _ _ _ (by simp)]; rfl)
       have b8 := kept_cell g2 (b := w.heap.size) (o := 8) (v := .int .i32 b.vx) (by (repeat (first | rw [World.cell?_drew] | rw [World.cell?_alloc_past _ _ _ (by first | (simp; done) | (simp; omega))])); rw [World.cell?_alloc_at _ _ _ _ (by simp)]; rfl)
       have b9 := kept_cell g2 (b := w.heap.size) (o := 9) (v := .int .i32 b.vy) (by (repeat (first | rw [World.cell?_drew] | rw [World.cell?_alloc_past _ _ _ (by first | (simp; done) | (simp; omega))])); rw [World.cell?_alloc_at _ _ _ _ (by simp)]; rfl)
       have kk : Kep w.heap.size w w2 := Kep.of_grown (grown_trans ((Grown.refl w).alloc _ _) g2)))
  go_ret2
  exact ⟨_, rfl, H.out w2 kk, kk, .inl rfl⟩

set_option maxRecDepth 100000 in
set_option maxHeartbeats 1000000 in
theorem radd_dup (base : Option Addr) (cap : Nat) (L L' : List Bd) (b : Bd) (c p : Int) (n : Nat) (w : World) (_hm : (n : Int) ≤ 1000000000) (Ck : Hid (Rckb b 0)) (hp : 0 ≤ p) (hc' : c = 10)
    (C1 : Hid (∀ w', Kep w.heap.size w w' → Calls Tryd.prog 35 #[.slice base n cap, .int .u32 b.k] w' fun e w'' => e = .returned (.int .i64 p) ∧ w' = w''))
    (_C2 : Hid (∀ w', Kep w.heap.size w w' → Calls Tryd.prog 119 #[.slice base n cap, .agg #[.int .u32 b.k, .int .i32 b.r, .int .i32 b.ax, .int .i32 b.ay, .int .i32 b.m, .int .i32 b.o, .int .i32 b.px, .int .i32 b.py, .int .i32 b.vx, .int .i32 b.vy], .bool false] w' fun e w'' => ∃ v', e = .returned v' ∧ (Lst w'' v' L' ∧ New w' v' w'') ∧ Kep w'.heap.size w' w''))
    (H : Hid (∀ w', Kep w.heap.size w w' → Lst w' (.slice base n cap) L)) :
    Calls Tryd.prog 98 #[.slice base n cap, .agg #[.int .u32 b.k, .int .i32 b.r, .int .i32 b.ax, .int .i32 b.ay, .int .i32 b.m, .int .i32 b.o, .int .i32 b.px, .int .i32 b.py, .int .i32 b.vx, .int .i32 b.vy]] w (Gives (.slice base n cap) L c w) := by
  subst hc'
  go_enter Tryd.func98, Tryd.ntmps98
  go_wp2_with (first
    | ((with_reducible refine (Ck.out _).mono ?_); rintro e w2 ⟨rfl, g2⟩
       have b0 := kept_cell g2 (b := w.heap.size) (o := 0) (v := .int .u32 b.k) (by (repeat (first | rw [World.cell?_drew] | rw [World.cell?_alloc_past _ _ _ (by first | (simp; done) | (simp; omega))])); rw [World.cell?_alloc_at _ _ _ _ (by simp)]; rfl)
       have b1 := kept_cell g2 (b := w.heap.size) (o := 1) (v := .int .i32 b.r) (by (repeat (first | rw [World.cell?_drew] | rw [World.cell?_alloc_past _ _ _ (by first | (simp; done) | (simp; omega))])); rw [World.cell?_alloc_at _ _ _ _ (by simp)]; rfl)
       have b2 := kept_cell g2 (b := w.heap.size) (o := 2) (v := .int .i32 b.ax) (by (repeat (first | rw [World.cell?_drew] | rw [World.cell?_alloc_past _ _ _ (by first | (simp; done) | (simp; omega))])); rw [World.cell?_alloc_at _ _ _ _ (by simp)]; rfl)
       have b3 := kept_cell g2 (b := w.heap.size) (o := 3) (v := .int .i32 b.ay) (by (repeat (first | rw [World.cell?_drew] | rw [World.cell?_alloc_past _ _ _ (by first | (simp; done) | (simp; omega))])); rw [World.cell?_alloc_at _ _ _ _ (by simp)]; rfl)
       have b4 := kept_cell g2 (b := w.heap.size) (o := 4) (v := .int .i32 b.m) (by (repeat (first | rw [World.cell?_drew] | rw [World.cell?_alloc_past _ _ _ (by first | (simp; done) | (simp; omega))])); rw [World.cell?_alloc_at _ _ _ _ (by simp)]; rfl)
       have b5 := kept_cell g2 (b := w.heap.size) (o := 5) (v := .int .i32 b.o) (by (repeat (first | rw [World.cell?_drew] | rw [World.cell?_alloc_past _ _ _ (by first | (simp; done) | (simp; omega))])); rw [World.cell?_alloc_at _ _ _ _ (by simp)]; rfl)
       have b6 := kept_cell g2 (b := w.heap.size) (o := 6) (v := .int .i32 b.px) (by (repeat (first | rw [World.cell?_drew] | rw [World.cell?_alloc_past _ _ _ (by first | (simp; done) | (simp; omega))])); rw [World.cell?_alloc_at _ _ _ _ (by simp)]; rfl)
       have b7 := kept_cell g2 (b := w.heap.size) (o := 7) (v := .int .i32 b.py) (by (repeat (first | rw [World.cell?_drew] | rw [World.cell?_alloc_past _ _ _ (by first | (simp; done) | (simp; omega))])); rw [World.cell?_alloc_at _ _ _ _ (by simp)]; rfl)
       have b8 := kept_cell g2 (b := w.heap.size) (o := 8) (v := .int .i32 b.vx) (by (repeat (first | rw [World.cell?_drew] | rw [World.cell?_alloc_past _ _ _ (by first | (simp; done) | (simp; omega))])); rw [World.cell?_alloc_at _ _ _ _ (by simp)]; rfl)
       have b9 := kept_cell g2 (b := w.heap.size) (o := 9) (v := .int .i32 b.vy) (by (repeat (first | rw [World.cell?_drew] | rw [World.cell?_alloc_past _ _ _ (by first | (simp; done) | (simp; omega))])); rw [World.cell?_alloc_at _ _ _ _ (by simp)]; rfl)
       have kk : Kep w.heap.size w w2 := Kep.of_grown (grown_trans ((Grown.refl w).alloc _ _) g2))
    | (refine (C1.out w2 kk).mono ?_; rintro e w' ⟨rfl, rfl⟩))
  go_ret2
  exact ⟨_, rfl, H.out w2 kk, kk, .inl rfl⟩

set_option maxRecDepth 100000 in
set_option maxHeartbeats 1000000 in
theorem radd_full (base : Option Addr) (cap : Nat) (L L' : List Bd) (b : Bd) (c p : Int) (n : Nat) (w : World) (_hm : (n : Int) ≤ 1000000000) (Ck : Hid (Rckb b 0)) (hp : p < 0) (hn : 4096 ≤ (n : Int)) (hc' : c = 12)
    (C1 : Hid (∀ w', Kep w.heap.size w w' → Calls Tryd.prog 35 #[.slice base n cap, .int .u32 b.k] w' fun e w'' => e = .returned (.int .i64 p) ∧ w' = w''))
    (_C2 : Hid (∀ w', Kep w.heap.size w w' → Calls Tryd.prog 119 #[.slice base n cap, .agg #[.int .u32 b.k, .int .i32 b.r, .int .i32 b.ax, .int .i32 b.ay, .int .i32 b.m, .int .i32 b.o, .int .i32 b.px, .int .i32 b.py, .int .i32 b.vx, .int .i32 b.vy], .bool false] w' fun e w'' => ∃ v', e = .returned v' ∧ (Lst w'' v' L' ∧ New w' v' w'') ∧ Kep w'.heap.size w' w''))
    (H : Hid (∀ w', Kep w.heap.size w w' → Lst w' (.slice base n cap) L)) :
    Calls Tryd.prog 98 #[.slice base n cap, .agg #[.int .u32 b.k, .int .i32 b.r, .int .i32 b.ax, .int .i32 b.ay, .int .i32 b.m, .int .i32 b.o, .int .i32 b.px, .int .i32 b.py, .int .i32 b.vx, .int .i32 b.vy]] w (Gives (.slice base n cap) L c w) := by
  subst hc'
  go_enter Tryd.func98, Tryd.ntmps98
  go_wp2_with (first
    | ((with_reducible refine (Ck.out _).mono ?_); rintro e w2 ⟨rfl, g2⟩
       have b0 := kept_cell g2 (b := w.heap.size) (o := 0) (v := .int .u32 b.k) (by (repeat (first | rw [World.cell?_drew] | rw [World.cell?_alloc_past _ _ _ (by first | (simp; done) | (simp; omega))])); rw [World.cell?_alloc_at _ _ _ _ (by simp)]; rfl)
       have b1 := kept_cell g2 (b := w.heap.size) (o := 1) (v := .int .i32 b.r) (by (repeat (first | rw [World.cell?_drew] | rw [World.cell?_alloc_past _ _ _ (by first | (simp; done) | (simp; omega))])); rw [World.cell?_alloc_at _ _ _ _ (by simp)]; rfl)
       have b2 := kept_cell g2 (b := w.heap.size) (o := 2) (v := .int .i32 b.ax) (by (repeat (first | rw [World.cell?_drew] | rw [World.cell?_alloc_past _ _ _ (by first | (simp; done) | (simp; omega))])); rw [World.cell?_alloc_at _ _ _ _ (by simp)]; rfl)
       have b3 := kept_cell g2 (b := w.heap.size) (o := 3) (v := .int .i32 b.ay) (by (repeat (first | rw [World.cell?_drew] | rw [World.cell?_alloc_past _ _ _ (by first | (simp; done) | (simp; omega))])); rw [World.cell?_alloc_at _ _ _ _ (by simp)]; rfl)
       have b4 := kept_cell g2 (b := w.heap.size) (o := 4) (v := .int .i32 b.m) (by (repeat (first | rw [World.cell?_drew] | rw [World.cell?_alloc_past _ _ _ (by first | (simp; done) | (simp; omega))])); rw [World.cell?_alloc_at _ _ _ _ (by simp)]; rfl)
       have b5 := kept_cell g2 (b := w.heap.size) (o := 5) (v := .int .i32 b.o) (by (repeat (first | rw [World.cell?_drew] | rw [World.cell?_alloc_past _ _ _ (by first | (simp; done) | (simp; omega))])); rw [World.cell?_alloc_at _ _ _ _ (by simp)]; rfl)
       have b6 := kept_cell g2 (b := w.heap.size) (o := 6) (v := .int .i32 b.px) (by (repeat (first | rw [World.cell?_drew] | rw [World.cell?_alloc_past _ _ _ (by first | (simp; done) | (simp; omega))])); rw [World.cell?_alloc_at _ _ _ _ (by simp)]; rfl)
       have b7 := kept_cell g2 (b := w.heap.size) (o := 7) (v := .int .i32 b.py) (by (repeat (first | rw [World.cell?_drew] | rw [World.cell?_alloc_past _ _ _ (by first | (simp; done) | (simp; omega))])); rw [World.cell?_alloc_at _ _ _ _ (by simp)]; rfl)
       have b8 := kept_cell g2 (b := w.heap.size) (o := 8) (v := .int .i32 b.vx) (by (repeat (first | rw [World.cell?_drew] | rw [World.cell?_alloc_past _ _ _ (by first | (simp; done) | (simp; omega))])); rw [World.cell?_alloc_at _ _ _ _ (by simp)]; rfl)
       have b9 := kept_cell g2 (b := w.heap.size) (o := 9) (v := .int .i32 b.vy) (by (repeat (first | rw [World.cell?_drew] | rw [World.cell?_alloc_past _ _ _ (by first | (simp; done) | (simp; omega))])); rw [World.cell?_alloc_at _ _ _ _ (by simp)]; rfl)
       have kk : Kep w.heap.size w w2 := Kep.of_grown (grown_trans ((Grown.refl w).alloc _ _) g2))
    | (refine (C1.out w2 kk).mono ?_; rintro e w' ⟨rfl, rfl⟩))
  go_ret2
  exact ⟨_, rfl, H.out w2 kk, kk, .inl rfl⟩

set_option maxRecDepth 100000 in
set_option maxHeartbeats 1000000 in
theorem radd_ok (base : Option Addr) (cap : Nat) (L L' : List Bd) (b : Bd) (c p : Int) (n : Nat) (w : World) (hm : (n : Int) ≤ 1000000000) (Ck : Hid (Rckb b 0)) (hp : p < 0) (hn : (n : Int) < 4096) (hc' : c = 0)
    (C1 : Hid (∀ w', Kep w.heap.size w w' → Calls Tryd.prog 35 #[.slice base n cap, .int .u32 b.k] w' fun e w'' => e = .returned (.int .i64 p) ∧ w' = w''))
    (C2 : Hid (∀ w', Kep w.heap.size w w' → Calls Tryd.prog 119 #[.slice base n cap, .agg #[.int .u32 b.k, .int .i32 b.r, .int .i32 b.ax, .int .i32 b.ay, .int .i32 b.m, .int .i32 b.o, .int .i32 b.px, .int .i32 b.py, .int .i32 b.vx, .int .i32 b.vy], .bool false] w' fun e w'' => ∃ v', e = .returned v' ∧ (Lst w'' v' L' ∧ New w' v' w'') ∧ Kep w'.heap.size w' w''))
    (_H : Hid (∀ w', Kep w.heap.size w w' → Lst w' (.slice base n cap) L)) :
    Calls Tryd.prog 98 #[.slice base n cap, .agg #[.int .u32 b.k, .int .i32 b.r, .int .i32 b.ax, .int .i32 b.ay, .int .i32 b.m, .int .i32 b.o, .int .i32 b.px, .int .i32 b.py, .int .i32 b.vx, .int .i32 b.vy]] w (Gives (.slice base n cap) L' c w) := by
  subst hc'
  go_enter Tryd.func98, Tryd.ntmps98
  go_wp2_with (first
    | ((with_reducible refine (Ck.out _).mono ?_); rintro e w2 ⟨rfl, g2⟩
       have b0 := kept_cell g2 (b := w.heap.size) (o := 0) (v := .int .u32 b.k) (by (repeat (first | rw [World.cell?_drew] | rw [World.cell?_alloc_past _ _ _ (by first | (simp; done) | (simp; omega))])); rw [World.cell?_alloc_at _ _ _ _ (by simp)]; rfl)
       have b1 := kept_cell g2 (b := w.heap.size) (o := 1) (v := .int .i32 b.r) (by (repeat (first | rw [World.cell?_drew] | rw [World.cell?_alloc_past _ _ _ (by first | (simp; done) | (simp; omega))])); rw [World.cell?_alloc_at _ _ _ _ (by simp)]; rfl)
       have b2 := kept_cell g2 (b := w.heap.size) (o := 2) (v := .int .i32 b.ax) (by (repeat (first | rw [World.cell?_drew] | rw [World.cell?_alloc_past _ _ _ (by first | (simp; done) | (simp; omega))])); rw [World.cell?_alloc_at _ _ _ _ (by simp)]; rfl)
       have b3 := kept_cell g2 (b := w.heap.size) (o := 3) (v := .int .i32 b.ay) (by (repeat (first | rw [World.cell?_drew] | rw [World.cell?_alloc_past _ _ _ (by first | (simp; done) | (simp; omega))])); rw [World.cell?_alloc_at _ _ _ _ (by simp)]; rfl)
       have b4 := kept_cell g2 (b := w.heap.size) (o := 4) (v := .int .i32 b.m) (by (repeat (first | rw [World.cell?_drew] | rw [World.cell?_alloc_past _ _ _ (by first | (simp; done) | (simp; omega))])); rw [World.cell?_alloc_at _ _ _ _ (by simp)]; rfl)
       have b5 := kept_cell g2 (b := w.heap.size) (o := 5) (v := .int .i32 b.o) (by (repeat (first | rw [World.cell?_drew] | rw [World.cell?_alloc_past _ _ _ (by first | (simp; done) | (simp; omega))])); rw [World.cell?_alloc_at _ _ _ _ (by simp)]; rfl)
       have b6 := kept_cell g2 (b := w.heap.size) (o := 6) (v := .int .i32 b.px) (by (repeat (first | rw [World.cell?_drew] | rw [World.cell?_alloc_past _ _ _ (by first | (simp; done) | (simp; omega))])); rw [World.cell?_alloc_at _ _ _ _ (by simp)]; rfl)
       have b7 := kept_cell g2 (b := w.heap.size) (o := 7) (v := .int .i32 b.py) (by (repeat (first | rw [World.cell?_drew] | rw [World.cell?_alloc_past _ _ _ (by first | (simp; done) | (simp; omega))])); rw [World.cell?_alloc_at _ _ _ _ (by simp)]; rfl)
       have b8 := kept_cell g2 (b := w.heap.size) (o := 8) (v := .int .i32 b.vx) (by (repeat (first | rw [World.cell?_drew] | rw [World.cell?_alloc_past _ _ _ (by first | (simp; done) | (simp; omega))])); rw [World.cell?_alloc_at _ _ _ _ (by simp)]; rfl)
       have b9 := kept_cell g2 (b := w.heap.size) (o := 9) (v := .int .i32 b.vy) (by (repeat (first | rw [World.cell?_drew] | rw [World.cell?_alloc_past _ _ _ (by first | (simp; done) | (simp; omega))])); rw [World.cell?_alloc_at _ _ _ _ (by simp)]; rfl)
       have kk : Kep w.heap.size w w2 := Kep.of_grown (grown_trans ((Grown.refl w).alloc _ _) g2))
    | (refine (C1.out w2 kk).mono ?_; rintro e w' ⟨rfl, rfl⟩)
    | (refine (C2.out w2 kk).mono ?_; rintro e w3 ⟨v', rfl, h1, h2⟩; replace h1 := Lib.hid h1; replace h2 := Lib.hid (kk.trans (h2.mono kk.size))))
  go_ret2
  exact ⟨_, rfl, h1.out.1, h2.out, .inr (h1.out.2.older kk.size)⟩

theorem radd_any (v : Value) (L : List Bd) (b : Bd) (w : World) (h : Lst w v L) (hm : L.length ≤ 1000000000) : Calls Tryd.prog 98 #[v, .agg #[.int .u32 b.k, .int .i32 b.r, .int .i32 b.ax, .int .i32 b.ay, .int .i32 b.m, .int .i32 b.o, .int .i32 b.px, .int .i32 b.py, .int .i32 b.vx, .int .i32 b.vy]] w (Gives v (addL L b) (addE L b) w) := by
  obtain ⟨base, cap, hv⟩ := h.shape
  have C1 := Lib.hid (fun w' (g : Kep w.heap.size w w') => by have := find_any v L b.k w' (h.kep g) hm; rw [hv] at this; exact this)
  have C2 := Lib.hid (fun w' (g : Kep w.heap.size w w') => by have := put_any v L b false w' (h.kep g) hm; rw [hv] at this; exact this)
  have H := Lib.hid (fun w' (g : Kep w.heap.size w w') => by have := h.kep g; rw [hv] at this; exact this)
  have hn : (L.length : Int) ≤ 1000000000 := by omega
  rw [hv]
  unfold addL addE
  by_cases c1 : chkB b ≠ 0
  · rw [if_pos c1, if_pos c1]
    exact radd_bad base cap L _ b _ _ _ w hn (Lib.hid (rckb rfl)) (by rw [bne_iff_ne]; exact c1) C1 C2 H
  · rw [if_neg c1, if_neg c1]
    have K := Lib.hid (rckb (Decidable.not_not.1 c1))
    by_cases c2 : look L b.k ≠ none
    · rw [if_pos c2, if_pos c2]
      exact radd_dup base cap L _ b _ _ _ w hn K (place_some c2) rfl C1 C2 H
    · rw [if_neg c2, if_neg c2]
      have hp : place L b.k 0 < 0 := by rw [place_none (Decidable.not_not.1 c2)]; decide
      by_cases c3 : 4096 ≤ L.length
      · rw [if_pos c3, if_pos c3]
        exact radd_full base cap L _ b _ _ _ w hn K hp (by omega) rfl C1 C2 H
      · rw [if_neg c3, if_neg c3]
        exact radd_ok base cap L _ b _ _ _ w hn K hp (by omega) rfl C1 C2 H
end Go.Proofs.YtnmnbogjnjbopaaDoor
