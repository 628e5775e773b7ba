import Derived.Test.YtlbbacmpdlghaaaJ01FxRef
import Derived.Deep.QuietTactic
import Derived.BigQuiet
import Derived.Test.YtlbbacmpdlghaaaJ00Bits
import Derived.Deep.DeepCutAuto
import Derived.StillTailTactics

/-! J05GridMath: GridMath, Blk, ImpMath, ImpRef. -/

section
/-
  Package grid: entries, their buckets, candidates as numbers and lists (no program).
-/
namespace Go.Proofs.Ytlbbacmpdlghaaa
open Go.RowKit Go.Lib

def kv (n : Int) : List Value := [.int .u32 n]
end Go.Proofs.Ytlbbacmpdlghaaa
end

section
/-
  A block of the call's own that holds a struct: its cells at once, and a struct stored into it (no program).
-/
namespace Go.Proofs.Ytlbbacmpdlghaaa
open Go.RowKit Go.Lib

/-- The cells of block b from 0 on are vs, and none of the block's cells is frozen. -/
structure ZC (w : World) (b : Nat) (vs : List Value) : Prop where
  at_ : ∀ (i : Nat) (u : Value), vs[i]? = some u → w.cell? ⟨b, i, none⟩ = some u
  frz : ∀ i, w.frozen? ⟨b, i, none⟩ = false
  lt : b < w.heap.size
theorem ZC.kep {w w' : World} {b : Nat} {vs : List Value} (h : ZC w b vs) (g : Kep w.heap.size w w') : ZC w' b vs :=
  ⟨fun i u hu => g.all (h.at_ i u hu), fun i => (g.frozen (p := ⟨b, i, none⟩) h.lt).trans (h.frz i), Nat.lt_of_lt_of_le h.lt g.size⟩
theorem ZC.drew {w : World} {b : Nat} {vs : List Value} (h : ZC w b vs) : ZC w.drew b vs := h.kep (kep_drew (Kep.refl _ _))
theorem ZC.more {w : World} {b : Nat} {vs : List Value} (h : ZC w b vs) (o : Obj) : ZC (w.alloc o) b vs := h.kep (kep_more (Kep.refl _ _) o)
theorem zc_new (w : World) (l : List Value) (t : TypeId) : ZC (w.alloc (.cells ⟨l⟩ t)) w.heap.size l := by
  refine ⟨fun i u hu => ?_, fun i => ?_, by simp⟩
  · rw [World.cell?_alloc_at _ _ _ _ rfl]
    simpa using hu
  · exact World.frozen?_alloc_at _ _ _ _ rfl
/-- A struct stored cell by cell. -/
def setAll (w : World) (b : Nat) : Nat → List Value → World
  | _, [] => w
  | o, v :: l => setAll (w.setCell ⟨b, o, none⟩ v) b (o + 1) l
theorem setAll_size (b : Nat) : ∀ (l : List Value) (o : Nat) (w : World), (setAll w b o l).heap.size = w.heap.size
  | [], _, _ => rfl
  | v :: l, o, w => by
    unfold setAll
    rw [setAll_size b l, World.size_setCell]
theorem setAll_froz (b : Nat) : ∀ (l : List Value) (o : Nat) (w : World) (a : Addr), (setAll w b o l).frozen? a = w.frozen? a
  | [], _, _, _ => rfl
  | v :: l, o, w, a => by
    unfold setAll
    rw [setAll_froz b l, World.frozen?_setCell]
theorem setAll_far (b : Nat) : ∀ (l : List Value) (o : Nat) (w : World) {c i : Nat} {u : Value}, c ≠ b → w.cell? ⟨c, i, none⟩ = some u → (setAll w b o l).cell? ⟨c, i, none⟩ = some u
  | [], _, _, _, _, _, _, h => h
  | v :: l, o, w, c, i, u, hc, h => by
    unfold setAll
    exact setAll_far b l (o + 1) _ hc (sset_far h (fun e => hc e.symm))
theorem setAll_low (b : Nat) : ∀ (l : List Value) (o : Nat) (w : World) {i : Nat} {u : Value}, i < o → w.cell? ⟨b, i, none⟩ = some u → (setAll w b o l).cell? ⟨b, i, none⟩ = some u
  | [], _, _, _, _, _, h => h
  | v :: l, o, w, i, u, hi, h => by
    unfold setAll
    refine setAll_low b l (o + 1) _ (by omega) ?_
    rw [World.cell?_setCell_other (h := by intro e; injection e with _ e2; omega)]
    exact h
theorem setAll_at (b : Nat) : ∀ (l : List Value) (o : Nat) (w : World), (∀ j, j < l.length → (w.cell? ⟨b, o + j, none⟩).isSome = true) → ∀ (i : Nat) (u : Value), l[i]? = some u → (setAll w b o l).cell? ⟨b, o + i, none⟩ = some u
  | [], _, _, _, _, _, h => by simp at h
  | v :: l, o, w, hs, 0, u, h => by
    simp at h
    subst h
    unfold setAll
    refine setAll_low b l (o + 1) _ (by omega) ?_
    exact World.cell?_setCell_same' _ _ _ (hs 0 (by simp))
  | v :: l, o, w, hs, i + 1, u, h => by
    unfold setAll
    have := setAll_at b l (o + 1) (w.setCell ⟨b, o, none⟩ v) (fun j hj => sset_some _ _ _ (by
      have := hs (j + 1) (by simp; omega)
      rw [show o + 1 + j = o + (j + 1) by omega]
      exact this)) i u (by simpa using h)
    rw [show o + (i + 1) = o + 1 + i by omega]
    exact this
theorem ZC.set {w : World} {b : Nat} {vs : List Value} (h : ZC w b vs) (us : List Value) (hl : us.length ≤ vs.length) : ZC (setAll w b 0 us) b us := by
  refine ⟨fun i u hu => ?_, fun i => by rw [setAll_froz]; exact h.frz i, by rw [setAll_size]; exact h.lt⟩
  have := setAll_at b us 0 w (fun j hj => by
    rw [Nat.zero_add]
    have hj2 : j < vs.length := by omega
    rw [h.at_ j _ (List.getElem?_eq_getElem hj2)]
    rfl) i u hu
  rw [Nat.zero_add] at this
  exact this
theorem kep_setAll {a : World} {b : Nat} (hb : a.heap.size ≤ b) : ∀ (l : List Value) (o : Nat) {w : World}, Kep a.heap.size a w → Kep a.heap.size a (setAll w b o l)
  | [], _, _, h => h
  | v :: l, o, w, h => by
    unfold setAll
    exact kep_setAll hb l (o + 1) (kep_set h hb v)
theorem ZC.i {w : World} {b : Nat} {vs : List Value} (h : ZC w b vs) {i : Nat} {u : Value} (hu : vs[i]? = some u) : w.cell? ⟨b, i, none⟩ = some u := h.at_ i u hu
theorem zc_new' (w : World) (l : List Value) (t : TypeId) {b : Nat} (h : b = w.heap.size) : ZC (w.alloc (.cells ⟨l⟩ t)) b l := by subst h; exact zc_new w l t
theorem ZC.far {w : World} {b c : Nat} {vs : List Value} (h : ZC w c vs) (hc : c ≠ b) (l : List Value) : ZC (setAll w b 0 l) c vs :=
  ⟨fun i u hu => setAll_far b l 0 w hc (h.at_ i u hu), fun i => by rw [setAll_froz]; exact h.frz i, by rw [setAll_size]; exact h.lt⟩
end Go.Proofs.Ytlbbacmpdlghaaa
end

section
/-
  Package impulse: its arithmetic (no program).
-/
namespace Go.Proofs.Ytlbbacmpdlghaaa
open Go.RowKit Go.Lib

/-- A valid body's parts that impulses look at. -/
structure Vb (x : Bd) : Prop where
  m0 : 0 ≤ x.m
  m1 : x.m ≤ 1048576
  o0 : 0 ≤ x.o
  o1 : x.o ≤ 65536
  vx0 : -16777216 ≤ x.vx
  vx1 : x.vx ≤ 16777216
  vy0 : -16777216 ≤ x.vy
  vy1 : x.vy ≤ 16777216
theorem vb_of {x : Bd} (h : chk x.r x.ax x.ay x.m x.o x.px x.py x.vx x.vy = 0) : Vb x := by
  unfold chk at h
  split at h
  · split at h
    · split at h
      · split at h
        · split at h
          · split at h
            · rename_i a1 a2 a3 a4 a5 a6
              exact ⟨by omega, by omega, by omega, by omega, by omega, by omega, by omega, by omega⟩
            · exact absurd h (by decide)
          · exact absurd h (by decide)
        · exact absurd h (by decide)
      · exact absurd h (by decide)
    · exact absurd h (by decide)
  · exact absurd h (by decide)
abbrev Nr (n : Int) : Prop := -65536 ≤ n ∧ n ≤ 65536
/-- The scalar product of a normal and the difference of the velocities. -/
def spI (nx ny : Int) (x y : Bd) : Int := (y.vx - x.vx) * nx + (y.vy - x.vy) * ny
def apI (nx ny : Int) (x y : Bd) : Int := spI nx ny x y / 65536
def bnI (x y : Bd) : Int := max x.o y.o
def stI (nx ny : Int) (x y : Bd) : Int := if 0 ≤ apI nx ny x y ∨ x.m + y.m = 0 then 0 else -(apI nx ny x y) * (65536 + bnI x y) / (x.m + y.m)
def chI (j i n : Int) : Int := j * i / 65536 * n / 65536
theorem mul_bd {a b A B : Int} (ha : -A ≤ a ∧ a ≤ A) (hb : -B ≤ b ∧ b ≤ B) : -(A * B) ≤ a * b ∧ a * b ≤ A * B := by
  have hA : 0 ≤ A := by omega
  have hB : 0 ≤ B := by omega
  have key : ∀ c : Int, 0 ≤ c → c ≤ A → -(A * B) ≤ c * b ∧ c * b ≤ A * B := fun c h0 h1 => by
    have p1 := Int.mul_le_mul_of_nonneg_left hb.2 h0
    have p2 := Int.mul_le_mul_of_nonneg_left hb.1 h0
    have p3 := Int.mul_le_mul_of_nonneg_right h1 hB
    rw [Int.mul_neg] at p2
    omega
  rcases Int.le_total 0 a with c | c
  · exact key a c ha.2
  · have := key (-a) (by omega) (by omega)
    rw [Int.neg_mul] at this
    omega
theorem sp_bd {nx ny : Int} {x y : Bd} (hx : Vb x) (hy : Vb y) (h1 : Nr nx) (h2 : Nr ny) : (-2199023255552 ≤ (y.vx - x.vx) * nx ∧ (y.vx - x.vx) * nx ≤ 2199023255552) ∧ (-2199023255552 ≤ (y.vy - x.vy) * ny ∧ (y.vy - x.vy) * ny ≤ 2199023255552) := by
  have a1 : -33554432 ≤ y.vx - x.vx ∧ y.vx - x.vx ≤ 33554432 := by have := hx.vx0; have := hx.vx1; have := hy.vx0; have := hy.vx1; omega
  have a2 : -33554432 ≤ y.vy - x.vy ∧ y.vy - x.vy ≤ 33554432 := by have := hx.vy0; have := hx.vy1; have := hy.vy0; have := hy.vy1; omega
  have b1 := mul_bd a1 h1
  have b2 := mul_bd a2 h2
  omega
theorem ap_bd {nx ny : Int} {x y : Bd} (hx : Vb x) (hy : Vb y) (h1 : Nr nx) (h2 : Nr ny) : -67108864 ≤ apI nx ny x y ∧ apI nx ny x y ≤ 67108864 := by
  have h := sp_bd hx hy h1 h2
  unfold apI spI
  omega
theorem bn_bd {x y : Bd} (hx : Vb x) (hy : Vb y) : 0 ≤ bnI x y ∧ bnI x y ≤ 65536 := by
  have := hx.o0; have := hx.o1; have := hy.o0; have := hy.o1
  unfold bnI
  omega
theorem num_bd {nx ny : Int} {x y : Bd} (hx : Vb x) (hy : Vb y) (h1 : Nr nx) (h2 : Nr ny) (hv : apI nx ny x y < 0) : 0 ≤ -(apI nx ny x y) * (65536 + bnI x y) ∧ -(apI nx ny x y) * (65536 + bnI x y) ≤ 8796093022208 := by
  have a := ap_bd hx hy h1 h2
  have b := bn_bd hx hy
  have p := mul_bd (a := -(apI nx ny x y)) (b := 65536 + bnI x y) (A := 67108864) (B := 131072) (by omega) (by omega)
  refine ⟨Int.mul_nonneg (by omega) (by omega), by omega⟩
/-- The strength is from 0 to 2^43. -/
theorem st_bd {nx ny : Int} {x y : Bd} (hx : Vb x) (hy : Vb y) (h1 : Nr nx) (h2 : Nr ny) : 0 ≤ stI nx ny x y ∧ stI nx ny x y ≤ 8796093022208 := by
  unfold stI
  split
  · omega
  · rename_i h
    have hn := num_bd hx hy h1 h2 (by omega)
    have hm : 1 ≤ x.m + y.m := by have := hx.m0; have := hy.m0; omega
    generalize -(apI nx ny x y) * (65536 + bnI x y) = N at *
    generalize x.m + y.m = M at *
    refine ⟨Int.ediv_nonneg hn.1 (by omega), ?_⟩
    have := Int.ediv_le_self M hn.1
    omega
theorem st_pos {nx ny : Int} {x y : Bd} (h : 0 < stI nx ny x y) : apI nx ny x y < 0 ∧ x.m + y.m ≠ 0 := by
  unfold stI at h
  split at h
  · omega
  · rename_i c
    exact ⟨by omega, by omega⟩
/-- What is shifted stays in range. -/
theorem k_bd {j i : Int} (hj : 0 ≤ j ∧ j ≤ 8796093022208) (hi : 0 ≤ i ∧ i ≤ 1048576) : 0 ≤ j * i ∧ j * i ≤ 9223372036854775808 ∧ 0 ≤ j * i / 65536 ∧ j * i / 65536 ≤ 140737488355328 := by
  have p0 := Int.mul_nonneg hj.1 hi.1
  have p1 := Int.mul_le_mul hj.2 hi.2 hi.1 (by decide)
  omega
theorem ch_bd {k n : Int} (hk : 0 ≤ k ∧ k ≤ 140737488355328) (hn : Nr n) : -140737488355328 ≤ k * n / 65536 ∧ k * n / 65536 ≤ 140737488355328 := by
  have p := mul_bd (a := k) (b := n) (A := 140737488355328) (B := 65536) (by omega) hn
  omega
theorem rv_i64 {v : Int} (h1 : -9223372036854775808 ≤ v) (h2 : v < 9223372036854775808) : rv v = v := if_pos ⟨h1, h2⟩
theorem msv_16 {a b : Int} (h1 : -9223372036854775808 ≤ a * b / 65536) (h2 : a * b / 65536 < 9223372036854775808) : msv a b 16 = a * b / 65536 := by
  have e : msv a b 16 = rv (a * b / 65536) := rfl
  rw [e, rv_i64 h1 h2]
end Go.Proofs.Ytlbbacmpdlghaaa
end

section
/-
  Package impulse: its slow reference.
-/
namespace Go.Proofs.Ytlbbacmpdlghaaa
open Go.RowKit Go.Lib

abbrev JFl (a b t : Int) : Prop := ∀ w, Calls Try.prog 25 #[.int .i64 a, .int .i64 b] w fun e w' => e = .returned (.int .i64 t) ∧ w = w'
def okI (x : Bd) : Prop := chk x.r x.ax x.ay x.m x.o x.px x.py x.vx x.vy = 0
instance (x : Bd) : Decidable (okI x) := by unfold okI; infer_instance
def imB (nx ny : Int) (x y : Bd) : Bool := decide (okI x) && (decide (okI y) && (decide (Nr nx) && decide (Nr ny)))
theorem imB_iff {nx ny : Int} {x y : Bd} : imB nx ny x y = true ↔ okI x ∧ okI y ∧ Nr nx ∧ Nr ny := by
  unfold imB
  rw [Bool.and_eq_true, Bool.and_eq_true, Bool.and_eq_true, decide_eq_true_iff, decide_eq_true_iff, decide_eq_true_iff, decide_eq_true_iff]
end Go.Proofs.Ytlbbacmpdlghaaa
end
