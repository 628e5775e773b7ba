/-
  Package impulse: its arithmetic (no program).
-/
import Derived.Test.YtnmlknjjbonenaaBodyIn
import Derived.Test.YtnmlknjjbonenaaBodies
import Derived.Test.YtnmlknjjbonenaaMulDiv
namespace Go.Proofs.Ytnmlknjjbonenaa
open Go.RowKit Go.Lib

/-- A valid body's parts that impulses look at. -/
structure Vb (x : Bd) : Prop where
  m0 : 0 ≤ x.m
  m1 : x.m ≤ 1048576
  o0 : 0 ≤ x.o
  o1 : x.o ≤ 65536
  vx0 : -16777216 ≤ x.vx
  vx1 : x.vx ≤ 16777216
  vy0 : -16777216 ≤ x.vy
  vy1 : x.vy ≤ 16777216
theorem vb_of {x : Bd} (h : chk x.r x.ax x.ay x.m x.o x.px x.py x.vx x.vy = 0) : Vb x := by
  unfold chk at h
  split at h
  · split at h
    · split at h
      · split at h
        · split at h
          · split at h
            · rename_i a1 a2 a3 a4 a5 a6
              exact ⟨by omega, by omega, by omega, by omega, by omega, by omega, by omega, by omega⟩
            · exact absurd h (by decide)
          · exact absurd h (by decide)
        · exact absurd h (by decide)
      · exact absurd h (by decide)
    · exact absurd h (by decide)
  · exact absurd h (by decide)
abbrev Nr (n : Int) : Prop := -65536 ≤ n ∧ n ≤ 65536
/-- The scalar product of a normal and the difference of the velocities. -/
def spI (nx ny : Int) (x y : Bd) : Int := (y.vx - x.vx) * nx + (y.vy - x.vy) * ny
def apI (nx ny : Int) (x y : Bd) : Int := spI nx ny x y / 65536
def bnI (x y : Bd) : Int := max x.o y.o
def stI (nx ny : Int) (x y : Bd) : Int := if 0 ≤ apI nx ny x y ∨ x.m + y.m = 0 then 0 else -(apI nx ny x y) * (65536 + bnI x y) / (x.m + y.m)
def chI (j i n : Int) : Int := j * i / 65536 * n / 65536
theorem mul_bd {a b A B : Int} (ha : -A ≤ a ∧ a ≤ A) (hb : -B ≤ b ∧ b ≤ B) : -(A * B) ≤ a * b ∧ a * b ≤ A * B := by
  have hA : 0 ≤ A := by omega
  have hB : 0 ≤ B := by omega
  have key : ∀ c : Int, 0 ≤ c → c ≤ A → -(A * B) ≤ c * b ∧ c * b ≤ A * B := fun c h0 h1 => by
    have p1 := Int.mul_le_mul_of_nonneg_left hb.2 h0
    have p2 := Int.mul_le_mul_of_nonneg_left hb.1 h0
    have p3 := Int.mul_le_mul_of_nonneg_right h1 hB
    rw [Int.mul_neg] at p2
    omega
  rcases Int.le_total 0 a with c | c
  · exact key a c ha.2
  · have := key (-a) (by omega) (by omega)
    rw [Int.neg_mul] at this
    omega
theorem sp_bd {nx ny : Int} {x y : Bd} (hx : Vb x) (hy : Vb y) (h1 : Nr nx) (h2 : Nr ny) : (-2199023255552 ≤ (y.vx - x.vx) * nx ∧ (y.vx - x.vx) * nx ≤ 2199023255552) ∧ (-2199023255552 ≤ (y.vy - x.vy) * ny ∧ (y.vy - x.vy) * ny ≤ 2199023255552) := by
  have a1 : -33554432 ≤ y.vx - x.vx ∧ y.vx - x.vx ≤ 33554432 := by have := hx.vx0; have := hx.vx1; have := hy.vx0; have := hy.vx1; omega
  have a2 : -33554432 ≤ y.vy - x.vy ∧ y.vy - x.vy ≤ 33554432 := by have := hx.vy0; have := hx.vy1; have := hy.vy0; have := hy.vy1; omega
  have b1 := mul_bd a1 h1
  have b2 := mul_bd a2 h2
  omega
theorem ap_bd {nx ny : Int} {x y : Bd} (hx : Vb x) (hy : Vb y) (h1 : Nr nx) (h2 : Nr ny) : -67108864 ≤ apI nx ny x y ∧ apI nx ny x y ≤ 67108864 := by
  have h := sp_bd hx hy h1 h2
  unfold apI spI
  omega
theorem bn_bd {x y : Bd} (hx : Vb x) (hy : Vb y) : 0 ≤ bnI x y ∧ bnI x y ≤ 65536 := by
  have := hx.o0; have := hx.o1; have := hy.o0; have := hy.o1
  unfold bnI
  omega
theorem num_bd {nx ny : Int} {x y : Bd} (hx : Vb x) (hy : Vb y) (h1 : Nr nx) (h2 : Nr ny) (hv : apI nx ny x y < 0) : 0 ≤ -(apI nx ny x y) * (65536 + bnI x y) ∧ -(apI nx ny x y) * (65536 + bnI x y) ≤ 8796093022208 := by
  have a := ap_bd hx hy h1 h2
  have b := bn_bd hx hy
  have p := mul_bd (a := -(apI nx ny x y)) (b := 65536 + bnI x y) (A := 67108864) (B := 131072) (by omega) (by omega)
  refine ⟨Int.mul_nonneg (by omega) (by omega), by omega⟩
/-- The strength is from 0 to 2^43. -/
theorem st_bd {nx ny : Int} {x y : Bd} (hx : Vb x) (hy : Vb y) (h1 : Nr nx) (h2 : Nr ny) : 0 ≤ stI nx ny x y ∧ stI nx ny x y ≤ 8796093022208 := by
  unfold stI
  split
  · omega
  · rename_i h
    have hn := num_bd hx hy h1 h2 (by omega)
    have hm : 1 ≤ x.m + y.m := by have := hx.m0; have := hy.m0; omega
    generalize -(apI nx ny x y) * (65536 + bnI x y) = N at *
    generalize x.m + y.m = M at *
    refine ⟨Int.ediv_nonneg hn.1 (by omega), ?_⟩
    have := Int.ediv_le_self M hn.1
    omega
theorem st_pos {nx ny : Int} {x y : Bd} (h : 0 < stI nx ny x y) : apI nx ny x y < 0 ∧ x.m + y.m ≠ 0 := by
  unfold stI at h
  split at h
  · omega
  · rename_i c
    exact ⟨by omega, by omega⟩
/-- What is shifted stays in range. -/
theorem k_bd {j i : Int} (hj : 0 ≤ j ∧ j ≤ 8796093022208) (hi : 0 ≤ i ∧ i ≤ 1048576) : 0 ≤ j * i ∧ j * i ≤ 9223372036854775808 ∧ 0 ≤ j * i / 65536 ∧ j * i / 65536 ≤ 140737488355328 := by
  have p0 := Int.mul_nonneg hj.1 hi.1
  have p1 := Int.mul_le_mul hj.2 hi.2 hi.1 (by decide)
  omega
theorem ch_bd {k n : Int} (hk : 0 ≤ k ∧ k ≤ 140737488355328) (hn : Nr n) : -140737488355328 ≤ k * n / 65536 ∧ k * n / 65536 ≤ 140737488355328 := by
  have p := mul_bd (a := k) (b := n) (A := 140737488355328) (B := 65536) (by omega) hn
  omega
theorem rv_i64 {v : Int} (h1 : -9223372036854775808 ≤ v) (h2 : v < 9223372036854775808) : rv v = v := if_pos ⟨h1, h2⟩
theorem msv_16 {a b : Int} (h1 : -9223372036854775808 ≤ a * b / 65536) (h2 : a * b / 65536 < 9223372036854775808) : msv a b 16 = a * b / 65536 := by
  have e : msv a b 16 = rv (a * b / 65536) := rfl
  rw [e, rv_i64 h1 h2]
end Go.Proofs.Ytnmlknjjbonenaa
