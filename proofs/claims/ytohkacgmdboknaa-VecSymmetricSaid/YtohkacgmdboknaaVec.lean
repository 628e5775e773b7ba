/-
  Package vec: its functions on vectors, for all arguments.
-/
import Derived.Test.YtohkacgmdboknaaVecEach
namespace Go.Proofs.Ytohkacgmdboknaa
open Go.RowKit Go.Lib

theorem vecadd_any (a b c d : Int) (ha : I32 a) (hb : I32 b) (hc : I32 c) (hd : I32 d) (w : World) :
    Calls Try.prog 11 #[.agg #[.int .i32 a, .int .i32 b], .agg #[.int .i32 c, .int .i32 d]] w fun e w' => e = .returned (.agg #[.int .i32 (sat (a + c)), .int .i32 (sat (b + d))]) ∧ Grown w w' := by
  have C1 := Lib.hid (each_add a b c d ha hb hc hd)
  have C2 := Lib.hid (vector_any (sat (a + c)) (sat (b + d)))
  go_enter Try.func11, Try.ntmps11
  go_wp2_with (first
    | ((with_reducible refine (C1.out _).mono ?_); rintro e w1 ⟨rfl, g1⟩
       have k0 := kept_cell g1 (b := w.heap.size + 1 + 1) (o := 0) (v := .int .i32 0) (by rw [World.cell?_alloc_at _ _ _ _ (by simp)]; rfl)
       have k1 := kept_cell g1 (b := w.heap.size + 1 + 1) (o := 1) (v := .int .i32 0) (by rw [World.cell?_alloc_at _ _ _ _ (by simp)]; rfl)
       have f0 := kept_frozen g1 (b := w.heap.size + 1 + 1) (o := 0) (by rw [World.frozen?_alloc_at _ _ _ _ (by simp)])
       have f1 := kept_frozen g1 (b := w.heap.size + 1 + 1) (o := 1) (by rw [World.frozen?_alloc_at _ _ _ _ (by simp)]))
    | ((with_reducible refine (C2.out _).mono ?_); rintro e w2 ⟨rfl, g2⟩
       replace k0 := kept_cell g2 k0
       replace k1 := kept_cell g2 k1
       replace f0 := kept_frozen g2 f0
       replace f1 := kept_frozen g2 f1))
  exact bodyPost_ret (v := .agg #[.int .i32 (sat (a + c)), .int .i32 (sat (b + d))]) (by simp [results, Try.results11, go_sem, k0, k1]) rfl ⟨rfl, ((grown_trans (grown_trans ((((Grown.refl _).alloc _ _).alloc _ _).alloc _ _) g1) g2).setCell (by dsimp only; omega) _).setCell (by dsimp only; omega) _⟩

theorem vecsub_any (a b c d : Int) (ha : I32 a) (hb : I32 b) (hc : I32 c) (hd : I32 d) (w : World) :
    Calls Try.prog 13 #[.agg #[.int .i32 a, .int .i32 b], .agg #[.int .i32 c, .int .i32 d]] w fun e w' => e = .returned (.agg #[.int .i32 (sat (a - c)), .int .i32 (sat (b - d))]) ∧ Grown w w' := by
  have C1 := Lib.hid (each_sub a b c d ha hb hc hd)
  have C2 := Lib.hid (vector_any (sat (a - c)) (sat (b - d)))
  go_enter Try.func13, Try.ntmps13
  go_wp2_with (first
    | ((with_reducible refine (C1.out _).mono ?_); rintro e w1 ⟨rfl, g1⟩
       have k0 := kept_cell g1 (b := w.heap.size + 1 + 1) (o := 0) (v := .int .i32 0) (by rw [World.cell?_alloc_at _ _ _ _ (by simp)]; rfl)
       have k1 := kept_cell g1 (b := w.heap.size + 1 + 1) (o := 1) (v := .int .i32 0) (by rw [World.cell?_alloc_at _ _ _ _ (by simp)]; rfl)
       have f0 := kept_frozen g1 (b := w.heap.size + 1 + 1) (o := 0) (by rw [World.frozen?_alloc_at _ _ _ _ (by simp)])
       have f1 := kept_frozen g1 (b := w.heap.size + 1 + 1) (o := 1) (by rw [World.frozen?_alloc_at _ _ _ _ (by simp)]))
    | ((with_reducible refine (C2.out _).mono ?_); rintro e w2 ⟨rfl, g2⟩
       replace k0 := kept_cell g2 k0
       replace k1 := kept_cell g2 k1
       replace f0 := kept_frozen g2 f0
       replace f1 := kept_frozen g2 f1))
  exact bodyPost_ret (v := .agg #[.int .i32 (sat (a - c)), .int .i32 (sat (b - d))]) (by simp [results, Try.results13, go_sem, k0, k1]) rfl ⟨rfl, ((grown_trans (grown_trans ((((Grown.refl _).alloc _ _).alloc _ _).alloc _ _) g1) g2).setCell (by dsimp only; omega) _).setCell (by dsimp only; omega) _⟩

theorem vecscale_any (a b k : Int) (ha : I32 a) (hb : I32 b) (hk : I32 k) (w : World) :
    Calls Try.prog 15 #[.agg #[.int .i32 a, .int .i32 b], .int .i32 k] w fun e w' => e = .returned (.agg #[.int .i32 (sat (a * k / 65536)), .int .i32 (sat (b * k / 65536))]) ∧ Grown w w' := by
  have C1 := Lib.hid (each_mul a b k k ha hb hk hk)
  have C2 := Lib.hid (vector_any (sat (a * k / 65536)) (sat (b * k / 65536)))
  go_enter Try.func15, Try.ntmps15
  go_wp2_with (first
    | ((with_reducible refine (C1.out _).mono ?_); rintro e w1 ⟨rfl, g1⟩
       have k0 := kept_cell g1 (b := w.heap.size + 1) (o := 0) (v := .int .i32 0) (by rw [World.cell?_alloc_at _ _ _ _ (by simp)]; rfl)
       have k1 := kept_cell g1 (b := w.heap.size + 1) (o := 1) (v := .int .i32 0) (by rw [World.cell?_alloc_at _ _ _ _ (by simp)]; rfl)
       have f0 := kept_frozen g1 (b := w.heap.size + 1) (o := 0) (by rw [World.frozen?_alloc_at _ _ _ _ (by simp)])
       have f1 := kept_frozen g1 (b := w.heap.size + 1) (o := 1) (by rw [World.frozen?_alloc_at _ _ _ _ (by simp)]))
    | ((with_reducible refine (C2.out _).mono ?_); rintro e w2 ⟨rfl, g2⟩
       replace k0 := kept_cell g2 k0
       replace k1 := kept_cell g2 k1
       replace f0 := kept_frozen g2 f0
       replace f1 := kept_frozen g2 f1))
  exact bodyPost_ret (v := .agg #[.int .i32 (sat (a * k / 65536)), .int .i32 (sat (b * k / 65536))]) (by simp [results, Try.results15, go_sem, k0, k1]) rfl ⟨rfl, ((grown_trans (grown_trans (((Grown.refl _).alloc _ _).alloc _ _) g1) g2).setCell (by dsimp only; omega) _).setCell (by dsimp only; omega) _⟩

theorem vecneg_any (a b : Int) (ha : I32 a) (hb : I32 b) (w : World) :
    Calls Try.prog 14 #[.agg #[.int .i32 a, .int .i32 b]] w fun e w' => e = .returned (.agg #[.int .i32 (sat (0 - a)), .int .i32 (sat (0 - b))]) ∧ Grown w w' := by
  have C1 := Lib.hid (vecsub_any 0 0 a b (ik32 0) (ik32 0) ha hb)
  go_enter Try.func14, Try.ntmps14
  go_wp2_with (first
    | ((with_reducible refine (C1.out _).mono ?_); rintro e w1 ⟨rfl, g1⟩
       have k0 := kept_cell g1 (b := w.heap.size + 1) (o := 0) (v := .int .i32 0) (by rw [World.cell?_alloc_at _ _ _ _ (by simp)]; rfl)
       have k1 := kept_cell g1 (b := w.heap.size + 1) (o := 1) (v := .int .i32 0) (by rw [World.cell?_alloc_at _ _ _ _ (by simp)]; rfl)
       have f0 := kept_frozen g1 (b := w.heap.size + 1) (o := 0) (by rw [World.frozen?_alloc_at _ _ _ _ (by simp)])
       have f1 := kept_frozen g1 (b := w.heap.size + 1) (o := 1) (by rw [World.frozen?_alloc_at _ _ _ _ (by simp)])))
  exact bodyPost_ret (v := .agg #[.int .i32 (sat (0 - a)), .int .i32 (sat (0 - b))]) (by simp [results, Try.results14, go_sem, k0, k1]) rfl ⟨rfl, ((grown_trans (((Grown.refl _).alloc _ _).alloc _ _) g1).setCell (by dsimp only; omega) _).setCell (by dsimp only; omega) _⟩

theorem perp_any (a b : Int) (hb : I32 b) (w : World) :
    Calls Try.prog 17 #[.agg #[.int .i32 a, .int .i32 b]] w fun e w' => e = .returned (.agg #[.int .i32 (sat (-b)), .int .i32 a]) ∧ Grown w w' := by
  have C1 := Lib.hid (neg1 hb rfl)
  go_enter Try.func17, Try.ntmps17
  go_wp2
  go_region_held3 (fun w' => w'.cell? ⟨w.heap.size, 0, none⟩ = some (.int .i32 a) ∧ w'.cell? ⟨w.heap.size, 1, none⟩ = some (.int .i32 b) ∧ (w'.cell? ⟨w.heap.size + 1, 0, none⟩).isSome = true ∧ (w'.cell? ⟨w.heap.size + 1, 1, none⟩).isSome = true ∧ w'.frozen? ⟨w.heap.size + 1, 0, none⟩ = false ∧ w'.frozen? ⟨w.heap.size + 1, 1, none⟩ = false ∧ w.heap.size + 2 ≤ w'.heap.size ∧ Grown w w')
    (first
      | exact ⟨by go_keep, by go_keep, by rw [World.cell?_drew, World.cell?_alloc_at _ _ _ _ (by simp)]; rfl, by rw [World.cell?_drew, World.cell?_alloc_at _ _ _ _ (by simp)]; rfl, by rw [World.frozen?_drew, World.frozen?_alloc_at _ _ _ _ (by simp)], by rw [World.frozen?_drew, World.frozen?_alloc_at _ _ _ _ (by simp)], by simp, ((Grown.refl _).alloc _ _ |>.alloc _ _).drew⟩
      | (go_split_ands; exact ⟨by rw [gc _ _ (by omega)]; assumption, by rw [gc _ _ (by omega)]; assumption, by rw [gc _ _ (by omega)]; assumption, by rw [gc _ _ (by omega)]; assumption, by rw [gf]; assumption, by rw [gf]; assumption, by omega, grown_trans (by assumption) g⟩)
      | (go_split_ands; exact ⟨setc_far (setc_far (by assumption) (by simp)) (by simp), setc_far (setc_far (by assumption) (by simp)) (by simp), setc_some _ _ _ (setc_some _ _ _ (by assumption)), setc_some _ _ _ (setc_some _ _ _ (by assumption)), setc_frozen (setc_frozen (by assumption)), setc_frozen (setc_frozen (by assumption)), by simpa, ((by assumption : Grown w _).setCell (by dsimp only; omega) _).setCell (by dsimp only; omega) _⟩))
    (first
      | ((with_reducible refine (C1.out _).mono ?_); rintro e w1 ⟨rfl, g⟩; obtain ⟨gc, gf, gz⟩ := gcell g))
  have i0 := kept_cell g (b := w.heap.size + 1) (o := 0) (v := .int .i32 0) (by rw [World.cell?_drew, World.cell?_alloc_at _ _ _ _ (by simp)]; rfl)
  have i1 := kept_cell g (b := w.heap.size + 1) (o := 1) (v := .int .i32 0) (by rw [World.cell?_drew, World.cell?_alloc_at _ _ _ _ (by simp)]; rfl)
  rename_i hh
  have gg := hh.2.2.2.2.2.2.2
  clear hh
  go_wp2
  exact bodyPost_ret (v := .agg #[.int .i32 (sat (-b)), .int .i32 a]) (by simp [results, Try.results17, go_sem, i0, i1]) rfl ⟨rfl, gg⟩

theorem dot_any (a b c d : Int) (ha : I32 a) (hb : I32 b) (hc : I32 c) (hd : I32 d) (t : Int) (ht : a * c + b * d = t) (h1 : -9223372036854775808 ≤ t) (h2 : t < 9223372036854775808) (w : World) :
    Calls Try.prog 19 #[.agg #[.int .i32 a, .int .i32 b], .agg #[.int .i32 c, .int .i32 d]] w fun e w' => e = .returned (.int .i64 t) ∧ Grown w w' := by
  have C1 := Lib.hid (each_pro a b c d ha hb hc hd)
  have m1 := mul32 ha hc
  have m2 := mul32 hb hd
  obtain ⟨x, hx⟩ : ∃ x, x = a * c := ⟨_, rfl⟩
  obtain ⟨y, hy⟩ : ∃ y, y = b * d := ⟨_, rfl⟩
  rw [← hx, ← hy] at C1 ht
  rw [← hx] at m1
  rw [← hy] at m2
  clear hx hy
  have f1 : IntKind.i64.wrap (x + y) = t := by rw [IntKind.wrap_i64]; omega
  have f2 : wrap64 (x + y) = t := by unfold wrap64; omega
  clear m1 m2
  go_enter Try.func19, Try.ntmps19
  go_wp2_with ((with_reducible refine (C1.out _).mono ?_); rintro e w1 ⟨rfl, g1⟩)
  go_ret
  exact ⟨rfl, grown_trans (((Grown.refl _).alloc _ _).alloc _ _) g1⟩

theorem cross_any (a b c d : Int) (ha : I32 a) (hb : I32 b) (hc : I32 c) (hd : I32 d) (t : Int) (ht : a * d - b * c = t) (h1 : -9223372036854775808 ≤ t) (h2 : t < 9223372036854775808) (w : World) :
    Calls Try.prog 20 #[.agg #[.int .i32 a, .int .i32 b], .agg #[.int .i32 c, .int .i32 d]] w fun e w' => e = .returned (.int .i64 t) ∧ Grown w w' := by
  have C1 := Lib.hid (each_pro a b d c ha hb hd hc)
  have m1 := mul32 ha hd
  have m2 := mul32 hb hc
  obtain ⟨x, hx⟩ : ∃ x, x = a * d := ⟨_, rfl⟩
  obtain ⟨y, hy⟩ : ∃ y, y = b * c := ⟨_, rfl⟩
  rw [← hx, ← hy] at C1 ht
  rw [← hx] at m1
  rw [← hy] at m2
  clear hx hy
  have f1 : IntKind.i64.wrap (x - y) = t := by rw [IntKind.wrap_i64]; omega
  have f2 : wrap64 (x - y) = t := by unfold wrap64; omega
  clear m1 m2
  go_enter Try.func20, Try.ntmps20
  go_wp2_with ((with_reducible refine (C1.out _).mono ?_); rintro e w1 ⟨rfl, g1⟩)
  go_ret
  exact ⟨rfl, grown_trans (((Grown.refl _).alloc _ _).alloc _ _) g1⟩

theorem diff_any (a b c d : Int) (ha : I32 a) (hb : I32 b) (hc : I32 c) (hd : I32 d) (w : World) :
    Calls Try.prog 18 #[.agg #[.int .i32 a, .int .i32 b], .agg #[.int .i32 c, .int .i32 d]] w fun e w' => e = .returned (.tuple #[.int .i64 (c - a), .int .i64 (d - b)]) ∧ Grown w w' := by
  have C1 := Lib.hid (each_dif a b c d ha hb hc hd)
  go_enter Try.func18, Try.ntmps18
  go_wp2_with ((with_reducible refine (C1.out _).mono ?_); rintro e w1 ⟨rfl, g1⟩)
  go_ret2
  exact ⟨rfl, grown_trans (((Grown.refl _).alloc _ _).alloc _ _) g1⟩

end Go.Proofs.Ytohkacgmdboknaa
