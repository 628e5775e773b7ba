/-
  Package vec: the walk of the law VecMatchesReference.
-/
import Derived.Test.YtohkacgmdboknaaVecCon
import Derived.Test.YtohkacgmdboknaaVecLaws2
import Derived.Deep.DeepCutAuto
namespace Go.Proofs.Ytohkacgmdboknaa
open Go.RowKit Go.Lib

theorem alloc_keep {W : World} {a : Addr} {v : Value} {o : Obj} (h : W.cell? a = some v) : (W.alloc o).cell? a = some v := by
  rw [World.cell?_alloc_some _ _ _ (by rw [h]; rfl)]; exact h
theorem alloc_new {W : World} {c : Array Value} {t : TypeId} {n i : Nat} {v : Value} (hn : n = W.heap.size) (h : c[i]? = some v) : (W.alloc (.cells c t)).cell? ⟨n, i, none⟩ = some v := by
  rw [World.cell?_alloc_at _ _ _ _ hn]; exact h

set_option maxRecDepth 100000 in
set_option maxHeartbeats 8000000 in
theorem matches_walk (a b c d k x y p q r s e1 e2 m1 m2 f1 f2 t u n l X Y : Int) (cnd : Bool) (hcnd : Hid (cnd = decide (-2147483648 < a ∧ -2147483648 < b ∧ -2147483648 < c ∧ -2147483648 < d))) (A : Hid Awake)
    (ha : I32 a) (hb : I32 b) (hc : I32 c) (hd : I32 d)
    (C1 : Hid (Rne2 c d p q)) (C2 : Hid (Rsa1 (a - c) r)) (C3 : Hid (Rsa1 (b - d) s)) (D1 : Hid (Vad4 a b c d e1 e2)) (D2 : Hid (Rad4 a b c d e1 e2)) (D3 : Hid (Vsu4 a b c d r s)) (D4 : Hid (Vne2 c d p q)) (D5 : Hid (Vsc3 a b k m1 m2)) (D6 : Hid (Rsc3 a b k m1 m2)) (D7 : Hid (Per2 c d q c))
    (E1 : Hid (Dff4 a b c d f1 f2)) (hf1 : c - a = f1) (hf2 : d - b = f2)
    (hm : cnd = true → Hid (Dot4 a b c d t) ∧ Hid (Cro4 a b c d u) ∧ IntKind.i64.wrap (IntKind.i64.wrap (a * c) + IntKind.i64.wrap (b * d)) = t ∧ IntKind.i64.wrap (IntKind.i64.wrap (a * d) - IntKind.i64.wrap (b * c)) = u)
    (hi : ¬ InD x ∨ (InD x ∧ ¬ InD y) ∨ (Hid (In1 x true) ∧ Hid (In1 y true) ∧ Hid (Lsq2 x y l) ∧ Hid (Rlsq2 x y l) ∧ Hid (Len2 x y n) ∧ Hid (Rlen2 x y n) ∧ Hid (Uni2 x y X Y) ∧ Hid (Runi2 x y X Y))) (w : World) :
    Calls Try.prog 3 #[.agg #[.int .i32 a, .int .i32 b], .agg #[.int .i32 c, .int .i32 d], .int .i32 k, .int .i64 x, .int .i64 y] w fun e w' => e = .returned (.bool true) ∧ Grown w w' := by
  have wa : IntKind.i64.wrap a = a := by obtain ⟨h1, h2⟩ := ha; rw [IntKind.wrap_i64]; omega
  have wb : IntKind.i64.wrap b = b := by obtain ⟨h1, h2⟩ := hb; rw [IntKind.wrap_i64]; omega
  have wc' : IntKind.i64.wrap c = c := by obtain ⟨h1, h2⟩ := hc; rw [IntKind.wrap_i64]; omega
  have wd : IntKind.i64.wrap d = d := by obtain ⟨h1, h2⟩ := hd; rw [IntKind.wrap_i64]; omega
  have wac : IntKind.i64.wrap (a - c) = a - c := by obtain ⟨h1, h2⟩ := ha; obtain ⟨h3, h4⟩ := hc; rw [IntKind.wrap_i64]; omega
  have wbd : IntKind.i64.wrap (b - d) = b - d := by obtain ⟨h1, h2⟩ := hb; obtain ⟨h3, h4⟩ := hd; rw [IntKind.wrap_i64]; omega
  have wf1 : IntKind.i64.wrap (c - a) = f1 := by obtain ⟨h1, h2⟩ := ha; obtain ⟨h3, h4⟩ := hc; rw [IntKind.wrap_i64]; omega
  have wf2 : IntKind.i64.wrap (d - b) = f2 := by obtain ⟨h1, h2⟩ := hb; obtain ⟨h3, h4⟩ := hd; rw [IntKind.wrap_i64]; omega
  have wg1 : wrap64 (c - a) = f1 := by obtain ⟨h1, h2⟩ := ha; obtain ⟨h3, h4⟩ := hc; unfold wrap64; omega
  have wg2 : wrap64 (d - b) = f2 := by obtain ⟨h1, h2⟩ := hb; obtain ⟨h3, h4⟩ := hd; unfold wrap64; omega
  clear hf1 hf2 ha hb hc hd
  go_enter Try.func3, Try.ntmps3
  go_upto_region 4 with (first
    | ((with_reducible refine (A.out _).mono ?_); rintro e w1 ⟨rfl, g1⟩
       have k0 := kept_cell g1 (b := w.heap.size) (o := 0) (v := .int .i32 a) (by rw [World.cell?_alloc_past _ _ _ (by first | (simp; done) | (simp; omega)), World.cell?_alloc_at _ _ _ _ (by simp)]; rfl)
       have k1 := kept_cell g1 (b := w.heap.size) (o := 1) (v := .int .i32 b) (by rw [World.cell?_alloc_past _ _ _ (by first | (simp; done) | (simp; omega)), World.cell?_alloc_at _ _ _ _ (by simp)]; rfl)
       have k2 := kept_cell g1 (b := w.heap.size + 1) (o := 0) (v := .int .i32 c) (by rw [World.cell?_alloc_at _ _ _ _ (by simp)]; rfl)
       have k3 := kept_cell g1 (b := w.heap.size + 1) (o := 1) (v := .int .i32 d) (by rw [World.cell?_alloc_at _ _ _ _ (by simp)]; rfl))
    | ((with_reducible refine (C1.out _).mono ?_); rintro e w2 ⟨rfl, g2⟩
       replace k0 := kept_cell g2 k0
       replace k1 := kept_cell g2 k1
       replace k2 := kept_cell g2 k2
       replace k3 := kept_cell g2 k3))
  have g0 := grown_trans (grown_trans (((Grown.refl _).alloc _ _).alloc _ _) g1) g2
  have hz : w.heap.size + 1 < w2.heap.size := by
    have z1 := g1.2.2; have z2 := g2.2.2
    simp at z1
    omega
  have g3 : Grown w (w2.alloc (.cells #[.int .i32 p, .int .i32 q] 23)) := g0.alloc _ _
  have y0 := alloc_keep (o := .cells #[.int .i32 p, .int .i32 q] 23) k0
  have y1 := alloc_keep (o := .cells #[.int .i32 p, .int .i32 q] 23) k1
  have y2 := alloc_keep (o := .cells #[.int .i32 p, .int .i32 q] 23) k2
  have y3 := alloc_keep (o := .cells #[.int .i32 p, .int .i32 q] 23) k3
  have y4 : (w2.alloc (.cells #[.int .i32 p, .int .i32 q] 23)).cell? ⟨w2.heap.size, 0, none⟩ = some (.int .i32 p) := alloc_new rfl rfl
  have y5 : (w2.alloc (.cells #[.int .i32 p, .int .i32 q] 23)).cell? ⟨w2.heap.size, 1, none⟩ = some (.int .i32 q) := alloc_new rfl rfl
  go_cut [12] (fun s12 wx => s12 = .pointer (some ⟨w2.heap.size + 1, 0, none⟩) ∧ wx.cell? ⟨w.heap.size, 0, none⟩ = some (.int .i32 a) ∧ wx.cell? ⟨w.heap.size, 1, none⟩ = some (.int .i32 b) ∧ wx.cell? ⟨w.heap.size + 1, 0, none⟩ = some (.int .i32 c) ∧ wx.cell? ⟨w.heap.size + 1, 1, none⟩ = some (.int .i32 d) ∧ wx.cell? ⟨w2.heap.size, 0, none⟩ = some (.int .i32 p) ∧ wx.cell? ⟨w2.heap.size, 1, none⟩ = some (.int .i32 q) ∧ wx.cell? ⟨w2.heap.size + 1, 0, none⟩ = some (.int .i32 r) ∧ wx.cell? ⟨w2.heap.size + 1, 1, none⟩ = some (.int .i32 s) ∧ Grown w wx)
  case first =>
    clear hm hi hcnd D1 D2 D3 D4 D5 D6 D7 E1
    go_region_held3 (fun w' => w'.cell? ⟨w.heap.size, 0, none⟩ = some (.int .i32 a) ∧ w'.cell? ⟨w.heap.size, 1, none⟩ = some (.int .i32 b) ∧ w'.cell? ⟨w.heap.size + 1, 0, none⟩ = some (.int .i32 c) ∧ w'.cell? ⟨w.heap.size + 1, 1, none⟩ = some (.int .i32 d) ∧ w'.cell? ⟨w2.heap.size, 0, none⟩ = some (.int .i32 p) ∧ w'.cell? ⟨w2.heap.size, 1, none⟩ = some (.int .i32 q) ∧ Grown w w')
      (first
        | with_reducible assumption
        | exact ⟨by rw [World.cell?_drew]; exact y0, by rw [World.cell?_drew]; exact y1, by rw [World.cell?_drew]; exact y2, by rw [World.cell?_drew]; exact y3, by rw [World.cell?_drew]; exact y4, by rw [World.cell?_drew]; exact y5, g3.drew⟩
        | exact ⟨by rw [World.cell?_drew]; exact alloc_keep y0, by rw [World.cell?_drew]; exact alloc_keep y1, by rw [World.cell?_drew]; exact alloc_keep y2, by rw [World.cell?_drew]; exact alloc_keep y3, by rw [World.cell?_drew]; exact alloc_keep y4, by rw [World.cell?_drew]; exact alloc_keep y5, (g3.alloc _ _).drew⟩)
      (first
        | ((with_reducible refine (C2.out _).mono ?_); rintro e w' ⟨rfl, rfl⟩)
        | ((with_reducible refine (C3.out _).mono ?_); rintro e w' ⟨rfl, rfl⟩))
    all_goals
      go_wp2_with fail
      rename_i hh
      obtain ⟨v0, v1, v2, v3, v4, v5, v6⟩ := hh
      go_meet
      exact ⟨by simp, v0, v1, v2, v3, v4, v5, by rw [World.cell?_drew]; exact alloc_new (by simp) rfl, by rw [World.cell?_drew]; exact alloc_new (by simp) rfl, v6⟩
  case rest =>
    obtain ⟨rfl, v0, v1, v2, v3, v4, v5, v6, v7, g4⟩ := hcut
    clear k0 k1 k2 k3 y0 y1 y2 y3 y4 y5 g0 g1 g2 g3
    go_wp2_with fail
    go_region_held3 (fun w' => w'.cell? ⟨w.heap.size, 0, none⟩ = some (.int .i32 a) ∧ w'.cell? ⟨w.heap.size, 1, none⟩ = some (.int .i32 b) ∧ w'.cell? ⟨w.heap.size + 1, 0, none⟩ = some (.int .i32 c) ∧ w'.cell? ⟨w.heap.size + 1, 1, none⟩ = some (.int .i32 d) ∧ w'.cell? ⟨w2.heap.size, 0, none⟩ = some (.int .i32 p) ∧ w'.cell? ⟨w2.heap.size, 1, none⟩ = some (.int .i32 q) ∧ w'.cell? ⟨w2.heap.size + 1, 0, none⟩ = some (.int .i32 r) ∧ w'.cell? ⟨w2.heap.size + 1, 1, none⟩ = some (.int .i32 s) ∧ Grown w w')
      (first
        | with_reducible assumption
        | exact ⟨by rw [World.cell?_drew]; exact v0, by rw [World.cell?_drew]; exact v1, by rw [World.cell?_drew]; exact v2, by rw [World.cell?_drew]; exact v3, by rw [World.cell?_drew]; exact v4, by rw [World.cell?_drew]; exact v5, by rw [World.cell?_drew]; exact v6, by rw [World.cell?_drew]; exact v7, g4.drew⟩
        | (go_split_ands; exact ⟨kept_cell g (by assumption), kept_cell g (by assumption), kept_cell g (by assumption), kept_cell g (by assumption), kept_cell g (by assumption), kept_cell g (by assumption), kept_cell g (by assumption), kept_cell g (by assumption), grown_trans (by assumption) g⟩))
      (first
        | ((with_reducible refine (D1.out _).mono ?_); rintro e w' ⟨rfl, g⟩)
        | ((with_reducible refine (D2.out _).mono ?_); rintro e w' ⟨rfl, g⟩)
        | ((with_reducible refine (D3.out _).mono ?_); rintro e w' ⟨rfl, g⟩)
        | ((with_reducible refine (D4.out _).mono ?_); rintro e w' ⟨rfl, g⟩)
        | ((with_reducible refine (D5.out _).mono ?_); rintro e w' ⟨rfl, g⟩)
        | ((with_reducible refine (D6.out _).mono ?_); rintro e w' ⟨rfl, g⟩)
        | ((with_reducible refine (D7.out _).mono ?_); rintro e w' ⟨rfl, g⟩))
    rename_i hh
    obtain ⟨z0, z1, z2, z3, _, _, _, _, g5⟩ := hh
    clear v0 v1 v2 v3 v4 v5 v6 v7 g4
    go_upto_region 10 with ((with_reducible refine (E1.out _).mono ?_); rintro e w5 ⟨rfl, g6⟩; replace z0 := kept_cell g6 z0; replace z1 := kept_cell g6 z1; replace z2 := kept_cell g6 z2; replace z3 := kept_cell g6 z3)
    have g7 := grown_trans g5 g6
    clear D1 D2 D3 D4 D5 D6 D7 E1 C2 C3 A
    go_cut [118] (fun s118 wx => s118 = .bool cnd ∧ wx = w5)
    case first =>
      clear hm hi
      by_cases h1 : -2147483648 < a
      · by_cases h2 : -2147483648 < b
        · by_cases h3 : -2147483648 < c
          · by_cases h4 : -2147483648 < d
            · go_wp2_with fail
              go_meet
              exact ⟨by rw [hcnd.out, decide_eq_true (And.intro h1 (And.intro h2 (And.intro h3 h4)))], rfl⟩
            · go_wp2_with fail
              go_meet
              exact ⟨by rw [hcnd.out, decide_eq_false (by omega)], rfl⟩
          · go_wp2_with fail
            go_meet
            exact ⟨by rw [hcnd.out, decide_eq_false (by omega)], rfl⟩
        · go_wp2_with fail
          go_meet
          exact ⟨by rw [hcnd.out, decide_eq_false (by omega)], rfl⟩
      · go_wp2_with fail
        go_meet
        exact ⟨by rw [hcnd.out, decide_eq_false (by omega)], rfl⟩
    case rest =>
      obtain ⟨rfl, rfl⟩ := hcut
      go_upto_if 118 with fail
      go_cut [10] (fun s10 wx => s10 = .bool false ∧ Grown w wx)
      case first =>
        clear hi hcnd
        by_cases hc : cnd = true
        · obtain ⟨M1, M2, hm1, hm2⟩ := hm hc
          subst hc
          clear hm
          go_wp2_with fail
          go_region_held3 (fun w' => w'.cell? ⟨w.heap.size, 0, none⟩ = some (.int .i32 a) ∧ w'.cell? ⟨w.heap.size, 1, none⟩ = some (.int .i32 b) ∧ w'.cell? ⟨w.heap.size + 1, 0, none⟩ = some (.int .i32 c) ∧ w'.cell? ⟨w.heap.size + 1, 1, none⟩ = some (.int .i32 d) ∧ Grown w w')
            (first
              | with_reducible assumption
              | exact ⟨by rw [World.cell?_drew]; exact z0, by rw [World.cell?_drew]; exact z1, by rw [World.cell?_drew]; exact z2, by rw [World.cell?_drew]; exact z3, g7.drew⟩
              | (go_split_ands; exact ⟨kept_cell g (by assumption), kept_cell g (by assumption), kept_cell g (by assumption), kept_cell g (by assumption), grown_trans (by assumption) g⟩))
            (first
              | ((with_reducible refine (M1.out _).mono ?_); rintro e w' ⟨rfl, g⟩)
              | ((with_reducible refine (M2.out _).mono ?_); rintro e w' ⟨rfl, g⟩))
          go_wp2_with fail
          rename_i hh
          have gg := hh.2.2.2.2
          clear hh
          go_meet
          exact ⟨rfl, gg⟩
        · have hc2 : cnd = false := by simpa using hc
          subst hc2
          go_wp2_with fail
          go_meet
          exact ⟨rfl, g7⟩
      case rest =>
        obtain ⟨rfl, g8⟩ := hcut
        clear hm hcnd
        rcases hi with hx | ⟨hx, hy⟩ | ⟨I1, I2, J1, J2, J3, J4, J5, J6⟩
        · have I1 := Lib.hid (in0 hx)
          clear hx
          go_wp2_with (first | ((with_reducible refine (I1.out _).mono ?_); rintro e w' ⟨rfl, rfl⟩))
          go_ret
          exact ⟨rfl, g8⟩
        · have I1 := Lib.hid (in1 hx)
          have I2 := Lib.hid (in0 hy)
          clear hx hy
          go_wp2_with (first | ((with_reducible refine (I1.out _).mono ?_); rintro e w' ⟨rfl, rfl⟩) | ((with_reducible refine (I2.out _).mono ?_); rintro e w' ⟨rfl, rfl⟩))
          go_ret
          exact ⟨rfl, g8⟩
        · go_wp2_with (first | ((with_reducible refine (I1.out _).mono ?_); rintro e w' ⟨rfl, rfl⟩) | ((with_reducible refine (I2.out _).mono ?_); rintro e w' ⟨rfl, rfl⟩) | ((with_reducible refine (J1.out _).mono ?_); rintro e w' ⟨rfl, rfl⟩) | ((with_reducible refine (J2.out _).mono ?_); rintro e w' ⟨rfl, rfl⟩) | ((with_reducible refine (J3.out _).mono ?_); rintro e w' ⟨rfl, rfl⟩) | ((with_reducible refine (J4.out _).mono ?_); rintro e w' ⟨rfl, rfl⟩) | ((with_reducible refine (J5.out _).mono ?_); rintro e w6 ⟨rfl, g9⟩) | ((with_reducible refine (J6.out _).mono ?_); rintro e w7 ⟨rfl, g10⟩))
          go_ret
          exact ⟨rfl, grown_trans (grown_trans g8 g9) g10⟩

theorem matches_all (a b c d k x y : Int) (ha : I32 a) (hb : I32 b) (hc : I32 c) (hd : I32 d) (hk : I32 k) (w : World) :
    Calls Try.prog 3 #[.agg #[.int .i32 a, .int .i32 b], .agg #[.int .i32 c, .int .i32 d], .int .i32 k, .int .i64 x, .int .i64 y] w fun e w' => e = .returned (.bool true) ∧ Grown w w' := by
  have i64 : ∀ u v : Int, I32 u → I32 v → I64 (u - v) := fun u v p q => ⟨by have := p.1; have := q.2; omega, by have := p.2; have := q.1; omega⟩
  refine matches_walk a b c d k x y (sat (-c)) (sat (-d)) (sat (a - c)) (sat (b - d)) (sat (a + c)) (sat (b + d)) (sat (a * k / 65536)) (sat (b * k / 65536)) (c - a) (d - b) (a * c + b * d) (a * d - b * c) (rt (lsq x y)) (lsq x y) (ux x (rt (lsq x y))) (uy y (rt (lsq x y))) _ (Lib.hid rfl) (Lib.hid awake_any) ha hb hc hd
    (Lib.hid (rne2 hc hd rfl rfl)) (Lib.hid (rsa1 (i64 a c ha hc) rfl)) (Lib.hid (rsa1 (i64 b d hb hd) rfl)) (Lib.hid (vad4 ha hb hc hd rfl rfl)) (Lib.hid (rad4 ha hb hc hd rfl rfl)) (Lib.hid (vsu4 ha hb hc hd rfl rfl)) (Lib.hid (vne2 hc hd rfl rfl)) (Lib.hid (vsc3 ha hb hk rfl rfl)) (Lib.hid (rsc3 ha hb hk rfl rfl)) (Lib.hid (per2 hd rfl)) (Lib.hid (dff4 ha hb hc hd rfl rfl)) rfl rfl ?_ ?_ w
  · intro h
    have hh := of_decide_eq_true h
    have m1 := mul_in ha hc hh.1 hh.2.2.1
    have m2 := mul_in hb hd hh.2.1 hh.2.2.2
    have m3 := mul_in ha hd hh.1 hh.2.2.2
    have m4 := mul_in hb hc hh.2.1 hh.2.2.1
    exact ⟨Lib.hid (dot4 ha hb hc hd rfl (by omega) (by omega)), Lib.hid (cro4 ha hb hc hd rfl (by omega) (by omega)), by rw [IntKind.wrap_i64, IntKind.wrap_i64, IntKind.wrap_i64]; omega, by rw [IntKind.wrap_i64, IntKind.wrap_i64, IntKind.wrap_i64]; omega⟩
  · by_cases hx : InD x
    · by_cases hy : InD y
      · have R := rt_is (lsq_in hx hy).1
        exact .inr (.inr ⟨Lib.hid (in1 hx), Lib.hid (in1 hy), Lib.hid (lsq2 hx hy rfl), Lib.hid (rlsq2 hx hy rfl), Lib.hid (len2 hx hy R), Lib.hid (rlen2 hx hy R), Lib.hid (uni2 hx hy R rfl rfl), Lib.hid (runi2 hx hy R rfl rfl)⟩)
      · exact .inr (.inl ⟨hx, hy⟩)
    · exact .inl hx
end Go.Proofs.Ytohkacgmdboknaa
