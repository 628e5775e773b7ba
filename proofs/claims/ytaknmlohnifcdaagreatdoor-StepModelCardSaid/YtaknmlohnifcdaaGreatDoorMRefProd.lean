import Derived.Test.YtaknmlohnifcdaaGreatDoorJ02MSeq
import Derived.Deep.LoopGhost
set_option maxHeartbeats 8000000
set_option maxRecDepth 100000
namespace Go.Proofs.YtaknmlohnifcdaaGreatDoor
open Go.RowKit Go.Lib

def St (z x y c p s t z' c' : Int) : Prop := IntKind.u64.wrap (x * y) = p ∧ IntKind.u64.wrap (z + p) = s ∧ IntKind.u64.wrap p = p ∧ IntKind.u64.wrap (s + c) = t ∧ IntKind.u64.wrap s = s ∧ t.tmod 65536 = z' ∧ t.tdiv 65536 = c' ∧ IntKind.u64.wrap c' = c'

abbrev PWB (w : World) (x0 x1 x2 x3 y0 y1 y2 y3 a b c d e f g h : Int) : World := ((((((((w.alloc (.cells #[.int .u64 0, .int .u64 0, .int .u64 0, .int .u64 0, .int .u64 0, .int .u64 0, .int .u64 0, .int .u64 0] 204)).alloc (.cells #[.int .u64 x0, .int .u64 x1, .int .u64 x2, .int .u64 x3, .int .u64 0, .int .u64 0, .int .u64 0, .int .u64 0] 204)).alloc (.cells #[.int .u64 x0, .int .u64 x1, .int .u64 x2, .int .u64 x3, .int .u64 0, .int .u64 0, .int .u64 0, .int .u64 0] 204)).alloc (.cells #[.int .u64 x0, .int .u64 x1, .int .u64 x2, .int .u64 x3, .int .u64 0, .int .u64 0, .int .u64 0, .int .u64 0] 204)).alloc (.cells #[.int .u64 y0, .int .u64 y1, .int .u64 y2, .int .u64 y3, .int .u64 0, .int .u64 0, .int .u64 0, .int .u64 0] 204)).alloc (.cells #[.int .u64 y0, .int .u64 y1, .int .u64 y2, .int .u64 y3, .int .u64 0, .int .u64 0, .int .u64 0, .int .u64 0] 204)).alloc (.cells #[.int .u64 y0, .int .u64 y1, .int .u64 y2, .int .u64 y3, .int .u64 0, .int .u64 0, .int .u64 0, .int .u64 0] 204)).alloc (.cells #[.int .u64 a, .int .u64 b, .int .u64 c, .int .u64 d, .int .u64 e, .int .u64 f, .int .u64 g, .int .u64 h] 204))
theorem product_walk (a b x0 x1 x2 x3 y0 y1 y2 y3 p00 z00 c01 p01 t01 z01 c02 p02 t02 z02 c03 p03 t03 z03 c04 p10 s10 z10 c11 p11 s11 t11 z11 c12 p12 s12 t12 z12 c13 p13 s13 t13 z13 c14 p20 s20 z20 c21 p21 s21 t21 z21 c22 p22 s22 t22 z22 c23 p23 s23 t23 z23 c24 p30 s30 z30 c31 p31 s31 t31 z31 c32 p32 s32 t32 z32 c33 p33 s33 t33 z33 c34 : Int) (dx : Hid (Digs a x0 x1 x2 x3)) (dy : Hid (Digs b y0 y1 y2 y3))
 (h00 : St 0 x0 y0 0 p00 p00 p00 z00 c01) (h01 : St 0 x0 y1 c01 p01 p01 t01 z01 c02) (h02 : St 0 x0 y2 c02 p02 p02 t02 z02 c03) (h03 : St 0 x0 y3 c03 p03 p03 t03 z03 c04) (h10 : St z01 x1 y0 0 p10 s10 s10 z10 c11) (h11 : St z02 x1 y1 c11 p11 s11 t11 z11 c12) (h12 : St z03 x1 y2 c12 p12 s12 t12 z12 c13) (h13 : St c04 x1 y3 c13 p13 s13 t13 z13 c14) (h20 : St z11 x2 y0 0 p20 s20 s20 z20 c21) (h21 : St z12 x2 y1 c21 p21 s21 t21 z21 c22) (h22 : St z13 x2 y2 c22 p22 s22 t22 z22 c23) (h23 : St c14 x2 y3 c23 p23 s23 t23 z23 c24) (h30 : St z21 x3 y0 0 p30 s30 s30 z30 c31) (h31 : St z22 x3 y1 c31 p31 s31 t31 z31 c32) (h32 : St z23 x3 y2 c32 p32 s32 t32 z32 c33) (h33 : St c24 x3 y3 c33 p33 s33 t33 z33 c34) (w : World) :
 Calls Tryz.prog 135 #[.int .i64 a, .int .i64 b] w fun e w' => e = .returned (.agg #[.int .u64 z00, .int .u64 z10, .int .u64 z20, .int .u64 z30, .int .u64 z31, .int .u64 z32, .int .u64 z33, .int .u64 c34]) ∧ Grown w w' := by
 obtain ⟨a00, b00, d00, e00, f00, g00, i00, j00⟩ := h00
 obtain ⟨a01, b01, d01, e01, f01, g01, i01, j01⟩ := h01
 obtain ⟨a02, b02, d02, e02, f02, g02, i02, j02⟩ := h02
 obtain ⟨a03, b03, d03, e03, f03, g03, i03, j03⟩ := h03
 obtain ⟨a10, b10, d10, e10, f10, g10, i10, j10⟩ := h10
 obtain ⟨a11, b11, d11, e11, f11, g11, i11, j11⟩ := h11
 obtain ⟨a12, b12, d12, e12, f12, g12, i12, j12⟩ := h12
 obtain ⟨a13, b13, d13, e13, f13, g13, i13, j13⟩ := h13
 obtain ⟨a20, b20, d20, e20, f20, g20, i20, j20⟩ := h20
 obtain ⟨a21, b21, d21, e21, f21, g21, i21, j21⟩ := h21
 obtain ⟨a22, b22, d22, e22, f22, g22, i22, j22⟩ := h22
 obtain ⟨a23, b23, d23, e23, f23, g23, i23, j23⟩ := h23
 obtain ⟨a30, b30, d30, e30, f30, g30, i30, j30⟩ := h30
 obtain ⟨a31, b31, d31, e31, f31, g31, i31, j31⟩ := h31
 obtain ⟨a32, b32, d32, e32, f32, g32, i32, j32⟩ := h32
 obtain ⟨a33, b33, d33, e33, f33, g33, i33, j33⟩ := h33
 simp only [Int.zero_add] at b00 b01 b02 b03
 simp only [Int.add_zero] at e00 e10 e20 e30
 have w0 : IntKind.i64.wrap 0 = 0 := by decide
 have w1 : IntKind.i64.wrap 1 = 1 := by decide
 have w2 : IntKind.i64.wrap 2 = 2 := by decide
 have w3 : IntKind.i64.wrap 3 = 3 := by decide
 have w4 : IntKind.i64.wrap 4 = 4 := by decide
 have w5 : IntKind.i64.wrap 5 = 5 := by decide
 have w6 : IntKind.i64.wrap 6 = 6 := by decide
 have w7 : IntKind.i64.wrap 7 = 7 := by decide
 go_enter Tryz.func135, Tryz.ntmps135
 go_wp2_with (first
  | ((with_reducible refine (dx.out _).mono ?_); rintro e w1 ⟨rfl, rfl⟩)
  | ((with_reducible refine (dy.out _).mono ?_); rintro e w2 ⟨rfl, rfl⟩))
 go_loopg [8] 4 (fun k s8 wr => (k = 4 ∧ s8 = .int .i64 0 ∧ wr = (PWB w x0 x1 x2 x3 y0 y1 y2 y3 0 0 0 0 0 0 0 0)) ∨ (k = 3 ∧ s8 = .int .i64 1 ∧ wr = (PWB w x0 x1 x2 x3 y0 y1 y2 y3 z00 z01 z02 z03 c04 0 0 0).drew.drew.drew.drew) ∨ (k = 2 ∧ s8 = .int .i64 2 ∧ wr = (PWB w x0 x1 x2 x3 y0 y1 y2 y3 z00 z10 z11 z12 z13 c14 0 0).drew.drew.drew.drew.drew.drew.drew.drew) ∨ (k = 1 ∧ s8 = .int .i64 3 ∧ wr = (PWB w x0 x1 x2 x3 y0 y1 y2 y3 z00 z10 z20 z21 z22 z23 c24 0).drew.drew.drew.drew.drew.drew.drew.drew.drew.drew.drew.drew) ∨ (k = 0 ∧ s8 = .int .i64 4 ∧ wr = (PWB w x0 x1 x2 x3 y0 y1 y2 y3 z00 z10 z20 z30 z31 z32 z33 c34).drew.drew.drew.drew.drew.drew.drew.drew.drew.drew.drew.drew.drew.drew.drew.drew))
 case atStart => exact .inl ⟨rfl, rfl, rfl⟩
 case round =>
  rcases hrel with ⟨rfl, rfl, rfl⟩ | ⟨rfl, rfl, rfl⟩ | ⟨rfl, rfl, rfl⟩ | ⟨rfl, rfl, rfl⟩ | ⟨rfl, rfl, rfl⟩
  ·simp only [PWB]; go_wp2
   go_loopg [9, 10] 4 (fun k s9 s10 wr => (k = 4 ∧ s9 = .int .u64 0 ∧ s10 = .int .i64 0 ∧ wr = (PWB w x0 x1 x2 x3 y0 y1 y2 y3 0 0 0 0 0 0 0 0)) ∨ (k = 3 ∧ s9 = .int .u64 c01 ∧ s10 = .int .i64 1 ∧ wr = (PWB w x0 x1 x2 x3 y0 y1 y2 y3 z00 0 0 0 0 0 0 0).drew) ∨ (k = 2 ∧ s9 = .int .u64 c02 ∧ s10 = .int .i64 2 ∧ wr = (PWB w x0 x1 x2 x3 y0 y1 y2 y3 z00 z01 0 0 0 0 0 0).drew.drew) ∨ (k = 1 ∧ s9 = .int .u64 c03 ∧ s10 = .int .i64 3 ∧ wr = (PWB w x0 x1 x2 x3 y0 y1 y2 y3 z00 z01 z02 0 0 0 0 0).drew.drew.drew) ∨ (k = 0 ∧ s9 = .int .u64 c04 ∧ s10 = .int .i64 4 ∧ wr = (PWB w x0 x1 x2 x3 y0 y1 y2 y3 z00 z01 z02 z03 0 0 0 0).drew.drew.drew.drew))
   case atStart => exact .inl ⟨rfl, rfl, rfl, rfl⟩
   case round =>
    rcases hrel with ⟨rfl, rfl, rfl, rfl⟩ | ⟨rfl, rfl, rfl, rfl⟩ | ⟨rfl, rfl, rfl, rfl⟩ | ⟨rfl, rfl, rfl, rfl⟩ | ⟨rfl, rfl, rfl, rfl⟩
    ·simp only [PWB]; go_wp2; go_region; go_wp2
     go_roundg 3
     case measure => decide
     case rel => exact .inr (.inl ⟨rfl, rfl, rfl, rfl⟩)
    ·simp only [PWB]; go_wp2; go_region; go_wp2
     go_roundg 2
     case measure => decide
     case rel => exact .inr (.inr (.inl ⟨rfl, rfl, rfl, rfl⟩))
    ·simp only [PWB]; go_wp2; go_region; go_wp2
     go_roundg 1
     case measure => decide
     case rel => exact .inr (.inr (.inr (.inl ⟨rfl, rfl, rfl, rfl⟩)))
    ·simp only [PWB]; go_wp2; go_region; go_wp2
     go_roundg 0
     case measure => decide
     case rel => exact .inr (.inr (.inr (.inr (⟨rfl, rfl, rfl, rfl⟩))))
    ·simp only [PWB]; go_wp2
     go_roundg 3
     case measure => decide
     case rel => exact .inr (.inl ⟨rfl, rfl, rfl⟩)
  ·simp only [PWB]; go_wp2
   go_loopg [9, 10] 4 (fun k s9 s10 wr => (k = 4 ∧ s9 = .int .u64 0 ∧ s10 = .int .i64 0 ∧ wr = (PWB w x0 x1 x2 x3 y0 y1 y2 y3 z00 z01 z02 z03 c04 0 0 0).drew.drew.drew.drew) ∨ (k = 3 ∧ s9 = .int .u64 c11 ∧ s10 = .int .i64 1 ∧ wr = (PWB w x0 x1 x2 x3 y0 y1 y2 y3 z00 z10 z02 z03 c04 0 0 0).drew.drew.drew.drew.drew) ∨ (k = 2 ∧ s9 = .int .u64 c12 ∧ s10 = .int .i64 2 ∧ wr = (PWB w x0 x1 x2 x3 y0 y1 y2 y3 z00 z10 z11 z03 c04 0 0 0).drew.drew.drew.drew.drew.drew) ∨ (k = 1 ∧ s9 = .int .u64 c13 ∧ s10 = .int .i64 3 ∧ wr = (PWB w x0 x1 x2 x3 y0 y1 y2 y3 z00 z10 z11 z12 c04 0 0 0).drew.drew.drew.drew.drew.drew.drew) ∨ (k = 0 ∧ s9 = .int .u64 c14 ∧ s10 = .int .i64 4 ∧ wr = (PWB w x0 x1 x2 x3 y0 y1 y2 y3 z00 z10 z11 z12 z13 0 0 0).drew.drew.drew.drew.drew.drew.drew.drew))
   case atStart => exact .inl ⟨rfl, rfl, rfl, rfl⟩
   case round =>
    rcases hrel with ⟨rfl, rfl, rfl, rfl⟩ | ⟨rfl, rfl, rfl, rfl⟩ | ⟨rfl, rfl, rfl, rfl⟩ | ⟨rfl, rfl, rfl, rfl⟩ | ⟨rfl, rfl, rfl, rfl⟩
    ·simp only [PWB]; go_wp2; go_region; go_wp2
     go_roundg 3
     case measure => decide
     case rel => exact .inr (.inl ⟨rfl, rfl, rfl, rfl⟩)
    ·simp only [PWB]; go_wp2; go_region; go_wp2
     go_roundg 2
     case measure => decide
     case rel => exact .inr (.inr (.inl ⟨rfl, rfl, rfl, rfl⟩))
    ·simp only [PWB]; go_wp2; go_region; go_wp2
     go_roundg 1
     case measure => decide
     case rel => exact .inr (.inr (.inr (.inl ⟨rfl, rfl, rfl, rfl⟩)))
    ·simp only [PWB]; go_wp2; go_region; go_wp2
     go_roundg 0
     case measure => decide
     case rel => exact .inr (.inr (.inr (.inr (⟨rfl, rfl, rfl, rfl⟩))))
    ·simp only [PWB]; go_wp2
     go_roundg 2
     case measure => decide
     case rel => exact .inr (.inr (.inl ⟨rfl, rfl, rfl⟩))
  ·simp only [PWB]; go_wp2
   go_loopg [9, 10] 4 (fun k s9 s10 wr => (k = 4 ∧ s9 = .int .u64 0 ∧ s10 = .int .i64 0 ∧ wr = (PWB w x0 x1 x2 x3 y0 y1 y2 y3 z00 z10 z11 z12 z13 c14 0 0).drew.drew.drew.drew.drew.drew.drew.drew) ∨ (k = 3 ∧ s9 = .int .u64 c21 ∧ s10 = .int .i64 1 ∧ wr = (PWB w x0 x1 x2 x3 y0 y1 y2 y3 z00 z10 z20 z12 z13 c14 0 0).drew.drew.drew.drew.drew.drew.drew.drew.drew) ∨ (k = 2 ∧ s9 = .int .u64 c22 ∧ s10 = .int .i64 2 ∧ wr = (PWB w x0 x1 x2 x3 y0 y1 y2 y3 z00 z10 z20 z21 z13 c14 0 0).drew.drew.drew.drew.drew.drew.drew.drew.drew.drew) ∨ (k = 1 ∧ s9 = .int .u64 c23 ∧ s10 = .int .i64 3 ∧ wr = (PWB w x0 x1 x2 x3 y0 y1 y2 y3 z00 z10 z20 z21 z22 c14 0 0).drew.drew.drew.drew.drew.drew.drew.drew.drew.drew.drew) ∨ (k = 0 ∧ s9 = .int .u64 c24 ∧ s10 = .int .i64 4 ∧ wr = (PWB w x0 x1 x2 x3 y0 y1 y2 y3 z00 z10 z20 z21 z22 z23 0 0).drew.drew.drew.drew.drew.drew.drew.drew.drew.drew.drew.drew))
   case atStart => exact .inl ⟨rfl, rfl, rfl, rfl⟩
   case round =>
    rcases hrel with ⟨rfl, rfl, rfl, rfl⟩ | ⟨rfl, rfl, rfl, rfl⟩ | ⟨rfl, rfl, rfl, rfl⟩ | ⟨rfl, rfl, rfl, rfl⟩ | ⟨rfl, rfl, rfl, rfl⟩
    ·simp only [PWB]; go_wp2; go_region; go_wp2
     go_roundg 3
     case measure => decide
     case rel => exact .inr (.inl ⟨rfl, rfl, rfl, rfl⟩)
    ·simp only [PWB]; go_wp2; go_region; go_wp2
     go_roundg 2
     case measure => decide
     case rel => exact .inr (.inr (.inl ⟨rfl, rfl, rfl, rfl⟩))
    ·simp only [PWB]; go_wp2; go_region; go_wp2
     go_roundg 1
     case measure => decide
     case rel => exact .inr (.inr (.inr (.inl ⟨rfl, rfl, rfl, rfl⟩)))
    ·simp only [PWB]; go_wp2; go_region; go_wp2
     go_roundg 0
     case measure => decide
     case rel => exact .inr (.inr (.inr (.inr (⟨rfl, rfl, rfl, rfl⟩))))
    ·simp only [PWB]; go_wp2
     go_roundg 1
     case measure => decide
     case rel => exact .inr (.inr (.inr (.inl ⟨rfl, rfl, rfl⟩)))
  ·simp only [PWB]; go_wp2
   go_loopg [9, 10] 4 (fun k s9 s10 wr => (k = 4 ∧ s9 = .int .u64 0 ∧ s10 = .int .i64 0 ∧ wr = (PWB w x0 x1 x2 x3 y0 y1 y2 y3 z00 z10 z20 z21 z22 z23 c24 0).drew.drew.drew.drew.drew.drew.drew.drew.drew.drew.drew.drew) ∨ (k = 3 ∧ s9 = .int .u64 c31 ∧ s10 = .int .i64 1 ∧ wr = (PWB w x0 x1 x2 x3 y0 y1 y2 y3 z00 z10 z20 z30 z22 z23 c24 0).drew.drew.drew.drew.drew.drew.drew.drew.drew.drew.drew.drew.drew) ∨ (k = 2 ∧ s9 = .int .u64 c32 ∧ s10 = .int .i64 2 ∧ wr = (PWB w x0 x1 x2 x3 y0 y1 y2 y3 z00 z10 z20 z30 z31 z23 c24 0).drew.drew.drew.drew.drew.drew.drew.drew.drew.drew.drew.drew.drew.drew) ∨ (k = 1 ∧ s9 = .int .u64 c33 ∧ s10 = .int .i64 3 ∧ wr = (PWB w x0 x1 x2 x3 y0 y1 y2 y3 z00 z10 z20 z30 z31 z32 c24 0).drew.drew.drew.drew.drew.drew.drew.drew.drew.drew.drew.drew.drew.drew.drew) ∨ (k = 0 ∧ s9 = .int .u64 c34 ∧ s10 = .int .i64 4 ∧ wr = (PWB w x0 x1 x2 x3 y0 y1 y2 y3 z00 z10 z20 z30 z31 z32 z33 0).drew.drew.drew.drew.drew.drew.drew.drew.drew.drew.drew.drew.drew.drew.drew.drew))
   case atStart => exact .inl ⟨rfl, rfl, rfl, rfl⟩
   case round =>
    rcases hrel with ⟨rfl, rfl, rfl, rfl⟩ | ⟨rfl, rfl, rfl, rfl⟩ | ⟨rfl, rfl, rfl, rfl⟩ | ⟨rfl, rfl, rfl, rfl⟩ | ⟨rfl, rfl, rfl, rfl⟩
    ·simp only [PWB]; go_wp2; go_region; go_wp2
     go_roundg 3
     case measure => decide
     case rel => exact .inr (.inl ⟨rfl, rfl, rfl, rfl⟩)
    ·simp only [PWB]; go_wp2; go_region; go_wp2
     go_roundg 2
     case measure => decide
     case rel => exact .inr (.inr (.inl ⟨rfl, rfl, rfl, rfl⟩))
    ·simp only [PWB]; go_wp2; go_region; go_wp2
     go_roundg 1
     case measure => decide
     case rel => exact .inr (.inr (.inr (.inl ⟨rfl, rfl, rfl, rfl⟩)))
    ·simp only [PWB]; go_wp2; go_region; go_wp2
     go_roundg 0
     case measure => decide
     case rel => exact .inr (.inr (.inr (.inr (⟨rfl, rfl, rfl, rfl⟩))))
    ·simp only [PWB]; go_wp2
     go_roundg 0
     case measure => decide
     case rel => exact .inr (.inr (.inr (.inr (⟨rfl, rfl, rfl⟩))))
  ·simp only [PWB]; go_wp2
   exact bodyPost_ret (v := .agg #[.int .u64 z00, .int .u64 z10, .int .u64 z20, .int .u64 z30, .int .u64 z31, .int .u64 z32, .int .u64 z33, .int .u64 c34]) (by simp [results, Tryz.results135, go_sem]) rfl ⟨rfl, by repeat (first | exact Grown.refl _ | apply Grown.drew | apply Grown.alloc | (refine Grown.setCell ?_ (by simp) _))⟩
end Go.Proofs.YtaknmlohnifcdaaGreatDoor
