/-
  Package store: the law StoreMatchesReference.
-/
import Derived.Test.YtfkieieedljodaaStoreRem
import Derived.Test.YtfkieieedljodaaStepSlice
import Derived.Deep.QuietTactic
import Derived.BigQuiet
namespace Go.Proofs.Ytfkieieedljodaa
open Go.RowKit Go.Lib Go.Maps

theorem len_add {m : List Bd} (hm : Asc m) (b : Bd) : Asc (addL m b) ∧ (addL m b).length ≤ m.length + 1 := addL_asc hm b
theorem body_neq' (x : Bd) (w : World) : (binOp .neq 32 (.agg #[Value.int .u32 x.k, Value.int .i32 x.r, Value.int .i32 x.ax, Value.int .i32 x.ay, Value.int .i32 x.m, Value.int .i32 x.o, Value.int .i32 x.px, Value.int .i32 x.py, Value.int .i32 x.vx, Value.int .i32 x.vy]) (.agg #[Value.int .u32 x.k, Value.int .i32 x.r, Value.int .i32 x.ax, Value.int .i32 x.ay, Value.int .i32 x.m, Value.int .i32 x.o, Value.int .i32 x.px, Value.int .i32 x.py, Value.int .i32 x.vx, Value.int .i32 x.vy])).run Try.prog w = .ok (.bool false) w := by simp [go_sem]
theorem zero_neq (w : World) : (binOp .neq 32 (.agg #[Value.int .u32 0, Value.int .i32 0, Value.int .i32 0, Value.int .i32 0, Value.int .i32 0, Value.int .i32 0, Value.int .i32 0, Value.int .i32 0, Value.int .i32 0, Value.int .i32 0]) (.agg #[Value.int .u32 0, Value.int .i32 0, Value.int .i32 0, Value.int .i32 0, Value.int .i32 0, Value.int .i32 0, Value.int .i32 0, Value.int .i32 0, Value.int .i32 0, Value.int .i32 0])).run Try.prog w = .ok (.bool false) w := by simp [go_sem]
set_option maxRecDepth 100000 in
set_option maxHeartbeats 4000000 in
theorem matches_long (base : Option Addr) (cap n : Nat) (w : World) (hlen : (200 : Int) < (n : Int)) : Calls Try.prog 3 #[.slice base n cap] w (fun e w' => e = .returned (.bool true) ∧ Kep w.heap.size w w') := by
  have AW := Lib.hid store_awake
  go_enter Try.func3, Try.ntmps3
  go_wp2_with (first
    | ((with_reducible refine (AW.out _).mono ?_); rintro e w2 ⟨rfl, k2⟩; have K2 := Lib.hid (K1.out.next k2))
    | ((with_reducible refine (AW.out _).mono ?_); rintro e w1 ⟨rfl, k1⟩; have K1 := Lib.hid (k1)))
  go_ret
  exact ⟨rfl, K2.out⟩
theorem get_no' {B sb : Nat} {w : World} {m : List Bd} (h : Fresh B w sb m) {key : Int} (hk : (Lit.int .u32 key).wf = true) (e : look m key = none) : Calls Try.prog 15 #[Value.pointer (some ⟨sb, 0, none⟩), .int .u32 key] w fun e w' => e = .returned (.tuple #[.agg #[Value.int .u32 0, Value.int .i32 0, Value.int .i32 0, Value.int .i32 0, Value.int .i32 0, Value.int .i32 0, Value.int .i32 0, Value.int .i32 0, Value.int .i32 0, Value.int .i32 0], .int .i64 11]) ∧ Kep w.heap.size w w' := by
  obtain ⟨_, S, s, _⟩ := h
  exact get_no s hk e
theorem get_yes' {B sb : Nat} {w : World} {m : List Bd} (h : Fresh B w sb m) {key : Int} (hk : (Lit.int .u32 key).wf = true) {b : Bd} (e : look m key = some b) : Calls Try.prog 15 #[Value.pointer (some ⟨sb, 0, none⟩), .int .u32 key] w fun e w' => e = .returned (.tuple #[Value.agg #[Value.int .u32 b.k, Value.int .i32 b.r, Value.int .i32 b.ax, Value.int .i32 b.ay, Value.int .i32 b.m, Value.int .i32 b.o, Value.int .i32 b.px, Value.int .i32 b.py, Value.int .i32 b.vx, Value.int .i32 b.vy], .int .i64 0]) ∧ Kep w.heap.size w w' := by
  obtain ⟨_, S, s, _⟩ := h
  exact get_yes s hk e
/-- .. and a block that is no part of the store. -/
def SepP (B : Nat) (w : World) (sb : Nat) (m : List Bd) (v : Value) (L : List Bd) (p : Nat) : Prop := B ≤ w.heap.size ∧ p < w.heap.size ∧ ∃ S, StoreIs w sb S m ∧ (∀ k, S k → B ≤ k) ∧ Lst w v L ∧ (∀ g, v.ownBlock = some g → ¬ S g ∧ g < w.heap.size) ∧ ¬ S p
theorem Sep.box {B sb : Nat} {w : World} {m L : List Bd} {v : Value} (h : Sep B w sb m v L) (o : Obj) : SepP B (w.alloc o) sb m v L w.heap.size := by
  obtain ⟨hB, S, s, hS, l, n⟩ := h
  have k := Kep.made w o
  refine ⟨Nat.le_trans hB k.size, by simp, S, s.kep k, hS, l.kep k, fun g e => ⟨(n g e).1, Nat.lt_of_lt_of_le (n g e).2 k.size⟩, fun q => ?_⟩
  obtain ⟨_, _, _, q'⟩ := s
  have := q'.lt _ q
  omega
def PDone (B : Nat) (w : World) (sb : Nat) (c : Int) (m : List Bd) (v : Value) (L : List Bd) (p : Nat) (e : Ending) (w' : World) : Prop := e = .returned (.int .i64 c) ∧ Sep B w' sb m v L ∧ Kep B w w' ∧ ∀ (i : Nat) (u : Value), w.cell? ⟨p, i, none⟩ = some u → w'.cell? ⟨p, i, none⟩ = some u
theorem Done.sepP {B sb p : Nat} {w w' : World} {S : Nat → Prop} {c : Int} {m L : List Bd} {v : Value} {e : Ending} (h : Done w sb S c m e w') (hB : B ≤ w.heap.size) (hp : p < w.heap.size) (hS : ∀ k, S k → B ≤ k) (l : Lst w v L) (n : ∀ g, v.ownBlock = some g → ¬ S g ∧ g < w.heap.size) (np : ¬ S p) : PDone B w sb c m v L p e w' := by
  obtain ⟨h1, h2, h3⟩ := h.sep hB hS l n
  exact ⟨h1, h2, h3, fun i u hu => (World.cell?_of_block (h.2.2.block p hp np)).trans hu⟩
theorem paddd {B sb p : Nat} {w : World} {m L : List Bd} {v : Value} (h : SepP B w sb m v L p) (b : Bd) (hb : Fits b) : Calls Try.prog 9 #[Value.pointer (some ⟨sb, 0, none⟩), Value.agg #[Value.int .u32 b.k, Value.int .i32 b.r, Value.int .i32 b.ax, Value.int .i32 b.ay, Value.int .i32 b.m, Value.int .i32 b.o, Value.int .i32 b.px, Value.int .i32 b.py, Value.int .i32 b.vx, Value.int .i32 b.vy]] w (PDone B w sb (addE m b) (addL m b) v L p) := by
  obtain ⟨hB, hp, S, s, hS, l, n, np⟩ := h
  exact (add_any s b hb).mono fun e w' q => q.sepP hB hp hS l n np
theorem psett {B sb p : Nat} {w : World} {m L : List Bd} {v : Value} (h : SepP B w sb m v L p) (b : Bd) (hb : Fits b) : Calls Try.prog 13 #[Value.pointer (some ⟨sb, 0, none⟩), Value.agg #[Value.int .u32 b.k, Value.int .i32 b.r, Value.int .i32 b.ax, Value.int .i32 b.ay, Value.int .i32 b.m, Value.int .i32 b.o, Value.int .i32 b.px, Value.int .i32 b.py, Value.int .i32 b.vx, Value.int .i32 b.vy]] w (PDone B w sb (setE m b) (setL m b) v L p) := by
  obtain ⟨hB, hp, S, s, hS, l, n, np⟩ := h
  exact (set_any s b hb).mono fun e w' q => q.sepP hB hp hS l n np
theorem premove {B sb p : Nat} {w : World} {m L : List Bd} {v : Value} (h : SepP B w sb m v L p) {key : Int} (hk : (Lit.int .u32 key).wf = true) : Calls Try.prog 11 #[Value.pointer (some ⟨sb, 0, none⟩), .int .u32 key] w (PDone B w sb (removeE m key) (removeL m key) v L p) := by
  obtain ⟨hB, hp, S, s, hS, l, n, np⟩ := h
  exact (remove_any s hk).mono fun e w' q => q.sepP hB hp hS l n np
theorem sep_new (w : World) : Sep w.heap.size (w.alloc (.cells #[Value.slice none 0 0, Value.map none] 27)) w.heap.size [] (.slice none 0 0) [] := ⟨by simp, _, store_new w, fun k hk => by rw [hk]; exact Nat.le_refl _, .inl ⟨rfl, none, 0, rfl⟩, fun g e => by cases e⟩
set_option maxRecDepth 100000 in
set_option maxHeartbeats 4000000 in
theorem matches_main (base : Option Addr) (cap : Nat) (L : List (Int × Bd)) (w : World) (h : LstS w (.slice base L.length cap) L) (hF : ∀ s ∈ L, Fits s.2) (hlen : L.length ≤ 200) : Calls Try.prog 3 #[.slice base L.length cap] w (fun e w' => e = .returned (.bool true) ∧ Kep w.heap.size w w') := by
  have AW := Lib.hid store_awake
  have HF := Lib.hid hF
  obtain ⟨n, hn⟩ : ∃ n, n = L.length := ⟨_, rfl⟩
  have HN := Lib.hid hn.symm
  have hl : (n : Int) ≤ 200 := by omega
  rw [← hn] at h ⊢
  have H := Lib.hid h
  clear hn h hF hlen
  go_enter Try.func3, Try.ntmps3
  go_wp2_with ((with_reducible refine (AW.out _).mono ?_); rintro e w2 ⟨rfl, k1⟩; have K2 := Lib.hid k1; clear k1)
  have S0 := Lib.hid (sep_new w2)
  go_loopw [4, 5] (fun v4 i wr => ∃ (k : Nat) (m : List Bd) (base4 : Option Addr) (cap4 : Nat), k ≤ n ∧ i = .int .i64 k ∧ v4 = .slice base4 m.length cap4 ∧ Hid (Sep w2.heap.size wr w2.heap.size m (.slice base4 m.length cap4) m ∧ Kep w2.heap.size w2 wr)) (fun _ i _ => n - (RowKit.intOf i).toNat)
  case atStart => exact ⟨0, [], none, 0, Nat.zero_le _, rfl, rfl, Lib.hid ⟨S0.out, Kep.made _ _⟩⟩
  case round =>
    obtain ⟨k, m, base4, cap4, hk, rfl, rfl, HK⟩ := hrel
    by_cases hlt : k < n
    · have hb : L[k]? = some (L[k]'(by rw [HN.out]; exact hlt)) := List.getElem?_eq_getElem _
      generalize L[k]'(by rw [HN.out]; exact hlt) = st at hb
      have KR := Lib.hid HK.out.2
      obtain ⟨g, off, hbase, hc⟩ := LstS.at_ H.out (K2.out.trans (KR.out.mono K2.out.size)) hb
      have HX : Hid (Fits st.2) := Lib.hid (HF.out st (List.mem_of_getElem? hb))
      obtain ⟨kind, x⟩ := st
      subst hbase
      have c0 : wr.cell? ⟨g, off + k * 11, none⟩ = some (.int .i64 kind) := hc 0 _ rfl (by omega)
      have c1 : wr.cell? ⟨g, off + k * 11 + 1, none⟩ = some (Value.int .u32 x.k) := hc 1 _ rfl (by omega)
      have c2 : wr.cell? ⟨g, off + k * 11 + 1 + 1, none⟩ = some (Value.int .i32 x.r) := hc 2 _ rfl (by omega)
      have c3 : wr.cell? ⟨g, off + k * 11 + 1 + 2, none⟩ = some (Value.int .i32 x.ax) := hc 3 _ rfl (by omega)
      have c4 : wr.cell? ⟨g, off + k * 11 + 1 + 3, none⟩ = some (Value.int .i32 x.ay) := hc 4 _ rfl (by omega)
      have c5 : wr.cell? ⟨g, off + k * 11 + 1 + 4, none⟩ = some (Value.int .i32 x.m) := hc 5 _ rfl (by omega)
      have c6 : wr.cell? ⟨g, off + k * 11 + 1 + 5, none⟩ = some (Value.int .i32 x.o) := hc 6 _ rfl (by omega)
      have c7 : wr.cell? ⟨g, off + k * 11 + 1 + 6, none⟩ = some (Value.int .i32 x.px) := hc 7 _ rfl (by omega)
      have c8 : wr.cell? ⟨g, off + k * 11 + 1 + 7, none⟩ = some (Value.int .i32 x.py) := hc 8 _ rfl (by omega)
      have c9 : wr.cell? ⟨g, off + k * 11 + 1 + 8, none⟩ = some (Value.int .i32 x.vx) := hc 9 _ rfl (by omega)
      have c10 : wr.cell? ⟨g, off + k * 11 + 1 + 9, none⟩ = some (Value.int .i32 x.vy) := hc 10 _ rfl (by omega)
      have lw : g < wr.heap.size := World.block_lt_of_cell? _ _ c0
      have KA := Lib.hid (Kep.made wr (.cells #[Value.int .u32 x.k, Value.int .i32 x.r, Value.int .i32 x.ax, Value.int .i32 x.ay, Value.int .i32 x.m, Value.int .i32 x.o, Value.int .i32 x.px, Value.int .i32 x.py, Value.int .i32 x.vx, Value.int .i32 x.vy] 32))
      have SA := Lib.hid (HK.out.1.kep KA.out)
      have PA := Lib.hid (HK.out.1.box (.cells #[Value.int .u32 x.k, Value.int .i32 x.r, Value.int .i32 x.ax, Value.int .i32 x.ay, Value.int .i32 x.m, Value.int .i32 x.o, Value.int .i32 x.px, Value.int .i32 x.py, Value.int .i32 x.vx, Value.int .i32 x.vy] 32))
      have hM := HK.out.1.fresh.asc
      have HLm : m.length ≤ 1000000000 := by omega
      have z0 : (wr.alloc (.cells #[Value.int .u32 x.k, Value.int .i32 x.r, Value.int .i32 x.ax, Value.int .i32 x.ay, Value.int .i32 x.m, Value.int .i32 x.o, Value.int .i32 x.px, Value.int .i32 x.py, Value.int .i32 x.vx, Value.int .i32 x.vy] 32)).cell? ⟨wr.heap.size, 0, none⟩ = some (Value.int .u32 x.k) := by rw [World.cell?_alloc_at _ _ _ _ rfl]; rfl
      have z1 : (wr.alloc (.cells #[Value.int .u32 x.k, Value.int .i32 x.r, Value.int .i32 x.ax, Value.int .i32 x.ay, Value.int .i32 x.m, Value.int .i32 x.o, Value.int .i32 x.px, Value.int .i32 x.py, Value.int .i32 x.vx, Value.int .i32 x.vy] 32)).cell? ⟨wr.heap.size, 1, none⟩ = some (Value.int .i32 x.r) := by rw [World.cell?_alloc_at _ _ _ _ rfl]; rfl
      have z2 : (wr.alloc (.cells #[Value.int .u32 x.k, Value.int .i32 x.r, Value.int .i32 x.ax, Value.int .i32 x.ay, Value.int .i32 x.m, Value.int .i32 x.o, Value.int .i32 x.px, Value.int .i32 x.py, Value.int .i32 x.vx, Value.int .i32 x.vy] 32)).cell? ⟨wr.heap.size, 2, none⟩ = some (Value.int .i32 x.ax) := by rw [World.cell?_alloc_at _ _ _ _ rfl]; rfl
      have z3 : (wr.alloc (.cells #[Value.int .u32 x.k, Value.int .i32 x.r, Value.int .i32 x.ax, Value.int .i32 x.ay, Value.int .i32 x.m, Value.int .i32 x.o, Value.int .i32 x.px, Value.int .i32 x.py, Value.int .i32 x.vx, Value.int .i32 x.vy] 32)).cell? ⟨wr.heap.size, 3, none⟩ = some (Value.int .i32 x.ay) := by rw [World.cell?_alloc_at _ _ _ _ rfl]; rfl
      have z4 : (wr.alloc (.cells #[Value.int .u32 x.k, Value.int .i32 x.r, Value.int .i32 x.ax, Value.int .i32 x.ay, Value.int .i32 x.m, Value.int .i32 x.o, Value.int .i32 x.px, Value.int .i32 x.py, Value.int .i32 x.vx, Value.int .i32 x.vy] 32)).cell? ⟨wr.heap.size, 4, none⟩ = some (Value.int .i32 x.m) := by rw [World.cell?_alloc_at _ _ _ _ rfl]; rfl
      have z5 : (wr.alloc (.cells #[Value.int .u32 x.k, Value.int .i32 x.r, Value.int .i32 x.ax, Value.int .i32 x.ay, Value.int .i32 x.m, Value.int .i32 x.o, Value.int .i32 x.px, Value.int .i32 x.py, Value.int .i32 x.vx, Value.int .i32 x.vy] 32)).cell? ⟨wr.heap.size, 5, none⟩ = some (Value.int .i32 x.o) := by rw [World.cell?_alloc_at _ _ _ _ rfl]; rfl
      have z6 : (wr.alloc (.cells #[Value.int .u32 x.k, Value.int .i32 x.r, Value.int .i32 x.ax, Value.int .i32 x.ay, Value.int .i32 x.m, Value.int .i32 x.o, Value.int .i32 x.px, Value.int .i32 x.py, Value.int .i32 x.vx, Value.int .i32 x.vy] 32)).cell? ⟨wr.heap.size, 6, none⟩ = some (Value.int .i32 x.px) := by rw [World.cell?_alloc_at _ _ _ _ rfl]; rfl
      have z7 : (wr.alloc (.cells #[Value.int .u32 x.k, Value.int .i32 x.r, Value.int .i32 x.ax, Value.int .i32 x.ay, Value.int .i32 x.m, Value.int .i32 x.o, Value.int .i32 x.px, Value.int .i32 x.py, Value.int .i32 x.vx, Value.int .i32 x.vy] 32)).cell? ⟨wr.heap.size, 7, none⟩ = some (Value.int .i32 x.py) := by rw [World.cell?_alloc_at _ _ _ _ rfl]; rfl
      have z8 : (wr.alloc (.cells #[Value.int .u32 x.k, Value.int .i32 x.r, Value.int .i32 x.ax, Value.int .i32 x.ay, Value.int .i32 x.m, Value.int .i32 x.o, Value.int .i32 x.px, Value.int .i32 x.py, Value.int .i32 x.vx, Value.int .i32 x.vy] 32)).cell? ⟨wr.heap.size, 8, none⟩ = some (Value.int .i32 x.vx) := by rw [World.cell?_alloc_at _ _ _ _ rfl]; rfl
      have z9 : (wr.alloc (.cells #[Value.int .u32 x.k, Value.int .i32 x.r, Value.int .i32 x.ax, Value.int .i32 x.ay, Value.int .i32 x.m, Value.int .i32 x.o, Value.int .i32 x.px, Value.int .i32 x.py, Value.int .i32 x.vx, Value.int .i32 x.vy] 32)).cell? ⟨wr.heap.size, 9, none⟩ = some (Value.int .i32 x.vy) := by rw [World.cell?_alloc_at _ _ _ _ rfl]; rfl
      have lz : wr.heap.size < (wr.alloc (.cells #[Value.int .u32 x.k, Value.int .i32 x.r, Value.int .i32 x.ax, Value.int .i32 x.ay, Value.int .i32 x.m, Value.int .i32 x.o, Value.int .i32 x.px, Value.int .i32 x.py, Value.int .i32 x.vx, Value.int .i32 x.vy] 32)).heap.size := by simp
      clear hb hc
      by_cases e0 : kind = 0
      · subst e0
        have C1 := Lib.hid (paddd PA.out x HX.out)
        generalize he : addE m x = c at C1
        have HE := Lib.hid he
        clear he
        go_wp2_with (first
          | ((with_reducible refine (C1.out).mono ?_); rintro e w7 ⟨rfl, s7, k7, b7⟩; have S7 := Lib.hid s7; have K7 := Lib.hid k7; replace z0 := b7 _ _ z0; replace z1 := b7 _ _ z1; replace z2 := b7 _ _ z2; replace z3 := b7 _ _ z3; replace z4 := b7 _ _ z4; replace z5 := b7 _ _ z5; replace z6 := b7 _ _ z6; replace z7 := b7 _ _ z7; replace z8 := b7 _ _ z8; replace z9 := b7 _ _ z9; have C2 := Lib.hid (radd_any _ m x _ S7.out.lst HLm); rw [HE.out] at C2; clear s7 k7 b7)
          | ((with_reducible refine (C2.out).mono ?_); rintro e w8 ⟨v8, rfl, l8, k8, n8⟩; have S9 := Lib.hid (S7.out.turn k8 l8 n8); obtain ⟨base9, cap9, hv9⟩ := l8.shape; subst hv9; have K9 : Hid (Kep w2.heap.size w2 w8) := Lib.hid (((KR.out.trans (KA.out.mono KR.out.size)).trans K7.out).trans (k8.mono (Nat.le_trans KR.out.size (Nat.le_trans KA.out.size K7.out.size)))); clear l8 k8 n8)
          | ((with_reducible refine (flen S9.out.fresh).mono ?_); rintro e w9 ⟨rfl, rfl⟩))
        go_roundw
        case rel => exact ⟨k + 1, addL m x, base9, cap9, by omega, by go_num, rfl, Lib.hid ⟨S9.out, K9.out⟩⟩
        case measure => simp [RowKit.intOf]; omega
      · by_cases e1 : kind = 1
        · subst e1
          have C1 := Lib.hid (premove PA.out (wf_u32 HX.out))
          generalize he : removeE m x.k = c at C1
          have HE := Lib.hid he
          clear he
          go_wp2_with (first
            | ((with_reducible refine (C1.out).mono ?_); rintro e w7 ⟨rfl, s7, k7, b7⟩; have S7 := Lib.hid s7; have K7 := Lib.hid k7; replace z0 := b7 _ _ z0; replace z1 := b7 _ _ z1; replace z2 := b7 _ _ z2; replace z3 := b7 _ _ z3; replace z4 := b7 _ _ z4; replace z5 := b7 _ _ z5; replace z6 := b7 _ _ z6; replace z7 := b7 _ _ z7; replace z8 := b7 _ _ z8; replace z9 := b7 _ _ z9; have C2 := Lib.hid (rremove_any _ m x.k _ S7.out.lst HLm); rw [HE.out] at C2; clear s7 k7 b7)
            | ((with_reducible refine (C2.out).mono ?_); rintro e w8 ⟨v8, rfl, l8, k8, n8⟩; have S9 := Lib.hid (S7.out.turn k8 l8 n8); obtain ⟨base9, cap9, hv9⟩ := l8.shape; subst hv9; have K9 : Hid (Kep w2.heap.size w2 w8) := Lib.hid (((KR.out.trans (KA.out.mono KR.out.size)).trans K7.out).trans (k8.mono (Nat.le_trans KR.out.size (Nat.le_trans KA.out.size K7.out.size)))); clear l8 k8 n8)
            | ((with_reducible refine (flen S9.out.fresh).mono ?_); rintro e w9 ⟨rfl, rfl⟩))
          go_roundw
          case rel => exact ⟨k + 1, removeL m x.k, base9, cap9, by omega, by go_num, rfl, Lib.hid ⟨S9.out, K9.out⟩⟩
          case measure => simp [RowKit.intOf]; omega
        · by_cases e2 : kind = 2
          · subst e2
            have C1 := Lib.hid (psett PA.out x HX.out)
            generalize he : setE m x = c at C1
            have HE := Lib.hid he
            clear he
            go_wp2_with (first
              | ((with_reducible refine (C1.out).mono ?_); rintro e w7 ⟨rfl, s7, k7, b7⟩; have S7 := Lib.hid s7; have K7 := Lib.hid k7; replace z0 := b7 _ _ z0; replace z1 := b7 _ _ z1; replace z2 := b7 _ _ z2; replace z3 := b7 _ _ z3; replace z4 := b7 _ _ z4; replace z5 := b7 _ _ z5; replace z6 := b7 _ _ z6; replace z7 := b7 _ _ z7; replace z8 := b7 _ _ z8; replace z9 := b7 _ _ z9; have C2 := Lib.hid (rset_any _ m x _ S7.out.lst HLm); rw [HE.out] at C2; clear s7 k7 b7)
              | ((with_reducible refine (C2.out).mono ?_); rintro e w8 ⟨v8, rfl, l8, k8, n8⟩; have S9 := Lib.hid (S7.out.turn k8 l8 n8); obtain ⟨base9, cap9, hv9⟩ := l8.shape; subst hv9; have K9 : Hid (Kep w2.heap.size w2 w8) := Lib.hid (((KR.out.trans (KA.out.mono KR.out.size)).trans K7.out).trans (k8.mono (Nat.le_trans KR.out.size (Nat.le_trans KA.out.size K7.out.size)))); clear l8 k8 n8)
              | ((with_reducible refine (flen S9.out.fresh).mono ?_); rintro e w9 ⟨rfl, rfl⟩))
            go_roundw
            case rel => exact ⟨k + 1, setL m x, base9, cap9, by omega, by go_num, rfl, Lib.hid ⟨S9.out, K9.out⟩⟩
            case measure => simp [RowKit.intOf]; omega
          · have b0 : (kind == 0) = false := beq_eq_false_iff_ne.2 e0
            have b1 : (kind == 1) = false := beq_eq_false_iff_ne.2 e1
            have b2 : (kind == 2) = false := beq_eq_false_iff_ne.2 e2
            by_cases hlk : look m x.k = none
            · have G := Lib.hid (get_no' SA.out.fresh (wf_u32 HX.out) hlk)
              have FI : Hid (∀ w', Lst w' (.slice base4 m.length cap4) m → Calls Try.prog 16 #[.slice base4 m.length cap4, .int .u32 x.k] w' fun e w'' => e = .returned (.int .i64 (-1)) ∧ w' = w'') := Lib.hid fun w' q => by have := find_any _ m x.k w' q HLm; rw [place_none hlk] at this; exact this
              have zn := zero_neq
              clear hlk
              go_wp2_with (first
                | ((with_reducible refine (G.out).mono ?_); rintro e w7 ⟨rfl, k7⟩; have S7 := Lib.hid ((SA.out.kep k7).kep (Kep.made w7 (.cells #[Value.int .u32 0, Value.int .i32 0, Value.int .i32 0, Value.int .i32 0, Value.int .i32 0, Value.int .i32 0, Value.int .i32 0, Value.int .i32 0, Value.int .i32 0, Value.int .i32 0] 32))); have K7 := Lib.hid k7; replace z0 := k7.all z0; replace z1 := k7.all z1; replace z2 := k7.all z2; replace z3 := k7.all z3; replace z4 := k7.all z4; replace z5 := k7.all z5; replace z6 := k7.all z6; replace z7 := k7.all z7; replace z8 := k7.all z8; replace z9 := k7.all z9; have lz7 : wr.heap.size < w7.heap.size := World.block_lt_of_cell? _ _ z0; clear k7)
                | ((with_reducible refine (FI.out _ S7.out.lst).mono ?_); rintro e w8 ⟨rfl, rfl⟩))
              go_quiet (fail)
              go_wp2_with (first
                | ((with_reducible refine (flen (S7.out.fresh.kep ((Kep.refl _ _).drewN _))).mono ?_); rintro e w9 ⟨rfl, rfl⟩))
              go_roundw
              case rel => exact ⟨k + 1, m, base4, cap4, by omega, by go_num, rfl, Lib.hid ⟨S7.out.kep ((Kep.refl _ _).drewN _), ((((KR.out.trans (KA.out.mono KR.out.size)).trans (K7.out.mono (Nat.le_trans KR.out.size KA.out.size))).trans ((Kep.made _ _).mono (Nat.le_trans KR.out.size (Nat.le_trans KA.out.size K7.out.size))))).drewN _⟩⟩
              case measure => simp [RowKit.intOf]; omega
            · obtain ⟨x', hx'⟩ := Option.ne_none_iff_exists'.1 hlk
              obtain ⟨j, hj, hmj⟩ := (place_eq m x.k 0).2 x' hx'
              have G := Lib.hid (get_yes' SA.out.fresh (wf_u32 HX.out) hx')
              have FI : Hid (∀ w', Lst w' (.slice base4 m.length cap4) m → Calls Try.prog 16 #[.slice base4 m.length cap4, .int .u32 x.k] w' fun e w'' => e = .returned (.int .i64 j) ∧ w' = w'') := Lib.hid fun w' q => by have := find_any _ m x.k w' q HLm; rw [hj, Nat.zero_add] at this; exact this
              have bn := body_neq' x'
              have j0 : (0 : Int) ≤ (j : Int) := Int.natCast_nonneg _
              have d1 : decide ((j : Int) < 0) = false := decide_eq_false (by omega)
              have d2 : decide ((0 : Int) ≤ (j : Int)) = true := decide_eq_true j0
              have j1 : (j : Int) < (m.length : Int) := by have := (List.getElem?_eq_some_iff.1 hmj).1; omega
              have HMJ := Lib.hid hmj
              clear hlk hx' hj hmj
              go_wp2_with (first
                | ((with_reducible refine (G.out).mono ?_); rintro e w7 ⟨rfl, k7⟩; have S7 := Lib.hid ((SA.out.kep k7).kep (Kep.made w7 (.cells #[Value.int .u32 x'.k, Value.int .i32 x'.r, Value.int .i32 x'.ax, Value.int .i32 x'.ay, Value.int .i32 x'.m, Value.int .i32 x'.o, Value.int .i32 x'.px, Value.int .i32 x'.py, Value.int .i32 x'.vx, Value.int .i32 x'.vy] 32))); have K7 := Lib.hid k7; replace z0 := k7.all z0; replace z1 := k7.all z1; replace z2 := k7.all z2; replace z3 := k7.all z3; replace z4 := k7.all z4; replace z5 := k7.all z5; replace z6 := k7.all z6; replace z7 := k7.all z7; replace z8 := k7.all z8; replace z9 := k7.all z9; have lz7 : wr.heap.size < w7.heap.size := World.block_lt_of_cell? _ _ z0; clear k7)
                | ((with_reducible refine (FI.out _ S7.out.lst).mono ?_); rintro e w8 ⟨rfl, rfl⟩))
              obtain ⟨g4, off4, hb4, hc4⟩ := Lst.at_ S7.out.lst HMJ.out
              subst hb4
              obtain ⟨u0, u1, u2, u3, u4, u5, u6, u7, u8, u9⟩ := old_cells (Kep.refl _ _) hc4
              clear hc4
              go_quiet (fail)
              go_wp2_with (first
                | ((with_reducible refine (flen (S7.out.fresh.kep ((Kep.refl _ _).drewN _))).mono ?_); rintro e w9 ⟨rfl, rfl⟩))
              go_roundw
              case rel => exact ⟨k + 1, m, some ⟨g4, off4, none⟩, cap4, by omega, by go_num, rfl, Lib.hid ⟨S7.out.kep ((Kep.refl _ _).drewN _), ((((KR.out.trans (KA.out.mono KR.out.size)).trans (K7.out.mono (Nat.le_trans KR.out.size KA.out.size))).trans ((Kep.made _ _).mono (Nat.le_trans KR.out.size (Nat.le_trans KA.out.size K7.out.size))))).drewN _⟩⟩
              case measure => simp [RowKit.intOf]; omega
    · have HLm : m.length ≤ 1000000000 := by have := HK.out.1.fresh.asc; omega
      have C1 := Lib.hid (fbodies HK.out.1.fresh)
      go_wp2_with (first
        | ((with_reducible refine (C1.out).mono ?_); rintro e w7 ⟨v7, rfl, o7, k7⟩; have O7 := Lib.hid o7; have K7 := Lib.hid k7; clear o7 k7)
        | ((with_reducible refine (same_any _ _ _ _ O7.out.lst (HK.out.1.lst.kep K7.out) HLm).mono ?_); rintro e w8 ⟨rfl, k8⟩; have K8 := Lib.hid k8; clear k8))
      go_ret
      exact ⟨rfl, ((K2.out.trans (HK.out.2.mono K2.out.size)).next K7.out).next K8.out⟩
theorem matches_all (v : Value) (L : List (Int × Bd)) (w : World) (h : LstS w v L) (hF : ∀ s ∈ L, Fits s.2) : Calls Try.prog 3 #[v] w (fun e w' => e = .returned (.bool true) ∧ Kep w.heap.size w w') := by
  obtain ⟨base, cap, rfl⟩ := h.shape
  by_cases hlen : 200 < L.length
  · exact matches_long base cap L.length w (by omega)
  · exact matches_main base cap L w h hF (by omega)
end Go.Proofs.Ytfkieieedljodaa
