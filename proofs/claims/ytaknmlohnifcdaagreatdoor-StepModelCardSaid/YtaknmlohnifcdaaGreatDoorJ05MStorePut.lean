import Derived.Test.YtaknmlohnifcdaaGreatDoorJ01MBodies
import Derived.Test.YtaknmlohnifcdaaGreatDoorJ00MBits
import Derived.Deep.QuietTactic
import Derived.BigQuiet
import Derived.Test.YtaknmlohnifcdaaGreatDoorJ02MSeq
import Derived.Deep.AppendLies
set_option maxHeartbeats 4000000
set_option maxRecDepth 100000
namespace Go.Proofs.YtaknmlohnifcdaaGreatDoor
open Go.RowKit Go.Lib
def flat (l : List Bd) : List Value := l.flatMap vals
theorem flat_snoc (l : List Bd) (b : Bd) : flat (l ++ [b]) = flat l ++ vals b := by simp [flat]
theorem info_body : (Tryz.prog.info? 40).map (fun i => (i.zero, i.size, i.bytes)) = some (some (.agg #[.int .u32 0, .int .i32 0, .int .i32 0, .int .i32 0, .int .i32 0, .int .i32 0, .int .i32 0, .int .i32 0, .int .i32 0, .int .i32 0]), 10, 40) := by kernel_rfl

theorem news_at (W : World) (n : Nat) (hn : n = W.heap.size) (x : Bd) (t : TypeId) : ∀ (j : Nat) (u : Value), (vals x)[j]? = some u → (W.alloc (.cells #[.int .u32 x.k, .int .i32 x.r, .int .i32 x.ax, .int .i32 x.ay, .int .i32 x.m, .int .i32 x.o, .int .i32 x.px, .int .i32 x.py, .int .i32 x.vx, .int .i32 x.vy] t)).cell? ((⟨n, 0, none⟩ : Addr).add j) = some u := fun j u h => by
 subst hn
 have e : ((⟨W.heap.size, 0, none⟩ : Addr).add j) = ⟨W.heap.size, j, none⟩ := by simp [Addr.add]; exact Eq.symm
 rw [e, World.cell?_alloc_at _ _ _ _ rfl]
 have q : #[.int .u32 x.k, .int .i32 x.r, .int .i32 x.ax, .int .i32 x.ay, .int .i32 x.m, .int .i32 x.o, .int .i32 x.px, .int .i32 x.py, .int .i32 x.vx, .int .i32 x.vy] = (vals x).toArray := rfl
 rw [q]
 simpa using h
theorem one_cell (x : Bd) : ∀ u ∈ vals x, u.oneCell' = true := by
 intro u hu
 simp only [vals, List.mem_cons, List.not_mem_nil, or_false] at hu
 rcases hu with rfl | rfl | rfl | rfl | rfl | rfl | rfl | rfl | rfl | rfl <;> rfl
theorem put_more {B : Nat} {l : List Bd} {x : Bd} {out v' : Value} {W W' w1 wq : World} (ho : wq.ownsRow (B + 1) 40 10 out l.length (flat l)) (hk : Kep (B + 1) w1 wq) (hB : B + 1 ≤ wq.heap.size) (hW : W = wq.alloc (.cells #[.int .u32 x.k, .int .i32 x.r, .int .i32 x.ax, .int .i32 x.ay, .int .i32 x.m, .int .i32 x.o, .int .i32 x.px, .int .i32 x.py, .int .i32 x.vx, .int .i32 x.vy] 40))
 (h1 : W'.ownsRow (B + 1) 40 10 v' (l.length + 1) (flat l ++ vals x)) (h2 : W.grownBy W' out.ownBlock) : W'.ownsRow (B + 1) 40 10 v' (l ++ [x]).length (flat (l ++ [x])) ∧ Kep (B + 1) w1 W' := by
 subst hW
 rw [flat_snoc, List.length_append]
 exact ⟨h1, (hk.alloc hB _).row h2 (by simp; omega) (fun k e => (ho.lt k e).1)⟩

def PutRel (B : Nat) (b : Bd) (gone : Bool) (L : List Bd) (w1 : World) (k : Nat) (out : Value) (done : Bool) (wr : World) : Prop :=
 done = (putTo b gone (L.take k)).2 ∧ wr.ownsRow (B + 1) 40 10 out (putTo b gone (L.take k)).1.length (flat (putTo b gone (L.take k)).1) ∧ Kep (B + 1) w1 wr

theorem put_arg {w wr : World} {b x : Bd} {g off k : Nat} (h : Kep (w.heap.size + 1) (w.alloc (.cells #[.int .u32 b.k, .int .i32 b.r, .int .i32 b.ax, .int .i32 b.ay, .int .i32 b.m, .int .i32 b.o, .int .i32 b.px, .int .i32 b.py, .int .i32 b.vx, .int .i32 b.vy] 40)) wr) (hc : ∀ i, i < 10 → w.cell? ⟨g, off + k * 10 + i, none⟩ = (vals x)[i]?) : wr.cell? ⟨g, off + k * 10, none⟩ = some (.int .u32 x.k) ∧ wr.cell? ⟨g, off + k * 10 + 1, none⟩ = some (.int .i32 x.r) ∧ wr.cell? ⟨g, off + k * 10 + 2, none⟩ = some (.int .i32 x.ax) ∧ wr.cell? ⟨g, off + k * 10 + 3, none⟩ = some (.int .i32 x.ay) ∧ wr.cell? ⟨g, off + k * 10 + 4, none⟩ = some (.int .i32 x.m) ∧ wr.cell? ⟨g, off + k * 10 + 5, none⟩ = some (.int .i32 x.o) ∧ wr.cell? ⟨g, off + k * 10 + 6, none⟩ = some (.int .i32 x.px) ∧ wr.cell? ⟨g, off + k * 10 + 7, none⟩ = some (.int .i32 x.py) ∧ wr.cell? ⟨g, off + k * 10 + 8, none⟩ = some (.int .i32 x.vx) ∧ wr.cell? ⟨g, off + k * 10 + 9, none⟩ = some (.int .i32 x.vy) := by
 have f : ∀ (i : Nat) (v : Value), i < 10 → (vals x)[i]? = some v → wr.cell? ⟨g, off + k * 10 + i, none⟩ = some v := fun i v hi hv => by
  have e := (hc i hi).trans hv
  have l := World.block_lt_of_cell? _ _ e
  refine h.holds (by simp at l; omega) ?_
  rw [World.cell?_alloc_past _ _ _ l]; exact e
 exact ⟨f 0 _ (by decide) rfl, f 1 _ (by decide) rfl, f 2 _ (by decide) rfl, f 3 _ (by decide) rfl, f 4 _ (by decide) rfl, f 5 _ (by decide) rfl, f 6 _ (by decide) rfl, f 7 _ (by decide) rfl, f 8 _ (by decide) rfl, f 9 _ (by decide) rfl⟩
theorem put_box {w wr : World} {b : Bd} (h : Kep (w.heap.size + 1) (w.alloc (.cells #[.int .u32 b.k, .int .i32 b.r, .int .i32 b.ax, .int .i32 b.ay, .int .i32 b.m, .int .i32 b.o, .int .i32 b.px, .int .i32 b.py, .int .i32 b.vx, .int .i32 b.vy] 40)) wr) : wr.cell? ⟨w.heap.size, 0, none⟩ = some (.int .u32 b.k) ∧ wr.cell? ⟨w.heap.size, 1, none⟩ = some (.int .i32 b.r) ∧ wr.cell? ⟨w.heap.size, 2, none⟩ = some (.int .i32 b.ax) ∧ wr.cell? ⟨w.heap.size, 3, none⟩ = some (.int .i32 b.ay) ∧ wr.cell? ⟨w.heap.size, 4, none⟩ = some (.int .i32 b.m) ∧ wr.cell? ⟨w.heap.size, 5, none⟩ = some (.int .i32 b.o) ∧ wr.cell? ⟨w.heap.size, 6, none⟩ = some (.int .i32 b.px) ∧ wr.cell? ⟨w.heap.size, 7, none⟩ = some (.int .i32 b.py) ∧ wr.cell? ⟨w.heap.size, 8, none⟩ = some (.int .i32 b.vx) ∧ wr.cell? ⟨w.heap.size, 9, none⟩ = some (.int .i32 b.vy) :=
 ⟨h.holds (by omega) (by rw [World.cell?_alloc_at _ _ _ _ rfl]; rfl), h.holds (by omega) (by rw [World.cell?_alloc_at _ _ _ _ rfl]; rfl), h.holds (by omega) (by rw [World.cell?_alloc_at _ _ _ _ rfl]; rfl), h.holds (by omega) (by rw [World.cell?_alloc_at _ _ _ _ rfl]; rfl), h.holds (by omega) (by rw [World.cell?_alloc_at _ _ _ _ rfl]; rfl), h.holds (by omega) (by rw [World.cell?_alloc_at _ _ _ _ rfl]; rfl), h.holds (by omega) (by rw [World.cell?_alloc_at _ _ _ _ rfl]; rfl), h.holds (by omega) (by rw [World.cell?_alloc_at _ _ _ _ rfl]; rfl), h.holds (by omega) (by rw [World.cell?_alloc_at _ _ _ _ rfl]; rfl), h.holds (by omega) (by rw [World.cell?_alloc_at _ _ _ _ rfl]; rfl)⟩

theorem _root_.Go.World.ownsRow.dn {w : World} {base : Nat} {e : TypeId} {size : Nat} {v : Value} {m n : Nat} {xs : List Value} (h : w.ownsRow base e size v n xs) : (w.drewN m).ownsRow base e size v n xs := h
theorem Kep.drewN {B : Nat} {a w : World} (h : Kep B a w) (m : Nat) : Kep B a (w.drewN m) := ⟨h.os, h.output, h.size, h.block⟩
theorem rel_next {B k : Nat} {b x : Bd} {gone d d' : Bool} {L s s' : List Bd} {w1 wr' : World} {v' : Value} (hx : L[k]? = some x) (hs : putTo b gone (L.take k) = (s, d)) (he : putStep b (s, d) x = (s', d'))
 (own : wr'.ownsRow (B + 1) 40 10 v' s'.length (flat s')) (kep : Kep (B + 1) w1 wr') : PutRel B b gone L w1 (k + 1) v' d' wr' := by
 have e : putTo b gone (L.take (k + 1)) = (s', d') := by rw [List.take_add_one, hx]; show putTo b gone (L.take k ++ [x]) = _; rw [putTo_snoc, hs, he]
 exact ⟨by rw [e], by rw [e]; exact own, kep⟩

theorem flat_get : ∀ (s : List Bd) (k : Nat) (b : Bd), s[k]? = some b → ∀ i, i < 10 → (flat s)[k * 10 + i]? = (vals b)[i]?
 | [], _, _, h, _, _ => by simp at h
 | x :: s, 0, b, h, i, hi => by
   simp at h
   subst h
   have l : (vals x).length = 10 := rfl
   simp only [flat, List.flatMap_cons]
   rw [List.getElem?_append_left (by rw [l]; omega)]
   simp
 | x :: s, k + 1, b, h, i, hi => by
   have l : (vals x).length = 10 := rfl
   have e := flat_get s k b (by simpa using h) i hi
   simp only [flat, List.flatMap_cons] at e ⊢
   rw [List.getElem?_append_right (by rw [l]; omega), l, show (k + 1) * 10 + i - 10 = k * 10 + i by omega]
   exact e
def Roomy (v : Value) : Prop := ∀ b n c, v = .slice b n c → n ≤ c
theorem roomy_nil : Roomy (.slice none 0 0) := fun b n c e => by injection e with _ e1 e2; omega
def New (w : World) (v : Value) (w' : World) : Prop := (∀ g, v.ownBlock = some g → w.heap.size ≤ g ∧ g < w'.heap.size) ∧ Roomy v
theorem new_nil (w w' : World) : New w (.slice none 0 0) w' := ⟨(fun g q => by cases q), roomy_nil⟩
theorem own_new {w w' : World} {v : Value} {n : Nat} {xs : List Value} (h : w'.ownsRow (w.heap.size + 1) 40 10 v n xs) : New w v w' := ⟨fun g q => ⟨by have := (h.lt g q).1; omega, (h.lt g q).2⟩, by
 rcases h.2 with ⟨rfl, _⟩ | ⟨_, _, _, rfl, _, _, hn, _⟩
 ·exact roomy_nil
 ·intro b n c e; injection e with _ e1 e2; omega⟩
theorem own_lst {w : World} {B : Nat} {v : Value} {s : List Bd} (h : w.ownsRow B 40 10 v s.length (flat s)) : Lst w v s := by
 obtain ⟨_, ⟨rfl, h0⟩ | ⟨g, cap, cur, rfl, _, hg, hn, _, hs, hc⟩⟩ := h
 ·exact .inl ⟨List.length_eq_zero_iff.1 h0, none, 0, rfl⟩
 ·refine .inr ⟨g, 0, cap, rfl, fun k b hb i hi => ?_⟩
  have hk : k < s.length := (List.getElem?_eq_some_iff.1 hb).1
  rw [← flat_get s k b hb i hi, ← hc]
  simp only [World.cell?, hg]
  rw [List.getElem?_take_of_lt (by omega)]
  simp
theorem put_done {L s : List Bd} {b : Bd} {gone d : Bool} {k : Nat} (hs : putTo b gone (L.take k) = (s, d)) (hk : L.length ≤ k) : put L b gone = if d then s else s ++ [b] := by
 rw [List.take_of_length_le hk] at hs
 unfold put
 rw [hs]

theorem put_any (v : Value) (L : List Bd) (b : Bd) (gone : Bool) (w : World) (h : Lst w v L) (hm : L.length ≤ 1000000000) :
 Calls Tryz.prog 71 #[v, .agg #[.int .u32 b.k, .int .i32 b.r, .int .i32 b.ax, .int .i32 b.ay, .int .i32 b.m, .int .i32 b.o, .int .i32 b.px, .int .i32 b.py, .int .i32 b.vx, .int .i32 b.vy], .bool gone] w
  fun e w' => ∃ v', e = .returned v' ∧ (Lst w' v' (put L b gone) ∧ New w v' w') ∧ Kep w.heap.size w w' := by
 obtain ⟨i0, hi, hz0, hz1, hz2⟩ := info_parts info_body
 rcases h with ⟨rfl, base, cap, rfl⟩ | ⟨g, off, cap, rfl, hc⟩
 ·have HI := Lib.hid hi
  clear hi
  cases gone
  ·go_enter Tryz.func71, Tryz.ntmps71
   go_wp2
   refine wp_loop_rounds 1 ?_
   rw [rounds_succ]
   go_wp2_with (at_builtin; refine wpList_append_own _ rfl _ _ 22 rfl (w.heap.size + 1) 40 i0 (.agg #[.int .u32 0, .int .i32 0, .int .i32 0, .int .i32 0, .int .i32 0, .int .i32 0, .int .i32 0, .int .i32 0, .int .i32 0, .int .i32 0]) 10 40 Tryz.underlying22 HI.out hz0 hz1 hz2 rfl (by decide) _ _ _ rfl ((World.ownsRow_nil _ _ _ _).alloc _) ⟨_, 0, none⟩ 1 1 (vals b) rfl rfl (news_at _ _ (by first | rfl | simp) b _) (one_cell b) (by decide) (by decide) (by simp) ?_; intro v1 w1 own1 gr1 _)
   have M1 := Lib.hid (put_more (l := []) (World.ownsRow_nil _ (w.heap.size + 1) _ 10) (Kep.refl (w.heap.size + 1) _) (by simp) rfl own1 gr1)
   go_ret
   exact ⟨_, rfl, ⟨own_lst (s := [b]) M1.out.1, own_new M1.out.1⟩, (Kep.alloc (Kep.refl _ _) (Nat.le_refl _) _).trans (M1.out.2.mono (by omega))⟩
  ·go_enter Tryz.func71, Tryz.ntmps71
   go_wp2
   refine wp_loop_rounds 1 ?_
   rw [rounds_succ]
   go_wp2
   go_ret
   exact ⟨_, rfl, ⟨.inl ⟨rfl, none, 0, rfl⟩, new_nil _ _⟩, (Kep.alloc (Kep.refl _ _) (Nat.le_refl _) _)⟩
 ·have HC := Lib.hid hc
  clear hc
  generalize hn : L.length = n at *
  have HN := Lib.hid hn
  clear hn
  have HI := Lib.hid hi
  clear hi
  go_enter Tryz.func71, Tryz.ntmps71
  go_wp2
  go_loopw [7, 8, 9] (fun out done i wr => ∃ (k : Nat) (d : Bool), k ≤ n ∧ i = .int .i64 k ∧ done = .bool d ∧ Hid (PutRel w.heap.size b gone L (w.alloc (.cells #[.int .u32 b.k, .int .i32 b.r, .int .i32 b.ax, .int .i32 b.ay, .int .i32 b.m, .int .i32 b.o, .int .i32 b.px, .int .i32 b.py, .int .i32 b.vx, .int .i32 b.vy] 40)) k out d wr)) (fun _ _ i _ => n - (RowKit.intOf i).toNat)
  case atStart => exact ⟨0, gone, Nat.zero_le _, rfl, rfl, Lib.hid ⟨by simp [putTo], by simpa [putTo, flat] using World.ownsRow_nil _ _ _ _, Kep.refl _ _⟩⟩
  case round =>
   obtain ⟨k, d, hk, rfl, rfl, HP⟩ := hrel
   have hB : w.heap.size + 1 ≤ wr.heap.size := by have := HP.out.2.2.size; simpa using this
   have hl : (putTo b gone (L.take k)).1.length ≤ k + 1 := by have := putTo_len b gone (L.take k); have := List.length_take_le k L; omega
   obtain ⟨s, hs⟩ : ∃ s, putTo b gone (L.take k) = (s, d) := ⟨_, Prod.ext rfl HP.out.1.symm⟩
   have HS := Lib.hid hs
   have HO : Hid (wr.ownsRow (w.heap.size + 1) 40 10 u7 s.length (flat s)) := Lib.hid (by have := HP.out.2.1; rw [hs] at this; exact this)
   have HK := Lib.hid HP.out.2.2
   replace hl : s.length ≤ k + 1 := by rw [hs] at hl; exact hl
   clear hs HP
   by_cases hlt : k < n
   ·have hb : L[k]? = some (L[k]'(by rw [HN.out]; exact hlt)) := List.getElem?_eq_getElem _
    generalize L[k]'(by rw [HN.out]; exact hlt) = x at hb
    have HX := Lib.hid hb
    clear hb
    obtain ⟨x0, x1, x2, x3, x4, x5, x6, x7, x8, x9⟩ := put_arg HK.out (HC.out k x HX.out)
    obtain ⟨y0, y1, y2, y3, y4, y5, y6, y7, y8, y9⟩ := put_box HK.out
    cases d
    ·by_cases c1 : b.k ≤ x.k
     ·go_wp2_with fail
      go_quiet (fail)
      go_wp2_with (at_builtin; refine wpList_append_own _ rfl _ _ 22 rfl (w.heap.size + 1) 40 i0 (.agg #[.int .u32 0, .int .i32 0, .int .i32 0, .int .i32 0, .int .i32 0, .int .i32 0, .int .i32 0, .int .i32 0, .int .i32 0, .int .i32 0]) 10 40 Tryz.underlying22 HI.out hz0 hz1 hz2 rfl (by decide) _ _ _ rfl (HO.out.dn.alloc _) ⟨_, 0, none⟩ 1 1 (vals b) rfl rfl (news_at _ _ (by first | rfl | simp) b _) (one_cell b) (by unfold maxLen; first | omega | (simp; omega)) (by first | omega | (simp; omega)) (by simp; omega) ?_; intro v1 w1 own1 gr1 _)
      have M1 := Lib.hid (put_more HO.out.dn (HK.out.drewN _) hB rfl own1 gr1)
      have hB1 : w.heap.size + 1 ≤ w1.heap.size := by have := M1.out.2.size; simpa using this
      clear own1 gr1
      clear x0 x1 x2 x3 x4 x5 x6 x7 x8 x9 y0 y1 y2 y3 y4 y5 y6 y7 y8 y9
      obtain ⟨x0, x1, x2, x3, x4, x5, x6, x7, x8, x9⟩ := put_arg M1.out.2 (HC.out k x HX.out)
      obtain ⟨y0, y1, y2, y3, y4, y5, y6, y7, y8, y9⟩ := put_box M1.out.2
      by_cases c2 : x.k = b.k
      ·have c3 : (x.k != b.k) = false := by simp [c2]
       go_quiet (fail)
       go_wp2_with fail
       go_roundw
       case rel => exact ⟨k + 1, true, by omega, by go_num, rfl, Lib.hid (rel_next HX.out HS.out (by simp [putStep, c2]) M1.out.1.dn (M1.out.2.drewN _))⟩
       case measure => simp [RowKit.intOf]; omega
      ·have c3 : (x.k != b.k) = true := bne_iff_ne.2 c2
       go_quiet (fail)
       go_wp2_with (at_builtin; refine wpList_append_own _ rfl _ _ 22 rfl (w.heap.size + 1) 40 i0 (.agg #[.int .u32 0, .int .i32 0, .int .i32 0, .int .i32 0, .int .i32 0, .int .i32 0, .int .i32 0, .int .i32 0, .int .i32 0, .int .i32 0]) 10 40 Tryz.underlying22 HI.out hz0 hz1 hz2 rfl (by decide) _ _ _ rfl (M1.out.1.dn.alloc _) ⟨_, 0, none⟩ 1 1 (vals x) rfl rfl (news_at _ _ (by first | rfl | simp) x _) (one_cell x) (by unfold maxLen; first | omega | (simp; omega)) (by first | omega | (simp; omega)) (by simp; omega) ?_; intro v2 w2 own2 gr2 _)
       have M2 := Lib.hid (put_more M1.out.1.dn (M1.out.2.drewN _) hB1 rfl own2 gr2)
       clear own2 gr2
       go_roundw
       case rel => exact ⟨k + 1, true, by omega, by go_num, rfl, Lib.hid (rel_next HX.out HS.out (by simp [putStep, c1, c2]) M2.out.1 M2.out.2)⟩
       case measure => simp [RowKit.intOf]; omega
     ·have c2 : ¬ x.k = b.k := by omega
      have c3 : (x.k != b.k) = true := bne_iff_ne.2 c2
      go_wp2_with fail
      go_quiet (fail)
      go_wp2_with fail
      go_quiet (fail)
      go_wp2_with (at_builtin; refine wpList_append_own _ rfl _ _ 22 rfl (w.heap.size + 1) 40 i0 (.agg #[.int .u32 0, .int .i32 0, .int .i32 0, .int .i32 0, .int .i32 0, .int .i32 0, .int .i32 0, .int .i32 0, .int .i32 0, .int .i32 0]) 10 40 Tryz.underlying22 HI.out hz0 hz1 hz2 rfl (by decide) _ _ _ rfl (HO.out.dn.alloc _) ⟨_, 0, none⟩ 1 1 (vals x) rfl rfl (news_at _ _ (by first | rfl | simp) x _) (one_cell x) (by unfold maxLen; first | omega | (simp; omega)) (by first | omega | (simp; omega)) (by simp; omega) ?_; intro v2 w2 own2 gr2 _)
      have M2 := Lib.hid (put_more HO.out.dn (HK.out.drewN _) hB rfl own2 gr2)
      clear own2 gr2
      go_roundw
      case rel => exact ⟨k + 1, false, by omega, by go_num, rfl, Lib.hid (rel_next HX.out HS.out (by simp [putStep, if_neg (Int.not_le.2 c1), c2]) M2.out.1 M2.out.2)⟩
      case measure => simp [RowKit.intOf]; omega
    ·go_wp2_with fail
     go_quiet (fail)
     go_wp2_with fail
     by_cases c2 : x.k = b.k
     ·have c3 : (x.k != b.k) = false := by simp [c2]
      go_quiet (fail)
      go_wp2_with fail
      go_roundw
      case rel => exact ⟨k + 1, true, by omega, by go_num, rfl, Lib.hid (rel_next HX.out HS.out (by simp [putStep, c2]) HO.out.dn (HK.out.drewN _))⟩
      case measure => simp [RowKit.intOf]; omega
     ·have c3 : (x.k != b.k) = true := bne_iff_ne.2 c2
      go_quiet (fail)
      go_wp2_with (at_builtin; refine wpList_append_own _ rfl _ _ 22 rfl (w.heap.size + 1) 40 i0 (.agg #[.int .u32 0, .int .i32 0, .int .i32 0, .int .i32 0, .int .i32 0, .int .i32 0, .int .i32 0, .int .i32 0, .int .i32 0, .int .i32 0]) 10 40 Tryz.underlying22 HI.out hz0 hz1 hz2 rfl (by decide) _ _ _ rfl (HO.out.dn.alloc _) ⟨_, 0, none⟩ 1 1 (vals x) rfl rfl (news_at _ _ (by first | rfl | simp) x _) (one_cell x) (by unfold maxLen; first | omega | (simp; omega)) (by first | omega | (simp; omega)) (by simp; omega) ?_; intro v2 w2 own2 gr2 _)
      have M2 := Lib.hid (put_more HO.out.dn (HK.out.drewN _) hB rfl own2 gr2)
      clear own2 gr2
      go_roundw
      case rel => exact ⟨k + 1, true, by omega, by go_num, rfl, Lib.hid (rel_next HX.out HS.out (by simp [putStep, c2]) M2.out.1 M2.out.2)⟩
      case measure => simp [RowKit.intOf]; omega
   ·obtain ⟨y0, y1, y2, y3, y4, y5, y6, y7, y8, y9⟩ := put_box HK.out
    cases d
    ·go_wp2_with (at_builtin; refine wpList_append_own _ rfl _ _ 22 rfl (w.heap.size + 1) 40 i0 (.agg #[.int .u32 0, .int .i32 0, .int .i32 0, .int .i32 0, .int .i32 0, .int .i32 0, .int .i32 0, .int .i32 0, .int .i32 0, .int .i32 0]) 10 40 Tryz.underlying22 HI.out hz0 hz1 hz2 rfl (by decide) _ _ _ rfl (HO.out.alloc _) ⟨_, 0, none⟩ 1 1 (vals b) rfl rfl (news_at _ _ (by first | rfl | simp) b _) (one_cell b) (by unfold maxLen; first | omega | (simp; omega)) (by first | omega | (simp; omega)) (by simp; omega) ?_; intro v1 w1 own1 gr1 _)
     have M1 := Lib.hid (put_more HO.out HK.out hB rfl own1 gr1)
     go_ret
     exact ⟨_, rfl, ⟨by rw [put_done HS.out (by rw [HN.out]; omega)]; exact own_lst M1.out.1, own_new M1.out.1⟩, (Kep.alloc (Kep.refl _ _) (Nat.le_refl _) _).trans (M1.out.2.mono (by omega))⟩
    ·go_wp2_with fail
     go_ret
     exact ⟨_, rfl, ⟨by rw [put_done HS.out (by rw [HN.out]; omega)]; exact own_lst HO.out, own_new HO.out⟩, (Kep.alloc (Kep.refl _ _) (Nat.le_refl _) _).trans (HK.out.mono (by omega))⟩
theorem Lst.shape {w : World} {v : Value} {L : List Bd} (h : Lst w v L) : ∃ base cap, v = .slice base L.length cap := by
 rcases h with ⟨rfl, base, cap, rfl⟩ | ⟨g, off, cap, rfl, _⟩
 ·exact ⟨base, cap, rfl⟩
 ·exact ⟨_, _, rfl⟩
theorem Lst.kep {w w' : World} {v : Value} {L : List Bd} (h : Lst w v L) (g : Kep w.heap.size w w') : Lst w' v L := by
 rcases h with h | ⟨b, o, c, h1, h2⟩
 ·exact .inl h
 ·refine .inr ⟨b, o, c, h1, fun k x hx i hi => ?_⟩
  have e := h2 k x hx i hi
  have n : i < (vals x).length := hi
  rw [List.getElem?_eq_getElem n] at e ⊢
  exact g.all e
def Gives (v : Value) (L : List Bd) (c : Int) (w : World) (e : Ending) (w' : World) : Prop := ∃ v', e = .returned (.tuple #[v', .int .i64 c]) ∧ Lst w' v' L ∧ Kep w.heap.size w w' ∧ (v' = v ∨ New w v' w')
theorem New.older {w a b : World} {v : Value} (h : New a v b) (g : w.heap.size ≤ a.heap.size) : New w v b := ⟨fun q e => ⟨Nat.le_trans g (h.1 q e).1, (h.1 q e).2⟩, h.2⟩
theorem place_none {L : List Bd} {key : Int} (h : look L key = none) : place L key 0 = -1 := (place_eq L key 0).1 h
theorem place_some {L : List Bd} {key : Int} (h : look L key ≠ none) : 0 ≤ place L key 0 := by
 cases e : look L key with
 | none => exact absurd e h
 | some b => obtain ⟨j, hj, _⟩ := (place_eq L key 0).2 b e; rw [hj]; omega
def bare (key : Int) : Bd := ⟨key, 0, 0, 0, 0, 0, 0, 0, 0, 0⟩
def removeL (L : List Bd) (key : Int) : List Bd := if look L key = none then L else put L (bare key) true
def removeE (L : List Bd) (key : Int) : Int := if look L key = none then 11 else 0

def chkB (b : Bd) : Int := chk b.r b.ax b.ay b.m b.o b.px b.py b.vx b.vy
def addL (L : List Bd) (b : Bd) : List Bd := if chkB b ≠ 0 then L else if look L b.k ≠ none then L else if 4096 ≤ L.length then L else put L b false
def addE (L : List Bd) (b : Bd) : Int := if chkB b ≠ 0 then chkB b else if look L b.k ≠ none then 10 else if 4096 ≤ L.length then 12 else 0
def setL (L : List Bd) (b : Bd) : List Bd := if chkB b ≠ 0 then L else if look L b.k = none then L else put L b false
def setE (L : List Bd) (b : Bd) : Int := if chkB b ≠ 0 then chkB b else if look L b.k = none then 11 else 0
abbrev Rckb (b : Bd) (c : Int) : Prop := Rck b.k b.r b.ax b.ay b.m b.o b.px b.py b.vx b.vy c
theorem rckb {b : Bd} {c : Int} (h : chkB b = c) : Rckb b c := rck b.k b.r b.ax b.ay b.m b.o b.px b.py b.vx b.vy c h

theorem radd_bad (base : Option Addr) (cap : Nat) (L L' : List Bd) (b : Bd) (c p : Int) (n : Nat) (w : World) (_hm : (n : Int) ≤ 1000000000) (Ck : Hid (Rckb b c)) (he : (c != 0) = true)
 (_C1 : Hid (∀ w', Kep w.heap.size w w' → Calls Tryz.prog 31 #[.slice base n cap, .int .u32 b.k] w' fun e w'' => e = .returned (.int .i64 p) ∧ w' = w''))
 (_C2 : Hid (∀ w', Kep w.heap.size w w' → Calls Tryz.prog 71 #[.slice base n cap, .agg #[.int .u32 b.k, .int .i32 b.r, .int .i32 b.ax, .int .i32 b.ay, .int .i32 b.m, .int .i32 b.o, .int .i32 b.px, .int .i32 b.py, .int .i32 b.vx, .int .i32 b.vy], .bool false] w' fun e w'' => ∃ v', e = .returned v' ∧ (Lst w'' v' L' ∧ New w' v' w'') ∧ Kep w'.heap.size w' w''))
 (H : Hid (∀ w', Kep w.heap.size w w' → Lst w' (.slice base n cap) L)) :
 Calls Tryz.prog 49 #[.slice base n cap, .agg #[.int .u32 b.k, .int .i32 b.r, .int .i32 b.ax, .int .i32 b.ay, .int .i32 b.m, .int .i32 b.o, .int .i32 b.px, .int .i32 b.py, .int .i32 b.vx, .int .i32 b.vy]] w (Gives (.slice base n cap) L c w) := by
 go_enter Tryz.func49, Tryz.ntmps49
 go_wp2_with (first
  | ((with_reducible refine (Ck.out _).mono ?_); rintro e w2 ⟨rfl, g2⟩
     have Zb := zK (Kep.of_grown g2) (b := w.heap.size) (vs := [.int .u32 b.k, .int .i32 b.r, .int .i32 b.ax, .int .i32 b.ay, .int .i32 b.m, .int .i32 b.o, .int .i32 b.px, .int .i32 b.py, .int .i32 b.vx, .int .i32 b.vy])
     have kk : Kep w.heap.size w w2 := Kep.of_grown (grown_trans ((Grown.refl w).alloc _ _) g2)))
 go_ret2
 exact ⟨_, rfl, H.out w2 kk, kk, .inl rfl⟩

theorem radd_dup (base : Option Addr) (cap : Nat) (L L' : List Bd) (b : Bd) (c p : Int) (n : Nat) (w : World) (_hm : (n : Int) ≤ 1000000000) (Ck : Hid (Rckb b 0)) (hp : 0 ≤ p) (hc' : c = 10)
 (C1 : Hid (∀ w', Kep w.heap.size w w' → Calls Tryz.prog 31 #[.slice base n cap, .int .u32 b.k] w' fun e w'' => e = .returned (.int .i64 p) ∧ w' = w''))
 (_C2 : Hid (∀ w', Kep w.heap.size w w' → Calls Tryz.prog 71 #[.slice base n cap, .agg #[.int .u32 b.k, .int .i32 b.r, .int .i32 b.ax, .int .i32 b.ay, .int .i32 b.m, .int .i32 b.o, .int .i32 b.px, .int .i32 b.py, .int .i32 b.vx, .int .i32 b.vy], .bool false] w' fun e w'' => ∃ v', e = .returned v' ∧ (Lst w'' v' L' ∧ New w' v' w'') ∧ Kep w'.heap.size w' w''))
 (H : Hid (∀ w', Kep w.heap.size w w' → Lst w' (.slice base n cap) L)) :
 Calls Tryz.prog 49 #[.slice base n cap, .agg #[.int .u32 b.k, .int .i32 b.r, .int .i32 b.ax, .int .i32 b.ay, .int .i32 b.m, .int .i32 b.o, .int .i32 b.px, .int .i32 b.py, .int .i32 b.vx, .int .i32 b.vy]] w (Gives (.slice base n cap) L c w) := by
 subst hc'
 go_enter Tryz.func49, Tryz.ntmps49
 go_wp2_with (first
  | ((with_reducible refine (Ck.out _).mono ?_); rintro e w2 ⟨rfl, g2⟩
     have Zb := zK (Kep.of_grown g2) (b := w.heap.size) (vs := [.int .u32 b.k, .int .i32 b.r, .int .i32 b.ax, .int .i32 b.ay, .int .i32 b.m, .int .i32 b.o, .int .i32 b.px, .int .i32 b.py, .int .i32 b.vx, .int .i32 b.vy])
     have kk : Kep w.heap.size w w2 := Kep.of_grown (grown_trans ((Grown.refl w).alloc _ _) g2))
  | (refine (C1.out w2 kk).mono ?_; rintro e w' ⟨rfl, rfl⟩))
 go_ret2
 exact ⟨_, rfl, H.out w2 kk, kk, .inl rfl⟩

theorem radd_full (base : Option Addr) (cap : Nat) (L L' : List Bd) (b : Bd) (c p : Int) (n : Nat) (w : World) (_hm : (n : Int) ≤ 1000000000) (Ck : Hid (Rckb b 0)) (hp : p < 0) (hn : 4096 ≤ (n : Int)) (hc' : c = 12)
 (C1 : Hid (∀ w', Kep w.heap.size w w' → Calls Tryz.prog 31 #[.slice base n cap, .int .u32 b.k] w' fun e w'' => e = .returned (.int .i64 p) ∧ w' = w''))
 (_C2 : Hid (∀ w', Kep w.heap.size w w' → Calls Tryz.prog 71 #[.slice base n cap, .agg #[.int .u32 b.k, .int .i32 b.r, .int .i32 b.ax, .int .i32 b.ay, .int .i32 b.m, .int .i32 b.o, .int .i32 b.px, .int .i32 b.py, .int .i32 b.vx, .int .i32 b.vy], .bool false] w' fun e w'' => ∃ v', e = .returned v' ∧ (Lst w'' v' L' ∧ New w' v' w'') ∧ Kep w'.heap.size w' w''))
 (H : Hid (∀ w', Kep w.heap.size w w' → Lst w' (.slice base n cap) L)) :
 Calls Tryz.prog 49 #[.slice base n cap, .agg #[.int .u32 b.k, .int .i32 b.r, .int .i32 b.ax, .int .i32 b.ay, .int .i32 b.m, .int .i32 b.o, .int .i32 b.px, .int .i32 b.py, .int .i32 b.vx, .int .i32 b.vy]] w (Gives (.slice base n cap) L c w) := by
 subst hc'
 go_enter Tryz.func49, Tryz.ntmps49
 go_wp2_with (first
  | ((with_reducible refine (Ck.out _).mono ?_); rintro e w2 ⟨rfl, g2⟩
     have Zb := zK (Kep.of_grown g2) (b := w.heap.size) (vs := [.int .u32 b.k, .int .i32 b.r, .int .i32 b.ax, .int .i32 b.ay, .int .i32 b.m, .int .i32 b.o, .int .i32 b.px, .int .i32 b.py, .int .i32 b.vx, .int .i32 b.vy])
     have kk : Kep w.heap.size w w2 := Kep.of_grown (grown_trans ((Grown.refl w).alloc _ _) g2))
  | (refine (C1.out w2 kk).mono ?_; rintro e w' ⟨rfl, rfl⟩))
 go_ret2
 exact ⟨_, rfl, H.out w2 kk, kk, .inl rfl⟩

theorem radd_ok (base : Option Addr) (cap : Nat) (L L' : List Bd) (b : Bd) (c p : Int) (n : Nat) (w : World) (hm : (n : Int) ≤ 1000000000) (Ck : Hid (Rckb b 0)) (hp : p < 0) (hn : (n : Int) < 4096) (hc' : c = 0)
 (C1 : Hid (∀ w', Kep w.heap.size w w' → Calls Tryz.prog 31 #[.slice base n cap, .int .u32 b.k] w' fun e w'' => e = .returned (.int .i64 p) ∧ w' = w''))
 (C2 : Hid (∀ w', Kep w.heap.size w w' → Calls Tryz.prog 71 #[.slice base n cap, .agg #[.int .u32 b.k, .int .i32 b.r, .int .i32 b.ax, .int .i32 b.ay, .int .i32 b.m, .int .i32 b.o, .int .i32 b.px, .int .i32 b.py, .int .i32 b.vx, .int .i32 b.vy], .bool false] w' fun e w'' => ∃ v', e = .returned v' ∧ (Lst w'' v' L' ∧ New w' v' w'') ∧ Kep w'.heap.size w' w''))
 (_H : Hid (∀ w', Kep w.heap.size w w' → Lst w' (.slice base n cap) L)) :
 Calls Tryz.prog 49 #[.slice base n cap, .agg #[.int .u32 b.k, .int .i32 b.r, .int .i32 b.ax, .int .i32 b.ay, .int .i32 b.m, .int .i32 b.o, .int .i32 b.px, .int .i32 b.py, .int .i32 b.vx, .int .i32 b.vy]] w (Gives (.slice base n cap) L' c w) := by
 subst hc'
 go_enter Tryz.func49, Tryz.ntmps49
 go_wp2_with (first
  | ((with_reducible refine (Ck.out _).mono ?_); rintro e w2 ⟨rfl, g2⟩
     have Zb := zK (Kep.of_grown g2) (b := w.heap.size) (vs := [.int .u32 b.k, .int .i32 b.r, .int .i32 b.ax, .int .i32 b.ay, .int .i32 b.m, .int .i32 b.o, .int .i32 b.px, .int .i32 b.py, .int .i32 b.vx, .int .i32 b.vy])
     have kk : Kep w.heap.size w w2 := Kep.of_grown (grown_trans ((Grown.refl w).alloc _ _) g2))
  | (refine (C1.out w2 kk).mono ?_; rintro e w' ⟨rfl, rfl⟩)
  | (refine (C2.out w2 kk).mono ?_; rintro e w3 ⟨v', rfl, h1, h2⟩; replace h1 := Lib.hid h1; replace h2 := Lib.hid (kk.trans (h2.mono kk.size))))
 go_ret2
 exact ⟨_, rfl, h1.out.1, h2.out, .inr (h1.out.2.older kk.size)⟩

theorem radd_any (v : Value) (L : List Bd) (b : Bd) (w : World) (h : Lst w v L) (hm : L.length ≤ 1000000000) : Calls Tryz.prog 49 #[v, .agg #[.int .u32 b.k, .int .i32 b.r, .int .i32 b.ax, .int .i32 b.ay, .int .i32 b.m, .int .i32 b.o, .int .i32 b.px, .int .i32 b.py, .int .i32 b.vx, .int .i32 b.vy]] w (Gives v (addL L b) (addE L b) w) := by
 obtain ⟨base, cap, hv⟩ := h.shape
 have C1 := Lib.hid (fun w' (g : Kep w.heap.size w w') => by have := find_any v L b.k w' (h.kep g) hm; rw [hv] at this; exact this)
 have C2 := Lib.hid (fun w' (g : Kep w.heap.size w w') => by have := put_any v L b false w' (h.kep g) hm; rw [hv] at this; exact this)
 have H := Lib.hid (fun w' (g : Kep w.heap.size w w') => by have := h.kep g; rw [hv] at this; exact this)
 have hn : (L.length : Int) ≤ 1000000000 := by omega
 rw [hv]
 unfold addL addE
 by_cases c1 : chkB b ≠ 0
 ·rw [if_pos c1, if_pos c1]
  exact radd_bad base cap L _ b _ _ _ w hn (Lib.hid (rckb rfl)) (by rw [bne_iff_ne]; exact c1) C1 C2 H
 ·rw [if_neg c1, if_neg c1]
  have K := Lib.hid (rckb (Decidable.not_not.1 c1))
  by_cases c2 : look L b.k ≠ none
  ·rw [if_pos c2, if_pos c2]
   exact radd_dup base cap L _ b _ _ _ w hn K (place_some c2) rfl C1 C2 H
  ·rw [if_neg c2, if_neg c2]
   have hp : place L b.k 0 < 0 := by rw [place_none (Decidable.not_not.1 c2)]; decide
   by_cases c3 : 4096 ≤ L.length
   ·rw [if_pos c3, if_pos c3]
    exact radd_full base cap L _ b _ _ _ w hn K hp (by omega) rfl C1 C2 H
   ·rw [if_neg c3, if_neg c3]
    exact radd_ok base cap L _ b _ _ _ w hn K hp (by omega) rfl C1 C2 H
theorem body_neq (x : Bd) (w : World) : (binOp .neq 40 (.agg #[.int .u32 x.k, .int .i32 x.r, .int .i32 x.ax, .int .i32 x.ay, .int .i32 x.m, .int .i32 x.o, .int .i32 x.px, .int .i32 x.py, .int .i32 x.vx, .int .i32 x.vy]) (.agg #[.int .u32 x.k, .int .i32 x.r, .int .i32 x.ax, .int .i32 x.ay, .int .i32 x.m, .int .i32 x.o, .int .i32 x.px, .int .i32 x.py, .int .i32 x.vx, .int .i32 x.vy])).run Tryz.prog w = .ok (.bool false) w := by
 simp [go_sem]
theorem old_cells {w wr : World} {x : Bd} {g off k : Nat} (h : Kep w.heap.size w wr) (hc : ∀ i, i < 10 → w.cell? ⟨g, off + k * 10 + i, none⟩ = (vals x)[i]?) : wr.cell? ⟨g, off + k * 10, none⟩ = some (.int .u32 x.k) ∧ wr.cell? ⟨g, off + k * 10 + 1, none⟩ = some (.int .i32 x.r) ∧ wr.cell? ⟨g, off + k * 10 + 2, none⟩ = some (.int .i32 x.ax) ∧ wr.cell? ⟨g, off + k * 10 + 3, none⟩ = some (.int .i32 x.ay) ∧ wr.cell? ⟨g, off + k * 10 + 4, none⟩ = some (.int .i32 x.m) ∧ wr.cell? ⟨g, off + k * 10 + 5, none⟩ = some (.int .i32 x.o) ∧ wr.cell? ⟨g, off + k * 10 + 6, none⟩ = some (.int .i32 x.px) ∧ wr.cell? ⟨g, off + k * 10 + 7, none⟩ = some (.int .i32 x.py) ∧ wr.cell? ⟨g, off + k * 10 + 8, none⟩ = some (.int .i32 x.vx) ∧ wr.cell? ⟨g, off + k * 10 + 9, none⟩ = some (.int .i32 x.vy) :=
 have f : ∀ (i : Nat) (v : Value), i < 10 → (vals x)[i]? = some v → wr.cell? ⟨g, off + k * 10 + i, none⟩ = some v := fun i v hi hv => h.all ((hc i hi).trans hv)
 ⟨f 0 _ (by decide) rfl, f 1 _ (by decide) rfl, f 2 _ (by decide) rfl, f 3 _ (by decide) rfl, f 4 _ (by decide) rfl, f 5 _ (by decide) rfl, f 6 _ (by decide) rfl, f 7 _ (by decide) rfl, f 8 _ (by decide) rfl, f 9 _ (by decide) rfl⟩
theorem Lst.full {w : World} {v : Value} {L : List Bd} (h : Lst w v L) (hL : L ≠ []) : ∃ g off cap, v = .slice (some ⟨g, off, none⟩) L.length cap ∧ ∀ (k : Nat) (b : Bd), L[k]? = some b → ∀ i, i < 10 → w.cell? ⟨g, off + k * 10 + i, none⟩ = (vals b)[i]? := by
 rcases h with ⟨h, _⟩ | h
 ·exact absurd h hL
 ·exact h

theorem same_any (v1 v2 : Value) (L : List Bd) (w : World) (h1 : Lst w v1 L) (h2 : Lst w v2 L) (hm : L.length ≤ 1000000000) :
 Calls Tryz.prog 12 #[v1, v2] w fun e w' => e = .returned (.bool true) ∧ Kep w.heap.size w w' := by
 by_cases hL : L = []
 ·subst hL
  obtain ⟨b1, c1, rfl⟩ := h1.shape
  obtain ⟨b2, c2, rfl⟩ := h2.shape
  clear h1 h2 hm
  go_enter Tryz.func12, Tryz.ntmps12
  go_wp2
  refine wp_loop_rounds 1 ?_
  rw [rounds_succ]
  go_wp2
  go_ret
  exact ⟨rfl, Kep.refl _ _⟩
 ·obtain ⟨g, off, cap, rfl, hc⟩ := h1.full hL
  obtain ⟨g2, off2, cap2, rfl, hc2⟩ := h2.full hL
  have HC := Lib.hid hc
  have HC2 := Lib.hid hc2
  clear hc hc2 h1 h2 hL
  generalize hn : L.length = n at *
  have HN := Lib.hid hn
  clear hn
  go_enter Tryz.func12, Tryz.ntmps12
  go_wp2
  go_loopw [5] (fun i wr => ∃ k : Nat, k ≤ n ∧ i = .int .i64 k ∧ Hid (Kep w.heap.size w wr)) (fun i _ => n - (RowKit.intOf i).toNat)
  case atStart => exact ⟨0, Nat.zero_le _, rfl, Lib.hid (Kep.refl _ _)⟩
  case round =>
   obtain ⟨k, hk, rfl, HK⟩ := hrel
   by_cases hlt : k < n
   ·have hb : L[k]? = some (L[k]'(by rw [HN.out]; exact hlt)) := List.getElem?_eq_getElem _
    generalize L[k]'(by rw [HN.out]; exact hlt) = x at hb
    obtain ⟨x0, x1, x2, x3, x4, x5, x6, x7, x8, x9⟩ := old_cells HK.out (HC.out k x hb)
    obtain ⟨y0, y1, y2, y3, y4, y5, y6, y7, y8, y9⟩ := old_cells HK.out (HC2.out k x hb)
    have e := body_neq x
    clear hb
    go_wp2_with fail
    go_quiet (fail)
    go_wp2_with fail
    go_roundw
    case rel => exact ⟨k + 1, by omega, by go_num, Lib.hid (HK.out.drewN _)⟩
    case measure => simp [RowKit.intOf]; omega
   ·go_wp2
    go_ret
    exact ⟨rfl, HK.out⟩
def allL (l : List Bd) : List Bd := l.foldl addL []
theorem allL_snoc (l : List Bd) (x : Bd) : allL (l ++ [x]) = addL (allL l) x := by simp [allL]
theorem addL_asc {m : List Bd} (h : Asc m) (x : Bd) : Asc (addL m x) ∧ (addL m x).length ≤ m.length + 1 := by
 unfold addL
 split
 ·exact ⟨h, by omega⟩
 ·split
  ·exact ⟨h, by omega⟩
  ·split
   ·exact ⟨h, by omega⟩
   ·exact ⟨put_asc h x false, (put_len h x).2⟩
theorem allL_asc (l : List Bd) : Asc (allL l) ∧ (allL l).length ≤ l.length := by
 suffices h : ∀ (l m : List Bd) (n : Nat), Asc m → m.length ≤ n → Asc (l.foldl addL m) ∧ (l.foldl addL m).length ≤ n + l.length by
  have := h l [] 0 trivial (by simp)
  simpa [allL] using this
 intro l
 induction l with
 | nil => intro m n h1 h2; exact ⟨h1, by simpa using h2⟩
 | cons x l ih =>
   intro m n h1 h2
   have a := addL_asc h1 x
   have := ih (addL m x) (n + 1) a.1 (by omega)
   exact ⟨this.1, by have := this.2; simp only [List.foldl_cons, List.length_cons]; omega⟩
theorem allL_take {L : List Bd} {k : Nat} {x : Bd} (hx : L[k]? = some x) : allL (L.take (k + 1)) = addL (allL (L.take k)) x := by
 rw [List.take_add_one, hx]
 exact allL_snoc _ _

theorem all_any (v : Value) (L : List Bd) (w : World) (h : Lst w v L) (hm : L.length ≤ 1000000) :
 Calls Tryz.prog 35 #[v] w fun e w' => ∃ v', e = .returned v' ∧ (Lst w' v' (allL L) ∧ New w v' w') ∧ Kep w.heap.size w w' := by
 by_cases hL : L = []
 ·subst hL
  obtain ⟨b1, c1, rfl⟩ := h.shape
  clear h hm
  go_enter Tryz.func35, Tryz.ntmps35
  go_wp2
  refine wp_loop_rounds 1 ?_
  rw [rounds_succ]
  go_wp2
  go_ret
  exact ⟨_, rfl, ⟨.inl ⟨rfl, none, 0, rfl⟩, new_nil _ _⟩, Kep.refl _ _⟩
 ·obtain ⟨g, off, cap, rfl, hc⟩ := h.full hL
  have HC := Lib.hid hc
  clear hc h hL
  generalize hn : L.length = n at *
  have HN := Lib.hid hn
  clear hn
  go_enter Tryz.func35, Tryz.ntmps35
  go_wp2
  go_loopw [3, 4] (fun out i wr => ∃ k : Nat, k ≤ n ∧ i = .int .i64 k ∧ Hid ((Lst wr out (allL (L.take k)) ∧ New w out wr) ∧ Kep w.heap.size w wr)) (fun _ i _ => n - (RowKit.intOf i).toNat)
  case atStart => exact ⟨0, Nat.zero_le _, rfl, Lib.hid ⟨⟨.inl ⟨by simp [allL], none, 0, rfl⟩, new_nil _ _⟩, Kep.refl _ _⟩⟩
  case round =>
   obtain ⟨k, hk, rfl, HK⟩ := hrel
   by_cases hlt : k < n
   ·have hb : L[k]? = some (L[k]'(by rw [HN.out]; exact hlt)) := List.getElem?_eq_getElem _
    generalize L[k]'(by rw [HN.out]; exact hlt) = x at hb
    obtain ⟨x0, x1, x2, x3, x4, x5, x6, x7, x8, x9⟩ := old_cells HK.out.2 (HC.out k x hb)
    have C := Lib.hid (radd_any u3 (allL (L.take k)) x wr HK.out.1.1 (by have := (allL_asc (L.take k)).2; have := List.length_take_le k L; omega))
    have HX := Lib.hid (allL_take hb)
    clear hb
    go_wp2_with (refine (C.out).mono ?_; rintro e w1 ⟨v', rfl, h1, h2, h3⟩; replace h1 := Lib.hid h1; replace h2 := Lib.hid h2; replace h3 := Lib.hid h3)
    go_roundw
    case rel => exact ⟨k + 1, by omega, by go_num, Lib.hid ⟨⟨by rw [HX.out]; exact h1.out, by rcases h3.out with e | e; (· subst e; exact ⟨fun g q => ⟨(HK.out.1.2.1 g q).1, Nat.lt_of_lt_of_le (HK.out.1.2.1 g q).2 h2.out.size⟩, HK.out.1.2.2⟩); exact e.older HK.out.2.size⟩, HK.out.2.trans (h2.out.mono HK.out.2.size)⟩⟩
    case measure => simp [RowKit.intOf]; omega
   ·go_wp2
    go_ret
    exact ⟨_, rfl, ⟨by have := HK.out.1.1; rw [List.take_of_length_le (by rw [HN.out]; omega)] at this; exact this, HK.out.1.2⟩, HK.out.2⟩
theorem Lst.at_ {w : World} {base : Option Addr} {n cap k : Nat} {L : List Bd} {b : Bd} (h : Lst w (.slice base n cap) L) (hb : L[k]? = some b) : ∃ g off, base = some ⟨g, off, none⟩ ∧ ∀ i, i < 10 → w.cell? ⟨g, off + k * 10 + i, none⟩ = (vals b)[i]? := by
 rcases h with ⟨rfl, _⟩ | ⟨g, off, c, e, hc⟩
 ·simp at hb
 ·injection e with e1 e2 e3
  exact ⟨g, off, e1, hc k b hb⟩
def firstBad : List Bd → Int
 | [] => 0
 | x :: l => if chkB x ≠ 0 then chkB x else firstBad l
def eachE (L : List Bd) : Int := if 4096 < L.length then 12 else firstBad L
theorem bad_drop {L : List Bd} {k : Nat} {x : Bd} (h : L[k]? = some x) : firstBad (L.drop k) = if chkB x ≠ 0 then chkB x else firstBad (L.drop (k + 1)) := by
 obtain ⟨hk, e⟩ := List.getElem?_eq_some_iff.1 h
 rw [List.drop_eq_getElem_cons hk, e]
 rfl
theorem each_full (base : Option Addr) (cap n : Nat) (w : World) (hn : (4096 : Int) < (n : Int)) : Calls Tryz.prog 30 #[.slice base n cap] w fun e w' => e = .returned (.int .i64 12) ∧ w = w' := by
 go_enter Tryz.func30, Tryz.ntmps30
 go_wp2
 go_ret
 exact ⟨rfl, rfl⟩
theorem each_some (base : Option Addr) (cap : Nat) (L : List Bd) (w : World) (h : Lst w (.slice base L.length cap) L) (hl : L.length ≤ 4096) : Calls Tryz.prog 30 #[.slice base L.length cap] w fun e w' => e = .returned (.int .i64 (firstBad L)) ∧ Kep w.heap.size w w' := by
 obtain ⟨n, hn⟩ : ∃ n, n = L.length := ⟨_, rfl⟩
 have HN := Lib.hid hn.symm
 rw [← hn] at h hl ⊢
 have H := Lib.hid h
 have hl' : (n : Int) ≤ 4096 := by omega
 clear hn h hl
 go_enter Tryz.func30, Tryz.ntmps30
 go_wp2
 go_loopw [3] (fun i wr => ∃ k : Nat, k ≤ n ∧ i = .int .i64 k ∧ Hid (firstBad L = firstBad (L.drop k) ∧ Kep w.heap.size w wr)) (fun i _ => n - (RowKit.intOf i).toNat)
 case atStart => exact ⟨0, Nat.zero_le _, rfl, Lib.hid ⟨by simp, Kep.refl _ _⟩⟩
 case round =>
  obtain ⟨k, hk, rfl, HK⟩ := hrel
  by_cases hlt : k < n
  ·have hx : L[k]? = some (L[k]'(by rw [HN.out]; exact hlt)) := List.getElem?_eq_getElem _
   generalize L[k]'(by rw [HN.out]; exact hlt) = x at hx
   obtain ⟨g1, off1, hb1, hc1⟩ := Lst.at_ (H.out.kep HK.out.2) hx
   subst hb1
   obtain ⟨x0, x1, x2, x3, x4, x5, x6, x7, x8, x9⟩ := old_cells (Kep.refl _ _) hc1
   have HX := Lib.hid (bad_drop hx)
   clear hc1 hx
   obtain ⟨c, hc⟩ : ∃ c, c = chkB x := ⟨_, rfl⟩
   have CK := Lib.hid (rckb hc.symm)
   have HC := Lib.hid hc.symm
   clear hc
   by_cases c0 : c = 0
   ·subst c0
    go_wp2_with ((with_reducible refine (CK.out _).mono ?_); rintro e w2 ⟨rfl, g2⟩; have K2 := Lib.hid (HK.out.2.trans ((Kep.of_grown g2).mono HK.out.2.size)))
    go_roundw
    case rel => exact ⟨k + 1, by omega, by go_num, Lib.hid ⟨by rw [HK.out.1, HX.out, if_neg (fun q => q HC.out)], K2.out⟩⟩
    case measure => simp [RowKit.intOf]; omega
   ·have c1 : (c != 0) = true := bne_iff_ne.2 c0
    go_wp2_with ((with_reducible refine (CK.out _).mono ?_); rintro e w2 ⟨rfl, g2⟩; have K2 := Lib.hid (HK.out.2.trans ((Kep.of_grown g2).mono HK.out.2.size)))
    go_ret
    exact ⟨ret_int64 (by rw [HK.out.1, HX.out, HC.out, if_pos c0]), K2.out⟩
  ·go_wp2
   go_ret
   exact ⟨ret_int64 (by rw [HK.out.1, List.drop_eq_nil_of_le (by rw [HN.out]; omega)]; rfl), HK.out.2⟩
theorem each_any (v : Value) (L : List Bd) (w : World) (h : Lst w v L) : Calls Tryz.prog 30 #[v] w fun e w' => e = .returned (.int .i64 (eachE L)) ∧ Kep w.heap.size w w' := by
 obtain ⟨base, cap, rfl⟩ := h.shape
 unfold eachE
 by_cases c : 4096 < L.length
 ·rw [if_pos c]
  exact (each_full base cap L.length w (by omega)).mono fun e w' ⟨h1, h2⟩ => ⟨h1, h2 ▸ Kep.refl _ _⟩
 ·rw [if_neg c]; exact each_some base cap L w h (by omega)

def Ups (L : List Bd) (k : Nat) : Prop := ∀ (j : Nat) (x y : Bd), j < k → L[j]? = some x → L[j + 1]? = some y → x.k < y.k
def decAsc : (L : List Bd) → Decidable (Asc L)
 | [] => .isTrue trivial
 | x :: l =>
   haveI := decAsc l
   inferInstanceAs (Decidable ((∀ y ∈ l, x.k < y.k) ∧ Asc l))
instance (L : List Bd) : Decidable (Asc L) := decAsc L
def vchkE (L : List Bd) : Int := if eachE L ≠ 0 then eachE L else if Asc L then 0 else 10
theorem asc_of_ups {L : List Bd} (h : ∀ (j : Nat) (x y : Bd), L[j]? = some x → L[j + 1]? = some y → x.k < y.k) : Asc L := by
 induction L with
 | nil => trivial
 | cons x l ih =>
   have ha : Asc l := ih fun j a b ha hb => h (j + 1) a b (by simpa using ha) (by simpa using hb)
   refine ⟨?_, ha⟩
   cases l with
   | nil => intro y hy; simp at hy
   | cons z l =>
     have hz := h 0 x z rfl rfl
     intro y hy
     rcases List.mem_cons.1 hy with rfl | hy
     ·exact hz
     ·have := ha.1 y hy; omega
theorem ups_of_asc : ∀ {L : List Bd}, Asc L → ∀ (j : Nat) (x y : Bd), L[j]? = some x → L[j + 1]? = some y → x.k < y.k
 | [], _, _, _, _, h, _ => by simp at h
 | a :: l, ⟨h1, h2⟩, 0, x, y, hx, hy => by
   simp at hx
   subst hx
   exact h1 y (List.mem_of_getElem? (i := 0) (by simpa using hy))
 | a :: l, ⟨h1, h2⟩, j + 1, x, y, hx, hy => ups_of_asc h2 j x y (by simpa using hx) (by simpa using hy)
theorem vcheck_some (base : Option Addr) (cap : Nat) (L : List Bd) (w : World) (h : Lst w (.slice base L.length cap) L) (hl : L.length ≤ 1000000) (he : eachE L = 0) (z : Int) (hz : z = if Asc L then 0 else 10) : Calls Tryz.prog 14 #[.slice base L.length cap] w fun e w' => e = .returned (.int .i64 z) ∧ Kep w.heap.size w w' := by
 have HZ := Lib.hid hz
 clear hz
 have C := Lib.hid (by have := each_any _ L w h; rw [he] at this; exact this)
 obtain ⟨n, hn⟩ : ∃ n, n = L.length := ⟨_, rfl⟩
 have HN := Lib.hid hn.symm
 rw [← hn] at h hl C ⊢
 have H := Lib.hid h
 have hl' : (n : Int) ≤ 1000000 := by omega
 clear hn h hl he
 go_enter Tryz.func14, Tryz.ntmps14
 go_wp2_with ((with_reducible refine (C.out).mono ?_); rintro e w2 ⟨rfl, k2⟩; have K2 := Lib.hid k2; clear k2)
 go_loopw [4] (fun i wr => ∃ k : Nat, k ≤ n ∧ i = .int .i64 k ∧ Hid (Ups L k ∧ Kep w.heap.size w wr)) (fun i _ => n - (RowKit.intOf i).toNat)
 case atStart => exact ⟨0, Nat.zero_le _, rfl, Lib.hid ⟨fun j x y hj => by omega, K2.out⟩⟩
 case round =>
  obtain ⟨k, hk, rfl, HK⟩ := hrel
  by_cases hlt : k + 1 < n
  ·have hlt' : (k : Int) + 1 < (n : Int) := by omega
   have hx : L[k]? = some (L[k]'(by rw [HN.out]; omega)) := List.getElem?_eq_getElem _
   generalize L[k]'(by rw [HN.out]; omega) = x at hx
   have hy : L[k + 1]? = some (L[k + 1]'(by rw [HN.out]; exact hlt)) := List.getElem?_eq_getElem _
   generalize L[k + 1]'(by rw [HN.out]; exact hlt) = y at hy
   obtain ⟨g1, off1, hb1, hc1⟩ := Lst.at_ (H.out.kep HK.out.2) hx
   obtain ⟨g2, off2, hb2, hc2⟩ := Lst.at_ (H.out.kep HK.out.2) hy
   subst hb1
   cases hb2
   have x0 : wr.cell? ⟨g1, off1 + k * 10, none⟩ = some (.int .u32 x.k) := hc1 0 (by omega)
   have y0 : wr.cell? ⟨g1, off1 + (k + 1) * 10, none⟩ = some (.int .u32 y.k) := hc2 0 (by omega)
   have HXY := Lib.hid (And.intro hx hy)
   obtain ⟨xk, hxk⟩ : ∃ z, z = x.k := ⟨_, rfl⟩
   obtain ⟨yk, hyk⟩ : ∃ z, z = y.k := ⟨_, rfl⟩
   rw [← hxk] at x0
   rw [← hyk] at y0
   have HE := Lib.hid (And.intro hxk hyk)
   have i0 : (0 : Int) ≤ (k : Int) := Int.natCast_nonneg _
   have i1 : (k : Int) < (n : Int) := by omega
   clear hc1 hc2 hx hy hxk hyk
   by_cases c : yk ≤ xk
   ·go_wp2_with fail
    go_quiet (fail)
    go_wp2
    go_ret
    refine ⟨ret_int64 ?_, HK.out.2.drewN _⟩
    rw [HZ.out, if_neg (fun a => ?_)]
    have := ups_of_asc a k x y HXY.out.1 HXY.out.2
    rw [← HE.out.1, ← HE.out.2] at this
    omega
   ·go_wp2_with fail
    go_quiet (fail)
    go_wp2_with fail
    go_roundw
    case rel => exact ⟨k + 1, by omega, by go_num, Lib.hid ⟨fun j a b hj ha hb => by
     by_cases z : j = k
     ·subst z
      have q1 := HXY.out.1
      have q2 := HXY.out.2
      rw [ha] at q1
      rw [hb] at q2
      cases q1
      cases q2
      rw [← HE.out.1, ← HE.out.2]; omega
     ·exact HK.out.1 j a b (by omega) ha hb, HK.out.2.drewN _⟩⟩
    case measure => simp [RowKit.intOf]; omega
  ·have hlt' : (n : Int) ≤ (k : Int) + 1 := by omega
   go_wp2
   go_ret
   exact ⟨ret_int64 (by rw [HZ.out, if_pos (asc_of_ups fun j x y hx hy => HK.out.1 j x y (by have := (List.getElem?_eq_some_iff.1 hy).1; rw [HN.out] at this; omega) hx hy)]), HK.out.2⟩
theorem vcheck_bad (base : Option Addr) (cap : Nat) (L : List Bd) (w : World) (h : Lst w (.slice base L.length cap) L) (c : Int) (he : eachE L = c) (h0 : c ≠ 0) : Calls Tryz.prog 14 #[.slice base L.length cap] w fun e w' => e = .returned (.int .i64 c) ∧ Kep w.heap.size w w' := by
 have C := Lib.hid (by have := each_any _ L w h; rw [he] at this; exact this)
 have c1 : (c != 0) = true := bne_iff_ne.2 h0
 clear he h
 go_enter Tryz.func14, Tryz.ntmps14
 go_wp2_with ((with_reducible refine (C.out).mono ?_); rintro e w2 ⟨rfl, k2⟩; have K2 := Lib.hid k2; clear k2)
 go_ret
 exact ⟨rfl, K2.out⟩
theorem vcheck_any (v : Value) (L : List Bd) (w : World) (h : Lst w v L) (hl : L.length ≤ 1000000) : Calls Tryz.prog 14 #[v] w fun e w' => e = .returned (.int .i64 (vchkE L)) ∧ Kep w.heap.size w w' := by
 obtain ⟨base, cap, rfl⟩ := h.shape
 unfold vchkE
 by_cases c : eachE L = 0
 ·have d : ¬ (eachE L ≠ 0) := fun q => q c
  rw [if_neg d]; exact vcheck_some base cap L w h hl c _ rfl
 ·rw [if_pos c]; exact vcheck_bad base cap L w h _ rfl c

def sortE (L : List Bd) : Int := if eachE L ≠ 0 then eachE L else if (allL L).length < L.length then 10 else 0
def sortL (L : List Bd) : List Bd := if eachE L ≠ 0 then [] else if (allL L).length < L.length then [] else allL L
theorem rsort_bad (base : Option Addr) (cap : Nat) (L : List Bd) (w : World) (h : Lst w (.slice base L.length cap) L) (c : Int) (he : eachE L = c) (h0 : c ≠ 0) : Calls Tryz.prog 19 #[.slice base L.length cap] w fun e w' => e = .returned (.tuple #[.slice none 0 0, .int .i64 c]) ∧ Kep w.heap.size w w' := by
 have C := Lib.hid (by have := each_any _ L w h; rw [he] at this; exact this)
 have c1 : (c != 0) = true := bne_iff_ne.2 h0
 clear he h
 go_enter Tryz.func19, Tryz.ntmps19
 go_wp2_with ((with_reducible refine (C.out).mono ?_); rintro e w2 ⟨rfl, k2⟩; have K2 := Lib.hid k2; clear k2)
 go_ret2
 exact ⟨rfl, K2.out⟩
theorem rsort_ok (base : Option Addr) (cap : Nat) (L : List Bd) (w : World) (h : Lst w (.slice base L.length cap) L) (hl : L.length ≤ 1000000) (he : eachE L = 0) : Calls Tryz.prog 19 #[.slice base L.length cap] w fun e w' => ∃ v', e = .returned (.tuple #[v', .int .i64 (if (allL L).length < L.length then 10 else 0)]) ∧ (Lst w' v' (if (allL L).length < L.length then [] else allL L) ∧ New w v' w') ∧ Kep w.heap.size w w' := by
 have C := Lib.hid (by have := each_any _ L w h; rw [he] at this; exact this)
 have CA := Lib.hid (fun w' (g : Kep w.heap.size w w') => all_any _ L w' (h.kep g) hl)
 obtain ⟨n, hn⟩ : ∃ n, n = L.length := ⟨_, rfl⟩
 obtain ⟨q, hq⟩ : ∃ q, q = (allL L).length := ⟨_, rfl⟩
 rw [← hn] at h hl C CA ⊢
 rw [← hq]
 have HQ := Lib.hid hq.symm
 by_cases c : q < n
 ·rw [if_pos c, if_pos c]
  have c1 : (q : Int) < (n : Int) := by omega
  clear hn hq h hl he
  go_enter Tryz.func19, Tryz.ntmps19
  go_wp2_with (first
   | ((with_reducible refine (C.out).mono ?_); rintro e w2 ⟨rfl, k2⟩; have K2 := Lib.hid k2; clear k2)
   | ((with_reducible refine (CA.out _ K2.out).mono ?_); rintro e w3 ⟨v3, rfl, ⟨l3, n3⟩, k3⟩; obtain ⟨base3, cap3, hv3⟩ := l3.shape; rw [HQ.out] at hv3; subst hv3; have K3 := Lib.hid k3; clear l3 n3 k3))
  go_ret2
  exact ⟨_, rfl, ⟨.inl ⟨rfl, none, 0, rfl⟩, new_nil _ _⟩, K2.out.trans (K3.out.mono K2.out.size)⟩
 ·rw [if_neg c, if_neg c]
  have c1 : (n : Int) ≤ (q : Int) := by omega
  clear hn hq h hl he
  go_enter Tryz.func19, Tryz.ntmps19
  go_wp2_with (first
   | ((with_reducible refine (C.out).mono ?_); rintro e w2 ⟨rfl, k2⟩; have K2 := Lib.hid k2; clear k2)
   | ((with_reducible refine (CA.out _ K2.out).mono ?_); rintro e w3 ⟨v3, rfl, ⟨l3, n3⟩, k3⟩; obtain ⟨base3, cap3, hv3⟩ := l3.shape; rw [HQ.out] at hv3; subst hv3; have L3 := Lib.hid l3; have N3 := Lib.hid n3; have K3 := Lib.hid k3; clear l3 n3 k3))
  go_ret2
  exact ⟨_, rfl, ⟨L3.out, N3.out.older K2.out.size⟩, K2.out.trans (K3.out.mono K2.out.size)⟩
theorem rsort_any (v : Value) (L : List Bd) (w : World) (h : Lst w v L) (hl : L.length ≤ 1000000) : Calls Tryz.prog 19 #[v] w fun e w' => ∃ v', e = .returned (.tuple #[v', .int .i64 (sortE L)]) ∧ (Lst w' v' (sortL L) ∧ New w v' w') ∧ Kep w.heap.size w w' := by
 obtain ⟨base, cap, rfl⟩ := h.shape
 unfold sortE sortL
 by_cases c : eachE L = 0
 ·have d : ¬ (eachE L ≠ 0) := fun q => q c
  rw [if_neg d, if_neg d]; exact rsort_ok base cap L w h hl c
 ·rw [if_pos c, if_pos c]
  exact (rsort_bad base cap L w h _ rfl c).mono fun e w' ⟨h1, h2⟩ => ⟨_, h1, ⟨.inl ⟨rfl, none, 0, rfl⟩, new_nil _ _⟩, h2⟩
theorem ret_b {a b : Bool} (h : a = b) : Ending.returned (.bool a) = .returned (.bool b) := by rw [h]
def KLst (w : World) (v : Value) (K : List Int) : Prop := (K = [] ∧ ∃ base cap, v = .slice base 0 cap) ∨
 ∃ g off cap, v = .slice (some ⟨g, off, none⟩) K.length cap ∧ ∀ (k : Nat) (x : Int), K[k]? = some x → w.cell? ⟨g, off + k, none⟩ = some (.int .u32 x)
theorem KLst.shape {w : World} {v : Value} {K : List Int} (h : KLst w v K) : ∃ base cap, v = .slice base K.length cap := by
 rcases h with ⟨rfl, base, cap, rfl⟩ | ⟨g, off, cap, rfl, _⟩
 ·exact ⟨base, cap, rfl⟩
 ·exact ⟨_, cap, rfl⟩
theorem KLst.kep {w w' : World} {v : Value} {K : List Int} (h : KLst w v K) (g : Kep w.heap.size w w') : KLst w' v K := by
 rcases h with h | ⟨b, off, cap, rfl, hc⟩
 ·exact .inl h
 ·exact .inr ⟨b, off, cap, rfl, fun k x hx => g.all (hc k x hx)⟩
theorem KLst.at_ {w : World} {base : Option Addr} {n cap k : Nat} {K : List Int} {x : Int} (h : KLst w (.slice base n cap) K) (hx : K[k]? = some x) : ∃ g off, base = some ⟨g, off, none⟩ ∧ w.cell? ⟨g, off + k, none⟩ = some (.int .u32 x) := by
 rcases h with ⟨rfl, _⟩ | ⟨g, off, c, e, hc⟩
 ·simp at hx
 ·injection e with e1 e2 e3
  exact ⟨g, off, e1, hc k x hx⟩

structure Ch where
 add : List Int
 rem : List Int
 chg : List Int
deriving DecidableEq
def CLst (w : World) (v : Value) (c : Ch) : Prop := ∃ v0 v1 v2, v = .agg #[v0, v1, v2] ∧ KLst w v0 c.add ∧ KLst w v1 c.rem ∧ KLst w v2 c.chg
theorem CLst.kep {w w' : World} {v : Value} {c : Ch} (h : CLst w v c) (g : Kep w.heap.size w w') : CLst w' v c := by
 obtain ⟨v0, v1, v2, rfl, h0, h1, h2⟩ := h
 exact ⟨v0, v1, v2, rfl, h0.kep g, h1.kep g, h2.kep g⟩
theorem box_fst {w : World} {x0 x1 x2 : Value} {t : TypeId} {o : Obj} : ((w.alloc (.cells #[x0, x1, x2] t)).alloc o).cell? ⟨w.heap.size, 1, none⟩ = some x1 ∧ ((w.alloc (.cells #[x0, x1, x2] t)).alloc o).cell? ⟨w.heap.size, 2, none⟩ = some x2 := by
 constructor <;> (rw [World.cell?_alloc_past _ _ _ (by simp), World.cell?_alloc_at _ _ _ _ rfl]; rfl)
theorem box_snd {w : World} {x0 x1 x2 : Value} {t : TypeId} {o : Obj} : ((w.alloc o).alloc (.cells #[x0, x1, x2] t)).cell? ⟨w.heap.size + 1, 1, none⟩ = some x1 ∧ ((w.alloc o).alloc (.cells #[x0, x1, x2] t)).cell? ⟨w.heap.size + 1, 2, none⟩ = some x2 := by
 constructor <;> (rw [World.cell?_alloc_at _ _ _ _ (by simp)]; rfl)
theorem ch_eq {a b : Ch} : a = b ↔ a.add = b.add ∧ a.rem = b.rem ∧ a.chg = b.chg := by
 cases a; cases b; simp
theorem bd_ext {x y : Bd} (h0 : x.k = y.k) (h1 : x.r = y.r) (h2 : x.ax = y.ax) (h3 : x.ay = y.ay) (h4 : x.m = y.m) (h5 : x.o = y.o) (h6 : x.px = y.px) (h7 : x.py = y.py) (h8 : x.vx = y.vx) (h9 : x.vy = y.vy) : x = y := by
 cases x; cases y; simp_all
def eqB (x y : Bd) : Bool := x.k == y.k && (x.r == y.r && (x.ax == y.ax && (x.ay == y.ay && (x.m == y.m && (x.o == y.o && (x.px == y.px && (x.py == y.py && (x.vx == y.vx && x.vy == y.vy))))))))
theorem eqB_iff {x y : Bd} : eqB x y = true ↔ x = y := by
 constructor
 ·intro h
  simp only [eqB, Bool.and_eq_true, beq_iff_eq] at h
  obtain ⟨h0, h1, h2, h3, h4, h5, h6, h7, h8, h9⟩ := h
  exact bd_ext h0 h1 h2 h3 h4 h5 h6 h7 h8 h9
 ·rintro rfl
  simp [eqB]
theorem eqB_no {x y : Bd} (h : x ≠ y) : eqB x y = false := by
 cases c : eqB x y with
 | false => rfl
 | true => exact absurd (eqB_iff.1 c) h
theorem cmp_ints (x0 x1 x2 x3 x4 x5 x6 x7 x8 x9 y0 y1 y2 y3 y4 y5 y6 y7 y8 y9 : Int) (w : World) : (binOp .neq 40 (.agg #[Value.int .u32 x0, Value.int .i32 x1, Value.int .i32 x2, Value.int .i32 x3, Value.int .i32 x4, Value.int .i32 x5, Value.int .i32 x6, Value.int .i32 x7, Value.int .i32 x8, Value.int .i32 x9]) (.agg #[Value.int .u32 y0, Value.int .i32 y1, Value.int .i32 y2, Value.int .i32 y3, Value.int .i32 y4, Value.int .i32 y5, Value.int .i32 y6, Value.int .i32 y7, Value.int .i32 y8, Value.int .i32 y9])).run Tryz.prog w = .ok (.bool (!(x0 == y0 && (x1 == y1 && (x2 == y2 && (x3 == y3 && (x4 == y4 && (x5 == y5 && (x6 == y6 && (x7 == y7 && (x8 == y8 && (x9 == y9)))))))))))) w := by
 by_cases e0 : x0 = y0
 rotate_left
 ·have f : (x0 == y0) = false := beq_eq_false_iff_ne.2 e0
  simp [go_sem, f]
 subst e0
 by_cases e1 : x1 = y1
 rotate_left
 ·have f : (x1 == y1) = false := beq_eq_false_iff_ne.2 e1
  simp [go_sem, f]
 subst e1
 by_cases e2 : x2 = y2
 rotate_left
 ·have f : (x2 == y2) = false := beq_eq_false_iff_ne.2 e2
  simp [go_sem, f]
 subst e2
 by_cases e3 : x3 = y3
 rotate_left
 ·have f : (x3 == y3) = false := beq_eq_false_iff_ne.2 e3
  simp [go_sem, f]
 subst e3
 by_cases e4 : x4 = y4
 rotate_left
 ·have f : (x4 == y4) = false := beq_eq_false_iff_ne.2 e4
  simp [go_sem, f]
 subst e4
 by_cases e5 : x5 = y5
 rotate_left
 ·have f : (x5 == y5) = false := beq_eq_false_iff_ne.2 e5
  simp [go_sem, f]
 subst e5
 by_cases e6 : x6 = y6
 rotate_left
 ·have f : (x6 == y6) = false := beq_eq_false_iff_ne.2 e6
  simp [go_sem, f]
 subst e6
 by_cases e7 : x7 = y7
 rotate_left
 ·have f : (x7 == y7) = false := beq_eq_false_iff_ne.2 e7
  simp [go_sem, f]
 subst e7
 by_cases e8 : x8 = y8
 rotate_left
 ·have f : (x8 == y8) = false := beq_eq_false_iff_ne.2 e8
  simp [go_sem, f]
 subst e8
 by_cases e9 : x9 = y9
 rotate_left
 ·have f : (x9 == y9) = false := beq_eq_false_iff_ne.2 e9
  simp [go_sem, f]
 subst e9
 simp [go_sem]
theorem body_cmp (x y : Bd) (w : World) : (binOp .neq 40 (.agg #[Value.int .u32 x.k, Value.int .i32 x.r, Value.int .i32 x.ax, Value.int .i32 x.ay, Value.int .i32 x.m, Value.int .i32 x.o, Value.int .i32 x.px, Value.int .i32 x.py, Value.int .i32 x.vx, Value.int .i32 x.vy]) (.agg #[Value.int .u32 y.k, Value.int .i32 y.r, Value.int .i32 y.ax, Value.int .i32 y.ay, Value.int .i32 y.m, Value.int .i32 y.o, Value.int .i32 y.px, Value.int .i32 y.py, Value.int .i32 y.vx, Value.int .i32 y.vy])).run Tryz.prog w = .ok (.bool (!eqB x y)) w := cmp_ints _ _ _ _ _ _ _ _ _ _ _ _ _ _ _ _ _ _ _ _ w

theorem same_len (base1 base2 : Option Addr) (cap1 cap2 n1 n2 : Nat) (w : World) (hn : n1 ≠ n2) : Calls Tryz.prog 12 #[.slice base1 n1 cap1, .slice base2 n2 cap2] w fun e w' => e = .returned (.bool false) ∧ Kep w.heap.size w w' := by
 have e : ((n1 : Int) != (n2 : Int)) = true := bne_iff_ne.2 (by omega)
 go_enter Tryz.func12, Tryz.ntmps12
 go_wp2
 go_ret
 exact ⟨rfl, Kep.refl _ _⟩
theorem same_ne (v1 v2 : Value) (L M : List Bd) (w : World) (h1 : Lst w v1 L) (h2 : Lst w v2 M) (hm : L.length ≤ 1000000000) (hne : L ≠ M) :
 Calls Tryz.prog 12 #[v1, v2] w fun e w' => e = .returned (.bool false) ∧ Kep w.heap.size w w' := by
 obtain ⟨base1, cap1, rfl⟩ := h1.shape
 obtain ⟨base2, cap2, rfl⟩ := h2.shape
 by_cases hl : L.length = M.length
 ·have H1 := Lib.hid h1
  have H2 := Lib.hid h2
  have HE := Lib.hid hne
  clear h1 h2 hne
  obtain ⟨n, hn⟩ : ∃ n, n = L.length := ⟨_, rfl⟩
  rw [← hl] at H2 ⊢
  rw [← hn] at H1 H2 hm ⊢
  have HN := Lib.hid hn.symm
  have HM : Hid (M.length = n) := Lib.hid (by omega)
  clear hl hn
  go_enter Tryz.func12, Tryz.ntmps12
  go_wp2
  go_loopw [5] (fun i wr => ∃ k : Nat, k ≤ n ∧ i = .int .i64 k ∧ Hid ((∀ j, j < k → L[j]? = M[j]?) ∧ Kep w.heap.size w wr)) (fun i _ => n - (RowKit.intOf i).toNat)
  case atStart => exact ⟨0, Nat.zero_le _, rfl, Lib.hid ⟨fun j hj => by omega, Kep.refl _ _⟩⟩
  case round =>
   obtain ⟨k, hk, rfl, HK⟩ := hrel
   by_cases hlt : k < n
   ·have hx : L[k]? = some (L[k]'(by rw [HN.out]; exact hlt)) := List.getElem?_eq_getElem _
    generalize L[k]'(by rw [HN.out]; exact hlt) = x at hx
    have hy : M[k]? = some (M[k]'(by rw [HM.out]; exact hlt)) := List.getElem?_eq_getElem _
    generalize M[k]'(by rw [HM.out]; exact hlt) = y at hy
    obtain ⟨g1, off1, hb1, hc1⟩ := Lst.at_ (H1.out.kep HK.out.2) hx
    obtain ⟨g2, off2, hb2, hc2⟩ := Lst.at_ (H2.out.kep HK.out.2) hy
    subst hb1
    subst hb2
    obtain ⟨x0, x1, x2, x3, x4, x5, x6, x7, x8, x9⟩ := old_cells (Kep.refl _ _) hc1
    obtain ⟨y0, y1, y2, y3, y4, y5, y6, y7, y8, y9⟩ := old_cells (Kep.refl _ _) hc2
    have e := body_cmp x y
    have HXY := Lib.hid (And.intro hx hy)
    clear hc1 hc2 hx hy
    by_cases c : x = y
    ·have q : eqB x y = true := eqB_iff.2 c
     rw [q] at e
     go_wp2_with fail
     go_quiet (fail)
     go_wp2_with fail
     go_roundw
     case rel => exact ⟨k + 1, by omega, by go_num, Lib.hid ⟨fun j hj => by
      by_cases z : j = k
      ·subst z; rw [HXY.out.1, HXY.out.2, c]
      ·exact HK.out.1 j (by omega), HK.out.2.drewN _⟩⟩
     case measure => simp [RowKit.intOf]; omega
    ·have q : eqB x y = false := eqB_no c
     rw [q] at e
     go_wp2_with fail
     go_quiet (fail)
     go_wp2
     go_ret
     exact ⟨rfl, HK.out.2.drewN _⟩
   ·exfalso
    refine HE.out (List.ext_getElem? fun j => ?_)
    by_cases z : j < k
    ·exact HK.out.1 j z
    ·rw [List.getElem?_eq_none (by rw [HN.out]; omega), List.getElem?_eq_none (by rw [HM.out]; omega)]
 ·exact same_len base1 base2 cap1 cap2 _ _ w hl
def remL (L M : List Bd) : List Int := (L.filter fun x => (look M x.k).isNone).map (·.k)
def chgB (M : List Bd) (x : Bd) : Bool := match look M x.k with
 | none => false
 | some y => !eqB y x
def chgL (L M : List Bd) : List Int := (L.filter (chgB M)).map (·.k)
theorem chg_none {M : List Bd} {x : Bd} (h : look M x.k = none) : chgB M x = false := by simp [chgB, h]
theorem chg_some {M : List Bd} {x y : Bd} (h : look M x.k = some y) : chgB M x = !eqB y x := by simp [chgB, h]
def diffC (L M : List Bd) : Ch := ⟨remL M L, remL L M, chgL L M⟩
theorem remL_take {L M : List Bd} {k : Nat} {x : Bd} (hx : L[k]? = some x) : remL (L.take (k + 1)) M = remL (L.take k) M ++ if (look M x.k).isNone then [x.k] else [] := by
 rw [List.take_add_one, hx]
 unfold remL
 rw [List.filter_append, List.map_append]
 congr 1
 cases c : (look M x.k).isNone <;> simp [c]
theorem chgL_take {L M : List Bd} {k : Nat} {x : Bd} (hx : L[k]? = some x) : chgL (L.take (k + 1)) M = chgL (L.take k) M ++ if chgB M x then [x.k] else [] := by
 rw [List.take_add_one, hx]
 unfold chgL
 rw [List.filter_append, List.map_append]
 congr 1
 cases c : chgB M x <;> simp [c]
theorem remL_len (L M : List Bd) (k : Nat) : (remL (L.take k) M).length ≤ k := by
 unfold remL
 rw [List.length_map]
 exact Nat.le_trans (List.length_filter_le _ _) (List.length_take_le k L)
theorem chgL_len (L M : List Bd) (k : Nat) : (chgL (L.take k) M).length ≤ k := by
 unfold chgL
 rw [List.length_map]
 exact Nat.le_trans (List.length_filter_le _ _) (List.length_take_le k L)

def kvs (K : List Int) : List Value := K.map (Value.int .u32)
structure Tri (b : Nat) (w : World) (V : Nat → Value) (K : Nat → List Int) : Prop where
 cell : ∀ i, i < 3 → w.cell? ⟨b, i, none⟩ = some (V i)
 fr : ∀ i, w.frozen? ⟨b, i, none⟩ = false
 own : ∀ i, i < 3 → w.ownsRow (b + 1) 36 1 (V i) (K i).length (kvs (K i))
 apart : ∀ i j g, i < 3 → j < 3 → (V i).ownBlock = some g → (V j).ownBlock = some g → i = j
theorem Tri.lt {b : Nat} {w : World} {V : Nat → Value} {K : Nat → List Int} (h : Tri b w V K) : b < w.heap.size := World.block_lt_of_cell? _ _ (h.cell 0 (by decide))
theorem Tri.drewN {b : Nat} {w : World} {V : Nat → Value} {K : Nat → List Int} (h : Tri b w V K) (n : Nat) : Tri b (w.drewN n) V K := ⟨h.cell, h.fr, h.own, h.apart⟩
theorem Tri.grown {b : Nat} {w w' : World} {V : Nat → Value} {K : Nat → List Int} (h : Tri b w V K) (g : w.grownBy w' none) : Tri b w' V K :=
 ⟨fun i hi => g.cell (h.cell i hi) (by simp), fun i => (World.frozen?_of_block (g.block b h.lt (by simp))).trans (h.fr i), fun i hi => (h.own i hi).kept g (by
   cases e : (V i).ownBlock with
   | none => exact .inl rfl
   | some x => exact .inr (by simp)), h.apart⟩
def upd {α : Type} (f : Nat → α) (j : Nat) (x : α) (i : Nat) : α := if i = j then x else f i
theorem sc_by (w : World) (b o : Nat) (u : Value) : w.grownBy (w.setCell ⟨b, o, none⟩ u) (some b) := ⟨rfl, rfl, rfl, by simp, fun k _ hk => heap_setCell_other w ⟨b, o, none⟩ k u (fun e => hk (by simp [e]))⟩
theorem Tri.more {b : Nat} {w w4 : World} {V : Nat → Value} {K : Nat → List Int} (h : Tri b w V K) {j : Nat} (hj : j < 3) {x : Int} {g cap : Nat}
 (h4 : w4.ownsRow (b + 1) 36 1 (.slice (some ⟨g, 0, none⟩) ((K j).length + 1) cap) ((K j).length + 1) (kvs (K j) ++ [.int .u32 x])) (g4 : w.grownBy w4 (V j).ownBlock) (hat : (V j).ownBlock = some g ∨ w.heap.size ≤ g) :
 Tri b (w4.setCell ⟨b, j, none⟩ (.slice (some ⟨g, 0, none⟩) ((K j).length + 1) cap)) (upd V j (.slice (some ⟨g, 0, none⟩) ((K j).length + 1) cap)) (upd K j (K j ++ [x])) := by
 have hb : (V j).ownBlock ≠ some b := fun e => by have := ((h.own j hj).lt b e).1; omega
 have hc : ∀ i, i < 3 → w4.cell? ⟨b, i, none⟩ = some (V i) := fun i hi => g4.cell (h.cell i hi) (fun e => hb e.symm)
 have hbb : w4.heap[b]? = w.heap[b]? := g4.block b h.lt (fun e => hb e.symm)
 have gs := sc_by w4 b j (.slice (some ⟨g, 0, none⟩) ((K j).length + 1) cap)
 have hgb : g ≠ b := by
  rcases hat with e | e
  ·exact fun q => hb (by rw [e, q])
  ·have := h.lt; omega
 have hne : ∀ i, i < 3 → i ≠ j → (V i).ownBlock ≠ some g := fun i hi hij e => by
  rcases hat with q | q
  ·exact hij (h.apart i j g hi hj e q)
  ·have := ((h.own i hi).lt g e).2; omega
 refine ⟨fun i hi => ?_, fun i => ?_, fun i hi => ?_, fun i k x hi hk e1 e2 => ?_⟩
 ·unfold upd
  by_cases e : i = j
  ·subst e; rw [if_pos rfl]; exact World.cell?_setCell_same' _ _ _ (by rw [hc i hi]; rfl)
  ·rw [if_neg e, World.cell?_setCell_other (h := by simp)]; exact hc i hi
 ·exact (World.frozen?_setCell _ _ _ _).trans ((World.frozen?_of_block hbb).trans (h.fr i))
 ·unfold upd
  by_cases e : i = j
  ·subst e
   rw [if_pos rfl, if_pos rfl]
   have := h4.kept gs (.inr (by simpa [Value.ownBlock] using hgb))
   simpa [kvs] using this
  ·rw [if_neg e, if_neg e]
   refine ((h.own i hi).kept g4 ?_).kept gs ?_
   ·cases q : (V i).ownBlock with
    | none => exact .inl rfl
    | some y => exact .inr (fun r => e (h.apart i j y hi hj q r.symm))
   ·exact .inr (fun r => by have := ((h.own i hi).lt b r).1; omega)
 ·unfold upd at e1 e2
  by_cases c1 : i = j <;> by_cases c2 : k = j
  ·omega
  ·rw [if_pos c1] at e1
   rw [if_neg c2] at e2
   injection e1 with e1
   subst e1
   exact absurd e2 (hne k hk c2)
  ·rw [if_neg c1] at e1
   rw [if_pos c2] at e2
   injection e2 with e2
   subst e2
   exact absurd e1 (hne i hi c1)
  ·rw [if_neg c1] at e1
   rw [if_neg c2] at e2
   exact h.apart i k x hi hk e1 e2
theorem Tri.far {b c : Nat} {w w' : World} {V : Nat → Value} {K : Nat → List Int} (h : Tri b w V K) (g : w.grownBy w' (some c)) (hc : c < b) : Tri b w' V K :=
 ⟨fun i hi => g.cell (h.cell i hi) (by simp; omega), fun i => (World.frozen?_of_block (g.block b h.lt (by simp; omega))).trans (h.fr i), fun i hi => (h.own i hi).kept g (.inr (fun e => by have := ((h.own i hi).lt c e).1; omega)), h.apart⟩
theorem Tri.shape {b : Nat} {w : World} {V : Nat → Value} {K : Nat → List Int} (h : Tri b w V K) {i : Nat} (hi : i < 3) : ∃ base cap, V i = .slice base (K i).length cap := by
 rcases (h.own i hi).2 with ⟨e, h0⟩ | ⟨g, cap, _, e, _⟩
 ·exact ⟨none, 0, by rw [e, h0]⟩
 ·exact ⟨_, cap, e⟩
theorem own_klst {w : World} {B : Nat} {v : Value} {K : List Int} (h : w.ownsRow B 36 1 v K.length (kvs K)) : KLst w v K := by
 obtain ⟨_, ⟨rfl, h0⟩ | ⟨g, cap, cur, rfl, _, hg, hn, _, hs, hc⟩⟩ := h
 ·exact .inl ⟨List.length_eq_zero_iff.1 h0, none, 0, rfl⟩
 ·refine .inr ⟨g, 0, cap, rfl, fun k x hx => ?_⟩
  have hk : k < K.length := (List.getElem?_eq_some_iff.1 hx).1
  have e : (kvs K)[k]? = some (.int .u32 x) := by simp [kvs, hx]
  rw [← e, ← hc]
  simp only [World.cell?, hg]
  rw [List.getElem?_take_of_lt (by omega)]
  simp
theorem info_u32 : (Tryz.prog.info? 36).map (fun i => (i.zero, i.size, i.bytes)) = some (some (.int .u32 0), 1, 4) := by kernel_rfl
end Go.Proofs.YtaknmlohnifcdaaGreatDoor
