/-
  Package contact: what it gives.
-/
import Derived.Test.YtlcenopebgkjgaaConProg
import Derived.Test.YtlcenopebgkjgaaConAwake
import Derived.Deep.DeepCutAuto
namespace Go.Proofs.Ytlcenopebgkjgaa
open Go.RowKit Go.Lib

theorem ksh_ok {x : Bd} (h : okC x) : KSh x (x.px - x.ax) (x.py - x.ay) (x.px + x.ax) (x.py + x.ay) := ksh (ken h)
theorem qod {x y : Bd} (hx : okC x) (hy : okC y) : KOd x y (lowB x y) (higB x y) ((lowB x y).px - (lowB x y).ax) ((lowB x y).py - (lowB x y).ay) ((lowB x y).px + (lowB x y).ax) ((lowB x y).py + (lowB x y).ay) ((higB x y).px - (higB x y).ax) ((higB x y).py - (higB x y).ay) ((higB x y).px + (higB x y).ax) ((higB x y).py + (higB x y).ay) := kod (x := x) (y := y) (ksh_ok (low_ok hx hy).1) (ksh_ok (low_ok hx hy).2)
theorem qdi {l h : Bd} (hl : okC l) (hh : okC h) : KDi l h (l.px - l.ax) (l.py - l.ay) (l.px + l.ax) (l.py + l.ay) (h.px - h.ax) (h.py - h.ay) (h.px + h.ax) (h.py + h.ay) (cdx l h) (cdy l h) := by
  have g := cc_good hl hh
  exact kdi (sch (x := cc l h) (cc_sg hl hh) rfl) (kdf g.a g.b (cin32 g.c) (cin32 g.d) rfl rfl)
theorem qra {l h : Bd} (hl : okC l) (hh : okC h) (a b c d p q r s : Int) : KRa l h a b c d p q r s (csm l h) := kra (okC_lim hl).1 (okC_lim hh).1 rfl
theorem qcl {l h : Bd} (hl : okC l) (hh : okC h) : KCl (cdx l h) (cdy l h) (csm l h) (tchB l h) := by
  have i := cc_ind hl hh
  have b := csm_bd hl hh
  exact kcl (lsq2 i.1 i.2 (cc_t hl hh).symm) ⟨by omega, b.2⟩ rfl
theorem qops : QOps where
  of_ := fun {x y} hx hy _ => by
    have k := low_ok hx hy
    have X1 := qod hx hy
    generalize lowB x y = l at *
    generalize higB x y = h at *
    obtain ⟨hl, hh⟩ := k
    have i := cc_ind hl hh
    have b := csm_bd hl hh
    have n := cln_bd hl hh
    have X4 := qcl hl hh
    cases c : tchB l h with
    | false =>
      rw [c] at X4
      have e : conV l h = ⟨0, 0, 0, 0, 0⟩ := by unfold conV; rw [c]; rfl
      rw [e]
      exact kof0 X1 (qdi hl hh) (qra hl hh _ _ _ _ _ _ _ _) X4
    | true =>
      rw [c] at X4
      have e : conV l h = conC l h := by unfold conV; rw [c]; rfl
      have q := (tch_iff hl hh).1 c
      rw [e]
      exact kof1 X1 (qdi hl hh) (qra hl hh _ _ _ _ _ _ _ _) X4 (kun i.1 i.2 (cln_is hl hh)) (kln i.1 i.2 (cln_is hl hh)) ⟨by omega, b.2⟩ ⟨n.1, by omega⟩ rfl
  touch := fun {x y} hx hy _ => by
    have k := low_ok hx hy
    exact kto (qod hx hy) (qdi k.1 k.2) (qra k.1 k.2 _ _ _ _ _ _ _ _) (qcl k.1 k.2)
  gap := fun {x y} hx hy _ => by
    have k := low_ok hx hy
    have i := cc_ind k.1 k.2
    have b := csm_bd k.1 k.2
    have n := cln_bd k.1 k.2
    exact kgp (qod hx hy) (qdi k.1 k.2) (qra k.1 k.2 _ _ _ _ _ _ _ _) (kln i.1 i.2 (cln_is k.1 k.2)) ⟨by omega, b.2⟩ ⟨n.1, n.2⟩ rfl
theorem qaw : QAwake := con_awake qops
end Go.Proofs.Ytlcenopebgkjgaa
