/-
  Package codec: what the laws ask of the program; what the reference's functions return.
-/
import Derived.Test.YtllkokfaodpfiaaCdcBuf
import Derived.Test.YtllkokfaodpfiaaViewEach
import Derived.Deep.DeepCutAuto
import Derived.Deep.QuietTactic
import Derived.BigQuiet
namespace Go.Proofs.Ytllkokfaodpfiaa
open Go.RowKit Go.Lib

/-- The error of Decode. -/
def decE (b : List Int) : Int := if okF b = true then vchkE (decV b) else 13
abbrev EEn (P : Program) (f : Nat) : Prop := ∀ v L w, Lst w v L → (∀ x ∈ L, Fits x) → L.length ≤ 200 → Calls P f #[v] w fun e w' => ∃ v', e = .returned (.tuple #[v', .int .i64 (vchkE L)]) ∧ Hid ((vchkE L = 0 → BufB w' w.heap.size v' (encL L)) ∧ (vchkE L ≠ 0 → v' = .slice none 0 0)) ∧ Kep w.heap.size w w'
abbrev EDe (P : Program) (f : Nat) : Prop := ∀ v b w, Sq bv 1 w v b → Rmy v → Byt b → b.length ≤ 9000 → Calls P f #[v] w fun e w' => ∃ v', e = .returned (.tuple #[v', .int .i64 (decE b)]) ∧ Lst w' v' (if decE b = 0 then decV b else []) ∧ Kep w.heap.size w w'
/-- What the laws ask of the program. -/
structure EOps : Prop where
  enc : EEn Try.prog 9
  dec : EDe Try.prog 11
  siz : ∀ (n : Nat) w, n ≤ 4096 → Calls Try.prog 15 #[.int .i64 n] w fun e w' => e = .returned (.int .i64 (8 + 40 * (n : Int))) ∧ Kep w.heap.size w w'
abbrev EAwake : Prop := ∀ w, Calls Try.prog 8 #[] w fun e w' => e = .returned (.bool true) ∧ Kep w.heap.size w w'
abbrev RWo (n : Int) : Prop := ∀ w, Calls Try.prog 26 #[.int .i64 n] w fun e w' => ∃ v', e = .returned v' ∧ BufB w' w.heap.size v' (w4 n) ∧ Kep w.heap.size w w'
abbrev RNu (b : List Int) : Prop := ∀ v w, Sq bv 1 w v b → Calls Try.prog 24 #[v] w fun e w' => e = .returned (.int .i64 (numA b 0)) ∧ Kep w.heap.size w w'
abbrev RSg (b : List Int) : Prop := ∀ v w, Sq bv 1 w v b → Calls Try.prog 25 #[v] w fun e w' => e = .returned (.int .i32 (sgn (numA b 0))) ∧ Kep w.heap.size w w'
abbrev RBy : Prop := ∀ v L w, Lst w v L → (∀ x ∈ L, Fits x) → L.length ≤ 200 → Calls Try.prog 16 #[v] w fun e w' => ∃ v', e = .returned v' ∧ BufB w' w.heap.size v' (encL L) ∧ Kep w.heap.size w w'
abbrev RSm (a b : List Int) : Prop := ∀ va vb w, Sq bv 1 w va a → Sq bv 1 w vb b → Calls Try.prog 13 #[va, vb] w fun e w' => e = .returned (.bool (decide (a = b))) ∧ Kep w.heap.size w w'
end Go.Proofs.Ytllkokfaodpfiaa
