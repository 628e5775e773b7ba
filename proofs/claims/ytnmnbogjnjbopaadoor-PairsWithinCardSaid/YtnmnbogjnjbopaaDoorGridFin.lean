/-
  Package grid: what the laws ask of the program, and the laws' awake.
-/
import Derived.Test.YtnmnbogjnjbopaaDoorGridCand
import Derived.Test.YtnmnbogjnjbopaaDoorGridAwake
namespace Go.Proofs.YtnmnbogjnjbopaaDoor
open Go.RowKit Go.Lib

def isNil : Option Value → Bool
  | some (.slice none 0 0) => true
  | _ => false
theorem isNil_eq {o : Option Value} (h : isNil o = true) : o = some (.slice none 0 0) := by
  unfold isNil at h
  split at h
  · rfl
  · cases h
def isZero : Option Value → Bool
  | some (.int .i64 0) => true
  | _ => false
theorem isZero_eq {o : Option Value} (h : isZero o = true) : o = some (.int .i64 0) := by
  unfold isZero at h
  split at h
  · rfl
  · cases h
/-- All but the last are nil slices, the last one is 0. -/
def tailZ : List Value → Bool
  | [] => false
  | x :: r => match r with
    | [] => isZero (some x)
    | _ :: _ => isNil (some x) && tailZ r
theorem tailZ_nil : ∀ {l : List Value}, tailZ l = true → ∀ j, j + 1 < l.length → l[j]? = some (.slice none 0 0)
  | [], _, j, hj => by simp at hj
  | [x], _, j, hj => by simp at hj
  | x :: y :: r, h, j, hj => by
    unfold tailZ at h
    simp only [Bool.and_eq_true] at h
    cases j with
    | zero => exact isNil_eq h.1
    | succ j => exact tailZ_nil h.2 j (by simpa using hj)
theorem tailZ_last : ∀ {l : List Value}, tailZ l = true → l[l.length - 1]? = some (.int .i64 0)
  | [], h => by cases h
  | [x], h => isZero_eq h
  | x :: y :: r, h => by
    unfold tailZ at h
    simp only [Bool.and_eq_true] at h
    have := tailZ_last h.2
    simpa using this
theorem zeros_tail : tailZ Tryd.zeroCells30.toList = true := by decide +kernel
theorem gnew (w : World) (F : Fac w) : GI (w.alloc (.cells Tryd.zeroCells30 30)) w.heap.size (fun k => k = w.heap.size) [] := by
  have hs : Tryd.zeroCells30.toList.length = 1025 := Tryd.zeroCells30_size
  have hz : ∀ j, j < 1024 → Tryd.zeroCells30[j]? = some (.slice none 0 0) := fun j hj => by
    have := tailZ_nil zeros_tail j (by omega)
    rw [Array.getElem?_toList] at this
    exact this
  have hi : Tryd.zeroCells30[1024]? = some (.int .i64 0) := by
    have := tailZ_last zeros_tail
    rw [hs, Array.getElem?_toList] at this
    exact this
  generalize Tryd.zeroCells30 = Z at *
  exact ⟨fun _ => .slice none 0 0, {
    c := fun j hj => by rw [World.cell?_alloc_at _ _ _ _ rfl]; exact hz j hj
    cn := by rw [World.cell?_alloc_at _ _ _ _ rfl]; exact hi
    fz := fun j => World.frozen?_alloc_at _ _ _ _ rfl
    own := fun j hj => World.ownsRow_nil _ _ _ _
    apart := fun i j _ _ _ k e => (by cases e)
    off := fun j _ e => (by cases e)
    sg := rfl
    sv := fun j _ k e => (by cases e)
    only := fun k e => .inl e
    fac := F.alloc _
    nf := fun e => by have := F.lt; omega }⟩
theorem gops : GOps GI where
  new := gnew
  kept := fun ⟨vf, h⟩ hb F => ⟨vf, h.kept hb F⟩
  fac := fun ⟨_, h⟩ => h.fac
  lt := fun ⟨_, h⟩ => h.lt
  insert := fun g S L e w h he hl => gins g S L e w h he hl
  cand := fun g S L w h hL hl => gcand g S L w h hL hl
  at_ := fun g S L x y w h _ hl hx hy => gat g S L x y w h hl hx hy
  len := fun g S L w h _ => glen g S L w h
  candNil := gcand_nil
  lenNil := glen_nil
theorem gaw : GAwake := grid_awake gops
end Go.Proofs.YtnmnbogjnjbopaaDoor
