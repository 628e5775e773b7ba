/-
  Package codec: encodings of views as lists of bytes (no program).
-/
import Derived.Test.YtllkokfaodpfiaaBodies
import Derived.Test.YtllkokfaodpfiaaBodySlice
namespace Go.Proofs.Ytllkokfaodpfiaa
open Go.RowKit Go.Lib

/-- A byte in memory. -/
def bv (n : Int) : List Value := [.int .u8 n]
/-- A number's four bytes. -/
def w4 (n : Int) : List Int := [n / 16777216 % 256, n / 65536 % 256, n / 256 % 256, n % 256]
def encB (x : Bd) : List Int := w4 x.k ++ w4 x.r ++ w4 x.ax ++ w4 x.ay ++ w4 x.m ++ w4 x.o ++ w4 x.px ++ w4 x.py ++ w4 x.vx ++ w4 x.vy
def magic : List Int := [66, 73, 76, 49]
def encL (L : List Bd) : List Int := magic ++ w4 L.length ++ L.flatMap encB
/-- The byte at an index, and a number of four bytes, without and with a sign. -/
def gb (b : List Int) (i : Nat) : Int := b.getD i 0
def numA (b : List Int) (i : Nat) : Int := ((gb b i * 256 + gb b (i + 1)) * 256 + gb b (i + 2)) * 256 + gb b (i + 3)
def sgn (n : Int) : Int := if 2147483648 ≤ n then n - 4294967296 else n
def bdA (b : List Int) (i : Nat) : Bd := ⟨numA b i, sgn (numA b (i + 4)), sgn (numA b (i + 8)), sgn (numA b (i + 12)), sgn (numA b (i + 16)), sgn (numA b (i + 20)), sgn (numA b (i + 24)), sgn (numA b (i + 28)), sgn (numA b (i + 32)), sgn (numA b (i + 36))⟩
/-- The form of an encoding, and its bodies. -/
def okF (b : List Int) : Bool := decide (8 ≤ b.length) && (decide (b.take 4 = magic) && decide ((b.length : Int) = 8 + 40 * numA b 4))
def decV (b : List Int) : List Bd := (List.range ((b.length - 8) / 40)).map fun k => bdA b (8 + 40 * k)
/-- All are bytes. -/
def Byt (b : List Int) : Prop := ∀ n ∈ b, 0 ≤ n ∧ n < 256
theorem w4_len (n : Int) : (w4 n).length = 4 := rfl
theorem encB_len (x : Bd) : (encB x).length = 40 := rfl
theorem w4_byt (n : Int) : Byt (w4 n) := fun m hm => by
  simp only [w4, List.mem_cons, List.not_mem_nil, or_false] at hm
  rcases hm with rfl | rfl | rfl | rfl <;> omega
theorem byt_app {a b : List Int} (h : Byt a) (k : Byt b) : Byt (a ++ b) := fun n hn => (List.mem_append.1 hn).elim (h n) (k n)
theorem encB_byt (x : Bd) : Byt (encB x) := by
  unfold encB
  repeat (first | exact w4_byt _ | refine byt_app ?_ (w4_byt _))
theorem flat_byt : ∀ L : List Bd, Byt (L.flatMap encB)
  | [] => fun n hn => by simp at hn
  | x :: L => by rw [List.flatMap_cons]; exact byt_app (encB_byt x) (flat_byt L)
theorem encL_byt (L : List Bd) : Byt (encL L) := byt_app (byt_app (fun n hn => by simp [magic] at hn; omega) (w4_byt _)) (flat_byt L)
theorem flat_enc_len (L : List Bd) : (L.flatMap encB).length = L.length * 40 := by
  induction L with
  | nil => rfl
  | cons x L ih => rw [List.flatMap_cons, List.length_append, encB_len, ih, List.length_cons]; omega
theorem encL_len (L : List Bd) : (encL L).length = 8 + L.length * 40 := by
  unfold encL
  rw [List.length_append, List.length_append, flat_enc_len, w4_len]
  rfl
theorem gb_byt {b : List Int} (h : Byt b) (i : Nat) : 0 ≤ gb b i ∧ gb b i < 256 := by
  unfold gb
  rw [List.getD_eq_getElem?_getD]
  cases e : b[i]? with
  | none => simp
  | some n => exact h n (List.mem_of_getElem? e)
theorem gb_left {a b : List Int} {i : Nat} (h : i < a.length) : gb (a ++ b) i = gb a i := by
  unfold gb
  rw [List.getD_eq_getElem?_getD, List.getD_eq_getElem?_getD, List.getElem?_append_left h]
theorem gb_right {a b : List Int} {i : Nat} (h : a.length ≤ i) : gb (a ++ b) i = gb b (i - a.length) := by
  unfold gb
  rw [List.getD_eq_getElem?_getD, List.getD_eq_getElem?_getD, List.getElem?_append_right h]
/-- The number of four bytes. -/
theorem num_w4 (n : Int) : ((n / 16777216 % 256 * 256 + n / 65536 % 256) * 256 + n / 256 % 256) * 256 + n % 256 = n % 4294967296 := by omega
theorem sgn_mod {n : Int} (h : -2147483648 ≤ n ∧ n < 2147483648) : sgn (n % 4294967296) = n := by
  unfold sgn
  split <;> omega
theorem numA_byt {b : List Int} (h : Byt b) (i : Nat) : 0 ≤ numA b i ∧ numA b i < 4294967296 := by
  have h0 := gb_byt h i
  have h1 := gb_byt h (i + 1)
  have h2 := gb_byt h (i + 2)
  have h3 := gb_byt h (i + 3)
  unfold numA
  omega
/-- A number's bytes back. -/
theorem w4_num {b : List Int} (h : Byt b) (i : Nat) : w4 (numA b i) = [gb b i, gb b (i + 1), gb b (i + 2), gb b (i + 3)] := by
  have h0 := gb_byt h i
  have h1 := gb_byt h (i + 1)
  have h2 := gb_byt h (i + 2)
  have h3 := gb_byt h (i + 3)
  unfold w4 numA
  simp only [List.cons.injEq, and_true]
  refine ⟨?_, ?_, ?_, ?_⟩ <;> omega
theorem w4_sgn {b : List Int} (h : Byt b) (i : Nat) : w4 (sgn (numA b i)) = [gb b i, gb b (i + 1), gb b (i + 2), gb b (i + 3)] := by
  rw [← w4_num h i]
  have := numA_byt h i
  unfold sgn
  split
  · unfold w4
    simp only [List.cons.injEq, and_true]
    refine ⟨?_, ?_, ?_, ?_⟩ <;> omega
  · rfl
/-- The bytes from an index on. -/
theorem take_cons {b : List Int} {i n : Nat} (h : i < b.length) : (b.drop i).take (n + 1) = gb b i :: (b.drop (i + 1)).take n := by
  rw [List.drop_eq_getElem_cons h, List.take_succ_cons]
  unfold gb
  rw [List.getD_eq_getElem?_getD, List.getElem?_eq_getElem h]
  rfl
theorem four_at {b : List Int} {i n : Nat} (h : i + 4 ≤ b.length) : (b.drop i).take (n + 4) = [gb b i, gb b (i + 1), gb b (i + 2), gb b (i + 3)] ++ (b.drop (i + 4)).take n := by
  rw [take_cons (by omega), take_cons (by omega), take_cons (by omega), take_cons (by omega)]
  rfl
theorem enc_bdA {b : List Int} (h : Byt b) {i : Nat} (hi : i + 40 ≤ b.length) : encB (bdA b i) = (b.drop i).take 40 := by
  unfold encB bdA
  dsimp only
  rw [w4_num h, w4_sgn h, w4_sgn h, w4_sgn h, w4_sgn h, w4_sgn h, w4_sgn h, w4_sgn h, w4_sgn h, w4_sgn h]
  rw [four_at (n := 36) (by omega), four_at (n := 32) (by omega), four_at (n := 28) (by omega), four_at (n := 24) (by omega), four_at (n := 20) (by omega), four_at (n := 16) (by omega), four_at (n := 12) (by omega), four_at (n := 8) (by omega), four_at (n := 4) (by omega), four_at (n := 0) (by omega)]
  simp
theorem enc_range {b : List Int} (h : Byt b) (i : Nat) : ∀ n : Nat, i + 40 * n ≤ b.length → ((List.range n).map fun k => bdA b (i + 40 * k)).flatMap encB = (b.drop i).take (40 * n)
  | 0, _ => by simp
  | n + 1, hn => by
    rw [List.range_succ, List.map_append, List.flatMap_append, enc_range h i n (by omega), show 40 * (n + 1) = 40 * n + 40 by omega, List.take_add, List.drop_drop]
    simp only [List.map_cons, List.map_nil, List.flatMap_cons, List.flatMap_nil, List.append_nil]
    rw [enc_bdA h (by omega)]
theorem decV_len (b : List Int) : (decV b).length = (b.length - 8) / 40 := by unfold decV; rw [List.length_map, List.length_range]
/-- What is of the form is the encoding of its bodies. -/
theorem enc_dec {b : List Int} (h : Byt b) (hf : okF b = true) : encL (decV b) = b := by
  unfold okF at hf
  rw [Bool.and_eq_true, Bool.and_eq_true] at hf
  have h8 := of_decide_eq_true hf.1
  have hm := of_decide_eq_true hf.2.1
  have hl := of_decide_eq_true hf.2.2
  have hn := numA_byt h 4
  have e1 : ((decV b).length : Int) = numA b 4 := by rw [decV_len]; omega
  have e2 : 8 + 40 * ((b.length - 8) / 40) = b.length := by omega
  unfold encL
  rw [e1, w4_num h 4, ← hm]
  unfold decV
  have e0 : (b.drop 8).take (40 * ((b.length - 8) / 40)) = b.drop 8 := List.take_of_length_le (by rw [List.length_drop]; omega)
  rw [enc_range h 8 _ (by omega), e0]
  have e3 := four_at (b := b) (i := 4) (n := 0) (by omega)
  simp only [List.take_zero, List.append_nil, Nat.zero_add, Nat.reduceAdd] at e3
  rw [← e3]
  have e4 : b = b.take 4 ++ (b.drop 4).take 4 ++ b.drop 8 := by
    have q := (List.take_append_drop 4 (b.drop 4)).symm
    rw [List.drop_drop] at q
    rw [List.append_assoc, ← q, List.take_append_drop]
  exact e4.symm
theorem cat_at {f : Bd → List Int} {n : Nat} (hf : ∀ x, (f x).length = n) : ∀ (L : List Bd) (k : Nat) (x : Bd), L[k]? = some x → ∀ j, j < n → (L.flatMap f)[n * k + j]? = (f x)[j]?
  | [], _, _, h, _, _ => by simp at h
  | y :: L, 0, x, h, j, hj => by
    simp at h
    subst h
    rw [List.flatMap_cons, Nat.mul_zero, Nat.zero_add, List.getElem?_append_left (by rw [hf]; exact hj)]
  | y :: L, k + 1, x, h, j, hj => by
    rw [List.flatMap_cons, Nat.mul_succ, List.getElem?_append_right (by rw [hf]; omega), hf, show n * k + n + j - n = n * k + j by omega]
    exact cat_at hf L k x (by simpa using h) j hj
theorem gb_enc {L : List Bd} {k : Nat} {x : Bd} (h : L[k]? = some x) {j : Nat} (hj : j < 40) : gb (encL L) (8 + 40 * k + j) = gb (encB x) j := by
  have e := cat_at encB_len L k x h j hj
  unfold encL
  rw [gb_right (by rw [List.length_append, w4_len]; show 4 + 4 ≤ _; omega)]
  unfold gb
  rw [List.getD_eq_getElem?_getD, List.getD_eq_getElem?_getD, show (magic ++ w4 (L.length : Int)).length = 8 from rfl, show 8 + 40 * k + j - 8 = 40 * k + j by omega, e]
theorem numA_enc {L : List Bd} {k : Nat} {x : Bd} (h : L[k]? = some x) {j : Nat} (hj : j + 4 ≤ 40) : numA (encL L) (8 + 40 * k + j) = numA (encB x) j := by
  unfold numA
  rw [Nat.add_assoc (8 + 40 * k), Nat.add_assoc (8 + 40 * k), Nat.add_assoc (8 + 40 * k), gb_enc h (by omega), gb_enc h (by omega), gb_enc h (by omega), gb_enc h (by omega)]
theorem u32_of {n : Int} (h : (Lit.int .u32 n).wf = true) : 0 ≤ n ∧ n < 4294967296 := by
  have := bounds_u32 h
  omega
theorem s32_of {n : Int} (h : (Lit.int .i32 n).wf = true) : -2147483648 ≤ n ∧ n < 2147483648 := by
  have := bounds_i32 h
  omega
theorem numA_zero (n : Int) (b : List Int) : numA (w4 n ++ b) 0 = n % 4294967296 := num_w4 n
theorem numA_skip (n : Int) (b : List Int) (i : Nat) : numA (w4 n ++ b) (i + 4) = numA b i := rfl
theorem encB_eq (x : Bd) : encB x = w4 x.k ++ (w4 x.r ++ (w4 x.ax ++ (w4 x.ay ++ (w4 x.m ++ (w4 x.o ++ (w4 x.px ++ (w4 x.py ++ (w4 x.vx ++ (w4 x.vy ++ []))))))))) := by
  unfold encB
  simp only [List.append_assoc, List.append_nil]
theorem fits_enc {x : Bd} (h : Fits x) : bdA (encB x) 0 = x := by
  obtain ⟨h0, h1, h2, h3, h4, h5, h6, h7, h8, h9⟩ := h
  rw [encB_eq]
  unfold bdA
  simp only [Nat.zero_add]
  rw [show numA _ 0 = x.k % 4294967296 from numA_zero _ _]
  rw [show numA _ 4 = x.r % 4294967296 from (numA_skip _ _ 0).trans (numA_zero _ _)]
  rw [show numA _ 8 = x.ax % 4294967296 from (numA_skip _ _ 4).trans ((numA_skip _ _ 0).trans (numA_zero _ _))]
  rw [show numA _ 12 = x.ay % 4294967296 from (numA_skip _ _ 8).trans ((numA_skip _ _ 4).trans ((numA_skip _ _ 0).trans (numA_zero _ _)))]
  rw [show numA _ 16 = x.m % 4294967296 from (numA_skip _ _ 12).trans ((numA_skip _ _ 8).trans ((numA_skip _ _ 4).trans ((numA_skip _ _ 0).trans (numA_zero _ _))))]
  rw [show numA _ 20 = x.o % 4294967296 from (numA_skip _ _ 16).trans ((numA_skip _ _ 12).trans ((numA_skip _ _ 8).trans ((numA_skip _ _ 4).trans ((numA_skip _ _ 0).trans (numA_zero _ _)))))]
  rw [show numA _ 24 = x.px % 4294967296 from (numA_skip _ _ 20).trans ((numA_skip _ _ 16).trans ((numA_skip _ _ 12).trans ((numA_skip _ _ 8).trans ((numA_skip _ _ 4).trans ((numA_skip _ _ 0).trans (numA_zero _ _))))))]
  rw [show numA _ 28 = x.py % 4294967296 from (numA_skip _ _ 24).trans ((numA_skip _ _ 20).trans ((numA_skip _ _ 16).trans ((numA_skip _ _ 12).trans ((numA_skip _ _ 8).trans ((numA_skip _ _ 4).trans ((numA_skip _ _ 0).trans (numA_zero _ _)))))))]
  rw [show numA _ 32 = x.vx % 4294967296 from (numA_skip _ _ 28).trans ((numA_skip _ _ 24).trans ((numA_skip _ _ 20).trans ((numA_skip _ _ 16).trans ((numA_skip _ _ 12).trans ((numA_skip _ _ 8).trans ((numA_skip _ _ 4).trans ((numA_skip _ _ 0).trans (numA_zero _ _))))))))]
  rw [show numA _ 36 = x.vy % 4294967296 from (numA_skip _ _ 32).trans ((numA_skip _ _ 28).trans ((numA_skip _ _ 24).trans ((numA_skip _ _ 20).trans ((numA_skip _ _ 16).trans ((numA_skip _ _ 12).trans ((numA_skip _ _ 8).trans ((numA_skip _ _ 4).trans ((numA_skip _ _ 0).trans (numA_zero _ _)))))))))]
  rw [sgn_mod (s32_of h1), sgn_mod (s32_of h2), sgn_mod (s32_of h3), sgn_mod (s32_of h4), sgn_mod (s32_of h5), sgn_mod (s32_of h6), sgn_mod (s32_of h7), sgn_mod (s32_of h8), sgn_mod (s32_of h9)]
  have := u32_of h0
  rw [Int.emod_eq_of_lt this.1 this.2]
theorem bdA_enc {L : List Bd} {k : Nat} {x : Bd} (h : L[k]? = some x) (hx : Fits x) : bdA (encL L) (8 + 40 * k) = x := by
  have e := fits_enc hx
  rw [← e]
  unfold bdA
  have g0 := numA_enc h (j := 0) (by omega)
  rw [Nat.add_zero] at g0
  rw [g0, numA_enc h (j := 4) (by omega), numA_enc h (j := 8) (by omega), numA_enc h (j := 12) (by omega), numA_enc h (j := 16) (by omega), numA_enc h (j := 20) (by omega), numA_enc h (j := 24) (by omega), numA_enc h (j := 28) (by omega), numA_enc h (j := 32) (by omega), numA_enc h (j := 36) (by omega)]
theorem enc_num (L : List Bd) : numA (encL L) 4 = (L.length : Int) % 4294967296 := by
  unfold encL
  rw [show magic ++ w4 (L.length : Int) ++ L.flatMap encB = 66 :: 73 :: 76 :: 49 :: (w4 (L.length : Int) ++ L.flatMap encB) from rfl]
  exact numA_zero (L.length : Int) (L.flatMap encB)
/-- An encoding is of the form, and its bodies are those it was made of. -/
theorem okF_enc {L : List Bd} (h : L.length < 4294967296) : okF (encL L) = true := by
  unfold okF
  rw [Bool.and_eq_true, Bool.and_eq_true, enc_num, encL_len]
  refine ⟨decide_eq_true (by omega), decide_eq_true rfl, decide_eq_true (by omega)⟩
theorem dec_enc {L : List Bd} (hx : ∀ x ∈ L, Fits x) : decV (encL L) = L := by
  refine List.ext_getElem? fun k => ?_
  unfold decV
  rw [List.getElem?_map, encL_len, show (8 + L.length * 40 - 8) / 40 = L.length by omega]
  by_cases hk : k < L.length
  · rw [List.getElem?_range hk, List.getElem?_eq_getElem hk]
    exact congrArg some (bdA_enc (List.getElem?_eq_getElem hk) (hx _ (List.getElem_mem hk)))
  · rw [List.getElem?_eq_none (by rw [List.length_range]; omega), List.getElem?_eq_none (by omega)]
    rfl
theorem enc_inj {L M : List Bd} (hl : ∀ x ∈ L, Fits x) (hm : ∀ x ∈ M, Fits x) (h : encL L = encL M) : L = M := by rw [← dec_enc hl, ← dec_enc hm, h]
/-- Cut off, made longer, or with another number: not of the form. -/
theorem okF_len {b : List Int} (h : okF b = true) : (b.length : Int) = 8 + 40 * numA b 4 := by
  unfold okF at h
  rw [Bool.and_eq_true, Bool.and_eq_true] at h
  exact of_decide_eq_true h.2.2
theorem okF_cut {L : List Bd} (hl : L.length < 4294967296) {k : Nat} (hk : k < (encL L).length) : okF ((encL L).take k) = false := by
  rw [Bool.eq_false_iff]
  intro h
  have h1 := okF_len h
  have h8 : 8 ≤ k := by
    unfold okF at h
    rw [Bool.and_eq_true] at h
    have := of_decide_eq_true h.1
    rw [List.length_take] at this
    omega
  have e : numA ((encL L).take k) 4 = numA (encL L) 4 := by
    have q : ∀ i, i < k → gb ((encL L).take k) i = gb (encL L) i := fun i hi => by
      unfold gb
      rw [List.getD_eq_getElem?_getD, List.getD_eq_getElem?_getD, List.getElem?_take_of_lt hi]
    unfold numA
    rw [q _ (by omega), q _ (by omega), q _ (by omega), q _ (by omega)]
  rw [e, enc_num, List.length_take, Nat.min_eq_left (by omega)] at h1
  rw [encL_len] at hk
  omega
theorem okF_more {L : List Bd} (n : Int) : okF (encL L ++ [n]) = false := by
  rw [Bool.eq_false_iff]
  intro h
  have h1 := okF_len h
  have hle := encL_len L
  have e : numA (encL L ++ [n]) 4 = numA (encL L) 4 := by
    unfold numA
    rw [gb_left (by omega), gb_left (by omega), gb_left (by omega), gb_left (by omega)]
  rw [e, enc_num, List.length_append, hle] at h1
  simp only [List.length_cons, List.length_nil] at h1
  omega
theorem gb_set {b : List Int} {i : Nat} {n : Int} (j : Nat) (hi : i < b.length) : gb (b.set i n) j = if i = j then n else gb b j := by
  unfold gb
  rw [List.getD_eq_getElem?_getD, List.getD_eq_getElem?_getD]
  split
  · rename_i e
    subst e
    rw [List.getElem?_set_self hi]
    rfl
  · rename_i e
    rw [List.getElem?_set_ne e]
theorem okF_other {L : List Bd} (hl : L.length < 4294967296) {j : Nat} (hj : j < 4) {n : Int} (hne : n ≠ gb (encL L) (4 + j)) : okF ((encL L).set (4 + j) n) = false := by
  rw [Bool.eq_false_iff]
  intro h
  have h1 := okF_len h
  have hle := encL_len L
  have e := enc_num L
  have b4 := gb_byt (encL_byt L) 4
  have b5 := gb_byt (encL_byt L) 5
  have b6 := gb_byt (encL_byt L) 6
  have b7 := gb_byt (encL_byt L) 7
  rw [List.length_set, hle] at h1
  unfold numA at h1 e
  simp only [gb_set _ (show 4 + j < (encL L).length by omega), Nat.reduceAdd] at h1 e
  have hj4 : j = 0 ∨ j = 1 ∨ j = 2 ∨ j = 3 := by omega
  rcases hj4 with rfl | rfl | rfl | rfl <;> simp at h1 hne <;> omega
theorem fits_lit {n : Int} (h : 0 ≤ n ∧ n < 4294967296) : (Lit.int .u32 n).wf = true := by
  simp only [Lit.wf, show IntKind.u32.min = 0 from rfl, show IntKind.u32.max = 4294967295 from rfl, Bool.and_eq_true, decide_eq_true_eq]
  omega
theorem sgn_wf {n : Int} (h : 0 ≤ n ∧ n < 4294967296) : (Lit.int .i32 (sgn n)).wf = true := by
  have : -2147483648 ≤ sgn n ∧ sgn n ≤ 2147483647 := by unfold sgn; split <;> omega
  simp only [Lit.wf, show IntKind.i32.min = -2147483648 from rfl, show IntKind.i32.max = 2147483647 from rfl, Bool.and_eq_true, decide_eq_true_eq]
  omega
theorem fits_decV {b : List Int} (h : Byt b) : ∀ x ∈ decV b, Fits x := fun x hx => by
  unfold decV at hx
  obtain ⟨k, _, rfl⟩ := List.mem_map.1 hx
  have f := numA_byt h
  exact ⟨fits_lit (f _), sgn_wf (f _), sgn_wf (f _), sgn_wf (f _), sgn_wf (f _), sgn_wf (f _), sgn_wf (f _), sgn_wf (f _), sgn_wf (f _), sgn_wf (f _)⟩
end Go.Proofs.Ytllkokfaodpfiaa
