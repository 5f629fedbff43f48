/- Disks as plain lists: what a disk holds, what each call leaves. No program is named here. -/
import GoSem.ClaimData
namespace Go.Proofs.YtnpcnflfpmjgiaaDoor
set_option linter.unusedVariables false

/-- The first k bytes of s, the others of o. -/
def tear (s o : ByteArray) (k : Nat) : ByteArray := s.extract 0 k ++ o.extract k 512
theorem size_tear {s o : ByteArray} {k : Nat} (hs : s.size = 512) (ho : o.size = 512) (hk : k ≤ 512) : (tear s o k).size = 512 := by
  unfold tear; simp [ByteArray.size_append, ByteArray.size_extract, hs, ho]; omega
theorem extract_all {s : ByteArray} {n : Nat} (h : s.size = n) : s.extract 0 n = s := by
  subst h; exact ByteArray.extract_zero_size
theorem extract_none (s : ByteArray) (k : Nat) : s.extract k k = ByteArray.empty := by
  apply ByteArray.ext; simp
theorem tear_full {s o : ByteArray} (hs : s.size = 512) : tear s o 512 = s := by
  unfold tear; rw [extract_all hs, extract_none]; exact ByteArray.append_empty
theorem tear_zero {s o : ByteArray} (ho : o.size = 512) : tear s o 0 = o := by
  unfold tear; rw [extract_all ho, extract_none]; exact ByteArray.empty_append

/-- A disk: its safe bytes, its pending writes, its power, the step at which it goes, what was done. -/
structure DS where
  safe : List ByteArray
  wait : List (Nat × ByteArray)
  off : Bool
  cut : Int
  rd : Int
  wr : Int
  fl : Int
/-- What a disk of whole sectors is. -/
structure DS.Ok (S : DS) : Prop where
  one : 1 ≤ S.safe.length
  most : S.safe.length ≤ 4096
  size : ∀ s ∈ S.safe, s.size = 512
  num : ∀ p ∈ S.wait, p.1 < S.safe.length
  len : ∀ p ∈ S.wait, p.2.size = 512
  cut0 : 0 ≤ S.cut
  cut1 : S.cut ≤ 9223372036854775807
  idle : S.off = true → S.cut = 0

/-- One write laid down, its first k bytes. -/
def lay (l : List ByteArray) (p : Nat × ByteArray) (k : Nat) : List ByteArray := l.set p.1 (tear p.2 (l.getD p.1 ByteArray.empty) k)
/-- All of them. -/
def over (l : List ByteArray) (ws : List (Nat × ByteArray)) : List ByteArray := ws.foldl (fun l p => l.set p.1 p.2) l
/-- What sectors read as. -/
def DS.shown (S : DS) : List ByteArray := over S.safe S.wait
/-- Each write laid down as far as ks says, from the i-th on. -/
def settle (ks : Nat → Nat) : Nat → List ByteArray → List (Nat × ByteArray) → List ByteArray
  | _, l, [] => l
  | i, l, p :: ws => settle ks (i + 1) (lay l p (ks i)) ws

theorem length_lay (l : List ByteArray) (p : Nat × ByteArray) (k : Nat) : (lay l p k).length = l.length := by simp [lay]
theorem length_over (l : List ByteArray) (ws : List (Nat × ByteArray)) : (over l ws).length = l.length := by
  induction ws generalizing l with
  | nil => rfl
  | cons p ws ih => show (over (l.set p.1 p.2) ws).length = _; rw [ih]; simp
theorem length_settle (ks : Nat → Nat) (i : Nat) (l : List ByteArray) (ws : List (Nat × ByteArray)) : (settle ks i l ws).length = l.length := by
  induction ws generalizing l i with
  | nil => rfl
  | cons p ws ih => show (settle ks (i + 1) (lay l p (ks i)) ws).length = _; rw [ih, length_lay]
theorem over_snoc (l : List ByteArray) (ws : List (Nat × ByteArray)) (p : Nat × ByteArray) : over l (ws ++ [p]) = (over l ws).set p.1 p.2 := by simp [over]
theorem settle_snoc (ks : Nat → Nat) (i : Nat) (l : List ByteArray) (ws : List (Nat × ByteArray)) (p : Nat × ByteArray) : settle ks i l (ws ++ [p]) = lay (settle ks i l ws) p (ks (i + ws.length)) := by
  induction ws generalizing l i with
  | nil => rfl
  | cons q ws ih =>
    show settle ks (i + 1) (lay l q (ks i)) (ws ++ [p]) = lay (settle ks (i + 1) (lay l q (ks i)) ws) p _
    rw [ih]; congr 2; simp; omega
theorem size_getD {l : List ByteArray} (h : ∀ s ∈ l, s.size = 512) {n : Nat} (hn : n < l.length) : (l.getD n ByteArray.empty).size = 512 := by
  rw [List.getD_eq_getElem?_getD, List.getElem?_eq_getElem hn]; exact h _ (List.getElem_mem hn)
theorem mem_set {l : List ByteArray} {n : Nat} {x : ByteArray} (h : ∀ s ∈ l, s.size = 512) (hx : x.size = 512) : ∀ s ∈ l.set n x, s.size = 512 := by
  intro s hs
  rcases List.mem_or_eq_of_mem_set hs with h1 | h1
  · exact h s h1
  · rw [h1]; exact hx
theorem size_lay {l : List ByteArray} {p : Nat × ByteArray} {k : Nat} (h : ∀ s ∈ l, s.size = 512) (hn : p.1 < l.length) (hp : p.2.size = 512) (hk : k ≤ 512) : ∀ s ∈ lay l p k, s.size = 512 :=
  mem_set h (size_tear hp (size_getD h hn) hk)
theorem size_over {l : List ByteArray} {ws : List (Nat × ByteArray)} (h : ∀ s ∈ l, s.size = 512) (hp : ∀ p ∈ ws, p.2.size = 512) : ∀ s ∈ over l ws, s.size = 512 := by
  induction ws generalizing l with
  | nil => exact h
  | cons p ws ih =>
    show ∀ s ∈ over (l.set p.1 p.2) ws, s.size = 512
    exact ih (mem_set h (hp p (by simp))) (fun q hq => hp q (by simp [hq]))
theorem size_settle {ks : Nat → Nat} (hk : ∀ i, ks i ≤ 512) {i : Nat} {l : List ByteArray} {ws : List (Nat × ByteArray)} (h : ∀ s ∈ l, s.size = 512) (hn : ∀ p ∈ ws, p.1 < l.length) (hp : ∀ p ∈ ws, p.2.size = 512) : ∀ s ∈ settle ks i l ws, s.size = 512 := by
  induction ws generalizing l i with
  | nil => exact h
  | cons p ws ih =>
    show ∀ s ∈ settle ks (i + 1) (lay l p (ks i)) ws, s.size = 512
    exact ih (size_lay h (hn p (by simp)) (hp p (by simp)) (hk i)) (fun q hq => by rw [length_lay]; exact hn q (by simp [hq])) (fun q hq => hp q (by simp [hq]))
/-- All kept is what sectors read as. -/
theorem settle_full {i : Nat} {l : List ByteArray} {ws : List (Nat × ByteArray)} {ks : Nat → Nat} (hk : ∀ j, j < ws.length → ks (i + j) = 512) (hp : ∀ p ∈ ws, p.2.size = 512) : settle ks i l ws = over l ws := by
  induction ws generalizing l i with
  | nil => rfl
  | cons p ws ih =>
    show settle ks (i + 1) (lay l p (ks i)) ws = over (l.set p.1 p.2) ws
    rw [ih (fun j hj => by have := hk (j + 1) (by simp; omega); rw [← this]; congr 1; omega) (fun q hq => hp q (by simp [hq]))]
    have := hk 0 (by simp); rw [Nat.add_zero] at this
    unfold lay; rw [this, tear_full (hp p (by simp))]
theorem set_same {l : List ByteArray} {n : Nat} (hn : n < l.length) : l.set n (l.getD n ByteArray.empty) = l := by
  rw [List.getD_eq_getElem?_getD, List.getElem?_eq_getElem hn]; simp
theorem lay_zero {l : List ByteArray} {p : Nat × ByteArray} (h : ∀ s ∈ l, s.size = 512) (hn : p.1 < l.length) : lay l p 0 = l := by
  unfold lay; rw [tear_zero (size_getD h hn), set_same hn]
/-- All lost changes nothing. -/
theorem settle_none {i : Nat} {l : List ByteArray} {ws : List (Nat × ByteArray)} {ks : Nat → Nat} (hk : ∀ j, j < ws.length → ks (i + j) = 0) (h : ∀ s ∈ l, s.size = 512) (hn : ∀ p ∈ ws, p.1 < l.length) : settle ks i l ws = l := by
  induction ws generalizing i with
  | nil => rfl
  | cons p ws ih =>
    show settle ks (i + 1) (lay l p (ks i)) ws = l
    have := hk 0 (by simp); rw [Nat.add_zero] at this
    rw [this, lay_zero h (hn p (by simp))]
    exact ih (fun j hj => by have := hk (j + 1) (by simp; omega); rw [← this]; congr 1; omega) (fun q hq => hn q (by simp [hq]))
theorem settle_congr {i : Nat} {l : List ByteArray} {ws : List (Nat × ByteArray)} {ks qs : Nat → Nat} (hk : ∀ j, j < ws.length → ks (i + j) = qs (i + j)) : settle ks i l ws = settle qs i l ws := by
  induction ws generalizing i l with
  | nil => rfl
  | cons p ws ih =>
    show settle ks (i + 1) (lay l p (ks i)) ws = settle qs (i + 1) (lay l p (qs i)) ws
    have := hk 0 (by simp); rw [Nat.add_zero] at this
    rw [this, ih (fun j hj => by have := hk (j + 1) (by simp; omega); rw [show i + 1 + j = i + (j + 1) by omega]; exact this)]
/-- What is read and what is safe, beside one another. -/
def settle2 (ks : Nat → Nat) : Nat → List ByteArray × List ByteArray → List (Nat × ByteArray) → List ByteArray × List ByteArray
  | _, x, [] => x
  | i, x, p :: ws => settle2 ks (i + 1) (lay x.1 p (ks i), x.2.set p.1 ((lay x.1 p (ks i)).getD p.1 ByteArray.empty)) ws
theorem settle2_fst (ks : Nat → Nat) (i : Nat) (x : List ByteArray × List ByteArray) (ws : List (Nat × ByteArray)) : (settle2 ks i x ws).1 = settle ks i x.1 ws := by
  induction ws generalizing i x with
  | nil => rfl
  | cons p ws ih => exact ih (i + 1) _
theorem settle2_snoc (ks : Nat → Nat) (i : Nat) (x : List ByteArray × List ByteArray) (ws : List (Nat × ByteArray)) (p : Nat × ByteArray) :
    settle2 ks i x (ws ++ [p]) = (lay (settle2 ks i x ws).1 p (ks (i + ws.length)), (settle2 ks i x ws).2.set p.1 ((lay (settle2 ks i x ws).1 p (ks (i + ws.length))).getD p.1 ByteArray.empty)) := by
  induction ws generalizing i x with
  | nil => rfl
  | cons q ws ih =>
    show settle2 ks (i + 1) _ (ws ++ [p]) = _
    rw [ih, show i + (q :: ws).length = i + 1 + ws.length by simp; omega]
    rfl
theorem settle2_length (ks : Nat → Nat) (i : Nat) (x : List ByteArray × List ByteArray) (ws : List (Nat × ByteArray)) : (settle2 ks i x ws).2.length = x.2.length := by
  induction ws generalizing i x with
  | nil => rfl
  | cons p ws ih => exact (ih (i + 1) _).trans (by simp)
theorem settle2_same {ks : Nat → Nat} {i : Nat} {x : List ByteArray × List ByteArray} {ws : List (Nat × ByteArray)} (hl : x.2.length = x.1.length) (hn : ∀ p ∈ ws, p.1 < x.1.length)
    (h : ∀ n : Nat, (∀ p ∈ ws, p.1 ≠ n) → x.2[n]? = x.1[n]?) : (settle2 ks i x ws).2 = (settle2 ks i x ws).1 := by
  induction ws generalizing i x with
  | nil => exact List.ext_getElem? (fun n => h n (by simp))
  | cons p ws ih =>
    refine ih (by simp [length_lay, hl]) (fun q hq => by rw [length_lay]; exact hn q (by simp [hq])) ?_
    intro n hw
    show (x.2.set p.1 ((lay x.1 p (ks i)).getD p.1 ByteArray.empty))[n]? = (lay x.1 p (ks i))[n]?
    by_cases e : p.1 = n
    · subst e
      have h1 := hn p (by simp)
      rw [List.getElem?_set_self (by omega), List.getD_eq_getElem?_getD, List.getElem?_eq_getElem (by rw [length_lay]; exact h1)]
      rfl
    · have := h n (by intro q hq; rcases List.mem_cons.1 hq with rfl | hq; exact e; exact hw q hq)
      unfold lay
      rw [List.getElem?_set_ne e, List.getElem?_set_ne e]; exact this
theorem over_other {l : List ByteArray} {ws : List (Nat × ByteArray)} {n : Nat} (h : ∀ p ∈ ws, p.1 ≠ n) : (over l ws)[n]? = l[n]? := by
  induction ws generalizing l with
  | nil => rfl
  | cons p ws ih =>
    show (over (l.set p.1 p.2) ws)[n]? = _
    rw [ih (fun q hq => h q (by simp [hq])), List.getElem?_set_ne (h p (by simp))]
theorem settle2_shown {ks : Nat → Nat} {l : List ByteArray} {ws : List (Nat × ByteArray)} (hn : ∀ p ∈ ws, p.1 < l.length) : settle2 ks 0 (l, over l ws) ws = (settle ks 0 l ws, settle ks 0 l ws) := by
  have h1 := settle2_fst ks 0 (l, over l ws) ws
  have h2 := settle2_same (ks := ks) (i := 0) (x := (l, over l ws)) (ws := ws) (length_over l ws) hn (fun n h => over_other h)
  rw [h1] at h2
  exact Prod.ext h1 h2
end Go.Proofs.YtnpcnflfpmjgiaaDoor
