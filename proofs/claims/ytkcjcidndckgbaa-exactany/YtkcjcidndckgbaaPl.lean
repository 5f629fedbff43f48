/- A row of places, in which texts are looked for from a home on: plain facts. -/
import Derived.Test.YtkcjcidndckgbaaKe
namespace Go.Proofs.Ytkcjcidndckgbaa
set_option linter.unusedVariables false
set_option linter.unusedSimpArgs false

def dist (L a b : Nat) : Nat := if a ≤ b then b - a else b + L - a
def nx (L b : Nat) : Nat := if b + 1 = L then 0 else b + 1
theorem nx_mod {L b : Nat} (h : b < L) : (b + 1) % L = nx L b := by
  unfold nx; split
  · next e => rw [e, Nat.mod_self]
  · exact Nat.mod_eq_of_lt (by omega)
theorem nx_lt {L b : Nat} (h : b < L) : nx L b < L := by unfold nx; split <;> omega
theorem dist_mod {L a b : Nat} (ha : a < L) (hb : b < L) : (b + L - a) % L = dist L a b := by
  unfold dist; split
  · rw [show b + L - a = (b - a) + L by omega, Nat.add_mod_right]; exact Nat.mod_eq_of_lt (by omega)
  · exact Nat.mod_eq_of_lt (by omega)
theorem dist_lt {L a b : Nat} (ha : a < L) (hb : b < L) : dist L a b < L := by unfold dist; split <;> omega
theorem dist_self (L a : Nat) : dist L a a = 0 := by unfold dist; simp
theorem dist_inj {L a b c : Nat} (ha : a < L) (hb : b < L) (hc : c < L) (h : dist L a b = dist L a c) : b = c := by
  unfold dist at h; split at h <;> split at h <;> omega
theorem dist_nx {L a b : Nat} (ha : a < L) (hb : b < L) (h : dist L a b + 1 < L) : dist L a (nx L b) = dist L a b + 1 := by
  unfold dist at h; unfold dist nx; split <;> split at h <;> split <;> omega
theorem dist_nx' {L a b c : Nat} (ha : a < L) (hb : b < L) (hc : c < L) (h : dist L a b < dist L a c) : dist L a (nx L b) = dist L a b + 1 := dist_nx ha hb (by have := dist_lt ha hc; omega)
theorem dist_nx_l {L b c : Nat} (hb : b < L) (hc : c < L) (h : b ≠ c) : dist L (nx L b) c + 1 = dist L b c := by
  unfold dist nx; split <;> split <;> split <;> omega
theorem dist_one {L b : Nat} (hb : b < L) (h : 2 ≤ L) : dist L b (nx L b) = 1 := by
  unfold dist nx; split <;> split <;> omega
theorem dist_zero {L a b : Nat} (ha : a < L) (hb : b < L) (h : dist L a b = 0) : a = b := by
  unfold dist at h; split at h <;> omega
/-- What lies behind on the way. -/
theorem dist_way {L h a n i : Nat} (hh : h < L) (ha : a < L) (hn : n < L) (hi : i < L) (h1 : dist L h a < dist L h i) (h2 : dist L a n < dist L a i) : dist L h n < dist L h i := by
  unfold dist at *
  split at h1 <;> split at h1 <;> split at h2 <;> split at h2 <;> split <;> (try split) <;> omega
theorem dist_ge {L h a n : Nat} (hh : h < L) (ha : a < L) (hn : n < L) (h0 : 0 < dist L a n) : dist L a n ≤ dist L h n ↔ dist L h a < dist L h n := by
  unfold dist at *
  split at h0 <;> split <;> split <;> (try split) <;> omega
theorem dist_sub {L h a n p : Nat} (hh : h < L) (ha : a < L) (hn : n < L) (hp : p < L) (h1 : dist L h a < dist L h n) (h2 : dist L h p < dist L h a) : dist L h p < dist L h n := by omega

variable {V : Type}
abbrev Pl (V : Type) := Option (ByteArray × V)

/-- What a row of places holds. -/
def cont (r : List (Pl V)) : List (ByteArray × V) := r.filterMap id
theorem cont_nil : cont ([] : List (Pl V)) = [] := rfl
theorem cont_none (r : List (Pl V)) : cont (none :: r) = cont r := rfl
theorem cont_some (x) (r : List (Pl V)) : cont (some x :: r) = x :: cont r := rfl
theorem mem_cont {r : List (Pl V)} {x : ByteArray × V} : x ∈ cont r ↔ ∃ i : Nat, r[i]? = some (some x) := by
  unfold cont
  rw [List.mem_filterMap]
  constructor
  · rintro ⟨a, ha, e⟩
    obtain ⟨i, hi, rfl⟩ := List.getElem_of_mem ha
    exact ⟨i, by rw [List.getElem?_eq_getElem hi]; exact congrArg some e⟩
  · rintro ⟨i, h⟩
    exact ⟨some x, List.mem_of_getElem? h, rfl⟩
theorem cont_set : ∀ (r : List (Pl V)) (i : Nat) (x : ByteArray × V), i < r.length → (cont (r.set i (some x))).Perm (x :: cont (r.set i none))
  | [], i, x, h => absurd h (by simp)
  | a :: r, 0, x, h => by
      rw [List.set_cons_zero, List.set_cons_zero, cont_some, cont_none]
  | none :: r, i + 1, x, h => by
      rw [List.set_cons_succ, List.set_cons_succ, cont_none, cont_none]
      exact cont_set r i x (by simpa using h)
  | some a :: r, i + 1, x, h => by
      rw [List.set_cons_succ, List.set_cons_succ, cont_some, cont_some]
      exact ((cont_set r i x (by simpa using h)).cons a).trans (List.Perm.swap x a _)
theorem set_same {r : List (Pl V)} {i : Nat} {x : Pl V} (h : r[i]? = some x) : r.set i x = r := by
  apply List.ext_getElem?
  intro j
  rw [List.getElem?_set]
  split
  · next e =>
    subst e
    have hi : i < r.length := (List.getElem?_eq_some_iff.1 h).1
    rw [if_pos hi, h]
  · rfl
theorem cont_take {r : List (Pl V)} {i : Nat} {x : ByteArray × V} (h : r[i]? = some (some x)) : (cont r).Perm (x :: cont (r.set i none)) := by
  have := cont_set r i x (List.getElem?_eq_some_iff.1 h).1
  rwa [set_same h] at this
theorem cont_lay {r : List (Pl V)} {i : Nat} (x : ByteArray × V) (h : r[i]? = some none) : (cont (r.set i (some x))).Perm (x :: cont r) := by
  have := cont_set r i x (List.getElem?_eq_some_iff.1 h).1
  rwa [set_same h] at this
theorem cont_len_le : ∀ (r : List (Pl V)), (cont r).length ≤ r.length := fun r => List.length_filterMap_le _ _
theorem free_of : ∀ (r : List (Pl V)), (cont r).length < r.length → ∃ f : Nat, r[f]? = some none
  | [], h => absurd h (by simp)
  | none :: r, h => ⟨0, rfl⟩
  | some a :: r, h => by
      rw [cont_some] at h
      obtain ⟨f, hf⟩ := free_of r (by simp at h; omega)
      exact ⟨f + 1, by simpa using hf⟩
theorem cont_replicate (n : Nat) : cont (List.replicate n (none : Pl V)) = [] := by
  induction n with
  | zero => rfl
  | succ n ih => rw [List.replicate_succ, cont_none, ih]
theorem cont_append (a b : List (Pl V)) : cont (a ++ b) = cont a ++ cont b := List.filterMap_append

variable (H : ByteArray → Nat)
/-- Where a text is looked for from on. -/
def home (L : Nat) (k : ByteArray) : Nat := H k % L
theorem home_lt {L : Nat} (h : 0 < L) (k : ByteArray) : home H L k < L := Nat.mod_lt _ h

/-- A row of places as the program keeps it: no text twice, and from each text's home on to its place all are taken. -/
structure Rw (r : List (Pl V)) : Prop where
  pos : 2 ≤ r.length
  way : ∀ (i : Nat) (x : ByteArray × V), r[i]? = some (some x) → ∀ p : Nat, p < r.length → dist r.length (home H r.length x.1) p < dist r.length (home H r.length x.1) i → r[p]? ≠ some none
  one : ∀ (i j : Nat) (x y : ByteArray × V), r[i]? = some (some x) → r[j]? = some (some y) → x.1 = y.1 → i = j

theorem Rw.empty {n : Nat} (h : 2 ≤ n) : Rw H (List.replicate n (none : Pl V)) where
  pos := by simpa using h
  way i x hx := by rw [List.getElem?_replicate] at hx; split at hx <;> simp at hx
  one i j x y hx := by rw [List.getElem?_replicate] at hx; split at hx <;> simp at hx

/-- Where a search stands. -/
structure Seek (r : List (Pl V)) (k : ByteArray) (a : Nat) : Prop where
  lt : a < r.length
  past : ∀ p : Nat, p < r.length → dist r.length (home H r.length k) p < dist r.length (home H r.length k) a → ∃ x, r[p]? = some (some x) ∧ x.1 ≠ k
theorem Seek.start {r : List (Pl V)} (h : 2 ≤ r.length) (k : ByteArray) : Seek H r k (home H r.length k) where
  lt := home_lt H (by omega) k
  past p hp hd := by rw [dist_self] at hd; omega
variable {H}
theorem Seek.next {r : List (Pl V)} {k : ByteArray} {a : Nat} (h : Seek H r k a) {x} (hx : r[a]? = some (some x)) (hk : x.1 ≠ k) {f : Nat} (hf : r[f]? = some none) :
    Seek H r k (nx r.length a) ∧ dist r.length (home H r.length k) (nx r.length a) = dist r.length (home H r.length k) a + 1 ∧ dist r.length (home H r.length k) a + 1 < r.length := by
  have la := h.lt
  have lf : f < r.length := (List.getElem?_eq_some_iff.1 hf).1
  have lh := home_lt H (L := r.length) (by omega) k
  have hdf : dist r.length (home H r.length k) a < dist r.length (home H r.length k) f := by
    rcases Nat.lt_trichotomy (dist r.length (home H r.length k) a) (dist r.length (home H r.length k) f) with q | q | q
    · exact q
    · have := dist_inj lh la lf q; subst this; rw [hx] at hf; simp at hf
    · obtain ⟨y, hy, _⟩ := h.past f lf q; rw [hy] at hf; simp at hf
  have lf2 := dist_lt lh lf
  have e := dist_nx lh la (by omega)
  refine ⟨⟨nx_lt la, ?_⟩, e, by omega⟩
  intro p hp hd
  rw [e] at hd
  rcases Nat.lt_or_ge (dist r.length (home H r.length k) p) (dist r.length (home H r.length k) a) with q | q
  · exact h.past p hp q
  · have := dist_inj lh hp la (by omega); subst this; exact ⟨x, hx, hk⟩
theorem Seek.none {r : List (Pl V)} {k : ByteArray} {a : Nat} (h : Seek H r k a) (hr : Rw H r) (ha : r[a]? = some none) : ∀ x ∈ cont r, x.1 ≠ k := by
  intro x hx e
  obtain ⟨i, hi⟩ := mem_cont.1 hx
  have li : i < r.length := (List.getElem?_eq_some_iff.1 hi).1
  have lh := home_lt H (L := r.length) (by omega) k
  rcases Nat.lt_trichotomy (dist r.length (home H r.length k) a) (dist r.length (home H r.length k) i) with q | q | q
  · exact hr.way i x hi a h.lt (by rw [e]; exact q) ha
  · have := dist_inj lh h.lt li q; subst this; rw [ha] at hi; simp at hi
  · obtain ⟨y, hy, hk⟩ := h.past i li q; rw [hy] at hi; simp at hi; subst hi; exact hk e

theorem get_set_ne {r : List (Pl V)} {i j : Nat} (x : Pl V) (h : i ≠ j) : (r.set i x)[j]? = r[j]? := by rw [List.getElem?_set_ne h]
theorem get_set_eq {r : List (Pl V)} {i : Nat} (x : Pl V) (h : i < r.length) : (r.set i x)[i]? = some x := by rw [List.getElem?_set_self h]

/-- A thing more, laid where a search for its text ended. -/
theorem Rw.lay {r : List (Pl V)} (hr : Rw H r) {x : ByteArray × V} {a : Nat} (h : Seek H r x.1 a) (ha : r[a]? = some none) : Rw H (r.set a (some x)) where
  pos := by rw [List.length_set]; exact hr.pos
  way i y hy p hp hd := by
    rw [List.length_set] at hp hd
    by_cases e : a = p
    · subst e; rw [get_set_eq _ hp]; simp
    · rw [get_set_ne _ e]
      by_cases e2 : a = i
      · subst e2
        rw [get_set_eq _ h.lt] at hy
        simp at hy; subst hy
        obtain ⟨z, hz, _⟩ := h.past p hp hd
        rw [hz]; simp
      · rw [get_set_ne _ e2] at hy
        exact hr.way i y hy p hp hd
  one i j y z hy hz e := by
    have nk := h.none hr ha
    by_cases e2 : a = i
    · subst e2
      rw [get_set_eq _ h.lt] at hy
      simp at hy; subst hy
      by_cases e3 : a = j
      · exact e3
      · rw [get_set_ne _ e3] at hz
        exact absurd e.symm (nk z (mem_cont.2 ⟨j, hz⟩))
    · rw [get_set_ne _ e2] at hy
      by_cases e3 : a = j
      · subst e3
        rw [get_set_eq _ h.lt] at hz
        simp at hz; subst hz
        exact absurd e (nk y (mem_cont.2 ⟨i, hy⟩))
      · rw [get_set_ne _ e3] at hz
        exact hr.one i j y z hy hz e
/-- Another thing under the same text. -/
theorem Rw.put {r : List (Pl V)} (hr : Rw H r) {x y : ByteArray × V} {a : Nat} (ha : r[a]? = some (some x)) (hk : y.1 = x.1) : Rw H (r.set a (some y)) := by
  have la : a < r.length := (List.getElem?_eq_some_iff.1 ha).1
  have key : ∀ (i : Nat) (z : ByteArray × V), (r.set a (some y))[i]? = some (some z) → ∃ z' : ByteArray × V, r[i]? = some (some z') ∧ z'.1 = z.1 := by
    intro i z hz
    by_cases e : a = i
    · subst e; rw [get_set_eq _ la] at hz; simp at hz; subst hz; exact ⟨x, ha, hk.symm⟩
    · rw [get_set_ne _ e] at hz; exact ⟨z, hz, rfl⟩
  refine ⟨by rw [List.length_set]; exact hr.pos, ?_, ?_⟩
  · intro i z hz p hp hd
    rw [List.length_set] at hp hd
    obtain ⟨z', h1, h2⟩ := key i z hz
    rw [← h2] at hd
    have := hr.way i z' h1 p hp hd
    by_cases e : a = p
    · subst e; rw [get_set_eq _ la]; simp
    · rw [get_set_ne _ e]; exact this
  · intro i j z u hz hu e
    obtain ⟨z', h1, h2⟩ := key i z hz
    obtain ⟨u', h3, h4⟩ := key j u hu
    exact hr.one i j z' u' h1 h3 (by rw [h2, h4, e])

/-- A place is being made free: the hole h, the place n that is looked at, what is held besides. -/
structure Gap (H : ByteArray → Nat) (r : List (Pl V)) (h n f : Nat) (D : List (ByteArray × V)) : Prop where
  pos : 2 ≤ r.length
  lh : h < r.length
  ln : n < r.length
  free : r[f]? = some none
  held : ∃ x : ByteArray × V, r[h]? = some (some x)
  cont : (cont (r.set h none)).Perm D
  way : ∀ (i : Nat) (x : ByteArray × V), i ≠ h → r[i]? = some (some x) → ∀ p : Nat, p < r.length → dist r.length (home H r.length x.1) p < dist r.length (home H r.length x.1) i → r[p]? ≠ some none
  one : ∀ (i j : Nat) (x y : ByteArray × V), i ≠ h → j ≠ h → r[i]? = some (some x) → r[j]? = some (some y) → x.1 = y.1 → i = j
  btw : ∀ (i : Nat) (x : ByteArray × V), i ≠ h → r[i]? = some (some x) → dist r.length h i < dist r.length h n → ¬ dist r.length (home H r.length x.1) h < dist r.length (home H r.length x.1) i
  far0 : 0 < dist r.length h n
  far : dist r.length h n ≤ dist r.length h f
theorem Gap.start {r : List (Pl V)} (hr : Rw H r) {a f : Nat} {x : ByteArray × V} (ha : r[a]? = some (some x)) (hf : r[f]? = some none) : Gap H r a (nx r.length a) f (Ytkcjcidndckgbaa.cont (r.set a none)) := by
  have la : a < r.length := (List.getElem?_eq_some_iff.1 ha).1
  have lf : f < r.length := (List.getElem?_eq_some_iff.1 hf).1
  have h1 := dist_one la hr.pos
  refine ⟨hr.pos, la, nx_lt la, hf, ⟨x, ha⟩, List.Perm.refl _, fun i y _ hy => hr.way i y hy, fun i j y z _ _ => hr.one i j y z, ?_, by omega, ?_⟩
  · intro i y hi hy hd
    exact absurd (dist_zero la ((List.getElem?_eq_some_iff.1 hy).1) (by omega)) (Ne.symm hi)
  · rcases Nat.eq_zero_or_pos (dist r.length a f) with q | q
    · have := dist_zero la lf q; subst this; rw [ha] at hf; simp at hf
    · omega
theorem Gap.done {r : List (Pl V)} {h n f : Nat} {D} (g : Gap H r h n f D) (hn : r[n]? = some none) : Rw H (r.set h none) := by
  refine ⟨by rw [List.length_set]; exact g.pos, ?_, ?_⟩
  · intro i x hx p hp hd
    rw [List.length_set] at hp hd
    have li : i < r.length := by have := (List.getElem?_eq_some_iff.1 hx).1; rwa [List.length_set] at this
    by_cases e : h = i
    · subst e; rw [get_set_eq _ g.lh] at hx; simp at hx
    · rw [get_set_ne _ e] at hx
      by_cases e2 : h = p
      · subst e2
        exfalso
        have lhm := home_lt H (L := r.length) (by omega) x.1
        rcases Nat.lt_trichotomy (dist r.length h i) (dist r.length h n) with q | q | q
        · exact g.btw i x (Ne.symm e) hx q hd
        · have := dist_inj g.lh li g.ln q; subst this; rw [hx] at hn; simp at hn
        · exact g.way i x (Ne.symm e) hx n g.ln (dist_way lhm g.lh g.ln li hd q) hn
      · rw [get_set_ne _ e2]
        exact g.way i x (Ne.symm e) hx p hp hd
  · intro i j x y hx hy e
    by_cases e1 : h = i
    · subst e1; rw [get_set_eq _ g.lh] at hx; simp at hx
    · by_cases e2 : h = j
      · subst e2; rw [get_set_eq _ g.lh] at hy; simp at hy
      · rw [get_set_ne _ e1] at hx; rw [get_set_ne _ e2] at hy
        exact g.one i j x y (Ne.symm e1) (Ne.symm e2) hx hy e
theorem Gap.ne_f {r : List (Pl V)} {h n f : Nat} {D} (g : Gap H r h n f D) {x} (hx : r[n]? = some (some x)) : n ≠ f := by
  intro e; subst e; have := g.free; rw [hx] at this; simp at this
theorem Gap.ne_h {r : List (Pl V)} {h n f : Nat} {D} (g : Gap H r h n f D) : n ≠ h := by
  intro e; subst e; have := g.far0; rw [dist_self] at this; omega
theorem Gap.lf {r : List (Pl V)} {h n f : Nat} {D} (g : Gap H r h n f D) : f < r.length := (List.getElem?_eq_some_iff.1 g.free).1
/-- How far it is to the free place: it gets less. -/
theorem Gap.less {r : List (Pl V)} {h n f : Nat} {D} (g : Gap H r h n f D) {x} (hx : r[n]? = some (some x)) : dist r.length (nx r.length n) f < dist r.length n f := by
  have := dist_nx_l g.ln g.lf (g.ne_f hx); omega
theorem Gap.stay {r : List (Pl V)} {h n f : Nat} {D} (g : Gap H r h n f D) {x} (hx : r[n]? = some (some x)) (hd : ¬ dist r.length h n ≤ dist r.length (home H r.length x.1) n) : Gap H r h (nx r.length n) f D := by
  have lhm := home_lt H (L := r.length) (by have := g.lh; omega) x.1
  have nf := g.ne_f hx
  have q : dist r.length h n < dist r.length h f := by
    rcases Nat.lt_or_eq_of_le g.far with q | q
    · exact q
    · exact absurd (dist_inj g.lh g.ln g.lf q) nf
  have e := dist_nx' g.lh g.ln g.lf q
  refine ⟨g.pos, g.lh, nx_lt g.ln, g.free, g.held, g.cont, g.way, g.one, ?_, by omega, by omega⟩
  intro i y hi hy hd2
  have li : i < r.length := (List.getElem?_eq_some_iff.1 hy).1
  rw [e] at hd2
  rcases Nat.lt_or_ge (dist r.length h i) (dist r.length h n) with q2 | q2
  · exact g.btw i y hi hy q2
  · have := dist_inj g.lh li g.ln (by omega)
    subst this
    rw [hy] at hx; simp at hx; subst hx
    exact fun q3 => hd ((dist_ge lhm g.lh g.ln g.far0).2 q3)
theorem Gap.move {r : List (Pl V)} {h n f : Nat} {D} (g : Gap H r h n f D) {x} (hx : r[n]? = some (some x)) (hd : dist r.length h n ≤ dist r.length (home H r.length x.1) n) : Gap H (r.set h (some x)) n (nx r.length n) f D := by
  have lhm := home_lt H (L := r.length) (by have := g.lh; omega) x.1
  have nf := g.ne_f hx
  have nh := g.ne_h
  have lf := g.lf
  have hx' : (r.set h (some x))[n]? = some (some x) := by rw [get_set_ne _ (Ne.symm nh)]; exact hx
  have hfh : h ≠ f := by intro e; subst e; obtain ⟨y, hy⟩ := g.held; have := g.free; rw [hy] at this; simp at this
  have h1 := dist_one g.ln g.pos
  have tk : ∀ p : Nat, p < r.length → r[p]? ≠ some none → (r.set h (some x))[p]? ≠ some none := by
    intro p hp hq
    by_cases e : h = p
    · subst e; rw [get_set_eq _ hp]; simp
    · rw [get_set_ne _ e]; exact hq
  have old : ∀ (i : Nat) (y : ByteArray × V), i ≠ n → (r.set h (some x))[i]? = some (some y) → (i = h ∧ y = x) ∨ (i ≠ h ∧ r[i]? = some (some y)) := by
    intro i y hi hy
    by_cases e : h = i
    · subst e; rw [get_set_eq _ g.lh] at hy; simp at hy; exact .inl ⟨rfl, hy.symm⟩
    · rw [get_set_ne _ e] at hy; exact .inr ⟨Ne.symm e, hy⟩
  refine ⟨by rw [List.length_set]; exact g.pos, by rw [List.length_set]; exact g.ln, by rw [List.length_set]; exact nx_lt g.ln, by rw [get_set_ne _ hfh]; exact g.free, ⟨x, hx'⟩, ?_, ?_, ?_, ?_, ?_, ?_⟩
  · have a1 : (Ytkcjcidndckgbaa.cont (r.set h none)).Perm (x :: Ytkcjcidndckgbaa.cont ((r.set h none).set n none)) := cont_take (by rw [get_set_ne _ (Ne.symm nh)]; exact hx)
    have a2 : (Ytkcjcidndckgbaa.cont ((r.set h (some x)).set n none)).Perm (x :: Ytkcjcidndckgbaa.cont ((r.set h none).set n none)) := by
      rw [List.set_comm _ _ (Ne.symm nh), List.set_comm _ _ (Ne.symm nh)]
      exact cont_set _ h x (by rw [List.length_set]; exact g.lh)
    exact (a2.trans a1.symm).trans g.cont
  · intro i y hi hy p hp hd2
    rw [List.length_set] at hp hd2
    apply tk p hp
    rcases old i y hi hy with ⟨rfl, rfl⟩ | ⟨h2, h3⟩
    · exact g.way n y nh hx p hp (dist_sub lhm g.lh g.ln hp ((dist_ge lhm g.lh g.ln g.far0).1 hd) hd2)
    · exact g.way i y h2 h3 p hp hd2
  · intro i j y z hi hj hy hz e
    rcases old i y hi hy with ⟨rfl, rfl⟩ | ⟨h2, h3⟩
    · rcases old j z hj hz with ⟨rfl, rfl⟩ | ⟨h4, h5⟩
      · rfl
      · exact absurd (g.one n j y z nh h4 hx h5 e).symm hj
    · rcases old j z hj hz with ⟨rfl, rfl⟩ | ⟨h4, h5⟩
      · exact absurd (g.one i n y z h2 nh h3 hx e) hi
      · exact g.one i j y z h2 h4 h3 h5 e
  · intro i y hi hy hd2
    rw [List.length_set] at hd2
    have li : i < r.length := by have := (List.getElem?_eq_some_iff.1 hy).1; rwa [List.length_set] at this
    exact absurd (dist_zero g.ln li (by omega)) (Ne.symm hi)
  · rw [List.length_set]; omega
  · rw [List.length_set]
    rcases Nat.eq_zero_or_pos (dist r.length n f) with q | q
    · exact absurd (dist_zero g.ln lf q) nf
    · omega
end Go.Proofs.Ytkcjcidndckgbaa
