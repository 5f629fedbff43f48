/- Frames put into one sector, and a crash: what is told behind it. Plain facts. -/
import Derived.Test.YtnpcnflfpmjgiaaDoorFy
namespace Go.Proofs.YtnpcnflfpmjgiaaDoor
open Go.RowKit
set_option linter.unusedVariables false
set_option linter.unusedSimpArgs false

/-- What a sector holds, when each of some writes met its fate. -/
def tears (ks : Nat → Nat) : Nat → ByteArray → List ByteArray → ByteArray
  | _, o, [] => o
  | i, o, s :: ss => tears ks (i + 1) (tear s o (ks i)) ss
def atOne (ss : List ByteArray) : List (Nat × ByteArray) := ss.map (fun s => (1, s))
theorem settle_one (ks : Nat → Nat) (x : ByteArray) : ∀ (ss : List ByteArray) (i : Nat) (o : ByteArray), settle ks i [x, o] (atOne ss) = [x, tears ks i o ss]
  | [], _, _ => rfl
  | s :: ss, i, o => by
    show settle ks (i + 1) (lay [x, o] (1, s) (ks i)) (atOne ss) = _
    rw [show lay [x, o] (1, s) (ks i) = [x, tear s o (ks i)] from rfl]
    exact settle_one ks x ss (i + 1) _
theorem over_one (x : ByteArray) : ∀ (ss : List ByteArray) (o : ByteArray), over [x, o] (atOne ss) = [x, (ss.getLast?).getD o]
  | [], _ => rfl
  | s :: ss, o => by
    show over [x, s] (atOne ss) = _
    rw [over_one x ss s]
    cases ss with
    | nil => rfl
    | cons a l =>
      rw [List.getLast?_cons_cons]
      cases h : (a :: l).getLast? with
      | none => simp at h
      | some z => rfl
/-- One of the frames that were put: its bytes, with the mark that came. -/
structure Sat (o : ByteArray) (i : Nat) (s : ByteArray) (f : Fr) : Prop where
  size : s.size = 512
  ok : openE s = 0
  fr : openR s = f
  both : at8 s 0 = at8 s 511
  mark : (at8 s 511).toNat = ((at8 o 511).toNat + i + 1) % 256
/-- A disk of two sectors, with frames put into the second one. -/
structure Wd (S : DS) (x o : ByteArray) (l : List Fr) (ss : List ByteArray) : Prop where
  live : Live S
  safe : S.safe = [x, o]
  wait : S.wait = atOne ss
  len : ss.length = l.length
  each : ∀ (i : Nat) (s : ByteArray) (f : Fr), ss[i]? = some s → l[i]? = some f → Sat o i s f
theorem Wd.shown {S : DS} {x o : ByteArray} {l : List Fr} {ss : List ByteArray} (h : Wd S x o l ss) : S.shown.getD 1 ByteArray.empty = (ss.getLast?).getD o := by
  unfold DS.shown
  rw [h.safe, h.wait, over_one]; rfl
theorem Wd.last {S : DS} {x o : ByteArray} {l : List Fr} {ss : List ByteArray} (h : Wd S x o l ss) : (at8 (S.shown.getD 1 ByteArray.empty) 511).toNat = ((at8 o 511).toNat + l.length) % 256 := by
  rw [h.shown]
  have hlt := (at8 o 511).toNat_lt
  cases e : ss.getLast? with
  | none =>
    have : ss = [] := List.getLast?_eq_none_iff.1 e
    have hl := h.len
    rw [this] at hl
    simp only [Option.getD_none]
    rw [← hl]
    simp
  | some s =>
    have hne : ss ≠ [] := by intro e2; rw [e2] at e; cases e
    have hp : 0 < ss.length := List.length_pos_iff.2 hne
    have hi : ss[ss.length - 1]? = some s := by rw [← e, List.getLast?_eq_getElem?]
    have hl := h.len
    obtain ⟨f, hf⟩ : ∃ f, l[ss.length - 1]? = some f := ⟨_, List.getElem?_eq_getElem (by omega)⟩
    have := (h.each _ s f hi hf).mark
    simp only [Option.getD_some]
    rw [this]
    congr 1
    omega
theorem Wd.two {S : DS} {x o : ByteArray} {l : List Fr} {ss : List ByteArray} (h : Wd S x o l ss) : 1 < S.safe.length := by rw [h.safe]; simp
theorem Wd.read {S : DS} {x o : ByteArray} {l : List Fr} {ss : List ByteArray} (h : Wd S x o l ss) (n : Int) : Wd (readD S n) x o l ss :=
  ⟨h.live.readD n, (readD_safe S n).trans h.safe, (readD_wait S n).trans h.wait, h.len, h.each⟩
theorem Wd.start {S : DS} {x o : ByteArray} (h : Live S) (hs : S.safe = [x, o]) (hw : S.wait = []) : Wd S x o [] [] := ⟨h, hs, hw, rfl, fun i s f h _ => by simp at h⟩
/-- One frame more. -/
theorem Wd.put {S : DS} {x o : ByteArray} {l : List Fr} {ss : List ByteArray} (h : Wd S x o l ss) {f : Fr} (hw : wrong f = 0) (hn : f.num < 18446744073709551616) :
    putE S 1 f = 0 ∧ Wd (putD S 1 f) x o (l ++ [f]) (ss ++ [putB S 1 f]) ∧ getE (putD S 1 f) 1 = 0 ∧ getF (putD S 1 f) 1 = f := by
  have zz : ((1 : Nat) : Int) = 1 := rfl
  have p := h.live.put (m := 1) h.two hw
  have q := h.live.putB (m := 1) h.two hw hn
  rw [h.last] at q
  rw [zz] at p q
  obtain ⟨a1, l1, a2, a3, a4⟩ := p
  obtain ⟨b1, b2, b3, b4⟩ := q
  have hW : Wd (putD S 1 f) x o (l ++ [f]) (ss ++ [putB S 1 f]) := by
    refine ⟨l1, a2.trans h.safe, ?_, by simp [h.len], ?_⟩
    · rw [a3, h.wait]; simp [atOne]
    · intro i s g hi hg
      by_cases e : i < ss.length
      · rw [List.getElem?_append_left e] at hi
        rw [List.getElem?_append_left (by rw [← h.len]; exact e)] at hg
        exact h.each i s g hi hg
      · have hi2 : i = ss.length := by
          have := (List.getElem?_eq_some_iff.1 hi).1
          simp at this; omega
        rw [hi2, List.getElem?_append_right (Nat.le_refl _), Nat.sub_self] at hi
        rw [hi2, h.len, List.getElem?_append_right (Nat.le_refl _), Nat.sub_self] at hg
        obtain rfl := Option.some.inj hi
        obtain rfl := Option.some.inj hg
        refine ⟨a4, b1, b2, b4, ?_⟩
        rw [b3, hi2, h.len]
        omega
  have hg := hW.live.get (m := 1) hW.two
  rw [zz, hW.shown, List.getLast?_concat, Option.getD_some, b1, b2] at hg
  exact ⟨a1, hW, hg.1, hg.2⟩
/-- What a torn sector is told as. -/
theorem torn_of {s : ByteArray} (hs : s.size = 512) (h : at8 s 0 ≠ at8 s 511) : openE s = 50 := by
  unfold openE
  rw [if_neg (by omega), if_pos h]
/-- What a sector may hold behind some writes: it has the last byte of its newest whole write, and is that write, or its first byte is the mark of a later one. -/
def Held (o : ByteArray) (l : List (ByteArray × Fr)) (n : Nat) (y : ByteArray) : Prop :=
  y.size = 512 ∧ ∃ j, j ≤ n ∧ (at8 y 511).toNat = ((at8 o 511).toNat + j) % 256 ∧
    ((j = 0 ∧ y = o) ∨ (∃ s f, 0 < j ∧ l[j - 1]? = some (s, f) ∧ y = s) ∨ ∃ t, j < t ∧ t ≤ n ∧ (at8 y 0).toNat = ((at8 o 511).toNat + t) % 256)
theorem held_step {o : ByteArray} {l : List (ByteArray × Fr)} {n : Nat} {y s : ByteArray} {f : Fr} (h : Held o l n y) (hl : l[n]? = some (s, f)) (hs : Sat o n s f) (k : Nat) (hk : k ≤ 512) : Held o l (n + 1) (tear s y k) := by
  obtain ⟨hy, j, hj, hm, hc⟩ := h
  refine ⟨size_tear hs.size hy hk, ?_⟩
  by_cases h5 : k = 512
  · subst h5
    rw [tear_full hs.size]
    exact ⟨n + 1, Nat.le_refl _, hs.mark, .inr (.inl ⟨s, f, by omega, hl, rfl⟩)⟩
  · by_cases h0 : k = 0
    · subst h0
      rw [tear_zero hy]
      refine ⟨j, by omega, hm, ?_⟩
      rcases hc with hc | hc | ⟨t, h1, h2, h3⟩
      · exact .inl hc
      · exact .inr (.inl hc)
      · exact .inr (.inr ⟨t, h1, by omega, h3⟩)
    · refine ⟨j, by omega, ?_, .inr (.inr ⟨n + 1, by omega, Nat.le_refl _, ?_⟩)⟩
      · rw [tear_last hs.size (by omega)]; exact hm
      · rw [tear_first hs.size (by omega), hs.both]; exact hs.mark
theorem held_all {o : ByteArray} {l : List (ByteArray × Fr)} {ks : Nat → Nat} (hk : ∀ i, ks i ≤ 512) (hs : ∀ (i : Nat) (s : ByteArray) (f : Fr), l[i]? = some (s, f) → Sat o i s f) :
    ∀ (r : List (ByteArray × Fr)) (n : Nat) (y : ByteArray), l.drop n = r → n ≤ l.length → Held o l n y → Held o l l.length (tears ks n y (r.map (·.1)))
  | [], n, y, hd, hn, h => by
    have hn2 : l.length ≤ n := List.drop_eq_nil_iff.1 hd
    obtain rfl : n = l.length := by omega
    exact h
  | (s, f) :: r, n, y, hd, hn, h => by
    have hn2 : l[n]? = some (s, f) := by
      have : (l.drop n)[0]? = some (s, f) := by rw [hd]; rfl
      rw [List.getElem?_drop, Nat.add_zero] at this
      exact this
    have hd2 : l.drop (n + 1) = r := by rw [← List.drop_drop, hd]; rfl
    have hlt := (List.getElem?_eq_some_iff.1 hn2).1
    exact held_all hk hs r (n + 1) _ hd2 (by omega) (held_step h hn2 (hs n s f hn2) (ks n) (hk n))
/-- WHOLE OR TOLD: what is told behind the crash. -/
theorem Wd.crash {S : DS} {x o : ByteArray} {l : List Fr} {ss : List ByteArray} (h : Wd S x o l ss) (hl : l.length ≤ 255) (fs : List (Int × Int)) :
    ∃ o', Wd (crashD S fs) x o' [] [] ∧ o'.size = 512 ∧ (openE o' = 50 ∨ (openE o' = openE o ∧ openR o' = openR o) ∨ ∃ (i : Nat) (f : Fr), l[i]? = some f ∧ openE o' = 0 ∧ openR o' = f) := by
  have ho : o.size = 512 := h.live.ok.size o (by rw [h.safe]; simp)
  have hsafe : (crashD S fs).safe = [x, tears (fateK fs) 0 o ss] := by rw [crashD_safe, h.safe, h.wait, settle_one]
  have hz : ∀ (i : Nat) (s : ByteArray) (f : Fr), (ss.zip l)[i]? = some (s, f) → Sat o i s f := by
    intro i s f hi
    rw [List.getElem?_zip_eq_some] at hi
    exact h.each i s f hi.1 hi.2
  have hmap : (ss.zip l).map (·.1) = ss := by rw [List.map_fst_zip]; rw [h.len]; exact Nat.le_refl _
  have hlen : (ss.zip l).length = l.length := by rw [List.length_zip, h.len]; omega
  have H0 : Held o (ss.zip l) 0 o := ⟨ho, 0, Nat.le_refl _, by have := (at8 o 511).toNat_lt; omega, .inl ⟨rfl, rfl⟩⟩
  have H := held_all (fateK_le fs) hz (ss.zip l) 0 o rfl (Nat.zero_le _) H0
  rw [hmap, hlen] at H
  refine ⟨tears (fateK fs) 0 o ss, ⟨live_crash h.live.ok fs, hsafe, rfl, rfl, fun i s f h _ => by simp at h⟩, H.1, ?_⟩
  obtain ⟨hy, j, hj, hm, hc⟩ := H
  rcases hc with ⟨_, hc⟩ | ⟨s, f, h1, h2, h3⟩ | ⟨t, h1, h2, h3⟩
  · rw [hc]; exact .inr (.inl ⟨rfl, rfl⟩)
  · rw [h3]
    have hS := hz _ _ _ h2
    rw [List.getElem?_zip_eq_some] at h2
    exact .inr (.inr ⟨j - 1, f, h2.2, hS.ok, hS.fr⟩)
  · left
    refine torn_of hy (fun e => ?_)
    have := congrArg UInt8.toNat e
    rw [hm, h3] at this
    omega
end Go.Proofs.YtnpcnflfpmjgiaaDoor
