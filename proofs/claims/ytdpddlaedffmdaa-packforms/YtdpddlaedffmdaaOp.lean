/- Arguments of this layer, opened: items, wants, lists of these. -/
import Derived.Test.YtdpddlaedffmdaaRows
import Derived.Test.YtdpddlaedffmdaaPn
import Derived.Test.YtdpddlaedffmdaaLi
import Derived.Deep.Slices
namespace Go.Proofs.Ytdpddlaedffmdaa
open Go.ChangeShapes Go.WideShapes Go.ChangeAt Go.RowKit Go.Joins
set_option linter.unusedVariables false

theorem list_of {α : Type} (P : Nat → α → Prop) : ∀ n : Nat, (∀ i, i < n → ∃ y, P i y) → ∃ l : List α, l.length = n ∧ ∀ i (h : i < l.length), P i l[i]
  | 0, _ => ⟨[], rfl, fun i h => by simp at h⟩
  | n + 1, h => by
    obtain ⟨l, hl, hP⟩ := list_of P n (fun i hi => h i (by omega))
    obtain ⟨y, hy⟩ := h n (by omega)
    refine ⟨l ++ [y], by simp [hl], fun i hi => ?_⟩
    by_cases e : i < l.length
    · rw [List.getElem_append_left e]; exact hP i e
    · have hin : i = n := by simp at hi; omega
      subst hin
      rw [List.getElem_append_right (by omega)]
      simp [hl]; exact hy
theorem cells_at {w : World} {a : Addr} {p n : Nat} {cs : List Value} (ha : a.spot = none) (h : w.cells? 0 (a.add p) n = some cs) : ∀ j v, cs[j]? = some v → w.cell? ⟨a.block, a.off + p + j, none⟩ = some v := by
  intro j v hj
  obtain ⟨_, h2, h3⟩ := World.cells?_some h
  have hjn : j < n := by rw [← h2]; exact (List.getElem?_eq_some_iff.1 hj).1
  have := h3 j hjn
  obtain ⟨b, off, sp⟩ := a
  simp only at ha
  subst ha
  rw [add_plain, add_plain] at this
  rw [this, hj]
theorem cells_spot {w : World} {a : Addr} {n : Nat} {cs : List Value} (hn : 0 < n) (h : w.cells? 0 a n = some cs) : a.spot = none ∧ a.block < w.heap.size := by
  refine ⟨?_, World.cells?_block h hn⟩
  obtain ⟨_, h2, h3⟩ := World.cells?_some h
  have h4 := h3 0 hn
  obtain ⟨v, hv⟩ : ∃ v, cs[0]? = some v := ⟨_, List.getElem?_eq_getElem (by omega)⟩
  rw [hv] at h4
  have := World.cell?_spot h4
  simpa [Addr.add] using this
theorem weights_all {H : Type} {P : Program} {e : TypeId} : ∀ {ds : List (DataW H)} {d : DataW H}, d ∈ ds → ∀ n ∈ d.weights P e, n ∈ DataW.weightsAll P e ds
  | d' :: r, d, hd, n, hn => by
    rw [DataW.weightsAll]
    rcases List.mem_cons.1 hd with rfl | hd
    · exact List.mem_append_left _ hn
    · exact List.mem_append_right _ (weights_all hd n hn)
theorem bytes36 : Try.prog.bytesOf 36 = 64 := by kernel_rfl
theorem bytes45 : Try.prog.bytesOf 45 = 32 := by kernel_rfl
section
variable {H : Type} {enc : TypeId × Value → H} {W : World} {held : Bool} {fuel : Nat}
/-- A list of items. -/
theorem open_items {cs : List Value} {x : DataW H × List MemPlace} (h : DataW.trod enc Try.prog W 0 (fun _ => true) held fuel 22 cs = some x) (hz : ∀ n ∈ x.1.weights Try.prog 22, n ≤ reachBytes) :
    ∃ (ad : Option Addr) (cap : Nat) (l : List It), cs = [.slice ad l.length cap] ∧ l.length ≤ 140737488351232 ∧ (l = [] ∨ ∃ b off, ad = some ⟨b, off, none⟩ ∧ b < W.heap.size ∧ Items W b off l) := by
  rcases Go.Deep.open_slice Try.underlying22 h with ⟨rfl, _⟩ | ⟨a, len, cap, m, n, D, Pl, rfl, _, hl, hm, hmm, rfl, hc⟩
  · exact ⟨none, 0, [], rfl, by decide, .inl rfl⟩
  · simp only [if_true] at hmm
    subst hmm
    rw [cells36] at hc
    have hw := hz _ (by rw [DataW.weights, Try.underlying22]; exact List.mem_cons_self ..)
    rw [bytes36] at hw
    simp [reachBytes] at hw
    have each : ∀ i, i < len → ∃ y : It, (W.cells? 0 (a.add (i * 7)) 7 = some [.bool y.o, .int .i64 y.kd, .int .u64 y.n, .int .i64 y.k, .string y.s, .int .u64 (hiOf y.x), .int .u64 (loOf y.x)]) ∧ y.ok := by
      intro i hi
      obtain ⟨cs', h1, h2⟩ := hc i (by omega)
      obtain ⟨o, kd, k1, k2, s, x, rfl, hn, hx, w1, w3, hy⟩ := open_item h2
      have hd : D i = .agg [.lit (.bool o), .lit (.int .i64 kd), .lit (.int .u64 k1), .lit (.int .i64 k2), .lit (.string s.data.toList), .agg [.lit (.int .u64 (hiOf x)), .lit (.int .u64 (loOf x))]] := (Prod.mk.inj hy).1
      have hs : s.data.toList.length ≤ reachBytes := by
        refine hz _ ?_
        rw [DataW.weights, Try.underlying22]
        refine List.mem_cons_of_mem _ (List.mem_append_left _ (weights_all (d := D i) (List.mem_map.2 ⟨i, by simpa using hi, rfl⟩) _ ?_))
        rw [hd]; simp [DataW.weights, DataW.weightsEach, Try.underlying36]
      have b1 := bounds_i64 w1
      have b3 := bounds_i64 w3
      exact ⟨⟨o, kd, k1, k2, s, x⟩, h1, hn, hx, by simpa [reachBytes] using hs, b1.1, b1.2, b3.1, b3.2⟩
    obtain ⟨l, rfl, hP⟩ := list_of _ len each
    refine ⟨some a, _, l, rfl, by omega, ?_⟩
    by_cases h0 : l = []
    · exact .inl h0
    · right
      have hpos : 0 < l.length := List.length_pos_iff.2 h0
      have h1 := (hP 0 hpos).1
      have h2 := cells_spot (by decide) h1
      have hsp : a.spot = none := by simpa [Addr.add] using h2.1
      obtain ⟨b, off, sp⟩ := a
      simp only at hsp
      subst hsp
      refine ⟨b, off, rfl, by simpa [Addr.add] using h2.2, fun i hi => ⟨?_, (hP i hi).2⟩⟩
      have hcell := cells_at (a := ⟨b, off, none⟩) rfl (hP i hi).1
      exact ⟨hcell 0 _ rfl, hcell 1 _ rfl, hcell 2 _ rfl, hcell 3 _ rfl, hcell 4 _ rfl, hcell 5 _ rfl, hcell 6 _ rfl⟩
end
end Go.Proofs.Ytdpddlaedffmdaa
