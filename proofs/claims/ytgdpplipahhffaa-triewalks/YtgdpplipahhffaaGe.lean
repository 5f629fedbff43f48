/- TrieLongest: what its loop keeps. TrieLongest: what its end asks: Find, Every and Get of a trie made since, in all cases. -/
import Derived.Test.YtgdpplipahhffaaEv
import Derived.Test.YtgdpplipahhffaaLp
import Derived.Test.YtgdpplipahhffaaGd
import Derived.Test.YtgdpplipahhffaaTn
namespace Go.Proofs.Ytgdpplipahhffaa
open Go.RowKit
set_option linter.unusedVariables false
set_option linter.unusedSimpArgs false

/-- What begins a number, of what is kept. -/
def hitsL (W a : Nat) (L : List (List Bool × Int)) : List (List Bool × Int) := if fitsN a W then L.filter fun y => decide (y.1 <+: bitsOf W a) else []
theorem hits_srt {W a : Nat} {L : List (List Bool × Int)} (h : Srt L) : Srt (hitsL W a L) := by
  unfold hitsL; split
  · exact h.filter _
  · exact List.Pairwise.nil
theorem hits_pre {W a : Nat} {L : List (List Bool × Int)} : ∀ y ∈ hitsL W a L, y.1 <+: bitsOf W a := by
  intro y hy
  unfold hitsL at hy
  split at hy
  · have := (List.mem_filter.1 hy).2
    exact of_decide_eq_true this
  · cases hy
theorem hits_put {W a : Nat} {L : List (List Bool × Int)} {p : List Bool} {v : Int} (hs : Srt L) (hn : look p L = none) (hf : fitsN a W = true) (hp : p <+: bitsOf W a) :
    (hitsL W a (upd p v L)).length = (hitsL W a L).length + 1 ∧ bestOf (hitsL W a (upd p v L)).getLast? = if (bestOf (hitsL W a L).getLast?).1 < p.length then ((p.length : Int), v) else bestOf (hitsL W a L).getLast? := by
  have e : hitsL W a (upd p v L) = upd p v (hitsL W a L) := by
    unfold hitsL
    rw [if_pos hf, if_pos hf, filter_upd hs hn (fun k => decide (k <+: bitsOf W a)), if_pos (by simpa using hp)]
  have hne : ∀ y ∈ hitsL W a L, y.1 ≠ p := fun y hy => by
    unfold hitsL at hy
    rw [if_pos hf] at hy
    exact look_none.1 hn y (List.mem_filter.1 hy).1
  rw [e]
  refine ⟨?_, best_put (hits_srt hs) hits_pre hp hne⟩
  rw [len_upd (hits_srt hs), look_none.2 hne]
  rfl
theorem hits_off {W a : Nat} {L : List (List Bool × Int)} {p : List Bool} {v : Int} (hs : Srt L) (hn : look p L = none) (h : ¬ (fitsN a W = true ∧ p <+: bitsOf W a)) : hitsL W a (upd p v L) = hitsL W a L := by
  unfold hitsL
  by_cases hf : fitsN a W = true
  · rw [if_pos hf, if_pos hf, filter_upd hs hn (fun k => decide (k <+: bitsOf W a)), if_neg (by simpa using fun e => h ⟨hf, e⟩)]
  · rw [if_neg hf, if_neg hf]
/-- Put, in all cases: its word tells which. -/
theorem put_all {w0 w : World} {q W : Nat} {L : List (List Bool × Int)} (hO : Own w0 w q W 4096 L) (hW : 1 ≤ W ∧ W ≤ 128) (hlen : L.length < 4096) (v : Nat) (hv : Is128 v) (l u : Int) :
    Calls Try.prog 24 #[.pointer (some ⟨q, 0, none⟩), Pf v l, .int .i64 u] w fun e w' => ∃ c : Int, e = .returned (.int .i64 c) ∧ Hid (∃ L', Own w0 w' q W 4096 L' ∧ ((c = 111 ∧ isP W v l = false ∧ L' = L) ∨ (c = 121 ∧ isP W v l = true ∧ L' = L) ∨ (c = 0 ∧ ∃ p : List Bool, p.length ≤ W ∧ v = valOf W p ∧ l = p.length ∧ look p L = none ∧ L' = upd p u L)) ∧ Kept (fun k => k = q) w w') := by
  obtain ⟨⟨a, n, N, hT, hk⟩, hb, hlo⟩ := hO
  have hq := hT.hd.lt
  by_cases hP : isP W v l = true
  · obtain ⟨p, h1, rfl, rfl⟩ := isP_yes hP
    by_cases hl : look p (kept N) = none
    · refine (put_ok hT h1 u hl (by rw [hk]; exact hlen)).mono ?_
      rintro e w' ⟨rfl, a', n', N', g1, g2, g3⟩
      exact ⟨0, rfl, (⟨_, ⟨⟨a', n', N', g1, g2⟩, hb.trans (g3.below hb.size (fun k e => by have e' : k = q := e; omega)), hlo⟩, .inr (.inr ⟨rfl, p, h1, rfl, rfl, by rw [← hk]; exact hl, by rw [hk]⟩), g3⟩ : ∃ _, _)⟩
    · refine (put_dup hT h1 u hl).mono ?_
      rintro e w' ⟨rfl, h⟩
      exact ⟨121, rfl, (⟨_, ⟨⟨a, n, N, hT.below h, hk⟩, bst hb h, hlo⟩, .inr (.inl ⟨rfl, hP, rfl⟩), Kept.of_below h⟩ : ∃ _, _)⟩
  · have hP : isP W v l = false := Bool.eq_false_iff.2 hP
    refine (put_bad hT v hv l u hP).mono ?_
    rintro e w' ⟨rfl, h⟩
    exact ⟨111, rfl, (⟨_, ⟨⟨a, n, N, hT.below h, hk⟩, bst hb h, hlo⟩, .inl ⟨rfl, hP, rfl⟩, Kept.of_below h⟩ : ∃ _, _)⟩
end Go.Proofs.Ytgdpplipahhffaa
namespace Go.Proofs.Ytgdpplipahhffaa
open Go.RowKit
set_option linter.unusedVariables false
set_option linter.unusedSimpArgs false

theorem tx_inj {a b : List Bool} (h : tx a = tx b) : a = b := by
  have h1 : chB a = chB b := by
    have := congrArg (fun x => x.data.toList) h
    simpa [tx] using this
  unfold chB at h1
  exact (List.map_inj_right (fun x y e => by revert e; cases x <;> cases y <;> decide)).1 h1
theorem bytes_ne {t u : ByteArray} (h : ¬ t = u) : ¬ t.toList = u.toList ∧ (t.toList == u.toList) = false ∧ ¬ t.data.toList = u.data.toList ∧ ¬ t.data = u.data := by
  have hd : ¬ t.data = u.data := fun e => h (ByteArray.ext e)
  have hl : ¬ t.data.toList = u.data.toList := fun e => hd (Array.toList_inj.1 e)
  have ht : ¬ t.toList = u.toList := by rw [ByteArray.toList_eq, ByteArray.toList_eq]; exact hl
  exact ⟨ht, by simpa using ht, hl, hd⟩
/-- Forks have two sides: there are fewer of them than things. -/
theorem Hang.count {V : Type} {nt vt : TypeId} {enc : V → Value} {W : Nat} {w : World} : ∀ {n a} {N : List (Nd V)}, Hang nt vt enc W w n a N → N = [] ∨ N.length + 1 ≤ 2 * (kept N).length
  | 0, a, N, h => .inl h.2
  | n + 1, a, N, h => by
    rcases h with h | ⟨x, a0, a1, N0, N1, h1, rfl, h3, h4, h5, h6, h7, h8⟩
    · exact .inl h.2
    · right
      have c0 := h7.count
      have c1 := h8.count
      rw [kept, kept_append, List.length_append, List.length_append, List.length_cons, List.length_append]
      cases hx : x.th with
      | none =>
        have h0 := h6 hx
        have d0 := c0.resolve_left h0.1
        have d1 := c1.resolve_left h0.2
        omega
      | some t =>
        have e : (ownK x).length = 1 := by unfold ownK; rw [hx]; rfl
        have d0 : N0.length ≤ 2 * (kept N0).length := c0.elim (fun e => by rw [e]; exact Nat.zero_le _) (fun e => by omega)
        have d1 : N1.length ≤ 2 * (kept N1).length := c1.elim (fun e => by rw [e]; exact Nat.zero_le _) (fun e => by omega)
        omega
theorem row_at {w : World} {B n : Nat} {ba : Option Addr} {bc W : Nat} {K : List (List Bool)} (h : w.ownsRow B 51 3 (.slice ba n bc) n (rowK W K)) (hK : K.length = n) (h0 : 0 < n) :
    ∃ g, ba = some ⟨g, 0, none⟩ ∧ n ≤ bc ∧ ∀ i p, K[i]? = some p → w.cell? ⟨g, i * 3 + 0, none⟩ = some (.int .u64 (hiOf (valOf W p))) ∧ w.cell? ⟨g, i * 3 + 1, none⟩ = some (.int .u64 (loOf (valOf W p))) ∧ w.cell? ⟨g, i * 3 + 2, none⟩ = some (.int .i64 p.length) := by
  rcases h.2 with ⟨e, e0⟩ | ⟨g, cap, cur, e1, _, hg, hc, _, hsz, ht⟩
  · omega
  · injection e1 with e1 e2 e3
    refine ⟨g, e1, by rw [e3]; exact hc, fun i p hp => ?_⟩
    have hi := (List.getElem?_eq_some_iff.1 hp).1
    have key : ∀ j u, (pfC W p)[j]? = some u → w.cell? ⟨g, i * 3 + j, none⟩ = some u := fun j u hu => by
      have hj : j < 3 := (List.getElem?_eq_some_iff.1 hu).1
      rw [cell_of_row w g _ _ _ _ hg]
      have hr : ∀ (L : List (List Bool)) i, L[i]? = some p → (rowK W L)[i * 3 + j]? = some u := fun L => by
        induction L with
        | nil => intro i h; simp at h
        | cons y L ih =>
          intro i h
          rw [show rowK W (y :: L) = pfC W y ++ rowK W L from rfl]
          cases i with
          | zero =>
            simp at h
            subst h
            rw [Nat.zero_mul, Nat.zero_add, List.getElem?_append_left (by exact hj)]
            exact hu
          | succ i =>
            rw [List.getElem?_append_right (by show (3 : Nat) ≤ _; omega), show (pfC W y).length = 3 from rfl, show (i + 1) * 3 + j - 3 = i * 3 + j by omega]
            exact ih i (by simpa using h)
      have h1 := hr K i hp
      rw [← ht, List.getElem?_take, if_pos (by omega)] at h1
      simpa using h1
    exact ⟨key 0 _ rfl, key 1 _ rfl, key 2 _ rfl⟩
theorem kept_way {W a : Nat} (h : fitsN a W = true) (N : List (Nd Int)) : kept (wayN (bitsOf W a) N) = hitsL W a (kept N) := by
  unfold hitsL
  rw [if_pos h]
  exact kept_filter (fun k => decide (k <+: bitsOf W a)) N
theorem find_all {w0 w : World} {q W : Nat} {L : List (List Bool × Int)} (hO : Own w0 w q W 4096 L) (a : Nat) (ha : Is128 a) :
    Calls Try.prog 26 #[.pointer (some ⟨q, 0, none⟩), B a] w fun e w' => e = .returned (findV W (hitsL W a L).getLast?) ∧ Below w.heap.size w w' := by
  obtain ⟨⟨b, n, N, hT, hk⟩, hb, hlo⟩ := hO
  cases hf : fitsN a W with
  | false =>
    have := find_no (w := w) (W := W) q a ha hf (hT.hd.cell 0 rfl)
    have e : hitsL W a L = [] := by unfold hitsL; rw [hf]; rfl
    rw [e]; exact this
  | true =>
    have := find_yes hT a ha hf
    rw [kept_way hf, hk] at this
    exact this
theorem every_all {w0 w : World} {q W : Nat} {L : List (List Bool × Int)} (hO : Own w0 w q W 4096 L) (a : Nat) (ha : Is128 a) :
    Calls Try.prog 27 #[.pointer (some ⟨q, 0, none⟩), B a] w fun e w' => ∃ ba bc, e = .returned (.slice ba (hitsL W a L).length bc) ∧ Hid (w'.ownsRow w.heap.size 51 3 (.slice ba (hitsL W a L).length bc) (hitsL W a L).length (rowK W (keys (hitsL W a L))) ∧ Below w.heap.size w w') := by
  obtain ⟨⟨b, n, N, hT, hk⟩, hb, hlo⟩ := hO
  cases hf : fitsN a W with
  | false =>
    have := every_no (w := w) (W := W) q a ha hf (hT.hd.cell 0 rfl)
    have e : hitsL W a L = [] := by unfold hitsL; rw [hf]; rfl
    rw [e]
    exact this.mono fun e w' ⟨h1, h2⟩ => ⟨none, 0, h1, (⟨World.ownsRow_nil _ _ _ _, h2⟩ : _ ∧ _)⟩
  | true =>
    have hlen : N.length ≤ 1000000 := by
      have h1 := hT.most.1
      rcases hT.hang.count with h | h
      · rw [h]; exact Nat.zero_le _
      · omega
    have := every_yes hT hlen a ha hf
    rw [kept_way hf, hk] at this
    refine this.mono ?_
    rintro e w' ⟨s, rfl, h1, h2⟩
    have hkl : (keys (hitsL W a L)).length = (hitsL W a L).length := by simp [keys]
    rw [hkl] at h1
    obtain ⟨ba, bc, rfl⟩ := ownsRow_slice h1
    exact ⟨ba, bc, rfl, (⟨h1, h2⟩ : _ ∧ _)⟩
theorem get_all {w0 w : World} {q W : Nat} {L : List (List Bool × Int)} (hO : Own w0 w q W 4096 L) (p : List Bool) (hp : p.length ≤ W) :
    Calls Try.prog 28 #[.pointer (some ⟨q, 0, none⟩), Pf (valOf W p) p.length] w fun e w' => e = .returned (okI (look p L)) ∧ Below w.heap.size w w' := by
  obtain ⟨⟨b, n, N, hT, hk⟩, hb, hlo⟩ := hO
  have := get_yes hT hp
  rw [hk] at this
  exact this
theorem Own.srt {w0 w : World} {q W m : Nat} {L : List (List Bool × Int)} (hO : Own w0 w q W m L) : Srt L := by
  obtain ⟨⟨b, n, N, hT, hk⟩, hb, hlo⟩ := hO
  rw [← hk]; exact hT.hang.srt
theorem Own.lens {w0 w : World} {q W m : Nat} {L : List (List Bool × Int)} (hO : Own w0 w q W m L) : ∀ y ∈ L, y.1.length ≤ W := by
  obtain ⟨⟨b, n, N, hT, hk⟩, hb, hlo⟩ := hO
  intro y hy
  rw [← hk] at hy
  obtain ⟨x, h1, h2⟩ := kept_key hy
  rw [← h2]; exact hT.hang.lens x h1
theorem Own.cap {w0 w : World} {q W m : Nat} {L : List (List Bool × Int)} (hO : Own w0 w q W m L) : L.length ≤ m ∧ 1 ≤ W ∧ W ≤ 128 := by
  obtain ⟨⟨b, n, N, hT, hk⟩, hb, hlo⟩ := hO
  rw [← hk]; exact ⟨hT.most.1, hT.wd⟩
theorem hits_mem {W a : Nat} {L : List (List Bool × Int)} {y} (h : y ∈ hitsL W a L) : y ∈ L := by
  unfold hitsL at h
  split at h
  · exact (List.mem_filter.1 h).1
  · cases h
end Go.Proofs.Ytgdpplipahhffaa
