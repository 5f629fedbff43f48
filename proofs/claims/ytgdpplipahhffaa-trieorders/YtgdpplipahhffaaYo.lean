/- What TrieOrders' walk asks for: appending a prefix, the gate outside rounds, a row's cells, forks counted. -/
import Derived.Test.YtgdpplipahhffaaEv
import Derived.Test.YtgdpplipahhffaaGt
import Derived.Maps.AppendAt
namespace Go.Proofs.Ytgdpplipahhffaa
open Go.RowKit
set_option linter.unusedVariables false
set_option linter.unusedSimpArgs false

theorem und_nil {V : Type} (N : List (Nd V)) : undN [] N = N := by
  unfold undN
  rw [List.filter_eq_self]
  intro x _
  simp
theorem val_nil (W : Nat) : valOf W [] = 0 := by
  unfold valOf; simp
/-- A prefix appended to a row of them. -/
theorem app_pf {W : Nat} (w : World) (B : Nat) (s : Value) (K : List (List Bool)) (p : List Bool) (hown : w.ownsRow B 51 3 s K.length (rowK W K)) (hB : B ≤ w.heap.size) (hK : K.length + 1 ≤ 1000000) :
    ∃ s' W2, Sem.run Try.prog (appd #[65, 65] 65 #[s, .slice (some ⟨w.heap.size, 0, none⟩) 1 1]) (w.alloc (.cells #[.int .u64 (hiOf (valOf W p)), .int .u64 (loOf (valOf W p)), .int .i64 p.length] 51)) = .ok s' W2 ∧
      W2.ownsRow B 51 3 s' (K ++ [p]).length (rowK W (K ++ [p])) ∧ (∃ ba bc, s' = .slice ba (K.length + 1) bc) ∧ Kept (fun k => s.ownBlock = some k) w W2 ∧ (s'.ownBlock = s.ownBlock ∨ ∃ g, s'.ownBlock = some g ∧ w.heap.size ≤ g) := by
  obtain ⟨i0, hi, hz0, hz1, hz2⟩ := info_parts info51
  have hA : Blk (w.alloc (.cells #[.int .u64 (hiOf (valOf W p)), .int .u64 (loOf (valOf W p)), .int .i64 p.length] 51)) w.heap.size #[.int .u64 (hiOf (valOf W p)), .int .u64 (loOf (valOf W p)), .int .i64 p.length] 51 := Blk.new w _ 51
  have hb : Below w.heap.size w (w.alloc (.cells #[.int .u64 (hiOf (valOf W p)), .int .u64 (loOf (valOf W p)), .int .i64 p.length] 51)) := (Below.refl _ _).alloc (Nat.le_refl _) _
  obtain ⟨s', W2, hr, ho2, hg2, _, hat⟩ := run_append_own_at (P := Try.prog) (w := w.alloc (.cells #[.int .u64 (hiOf (valOf W p)), .int .u64 (loOf (valOf W p)), .int .i64 p.length] 51)) B 65 65 51 i0 _ 3 24 Try.underlying65 hi hz0 hz1 hz2 rfl (by decide) s _ _
    (ownsRow_kept hown (Kept.of_below (S := fun _ => False) hb) (fun k _ e => e)) ⟨w.heap.size, 0, none⟩ 1 1 (pfC W p) rfl (fun j u hu => by
      rw [Addr.add_mid, Nat.zero_add]
      rw [← List.getElem?_toArray] at hu
      exact hA.cell j hu) (fun u hu => by
      simp only [pfC, List.mem_cons, List.not_mem_nil, or_false] at hu
      rcases hu with rfl | rfl | rfl <;> rfl) (by unfold maxLen; omega) (by omega) (Nat.le_trans hB hb.size)
  refine ⟨s', W2, hr, ?_, ?_, (Kept.of_below hb).trans ⟨hg2.os, hg2.tape, hg2.output, hg2.size, fun k hk hs => hg2.block k hk (fun e => hs e.symm)⟩, ?_⟩
  · rw [rowK_snoc, List.length_append]; exact ho2
  · exact ownsRow_slice ho2
  · rcases hat with h | h
    · exact .inl h
    · exact .inr ⟨_, h, by have := hb.size; omega⟩
/-- The region's law outside rounds. -/
theorem gate_wide {n : Nat} {P : Program} {id : Nat} {Q : Exit → Act → World → Prop} {a : Act} {w : World} {l : List Oper} (k : Nat) (hm : P.follows .mixedOrders = true) (hg : gate .any l.toArray k = true)
    (hs : Region.noSelect (l.take k).toArray = true) (hB : Region.lexFrom .any (l.take k).toArray (l.take k).length 0 (Array.replicate l.length false) = true)
    (h : wpQuietIn Fence.wide n P (l.take k).toArray (fun w' => ∃ z : Grown w, w' = gw z) (fun a' => ∀ w', (∃ z : Grown w, w' = gw z) → wpAnyIn Fence.wide n P .any l.toArray Q (l.length - k) (upTo k (l.length - k)) a' w') (l.take k) a) :
    (Code.region id l.toArray true).wpIn Fence.wide n P Q a w := by
  have hG := gate_of hg
  have hk : k < l.length := by simpa using hG.lt
  refine wpIn_region_any hm ?_
  have h2 := wpAnyQIn_lex (F := Fence.wide) (n := n) (C := fun w' => ∃ z : Grown w, w' = gw z) (md := .any) hs (l.take k) 0 (Array.replicate l.length false) a (by simp) hB h
  have h3 := any_gate (F := Fence.wide) (n := n) (P := P) (Q' := Q) (C := fun w' => ∃ z : Grown w, w' = gw z) rfl hG (fun a w hw h => h w hw) _ _ _ _ (gw_drawn w) (ahead_start hk) h2
  have e : (l.take k).length + (l.length - k) = l.toArray.size := by simp; omega
  rw [e] at h3
  simpa using h3
theorem own_below {A C : World} {B n : Nat} {s : Value} {xs : List Value} (ho : A.ownsRow B 51 3 s n xs) (hb : Below A.heap.size A C) : C.ownsRow B 51 3 s n xs := ownsRow_kept ho (Kept.of_below (S := fun _ => False) hb) (fun k _ e => e)
theorem own_block {A : World} {B n : Nat} {s : Value} {xs : List Value} (ho : A.ownsRow B 51 3 s n xs) {k : Nat} (hk : s.ownBlock = some k) : B ≤ k ∧ IsRow 51 A k := by
  rcases ho.2 with ⟨e1, _⟩ | ⟨b, cap, cur, e1, hb, hg, _⟩
  · rw [e1] at hk; simp [Value.ownBlock] at hk
  · rw [e1] at hk
    simp [Value.ownBlock] at hk
    subst hk
    exact ⟨hb, _, _, hg⟩
/-- Forks have two sides: there are fewer of them than things. -/
theorem Hang.count {V : Type} {nt vt : TypeId} {enc : V → Value} {W : Nat} {w : World} : ∀ {n a} {N : List (Nd V)}, Hang nt vt enc W w n a N → N = [] ∨ N.length + 1 ≤ 2 * (kept N).length
  | 0, a, N, h => .inl h.2
  | n + 1, a, N, h => by
    rcases h with h | ⟨x, a0, a1, N0, N1, h1, rfl, h3, h4, h5, h6, h7, h8⟩
    · exact .inl h.2
    · right
      have c0 := h7.count
      have c1 := h8.count
      rw [kept, kept_append, List.length_append, List.length_append, List.length_cons, List.length_append]
      cases hx : x.th with
      | none =>
        have h0 := h6 hx
        have d0 := c0.resolve_left h0.1
        have d1 := c1.resolve_left h0.2
        omega
      | some t =>
        have e : (ownK x).length = 1 := by unfold ownK; rw [hx]; rfl
        have d0 : N0.length ≤ 2 * (kept N0).length := c0.elim (fun e => by rw [e]; exact Nat.zero_le _) (fun e => by omega)
        have d1 : N1.length ≤ 2 * (kept N1).length := c1.elim (fun e => by rw [e]; exact Nat.zero_le _) (fun e => by omega)
        omega
theorem row_at {w : World} {B n : Nat} {ba : Option Addr} {bc W : Nat} {K : List (List Bool)} (h : w.ownsRow B 51 3 (.slice ba n bc) n (rowK W K)) (hK : K.length = n) (h0 : 0 < n) :
    ∃ g, ba = some ⟨g, 0, none⟩ ∧ n ≤ bc ∧ ∀ i p, K[i]? = some p → w.cell? ⟨g, i * 3 + 0, none⟩ = some (.int .u64 (hiOf (valOf W p))) ∧ w.cell? ⟨g, i * 3 + 1, none⟩ = some (.int .u64 (loOf (valOf W p))) ∧ w.cell? ⟨g, i * 3 + 2, none⟩ = some (.int .i64 p.length) := by
  rcases h.2 with ⟨e, e0⟩ | ⟨g, cap, cur, e1, _, hg, hc, _, hsz, ht⟩
  · omega
  · injection e1 with e1 e2 e3
    refine ⟨g, e1, by rw [e3]; exact hc, fun i p hp => ?_⟩
    have hi := (List.getElem?_eq_some_iff.1 hp).1
    have key : ∀ j u, (pfC W p)[j]? = some u → w.cell? ⟨g, i * 3 + j, none⟩ = some u := fun j u hu => by
      have hj : j < 3 := (List.getElem?_eq_some_iff.1 hu).1
      rw [cell_of_row w g _ _ _ _ hg]
      have hr : ∀ (L : List (List Bool)) i, L[i]? = some p → (rowK W L)[i * 3 + j]? = some u := fun L => by
        induction L with
        | nil => intro i h; simp at h
        | cons y L ih =>
          intro i h
          rw [show rowK W (y :: L) = pfC W y ++ rowK W L from rfl]
          cases i with
          | zero =>
            simp at h
            subst h
            rw [Nat.zero_mul, Nat.zero_add, List.getElem?_append_left (by exact hj)]
            exact hu
          | succ i =>
            rw [List.getElem?_append_right (by show (3 : Nat) ≤ _; omega), show (pfC W y).length = 3 from rfl, show (i + 1) * 3 + j - 3 = i * 3 + j by omega]
            exact ih i (by simpa using h)
      have h1 := hr K i hp
      rw [← ht, List.getElem?_take, if_pos (by omega)] at h1
      simpa using h1
    exact ⟨key 0 _ rfl, key 1 _ rfl, key 2 _ rfl⟩
end Go.Proofs.Ytgdpplipahhffaa
