/- The document's trie: begins, at; how it lies in memory. The document's trie: at. The document's trie: Get. The document's trie: Set. -/
import Derived.Test.YtgdpplipahhffaaGe
import Derived.Test.YtgdpplipahhffaaGg
import Derived.Laws.OwnMore
namespace Go.Proofs.Ytgdpplipahhffaa
open Go.RowKit
set_option linter.unusedVariables false
set_option linter.unusedSimpArgs false

set_option maxHeartbeats 1000000 in
theorem begins52 (a b : List Bool) (w : World) : Calls Try.prog 52 #[.string (tx a), .string (tx b)] w fun e w' => e = .returned (.bool (decide (a <+: b))) ∧ w' = w := by
  have hsa : (tx a).size = a.length := tx_size a
  have hsb : (tx b).size = b.length := tx_size b
  have hx : (tx b).extract 0 a.length = tx (b.take a.length) := tx_take b a.length
  by_cases hpx : a <+: b
  · rw [decide_eq_true hpx]
    have hx2 : (tx b).extract 0 a.length = tx a := by
      rw [hx]; congr 1
      exact (List.prefix_iff_eq_take.1 hpx).symm
    have hle : (a.length : Int) ≤ b.length := by have := hpx.length_le; omega
    clear hx hpx
    generalize tx a = ta at *
    generalize tx b = tb at *
    go_enter Try.func52, Try.ntmps52
    go_wp2
    go_ret
    exact ⟨rfl, rfl⟩
  · rw [decide_eq_false hpx]
    by_cases hle : a.length ≤ b.length
    · have hle' : (a.length : Int) ≤ b.length := by omega
      obtain ⟨rr, hrr⟩ : ∃ rr, tx (b.take a.length) = rr := ⟨_, rfl⟩
      have hne : ¬ rr = tx a := fun e => hpx (by rw [← hrr] at e; have := tx_inj e; rw [← this]; exact List.take_prefix _ _)
      obtain ⟨ne1, ne2, ne3, ne4⟩ := bytes_ne hne
      rw [hrr] at hx
      clear hpx hrr
      generalize tx a = ta at *
      generalize tx b = tb at *
      go_enter Try.func52, Try.ntmps52
      go_wp2
      go_ret
      exact ⟨rfl, rfl⟩
    · have hle' : ¬ (a.length : Int) ≤ b.length := by omega
      clear hx hpx
      generalize tx a = ta at *
      generalize tx b = tb at *
      go_enter Try.func52, Try.ntmps52
      go_wp2
      go_ret
      exact ⟨rfl, rfl⟩
def rfC (y : List Bool × Int) : List Value := [.string (tx y.1), .int .i64 y.2]
/-- What the document's trie keeps, one behind the other. -/
def rowR (L : List (List Bool × Int)) : List Value := L.flatMap rfC
theorem rowR_append (A B : List (List Bool × Int)) : rowR (A ++ B) = rowR A ++ rowR B := by simp [rowR]
theorem rowR_len (L : List (List Bool × Int)) : (rowR L).length = L.length * 2 := by
  induction L with
  | nil => rfl
  | cons y L ih =>
    rw [show rowR (y :: L) = rfC y ++ rowR L from rfl, List.length_append, ih, List.length_cons]
    simp [rfC]; omega
theorem rowR_at {w : World} {B n : Nat} {ba : Option Addr} {bc : Nat} {L : List (List Bool × Int)} (h : w.ownsRow B 57 2 (.slice ba n bc) n (rowR L)) (hL : L.length = n) (h0 : 0 < n) :
    ∃ g, ba = some ⟨g, 0, none⟩ ∧ n ≤ bc ∧ ∀ i y, L[i]? = some y → w.cell? ⟨g, i * 2, none⟩ = some (.string (tx y.1)) ∧ w.cell? ⟨g, i * 2 + 1, none⟩ = some (.int .i64 y.2) := by
  rcases h.2 with ⟨e, e0⟩ | ⟨g, cap, cur, e1, _, hg, hc, _, hsz, ht⟩
  · omega
  · injection e1 with e1 e2 e3
    refine ⟨g, e1, by rw [e3]; exact hc, fun i y hy => ?_⟩
    have hi := (List.getElem?_eq_some_iff.1 hy).1
    have key : ∀ j u, (rfC y)[j]? = some u → w.cell? ⟨g, i * 2 + j, none⟩ = some u := fun j u hu => by
      have hj : j < 2 := (List.getElem?_eq_some_iff.1 hu).1
      rw [cell_of_row w g _ _ _ _ hg]
      have hr : ∀ (L : List (List Bool × Int)) i, L[i]? = some y → (rowR L)[i * 2 + j]? = some u := fun L => by
        induction L with
        | nil => intro i h; simp at h
        | cons z L ih =>
          intro i h
          rw [show rowR (z :: L) = rfC z ++ rowR L from rfl]
          cases i with
          | zero =>
            simp at h
            subst h
            rw [Nat.zero_mul, Nat.zero_add, List.getElem?_append_left (by exact hj)]
            exact hu
          | succ i =>
            rw [List.getElem?_append_right (by show (2 : Nat) ≤ _; omega), show (rfC z).length = 2 from rfl, show (i + 1) * 2 + j - 2 = i * 2 + j by omega]
            exact ih i (by simpa using h)
      have h1 := hr L i hy
      rw [← ht, List.getElem?_take, if_pos (by omega)] at h1
      simpa using h1
    exact ⟨key 0 _ rfl, key 1 _ rfl⟩
/-- The document's trie: its head, and a row of its own. -/
structure RefAt (w : World) (B q W most : Nat) (L : List (List Bool × Int)) : Prop where
  hd : ∃ ba bc, Blk w q #[.int .i64 W, .int .i64 most, .slice ba L.length bc] 40 ∧ w.ownsRow B 57 2 (.slice ba L.length bc) L.length (rowR L)
  srt : Srt L
  few : L.length ≤ 4096
end Go.Proofs.Ytgdpplipahhffaa
namespace Go.Proofs.Ytgdpplipahhffaa
open Go.RowKit
set_option linter.unusedVariables false
set_option linter.unusedSimpArgs false

section
variable {V : Type}
/-- Where a key stands, or would. -/
def pos (p : List Bool) : List (List Bool × V) → Nat
  | [] => 0
  | y :: L => if klt y.1 p = true then pos p L + 1 else 0
theorem pos_le (p : List Bool) : ∀ L : List (List Bool × V), pos p L ≤ L.length
  | [] => Nat.le_refl _
  | y :: L => by
    unfold pos
    have := pos_le p L
    split <;> simp <;> omega
theorem pos_succ {p : List Bool} : ∀ {L : List (List Bool × V)} {i : Nat} {y}, i ≤ pos p L → L[i]? = some y → klt y.1 p = true → i + 1 ≤ pos p L
  | [], i, y, _, h, _ => by simp at h
  | z :: L, 0, y, _, h, hk => by
    simp at h; subst h
    unfold pos; rw [if_pos hk]; omega
  | z :: L, i + 1, y, hi, h, hk => by
    unfold pos at hi ⊢
    split at hi
    · rename_i hz
      have := pos_succ (L := L) (i := i) (by omega) (by simpa using h) hk
      rw [if_pos hz]
      omega
    · omega
theorem pos_eq {p : List Bool} : ∀ {L : List (List Bool × V)} {i : Nat} {y}, i ≤ pos p L → L[i]? = some y → klt y.1 p = false → i = pos p L
  | [], i, y, _, h, _ => by simp at h
  | z :: L, 0, y, _, h, hk => by
    simp at h; subst h
    unfold pos; rw [if_neg (by rw [hk]; simp)]
  | z :: L, i + 1, y, hi, h, hk => by
    unfold pos at hi ⊢
    split at hi
    · rename_i hz
      have := pos_eq (L := L) (i := i) (by omega) (by simpa using h) hk
      rw [if_pos hz]
      omega
    · omega
theorem look_pos {p : List Bool} : ∀ {L : List (List Bool × V)} {y}, Srt L → L[pos p L]? = some y → (look p L).isSome = decide (y.1 = p)
  | [], y, _, h => by simp at h
  | z :: L, y, hs, h => by
    obtain ⟨h1, h2⟩ := List.pairwise_cons.1 hs
    unfold pos at h
    split at h
    · rename_i hz
      rw [look_cons, if_neg (klt_ne hz)]
      exact look_pos h2 (by simpa using h)
    · rename_i hz
      simp at h; subst h
      rw [look_cons]
      split
      · rename_i e; simp [e]
      · rename_i e
        have hp : klt p z.1 = true := (klt_tri z.1 p e).resolve_left hz
        have : look p L = none := look_none.2 fun y hy e2 => by
          have := klt_trans hp (h1 y hy)
          rw [e2, klt_irrefl] at this; cases this
        rw [this]; simp [e]
theorem look_end {p : List Bool} : ∀ {L : List (List Bool × V)}, L.length ≤ pos p L → look p L = none
  | [], _ => rfl
  | z :: L, h => by
    unfold pos at h
    split at h
    · rename_i hz
      rw [look_cons, if_neg (klt_ne hz)]
      exact look_end (by simp at h; omega)
    · simp at h
theorem upd_pos {p : List Bool} {v : V} : ∀ {L : List (List Bool × V)}, look p L = none → upd p v L = L.take (pos p L) ++ (p, v) :: L.drop (pos p L)
  | [], _ => rfl
  | z :: L, h => by
    rw [look_cons] at h
    split at h
    · cases h
    · rename_i e
      unfold upd pos
      split
      · rw [upd_pos h]; simp
      · first | (rw [if_neg e]; simp) | simp
theorem upd_pos' {p : List Bool} {v : V} : ∀ {L : List (List Bool × V)}, Srt L → look p L ≠ none → upd p v L = L.take (pos p L) ++ (p, v) :: L.drop (pos p L + 1)
  | [], _, h => absurd rfl h
  | z :: L, hs, h => by
    obtain ⟨h1, h2⟩ := List.pairwise_cons.1 hs
    rw [look_cons] at h
    unfold upd pos
    split
    · rename_i hz
      rw [if_neg (klt_ne hz)] at h
      rw [upd_pos' h2 h]; simp
    · rename_i hz
      split
      · simp
      · rename_i e
        exfalso
        rw [if_neg e] at h
        have hp : klt p z.1 = true := (klt_tri z.1 p e).resolve_left hz
        exact h (look_none.2 fun y hy e2 => by
          have := klt_trans hp (h1 y hy)
          rw [e2, klt_irrefl] at this; cases this)
theorem del_pos {p : List Bool} : ∀ {L : List (List Bool × V)}, Srt L → look p L ≠ none → del p L = L.take (pos p L) ++ L.drop (pos p L + 1)
  | [], _, h => absurd rfl h
  | z :: L, hs, h => by
    obtain ⟨h1, h2⟩ := List.pairwise_cons.1 hs
    rw [look_cons] at h
    unfold pos
    split
    · rename_i hz
      rw [if_neg (klt_ne hz)] at h
      have := del_pos h2 h
      unfold del at this ⊢
      rw [List.filter_cons, if_pos (by simpa using klt_ne hz), this]
      simp
    · rename_i hz
      by_cases e : z.1 = p
      · have hd : ∀ y ∈ L, y.1 ≠ p := fun y hy e2 => by
          have := h1 y hy
          rw [e, e2, klt_irrefl] at this; cases this
        unfold del
        rw [List.filter_cons, if_neg (by simp [e])]
        simp
        exact fun a b hab => hd (a, b) hab
      · exfalso
        rw [if_neg e] at h
        have hp : klt p z.1 = true := (klt_tri z.1 p e).resolve_left hz
        exact h (look_none.2 fun y hy e2 => by
          have := klt_trans hp (h1 y hy)
          rw [e2, klt_irrefl] at this; cases this)
end
set_option maxHeartbeats 2000000 in
theorem at64 {w : World} {B q W most : Nat} {L : List (List Bool × Int)} (hT : RefAt w B q W most L) (p : List Bool) :
    Calls Try.prog 64 #[.pointer (some ⟨q, 0, none⟩), .string (tx p)] w fun e w' => e = .returned (.tuple #[.int .i64 (pos p L), .bool (look p L).isSome]) ∧ Below w.heap.size w w' := by
  obtain ⟨⟨ba, bc, hB, hO⟩, hs, hf⟩ := hT
  have HB : Hid (Blk w q #[.int .i64 W, .int .i64 most, .slice ba L.length bc] 40 ∧ w.ownsRow B 57 2 (.slice ba L.length bc) L.length (rowR L) ∧ Srt L) := ⟨hB, hO, hs⟩
  have HL : Hid (L.length ≤ 4096) := hf
  have c2 := hB.cell 2 (v := .slice ba L.length bc) rfl
  have HP : Hid (pos p L ≤ L.length) := pos_le p L
  obtain ⟨n, hn⟩ : ∃ n, L.length = n := ⟨_, rfl⟩
  rw [hn] at c2
  have HN : Hid (L.length = n) := hn
  obtain ⟨tp, htp⟩ : ∃ tp, tx p = tp := ⟨_, rfl⟩
  have HT : Hid (tx p = tp) := htp
  rw [htp]
  clear hB hO hs hf hn htp
  go_enter Try.func64, Try.ntmps64
  go_wp2
  go_loopw [6] (fun b wr => ∃ i : Nat, i ≤ pos p L ∧ b = .int .i64 i ∧ wr = w) (fun b wr => 5000 - (intOf b).toNat)
  case atStart => exact ⟨0, Nat.zero_le _, rfl, rfl⟩
  case round =>
    obtain ⟨i, hi, rfl, rfl⟩ := hrel
    have hin : i ≤ n := by have := HP.out; have := HN.out; omega
    have h4 : n ≤ 4096 := by have := HL.out; have := HN.out; omega
    by_cases hlt : i < n
    · have hlt' : (i : Int) < n := by omega
      obtain ⟨y, hy⟩ : ∃ y, L[i]? = some y := ⟨_, List.getElem?_eq_getElem (by have := HN.out; omega)⟩
      obtain ⟨g, hba, hnb, hrow⟩ := rowR_at (by have := HB.out.2.1; exact this) rfl (by have := HN.out; omega)
      have r0 := (hrow i y hy).1
      subst hba
      have hless := tx_less y.1 p
      rw [HT.out] at hless
      cases hk : klt y.1 p with
      | true =>
        rw [hk] at hless
        have hs1 := pos_succ hi hy hk
        clear hrow hnb hy hk hi
        generalize tx y.1 = ty at *
        go_wp2
        go_roundw
        case rel => exact ⟨i + 1, hs1, by go_num, trivial⟩
        case measure => simp [intOf]; omega
      | false =>
        rw [hk] at hless
        have he := pos_eq hi hy hk
        have HF : Hid ((look p L).isSome = decide (y.1 = p)) := look_pos HB.out.2.2 (by rw [← he]; exact hy)
        have HE : Hid (i = pos p L) := he
        have heq : ((tx y.1).toList == tp.toList) = decide (y.1 = p) := by
          rw [← HT.out]
          by_cases e : y.1 = p
          · rw [e]; simp
          · have hne : ¬ tx y.1 = tx p := fun e2 => e (tx_inj e2)
            rw [(bytes_ne hne).2.1]; simp [e]
        have r0' := gw_cell r0
        have c2' := gw_cell c2
        obtain ⟨bb, hbb⟩ : ∃ bb, decide (y.1 = p) = bb := ⟨_, rfl⟩
        rw [hbb] at HF heq
        clear hrow hnb hy hk hi he hbb
        generalize tx y.1 = ty at *
        go_upto_region 5 with fail
        refine region_grows (by kernel_rfl) (by kernel_rfl) ?_
        repeat (go_big_quiet_step (fail))
        refine wpQuiet_nil ?_
        intro wq hwq
        obtain ⟨zq, rfl⟩ := hwq
        have HW : Hid (Below wr.heap.size wr (gw zq)) := gw_below zq
        clear r0' c2' r0
        go_wp2
        go_ret2
        exact ⟨by rw [HE.out.symm, HF.out]; rfl, HW.out⟩
    · have hlt' : ¬ (i : Int) < n := by omega
      have HE : Hid (i = pos p L ∧ look p L = none ∧ i = n) := by
        have h1 := HP.out
        have h2 := HN.out
        exact ⟨by omega, look_end (by omega), by omega⟩
      clear hi hin
      go_wp2
      go_ret2
      exact ⟨by rw [HE.out.2.1, ← HE.out.1, HE.out.2.2]; rfl, Below.refl _ _⟩
end Go.Proofs.Ytgdpplipahhffaa
namespace Go.Proofs.Ytgdpplipahhffaa
open Go.RowKit
set_option linter.unusedVariables false
set_option linter.unusedSimpArgs false

theorem RefAt.below {w w' : World} {B q W most : Nat} {L : List (List Bool × Int)} (h : RefAt w B q W most L) (hb : Below w.heap.size w w') : RefAt w' B q W most L := by
  obtain ⟨⟨ba, bc, h1, h2⟩, h3, h4⟩ := h
  exact ⟨⟨ba, bc, h1.below hb, ownsRow_kept h2 (Kept.of_below (S := fun _ => False) hb) (fun k _ e => e)⟩, h3, h4⟩
section
variable {w : World} {B q W most : Nat} {L : List (List Bool × Int)}
set_option maxHeartbeats 1000000 in
theorem rget_bad (hT : RefAt w B q W most L) (h1 : 1 ≤ W) (h2 : W ≤ 128) (v : Nat) (hv : Is128 v) (l : Int) (hP : isP W v l = false) :
    Calls Try.prog 44 #[.pointer (some ⟨q, 0, none⟩), Go.Proofs.Ytgdpplipahhffaa.B v, .int .i64 l] w fun e w' => e = .returned (okI none) ∧ Below w.heap.size w w' := by
  obtain ⟨⟨ba, bc, hB, hO⟩, hs, hf⟩ := hT
  have HB : Hid _ := one_new w #[.int .u64 (hiOf v), .int .u64 (loOf v)] 33
  have HH : Hid (Blk w q #[.int .i64 W, .int .i64 most, .slice ba L.length bc] 40) := hB
  have C25 : Hid (∀ w1, Calls Try.prog 25 #[Go.Proofs.Ytgdpplipahhffaa.B v, .int .i64 l, .int .i64 W] w1 fun e w' => e = .returned (.tuple #[.string (textT W v l), .bool false]) ∧ Below w1.heap.size w1 w') := fun w1 => by
    have := rtext_any v hv l W h1 h2 w1
    rw [hP] at this; exact this
  clear hB hO hs hf hP
  generalize textT W v l = tt at *
  go_enter Try.func44, Try.ntmps44
  go_upto_region 1 with fail
  generalize (w.alloc _) = w0 at HB ⊢
  have x0 := gw_cell (HB.out.1.cell 0 (v := .int .u64 (hiOf v)) rfl)
  have x1 := gw_cell (HB.out.1.cell 1 (v := .int .u64 (loOf v)) rfl)
  have z0 := gw_cell ((HH.out.below HB.out.2.1).cell 0 (v := .int .i64 W) rfl)
  have fin : Hid (∀ z : Grown w0, Below w.heap.size w (gw z)) := fun z => HB.out.2.1.trans ((gw_below z).mono (Nat.le_of_lt HB.out.2.2))
  refine region_grows (by kernel_rfl) (by kernel_rfl) ?_
  repeat (go_big_quiet_step ((go_at_call 25; exact calls_gw (C25.out _))))
  refine wpQuiet_nil ?_
  intro wq hwq
  obtain ⟨zq, rfl⟩ := hwq
  have HF : Hid (Below w.heap.size w (gw zq)) := fin.out zq
  clear x0 x1 z0 C25 fin HB HH
  go_wp2
  go_ret2
  exact ⟨rfl, HF.out⟩
set_option maxHeartbeats 1000000 in
theorem rget_yes (hT : RefAt w B q W most L) (h1 : 1 ≤ W) (h2 : W ≤ 128) {p : List Bool} (hp : p.length ≤ W) :
    Calls Try.prog 44 #[.pointer (some ⟨q, 0, none⟩), Go.Proofs.Ytgdpplipahhffaa.B (valOf W p), .int .i64 p.length] w fun e w' => e = .returned (okI (look p L)) ∧ Below w.heap.size w w' := by
  have HT : Hid (RefAt w B q W most L) := hT
  obtain ⟨⟨ba, bc, hB, hO⟩, hs, hf⟩ := hT
  have HB : Hid _ := one_new w #[.int .u64 (hiOf (valOf W p)), .int .u64 (loOf (valOf W p))] 33
  have HH : Hid (Blk w q #[.int .i64 W, .int .i64 most, .slice ba L.length bc] 40 ∧ w.ownsRow B 57 2 (.slice ba L.length bc) L.length (rowR L) ∧ Srt L ∧ L.length ≤ 4096) := ⟨hB, hO, hs, hf⟩
  have C25 : Hid (∀ w1, Calls Try.prog 25 #[Go.Proofs.Ytgdpplipahhffaa.B (valOf W p), .int .i64 p.length, .int .i64 W] w1 fun e w' => e = .returned (.tuple #[.string (tx p), .bool true]) ∧ Below w1.heap.size w1 w') := fun w1 => by
    have := rtext_any (valOf W p) (val_is h2 hp) p.length W h1 h2 w1
    rw [text_mk hp, isP_mk hp] at this; exact this
  have C64 : Hid (∀ w1, Below w.heap.size w w1 → Calls Try.prog 64 #[.pointer (some ⟨q, 0, none⟩), .string (tx p)] w1 fun e w' => e = .returned (.tuple #[.int .i64 (pos p L), .bool (look p L).isSome]) ∧ Hid (Below w1.heap.size w1 w')) := fun w1 hb => at64 (HT.out.below hb) p
  obtain ⟨r, hr⟩ : ∃ r, look p L = r := ⟨_, rfl⟩
  have HR : Hid (look p L = r) := hr
  rw [hr] at C64 ⊢
  clear hr
  clear hB hO hs hf
  generalize tx p = tp at *
  go_enter Try.func44, Try.ntmps44
  go_upto_region 1 with fail
  generalize (w.alloc _) = w0 at HB ⊢
  have x0 := gw_cell (HB.out.1.cell 0 (v := .int .u64 (hiOf (valOf W p))) rfl)
  have x1 := gw_cell (HB.out.1.cell 1 (v := .int .u64 (loOf (valOf W p))) rfl)
  have z0 := gw_cell ((HH.out.1.below HB.out.2.1).cell 0 (v := .int .i64 W) rfl)
  have fin : Hid (∀ z : Grown w0, Below w.heap.size w (gw z)) := fun z => HB.out.2.1.trans ((gw_below z).mono (Nat.le_of_lt HB.out.2.2))
  refine region_grows (by kernel_rfl) (by kernel_rfl) ?_
  repeat (go_big_quiet_step ((go_at_call 25; exact calls_gw (C25.out _))))
  refine wpQuiet_nil ?_
  intro wq hwq
  obtain ⟨zq, rfl⟩ := hwq
  have HF : Hid (Below w.heap.size w (gw zq)) := fin.out zq
  clear x0 x1 z0 C25 fin HB
  generalize gw zq = w1 at *
  go_wp2_with fail
  refine (C64.out _ HF.out).mono ?_
  rintro e w2 ⟨rfl, H2⟩
  have HF2 : Hid (Below w.heap.size w w2) := bst HF.out H2.out
  cases r with
  | none =>
    rw [show (none : Option Int).isSome = false from rfl]
    clear C64 HF HH H2
    go_wp2
    go_ret2
    exact ⟨rfl, HF2.out⟩
  | some u =>
    rw [show (some u : Option Int).isSome = true from rfl]
    have HW2 : Hid (Blk w2 q #[.int .i64 W, .int .i64 most, .slice ba L.length bc] 40) := HH.out.1.below HF2.out
    have hpos : pos p L < L.length := by
      apply Classical.byContradiction
      intro h
      have := look_end (p := p) (L := L) (by omega)
      rw [HR.out] at this; cases this
    obtain ⟨y, hy⟩ : ∃ y, L[pos p L]? = some y := ⟨_, List.getElem?_eq_getElem hpos⟩
    have hyp : y = (p, u) := by
      have h1 := look_pos HH.out.2.2.1 hy
      rw [HR.out] at h1
      have e : y.1 = p := by simpa using h1.symm
      have h2 := look_mem HH.out.2.2.1 (List.mem_of_getElem? (show L[pos p L]? = some (y.1, y.2) from hy))
      rw [e, HR.out] at h2
      cases h2
      rw [← e]
    subst hyp
    obtain ⟨n, hn⟩ : ∃ n, L.length = n := ⟨_, rfl⟩
    have hf4 : n ≤ 4096 := by rw [← hn]; exact HH.out.2.2.2
    have ho2 := ownsRow_kept HH.out.2.1 (Kept.of_below (S := fun _ => False) HF2.out) (fun k _ e => e)
    obtain ⟨g, rfl, hnb, hrow⟩ := rowR_at ho2 rfl (by omega)
    have r1 := (hrow _ _ hy).2
    have c2 := HW2.out.cell 2 (v := .slice (some ⟨g, 0, none⟩) L.length bc) rfl
    rw [hn] at c2 hpos
    have hpi : (pos p L : Int) < n := by omega
    clear hrow hnb hy ho2 C64 HF HH H2 HW2 HR hn
    generalize pos p L = k at *
    go_wp2
    go_ret2
    exact ⟨rfl, HF2.out⟩
end
end Go.Proofs.Ytgdpplipahhffaa
namespace Go.Proofs.Ytgdpplipahhffaa
open Go.RowKit
set_option linter.unusedVariables false
set_option linter.unusedSimpArgs false

theorem rowR_set {k : Nat} {p : List Bool} {x u : Int} : ∀ {L : List (List Bool × Int)}, L[k]? = some (p, x) → (rowR L).set (k * 2 + 1) (.int .i64 u) = rowR (L.take k ++ (p, u) :: L.drop (k + 1)) := by
  induction k with
  | zero =>
    intro L h
    cases L with
    | nil => simp at h
    | cons z L => simp at h; subst h; rfl
  | succ k ih =>
    intro L h
    cases L with
    | nil => simp at h
    | cons z L =>
      have := ih (L := L) (by simpa using h)
      rw [show rowR (z :: L) = .string (tx z.1) :: .int .i64 z.2 :: rowR L from rfl, show (k + 1) * 2 + 1 = (k * 2 + 1) + 1 + 1 by omega, List.set_cons_succ, List.set_cons_succ, this]
      rfl
section
variable {w : World} {B q W most : Nat} {L : List (List Bool × Int)}
/-- Where a key that is kept stands. -/
theorem ref_found (hs : Srt L) {p : List Bool} {u : Int} (h : look p L = some u) : pos p L < L.length ∧ L[pos p L]? = some (p, u) := by
  have hpos : pos p L < L.length := by
    apply Classical.byContradiction
    intro h'
    have := look_end (p := p) (L := L) (by omega)
    rw [h] at this; cases this
  obtain ⟨y, hy⟩ : ∃ y, L[pos p L]? = some y := ⟨_, List.getElem?_eq_getElem hpos⟩
  refine ⟨hpos, ?_⟩
  have h1 := look_pos hs hy
  rw [h] at h1
  have e : y.1 = p := by simpa using h1.symm
  have h2 := look_mem hs (List.mem_of_getElem? (show L[pos p L]? = some (y.1, y.2) from hy))
  rw [e, h] at h2
  cases h2
  rw [hy, ← e]
set_option maxHeartbeats 1000000 in
theorem rset_bad (hT : RefAt w B q W most L) (h1 : 1 ≤ W) (h2 : W ≤ 128) (v : Nat) (hv : Is128 v) (l u : Int) (hP : isP W v l = false) :
    Calls Try.prog 42 #[.pointer (some ⟨q, 0, none⟩), Go.Proofs.Ytgdpplipahhffaa.B v, .int .i64 l, .int .i64 u] w fun e w' => e = .returned (.int .i64 111) ∧ Below w.heap.size w w' := by
  obtain ⟨⟨ba, bc, hB, hO⟩, hs, hf⟩ := hT
  have HB : Hid _ := one_new w #[.int .u64 (hiOf v), .int .u64 (loOf v)] 33
  have HH : Hid (Blk w q #[.int .i64 W, .int .i64 most, .slice ba L.length bc] 40) := hB
  have C25 : Hid (∀ w1, Calls Try.prog 25 #[Go.Proofs.Ytgdpplipahhffaa.B v, .int .i64 l, .int .i64 W] w1 fun e w' => e = .returned (.tuple #[.string (textT W v l), .bool false]) ∧ Below w1.heap.size w1 w') := fun w1 => by
    have := rtext_any v hv l W h1 h2 w1
    rw [hP] at this; exact this
  clear hB hO hs hf hP
  generalize textT W v l = tt at *
  go_enter Try.func42, Try.ntmps42
  go_upto_region 1 with fail
  generalize (w.alloc _) = w0 at HB ⊢
  have x0 := gw_cell (HB.out.1.cell 0 (v := .int .u64 (hiOf v)) rfl)
  have x1 := gw_cell (HB.out.1.cell 1 (v := .int .u64 (loOf v)) rfl)
  have z0 := gw_cell ((HH.out.below HB.out.2.1).cell 0 (v := .int .i64 W) rfl)
  have fin : Hid (∀ z : Grown w0, Below w.heap.size w (gw z)) := fun z => HB.out.2.1.trans ((gw_below z).mono (Nat.le_of_lt HB.out.2.2))
  refine region_grows (by kernel_rfl) (by kernel_rfl) ?_
  repeat (go_big_quiet_step ((go_at_call 25; exact calls_gw (C25.out _))))
  refine wpQuiet_nil ?_
  intro wq hwq
  obtain ⟨zq, rfl⟩ := hwq
  have HF : Hid (Below w.heap.size w (gw zq)) := fin.out zq
  clear x0 x1 z0 C25 fin HB HH
  go_wp2
  go_ret
  exact ⟨rfl, HF.out⟩
set_option maxHeartbeats 1000000 in
theorem rset_none (hT : RefAt w B q W most L) (h1 : 1 ≤ W) (h2 : W ≤ 128) {p : List Bool} (hp : p.length ≤ W) (u : Int) (hl : look p L = none) :
    Calls Try.prog 42 #[.pointer (some ⟨q, 0, none⟩), Go.Proofs.Ytgdpplipahhffaa.B (valOf W p), .int .i64 p.length, .int .i64 u] w fun e w' => e = .returned (.int .i64 122) ∧ Below w.heap.size w w' := by
  have HT : Hid (RefAt w B q W most L) := hT
  obtain ⟨⟨ba, bc, hB, hO⟩, hs, hf⟩ := hT
  have HB : Hid _ := one_new w #[.int .u64 (hiOf (valOf W p)), .int .u64 (loOf (valOf W p))] 33
  have HH : Hid (Blk w q #[.int .i64 W, .int .i64 most, .slice ba L.length bc] 40 ∧ w.ownsRow B 57 2 (.slice ba L.length bc) L.length (rowR L) ∧ Srt L ∧ L.length ≤ 4096) := ⟨hB, hO, hs, hf⟩
  have C25 : Hid (∀ w1, Calls Try.prog 25 #[Go.Proofs.Ytgdpplipahhffaa.B (valOf W p), .int .i64 p.length, .int .i64 W] w1 fun e w' => e = .returned (.tuple #[.string (tx p), .bool true]) ∧ Below w1.heap.size w1 w') := fun w1 => by
    have := rtext_any (valOf W p) (val_is h2 hp) p.length W h1 h2 w1
    rw [text_mk hp, isP_mk hp] at this; exact this
  have C64 : Hid (∀ w1, Below w.heap.size w w1 → Calls Try.prog 64 #[.pointer (some ⟨q, 0, none⟩), .string (tx p)] w1 fun e w' => e = .returned (.tuple #[.int .i64 (pos p L), .bool (look p L).isSome]) ∧ Hid (Below w1.heap.size w1 w')) := fun w1 hb => at64 (HT.out.below hb) p
  clear hB hO hs hf
  rw [hl] at C64
  generalize tx p = tp at *
  go_enter Try.func42, Try.ntmps42
  go_upto_region 1 with fail
  generalize (w.alloc _) = w0 at HB ⊢
  have x0 := gw_cell (HB.out.1.cell 0 (v := .int .u64 (hiOf (valOf W p))) rfl)
  have x1 := gw_cell (HB.out.1.cell 1 (v := .int .u64 (loOf (valOf W p))) rfl)
  have z0 := gw_cell ((HH.out.1.below HB.out.2.1).cell 0 (v := .int .i64 W) rfl)
  have fin : Hid (∀ z : Grown w0, Below w.heap.size w (gw z)) := fun z => HB.out.2.1.trans ((gw_below z).mono (Nat.le_of_lt HB.out.2.2))
  refine region_grows (by kernel_rfl) (by kernel_rfl) ?_
  repeat (go_big_quiet_step ((go_at_call 25; exact calls_gw (C25.out _))))
  refine wpQuiet_nil ?_
  intro wq hwq
  obtain ⟨zq, rfl⟩ := hwq
  have HF : Hid (Below w.heap.size w (gw zq)) := fin.out zq
  clear x0 x1 z0 C25 fin HB
  generalize gw zq = w1 at *
  go_wp2_with fail
  refine (C64.out _ HF.out).mono ?_
  rintro e w2 ⟨rfl, H2⟩
  have HF2 : Hid (Below w.heap.size w w2) := bst HF.out H2.out
  rw [show (none : Option Int).isSome = false from rfl]
  clear C64 HF HH H2
  go_wp2
  go_ret
  exact ⟨rfl, HF2.out⟩
set_option maxHeartbeats 1000000 in
/-- A key that is kept: its thing is written over, in the row that the trie owns. -/
theorem rset_some {ba : Option Addr} {bc : Nat} (hB : Blk w q #[.int .i64 W, .int .i64 most, .slice ba L.length bc] 40) (hO : w.ownsRow B 57 2 (.slice ba L.length bc) L.length (rowR L)) (hs : Srt L) (hf : L.length ≤ 4096) (h1 : 1 ≤ W) (h2 : W ≤ 128) {p : List Bool} (hp : p.length ≤ W) (u : Int) {x : Int} (hl : look p L = some x) :
    Calls Try.prog 42 #[.pointer (some ⟨q, 0, none⟩), Go.Proofs.Ytgdpplipahhffaa.B (valOf W p), .int .i64 p.length, .int .i64 u] w fun e w' => e = .returned (.int .i64 0) ∧ Hid (Blk w' q #[.int .i64 W, .int .i64 most, .slice ba (upd p u L).length bc] 40 ∧ w'.ownsRow B 57 2 (.slice ba (upd p u L).length bc) (upd p u L).length (rowR (upd p u L)) ∧ Kept (fun k => (Value.slice ba L.length bc).ownBlock = some k) w w') := by
  have hT : RefAt w B q W most L := ⟨⟨ba, bc, hB, hO⟩, hs, hf⟩
  have HT : Hid (RefAt w B q W most L) := hT
  have HB : Hid _ := one_new w #[.int .u64 (hiOf (valOf W p)), .int .u64 (loOf (valOf W p))] 33
  have HH : Hid (Blk w q #[.int .i64 W, .int .i64 most, .slice ba L.length bc] 40 ∧ w.ownsRow B 57 2 (.slice ba L.length bc) L.length (rowR L) ∧ Srt L ∧ L.length ≤ 4096) := ⟨hB, hO, hs, hf⟩
  have C25 : Hid (∀ w1, Calls Try.prog 25 #[Go.Proofs.Ytgdpplipahhffaa.B (valOf W p), .int .i64 p.length, .int .i64 W] w1 fun e w' => e = .returned (.tuple #[.string (tx p), .bool true]) ∧ Below w1.heap.size w1 w') := fun w1 => by
    have := rtext_any (valOf W p) (val_is h2 hp) p.length W h1 h2 w1
    rw [text_mk hp, isP_mk hp] at this; exact this
  have C64 : Hid (∀ w1, Below w.heap.size w w1 → Calls Try.prog 64 #[.pointer (some ⟨q, 0, none⟩), .string (tx p)] w1 fun e w' => e = .returned (.tuple #[.int .i64 (pos p L), .bool (look p L).isSome]) ∧ Hid (Below w1.heap.size w1 w')) := fun w1 hb => at64 (HT.out.below hb) p
  clear hB hO hs hf HT
  rw [hl] at C64
  generalize tx p = tp at *
  go_enter Try.func42, Try.ntmps42
  go_upto_region 1 with fail
  generalize (w.alloc _) = w0 at HB ⊢
  have x0 := gw_cell (HB.out.1.cell 0 (v := .int .u64 (hiOf (valOf W p))) rfl)
  have x1 := gw_cell (HB.out.1.cell 1 (v := .int .u64 (loOf (valOf W p))) rfl)
  have z0 := gw_cell ((HH.out.1.below HB.out.2.1).cell 0 (v := .int .i64 W) rfl)
  have fin : Hid (∀ z : Grown w0, Below w.heap.size w (gw z)) := fun z => HB.out.2.1.trans ((gw_below z).mono (Nat.le_of_lt HB.out.2.2))
  refine region_grows (by kernel_rfl) (by kernel_rfl) ?_
  repeat (go_big_quiet_step ((go_at_call 25; exact calls_gw (C25.out _))))
  refine wpQuiet_nil ?_
  intro wq hwq
  obtain ⟨zq, rfl⟩ := hwq
  have HF : Hid (Below w.heap.size w (gw zq)) := fin.out zq
  clear x0 x1 z0 C25 fin HB
  generalize gw zq = w1 at *
  go_wp2_with fail
  refine (C64.out _ HF.out).mono ?_
  rintro e w2 ⟨rfl, H2⟩
  have HF2 : Hid (Below w.heap.size w w2) := bst HF.out H2.out
  rw [show (some x : Option Int).isSome = true from rfl]
  obtain ⟨hpos, hy⟩ := ref_found HH.out.2.2.1 hl
  have ho2 := ownsRow_kept HH.out.2.1 (Kept.of_below (S := fun _ => False) HF2.out) (fun k _ e => e)
  obtain ⟨g, hba, hnb, hrow⟩ := rowR_at ho2 rfl (by omega)
  subst hba
  have r1 := (hrow _ _ hy).2
  have hfz := ho2.frozenAt (pos p L * 2 + 1)
  have hst := ho2.stored (pos p L * 2 + 1) (.int .i64 u)
  rw [rowR_set hy, ← upd_pos' HH.out.2.2.1 (by rw [hl]; simp)] at hst
  have hlen : (upd p u L).length = L.length := by rw [len_upd HH.out.2.2.1, hl]; rfl
  have hgq : g ≠ q := fun e => by
    rcases ho2.2 with ⟨h', _⟩ | ⟨g', cap', cur, h', _, hg, _⟩
    · simp at h'
    · simp only [Value.slice.injEq, Option.some.injEq, Addr.mk.injEq, and_true, true_and] at h'
      obtain ⟨rfl, rfl⟩ := h'
      have := HH.out.1.below HF2.out
      unfold Blk at this
      rw [← e, hg] at this
      cases this
  have HD : Hid (Blk (w2.setCell ⟨g, pos p L * 2 + 1, none⟩ (.int .i64 u)) q #[.int .i64 W, .int .i64 most, .slice (some ⟨g, 0, none⟩) (upd p u L).length bc] 40 ∧ (w2.setCell ⟨g, pos p L * 2 + 1, none⟩ (.int .i64 u)).ownsRow B 57 2 (.slice (some ⟨g, 0, none⟩) (upd p u L).length bc) (upd p u L).length (rowR (upd p u L)) ∧ Kept (fun k => (Value.slice (some ⟨g, 0, none⟩) L.length bc).ownBlock = some k) w (w2.setCell ⟨g, pos p L * 2 + 1, none⟩ (.int .i64 u))) := by
    have ks : Kept (fun k => k = g) w2 (w2.setCell ⟨g, pos p L * 2 + 1, none⟩ (.int .i64 u)) := (Kept.refl (fun k => k = g) w2).set (p := ⟨g, pos p L * 2 + 1, none⟩) rfl _
    rw [hlen]
    refine ⟨(HH.out.1.below HF2.out).kept ks (fun e => hgq e.symm), hst.1, (Kept.of_below HF2.out).trans (ks.mono fun k _ e => by have e' : k = g := e; simp [Value.ownBlock, e'])⟩
  have c2 := (HH.out.1.below HF2.out).cell 2 (v := .slice (some ⟨g, 0, none⟩) L.length bc) rfl
  obtain ⟨n, hn⟩ : ∃ n, L.length = n := ⟨_, rfl⟩
  have hf4 : n ≤ 4096 := by rw [← hn]; exact HH.out.2.2.2
  rw [hn] at c2 hpos
  have hpi : (pos p L : Int) < n := by omega
  clear hrow hnb hy ho2 C64 HF HH H2 hst hlen hgq hn hT hl
  generalize pos p L = k at *
  go_wp2
  go_ret
  exact ⟨rfl, HD.out⟩
end
end Go.Proofs.Ytgdpplipahhffaa
