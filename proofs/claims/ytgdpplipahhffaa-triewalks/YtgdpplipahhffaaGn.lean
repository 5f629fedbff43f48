/- Package trie: each: a tree's nodes, one behind the other. Package trie: each, to rounds that keep rows of their own. Package trie: each's iterator, to rounds that keep rows of their own. -/
import Derived.Test.YtgdpplipahhffaaFi
import Derived.Test.YtgdpplipahhffaaWi
import Derived.Test.YtgdpplipahhffaaGu
import Derived.Test.YtgdpplipahhffaaGo
import Derived.Laws.EntriesVeiled
namespace Go.Proofs.Ytgdpplipahhffaa
open Go.RowKit
set_option linter.unusedVariables false
set_option linter.unusedSimpArgs false

theorem yield_any {m m' : Nat} {P : Program} {l : Nat} {args : Array Value} {W : World} {R : Ending → World → Prop} (h : YieldAt Fence.wide m P l args W R) : YieldAt Fence.wide m' P l args W R := by
  obtain ⟨fn, tmps, assign, body, h1, h2⟩ := h
  exact ⟨fn, tmps, assign, body, h1, h2.1, fun c cs _ => h2.2 c cs (room_wide _)⟩
set_option maxHeartbeats 4000000 in
set_option maxRecDepth 100000 in
theorem walk_tells {W : Nat} (by' bw l : Nat) (M : List (Nd Int)) (S : Nat → Prop) (hSy : ¬ S by') (hSw : ¬ S bw) (w0 : World) (J Jx : List (Nd Int) → World → Prop) (hJ : Low w0.heap.size J)
    (hY : ∀ m pre x W1, pre ++ [x] <+: M → J pre W1 → YieldAt Fence.wide m Try.prog l #[Value.pointer (some ⟨x.blk, 0, none⟩)] W1 fun e W' => (e = .returned (.bool true) ∧ J (pre ++ [x]) W' ∧ Kept S W1 W') ∨ (e = .returned (.bool false) ∧ Jx (pre ++ [x]) W' ∧ Kept (fun k => S k ∨ k = l) W1 W')) :
    ∀ (k m : Nat) (a : Option Nat) (N pre : List (Nd Int)) (w : World), w0.heap.size ≤ w.heap.size → HangI W w k a N → Off S N → pre ++ N <+: M → J pre w → Blk w by' #[.func (.yield l) #[] #[]] 121 → Blk w bw #[.func (.func 68) #[] #[.pointer (some ⟨by', 0, none⟩), .pointer (some ⟨bw, 0, none⟩)]] 121 →
      CallsIn Fence.wide m Try.prog 68 #[pt a, .pointer (some ⟨by', 0, none⟩), .pointer (some ⟨bw, 0, none⟩)] w fun e w' => (e = .returned (.bool true) ∧ Hid (J (pre ++ N) w' ∧ Kept S w w')) ∨ (e = .returned (.bool false) ∧ Hid (∃ q, q <+: M ∧ Jx q w'))
  | k, m, none, N, pre, w, hz, hH, hO, hM, hj, hy, hw => by
    have HJ0 : Hid (∀ z : Grown w, J (pre ++ N) (gw z) ∧ Kept S w (gw z)) := fun z => by
      rw [hH.of_none, List.append_nil]
      exact ⟨hJ _ _ _ (Kept.of_below (gw_below z)) hj, Kept.of_below (gw_below z)⟩
    have hmix : Try.prog.follows .mixedOrders = true := by kernel_rfl
    clear hH hO hM hj hy hw hY
    refine callsIn_of_wp Try.func68 rfl trivial ?_ rfl
    simp only [Try.ntmps68, List.size_toArray, List.length_cons, List.length_nil, Nat.reduceAdd, Nat.reduceSub, Array.replicate_succ, Array.replicate_zero, List.push_toArray, List.append_toArray, List.nil_append, List.cons_append]
    rw [show pt none = Value.pointer none from rfl]
    gi_wp2_with fail
    refine grows_wide hmix (by kernel_rfl) ?_
    repeat (gi_big_quiet_step (fail))
    refine Go.BigFrame.wpQuietIn_skip (fun _ _ _ _ => trivial) (by rfl) ?_
    go_simp
    repeat (gi_big_quiet_step (fail))
    refine Go.BigFrame.wpQuietIn_skip (fun _ _ _ _ => trivial) (by rfl) ?_
    go_simp
    repeat (gi_big_quiet_step (fail))
    refine Go.BigFrame.wpQuietIn_skip (fun _ _ _ _ => trivial) (by rfl) ?_
    go_simp
    repeat (gi_big_quiet_step (fail))
    refine wpQuietIn_nil ?_
    intro zq
    have HF := HJ0.out zq
    have HF2 : Hid (J (pre ++ N) (gw zq) ∧ Kept S w (gw zq)) := HF
    clear HF HJ0
    gi_wp2_with fail
    go_ret
    exact .inl ⟨rfl, HF2.out⟩
  | 0, m, some b, N, pre, w, hz, hH, hO, hM, hj, hy, hw => by cases hH.1
  | k + 1, m, some b, N, pre, w, hz, hH, hO, hM, hj, hy, hw => by
    obtain ⟨k', x, a0, a1, N0, N1, e, rfl, rfl, hR, _⟩ := hH.root
    have e' : k = k' := by omega
    subst e'
    have IH := walk_tells (W := W) by' bw l M S hSy hSw w0 J Jx hJ hY k
    have HR : Hid (RootI W w k x a0 a1 N0 N1 ∧ Off S (x :: (N0 ++ N1)) ∧ pre ++ (x :: (N0 ++ N1)) <+: M ∧ J pre w ∧ Blk w by' #[.func (.yield l) #[] #[]] 121 ∧ Blk w bw #[.func (.func 68) #[] #[.pointer (some ⟨by', 0, none⟩), .pointer (some ⟨bw, 0, none⟩)]] 121 ∧ ¬ S by' ∧ ¬ S bw ∧ Low w0.heap.size J ∧ w0.heap.size ≤ w.heap.size) := ⟨hR, hO, hM, hj, hy, hw, hSy, hSw, hJ, hz⟩
    have y0 := hy.cell 0 (v := .func (.yield l) #[] #[]) rfl
    -- the yield
    have CT : Hid (∀ W2, Below w.heap.size w W2 → ∃ fn tmps assign body, (Instr.yield l #[.pointer (some ⟨x.blk, 0, none⟩)]).run Try.prog W2 = .ok (.round l fn tmps assign body) W2 ∧ Hid (RoundIn Fence.wide (m - 1) Try.prog l fn tmps assign body W2 fun e w' => (e = .returned (.bool true) ∧ w'.cell? ⟨bw, 0, none⟩ = some (.func (.func 68) #[] #[.pointer (some ⟨by', 0, none⟩), .pointer (some ⟨bw, 0, none⟩)]) ∧ w'.cell? ⟨x.blk, 4, none⟩ = some (pt a0) ∧ Hid (J (pre ++ [x]) w' ∧ Kept S w w')) ∨ (e = .returned (.bool false) ∧ Hid (∃ q, q <+: M ∧ Jx q w')))) := fun W2 h2 => by
      have hpm : pre ++ [x] <+: M := by
        refine List.IsPrefix.trans ?_ hM
        exact ⟨N0 ++ N1, by simp⟩
      obtain ⟨fn, tmps, assign, body, g1, g2⟩ := hY (m - 1) pre x W2 hpm (hJ _ _ _ (Kept.of_below h2) hj)
      refine ⟨fn, tmps, assign, body, g1, g2.mono ?_⟩
      rintro e w' (⟨rfl, hj', hk⟩ | ⟨rfl, hj', hk⟩)
      · have hk' : Kept S w w' := (Kept.of_below h2).trans hk
        exact .inl ⟨rfl, (hw.kept hk' hSw).cell 0 rfl, (hR.node.cells.kept hk' (hO x (by simp)).1).cell 4 rfl, hj', hk'⟩
      · exact .inr ⟨rfl, _, hpm, hj'⟩
    -- the first side
    have C0 : Hid (∀ V, J (pre ++ [x]) V → Kept S w V → CallsIn Fence.wide (m - 1) Try.prog 68 #[pt a0, .pointer (some ⟨by', 0, none⟩), .pointer (some ⟨bw, 0, none⟩)] V fun e w' => (e = .returned (.bool true) ∧ w'.cell? ⟨bw, 0, none⟩ = some (.func (.func 68) #[] #[.pointer (some ⟨by', 0, none⟩), .pointer (some ⟨bw, 0, none⟩)]) ∧ w'.cell? ⟨x.blk, 5, none⟩ = some (pt a1) ∧ Hid (J (pre ++ [x] ++ N0) w' ∧ Kept S w w')) ∨ (e = .returned (.bool false) ∧ Hid (∃ q, q <+: M ∧ Jx q w'))) := fun V hjV hkV => by
      have hpm : pre ++ [x] ++ N0 <+: M := by
        refine List.IsPrefix.trans ?_ hM
        exact ⟨N1, by simp⟩
      refine (IH (m - 1) a0 N0 (pre ++ [x]) V (Nat.le_trans hz hkV.size) (hR.h0.keptW hkV (fun y hy => hO y (by simp [hy]))) (fun y hy => hO y (by simp [hy])) hpm hjV (hy.kept hkV hSy) (hw.kept hkV hSw)).mono ?_
      rintro e w' (⟨rfl, H⟩ | h)
      · have hk' : Kept S w w' := hkV.trans H.out.2
        exact .inl ⟨rfl, (hw.kept hk' hSw).cell 0 rfl, (hR.node.cells.kept hk' (hO x (by simp)).1).cell 5 rfl, H.out.1, hk'⟩
      · exact .inr h
    -- the second side
    have C1 : Hid (∀ V, J (pre ++ [x] ++ N0) V → Kept S w V → CallsIn Fence.wide (m - 1) Try.prog 68 #[pt a1, .pointer (some ⟨by', 0, none⟩), .pointer (some ⟨bw, 0, none⟩)] V fun e w' => ∃ bb : Bool, e = .returned (.bool bb) ∧ Hid ((bb = true → J (pre ++ (x :: (N0 ++ N1))) w' ∧ Kept S w w') ∧ (bb = false → ∃ q, q <+: M ∧ Jx q w'))) := fun V hjV hkV => by
      have hpm : pre ++ [x] ++ N0 ++ N1 <+: M := by simpa using hM
      refine (IH (m - 1) a1 N1 (pre ++ [x] ++ N0) V (Nat.le_trans hz hkV.size) (hR.h1.keptW hkV (fun y hy => hO y (by simp [hy]))) (fun y hy => hO y (by simp [hy])) hpm hjV (hy.kept hkV hSy) (hw.kept hkV hSw)).mono ?_
      rintro e w' (⟨rfl, H⟩ | ⟨rfl, H⟩)
      · exact ⟨true, rfl, (⟨fun _ => ⟨by have := H.out.1; simpa using this, hkV.trans H.out.2⟩, fun e => nomatch e⟩ : _ ∧ _)⟩
      · exact ⟨false, rfl, (⟨fun e => (nomatch e), fun _ => H.out⟩ : _ ∧ _)⟩
    clear hH hO hM hj hy hw hY IH hJ hSy hSw
    generalize pt a0 = P0 at *
    generalize pt a1 = P1 at *
    refine callsIn_of_wp Try.func68 rfl trivial ?_ rfl
    simp only [Try.ntmps68, List.size_toArray, List.length_cons, List.length_nil, Nat.reduceAdd, Nat.reduceSub, Array.replicate_succ, Array.replicate_zero, List.push_toArray, List.append_toArray, List.nil_append, List.cons_append]
    rw [show pt (some x.blk) = Value.pointer (some ⟨x.blk, 0, none⟩) from rfl]
    gi_wp2_with fail
    gi_cut [4] from 5 (fun t wx => ∃ bb : Bool, t = .bool bb ∧ Hid ((bb = true → J (pre ++ (x :: (N0 ++ N1))) wx ∧ Kept S w wx) ∧ (bb = false → ∃ q, q <+: M ∧ Jx q wx)))
    case first =>
      have CT2 := CT.out w.drew ((Below.refl _ _).drew)
      obtain ⟨fn, tmps, assign, body, hyi, HRd⟩ := CT2
      clear CT
      gi_region_with (first
        | (refine ⟨no_depth _, ?_⟩; refine HRd.out.mono ?_; rintro e w7 (⟨rfl, d1, d2, H7⟩ | ⟨rfl, H7⟩); rotate_left; (
            gi_wp2_with fail
            refine finish_any (a' := { tmps := #[.pointer (some ⟨x.blk, 0, none⟩), .pointer (some ⟨by', 0, none⟩), .pointer (some ⟨bw, 0, none⟩), undef, .bool false, .pointer (some ⟨x.blk, 0, none⟩), .bool false, .bool false, .func (.yield l) #[] #[], .pointer (some ⟨x.blk, 0, none⟩), .bool false, .bool false, undef, undef, undef, undef, undef, undef, undef, .bool false, .bool false, undef, undef, undef, undef, undef, undef, undef, .bool false, .bool false], defers := [] }) (by kernel_rfl) (fun _ _ _ _ _ h => h) _ _ _ _ (by kernel_rfl) ?_
            gi_wp2_with fail
            go_meet
            exact ⟨false, rfl, (⟨fun e => (nomatch e), fun _ => H7.out⟩ : _ ∧ _)⟩))
        | (refine ⟨trivial, no_depth _, ?_⟩; refine (C1.out _ H8.out.1 H8.out.2).mono ?_; rintro e w9 ⟨bb, rfl, H9⟩)
        | (refine ⟨trivial, no_depth _, ?_⟩; refine (C0.out _ H7.out.1 H7.out.2).mono ?_; rintro e w8 (⟨rfl, e1, e2, H8⟩ | ⟨rfl, H7⟩); rotate_left; (
            gi_wp2_with fail
            refine finish_any (a' := { tmps := #[.pointer (some ⟨x.blk, 0, none⟩), .pointer (some ⟨by', 0, none⟩), .pointer (some ⟨bw, 0, none⟩), undef, .bool false, .pointer (some ⟨x.blk, 0, none⟩), .bool false, .bool false, .func (.yield l) #[] #[], .pointer (some ⟨x.blk, 0, none⟩), .bool true, .bool true, .func (.func 68) #[] #[.pointer (some ⟨by', 0, none⟩), .pointer (some ⟨bw, 0, none⟩)], .pointer (some ⟨x.blk, 0, none⟩), .pointer (some ⟨x.blk, 0, none⟩), .pointer (some ⟨x.blk, 4, none⟩), .pointer (some ⟨x.blk, 4, none⟩), P0, .bool false, .bool false, .bool false, undef, undef, undef, undef, undef, undef, undef, .bool false, .bool false], defers := [] }) (by kernel_rfl) (fun _ _ _ _ _ h => h) _ _ _ _ (by kernel_rfl) ?_
            gi_wp2_with fail
            go_meet
            exact ⟨false, rfl, (⟨fun e => (nomatch e), fun _ => H7.out⟩ : _ ∧ _)⟩)))
      all_goals (gi_wp2_with fail; go_meet; exact ⟨bb, rfl, H9⟩)
    case rest =>
      obtain ⟨bb, rfl, HM7⟩ := hcut
      cases bb
      · have HF : Hid (∃ q, q <+: M ∧ Jx q wc) := HM7.out.2 rfl
        clear HM7
        gi_wp2_with fail
        go_ret
        exact .inr ⟨rfl, HF.out⟩
      · have HF : Hid (J (pre ++ (x :: (N0 ++ N1))) wc ∧ Kept S w wc) := HM7.out.1 rfl
        clear HM7
        gi_wp2_with fail
        go_ret
        exact .inl ⟨rfl, HF.out⟩
end Go.Proofs.Ytgdpplipahhffaa
namespace Go.Proofs.Ytgdpplipahhffaa
open Go.RowKit
set_option linter.unusedVariables false
set_option linter.unusedSimpArgs false

set_option maxHeartbeats 4000000 in
set_option maxRecDepth 100000 in
theorem walk_core {W : Nat} (by' bw l : Nat) (M : List (Nd Int)) (S : Nat → Prop) (hSy : ¬ S by') (hSw : ¬ S bw) (J Jx : List (Nd Int) → World → Prop) (hJ : ∀ s A C, Below A.heap.size A C → J s A → J s C)
    (hY : ∀ m pre x W1, pre ++ [x] <+: M → J pre W1 → YieldAt Fence.wide m Try.prog l #[Value.pointer (some ⟨x.blk, 0, none⟩)] W1 fun e W' => (e = .returned (.bool true) ∧ J (pre ++ [x]) W' ∧ Kept S W1 W') ∨ (e = .returned (.bool false) ∧ Jx (pre ++ [x]) W' ∧ Kept (fun k => S k ∨ k = l) W1 W')) :
    ∀ (k m : Nat) (a : Option Nat) (N pre : List (Nd Int)) (w : World), HangI W w k a N → Off S N → pre ++ N <+: M → J pre w → Blk w by' #[.func (.yield l) #[] #[]] 121 → Blk w bw #[.func (.func 68) #[] #[.pointer (some ⟨by', 0, none⟩), .pointer (some ⟨bw, 0, none⟩)]] 121 →
      CallsIn Fence.wide m Try.prog 68 #[pt a, .pointer (some ⟨by', 0, none⟩), .pointer (some ⟨bw, 0, none⟩)] w fun e w' => (e = .returned (.bool true) ∧ Hid (J (pre ++ N) w' ∧ Kept S w w')) ∨ (e = .returned (.bool false) ∧ Hid (∃ q, q <+: M ∧ Jx q w'))
  | k, m, none, N, pre, w, hH, hO, hM, hj, hy, hw => by
    have HJ0 : Hid (∀ z : Grown w, J (pre ++ N) (gw z) ∧ Kept S w (gw z)) := fun z => by
      rw [hH.of_none, List.append_nil]
      exact ⟨hJ _ _ _ (gw_below z) hj, Kept.of_below (gw_below z)⟩
    have hmix : Try.prog.follows .mixedOrders = true := by kernel_rfl
    clear hH hO hM hj hy hw hY
    refine callsIn_of_wp Try.func68 rfl trivial ?_ rfl
    simp only [Try.ntmps68, List.size_toArray, List.length_cons, List.length_nil, Nat.reduceAdd, Nat.reduceSub, Array.replicate_succ, Array.replicate_zero, List.push_toArray, List.append_toArray, List.nil_append, List.cons_append]
    rw [show pt none = Value.pointer none from rfl]
    gi_wp2_with fail
    refine grows_wide hmix (by kernel_rfl) ?_
    repeat (gi_big_quiet_step (fail))
    refine Go.BigFrame.wpQuietIn_skip (fun _ _ _ _ => trivial) (by rfl) ?_
    go_simp
    repeat (gi_big_quiet_step (fail))
    refine Go.BigFrame.wpQuietIn_skip (fun _ _ _ _ => trivial) (by rfl) ?_
    go_simp
    repeat (gi_big_quiet_step (fail))
    refine Go.BigFrame.wpQuietIn_skip (fun _ _ _ _ => trivial) (by rfl) ?_
    go_simp
    repeat (gi_big_quiet_step (fail))
    refine wpQuietIn_nil ?_
    intro zq
    have HF := HJ0.out zq
    have HF2 : Hid (J (pre ++ N) (gw zq) ∧ Kept S w (gw zq)) := HF
    clear HF HJ0
    gi_wp2_with fail
    go_ret
    exact .inl ⟨rfl, HF2.out⟩
  | 0, m, some b, N, pre, w, hH, hO, hM, hj, hy, hw => by cases hH.1
  | k + 1, m, some b, N, pre, w, hH, hO, hM, hj, hy, hw => by
    obtain ⟨k', x, a0, a1, N0, N1, e, rfl, rfl, hR, _⟩ := hH.root
    have e' : k = k' := by omega
    subst e'
    have IH := walk_core (W := W) by' bw l M S hSy hSw J Jx hJ hY k
    have HR : Hid (RootI W w k x a0 a1 N0 N1 ∧ Off S (x :: (N0 ++ N1)) ∧ pre ++ (x :: (N0 ++ N1)) <+: M ∧ J pre w ∧ Blk w by' #[.func (.yield l) #[] #[]] 121 ∧ Blk w bw #[.func (.func 68) #[] #[.pointer (some ⟨by', 0, none⟩), .pointer (some ⟨bw, 0, none⟩)]] 121 ∧ ¬ S by' ∧ ¬ S bw) := ⟨hR, hO, hM, hj, hy, hw, hSy, hSw⟩
    have y0 := hy.cell 0 (v := .func (.yield l) #[] #[]) rfl
    -- the yield
    have CT : Hid (∀ W2, Below w.heap.size w W2 → ∃ fn tmps assign body, (Instr.yield l #[.pointer (some ⟨x.blk, 0, none⟩)]).run Try.prog W2 = .ok (.round l fn tmps assign body) W2 ∧ Hid (RoundIn Fence.wide (m - 1) Try.prog l fn tmps assign body W2 fun e w' => (e = .returned (.bool true) ∧ w'.cell? ⟨bw, 0, none⟩ = some (.func (.func 68) #[] #[.pointer (some ⟨by', 0, none⟩), .pointer (some ⟨bw, 0, none⟩)]) ∧ w'.cell? ⟨x.blk, 4, none⟩ = some (pt a0) ∧ Hid (J (pre ++ [x]) w' ∧ Kept S w w')) ∨ (e = .returned (.bool false) ∧ Hid (∃ q, q <+: M ∧ Jx q w')))) := fun W2 h2 => by
      have hpm : pre ++ [x] <+: M := by
        refine List.IsPrefix.trans ?_ hM
        exact ⟨N0 ++ N1, by simp⟩
      obtain ⟨fn, tmps, assign, body, g1, g2⟩ := hY (m - 1) pre x W2 hpm (hJ _ _ _ h2 hj)
      refine ⟨fn, tmps, assign, body, g1, g2.mono ?_⟩
      rintro e w' (⟨rfl, hj', hk⟩ | ⟨rfl, hj', hk⟩)
      · have hk' : Kept S w w' := (Kept.of_below h2).trans hk
        exact .inl ⟨rfl, (hw.kept hk' hSw).cell 0 rfl, (hR.node.cells.kept hk' (hO x (by simp)).1).cell 4 rfl, hj', hk'⟩
      · exact .inr ⟨rfl, _, hpm, hj'⟩
    -- the first side
    have C0 : Hid (∀ V, J (pre ++ [x]) V → Kept S w V → CallsIn Fence.wide (m - 1) Try.prog 68 #[pt a0, .pointer (some ⟨by', 0, none⟩), .pointer (some ⟨bw, 0, none⟩)] V fun e w' => (e = .returned (.bool true) ∧ w'.cell? ⟨bw, 0, none⟩ = some (.func (.func 68) #[] #[.pointer (some ⟨by', 0, none⟩), .pointer (some ⟨bw, 0, none⟩)]) ∧ w'.cell? ⟨x.blk, 5, none⟩ = some (pt a1) ∧ Hid (J (pre ++ [x] ++ N0) w' ∧ Kept S w w')) ∨ (e = .returned (.bool false) ∧ Hid (∃ q, q <+: M ∧ Jx q w'))) := fun V hjV hkV => by
      have hpm : pre ++ [x] ++ N0 <+: M := by
        refine List.IsPrefix.trans ?_ hM
        exact ⟨N1, by simp⟩
      refine (IH (m - 1) a0 N0 (pre ++ [x]) V (hR.h0.keptW hkV (fun y hy => hO y (by simp [hy]))) (fun y hy => hO y (by simp [hy])) hpm hjV (hy.kept hkV hSy) (hw.kept hkV hSw)).mono ?_
      rintro e w' (⟨rfl, H⟩ | h)
      · have hk' : Kept S w w' := hkV.trans H.out.2
        exact .inl ⟨rfl, (hw.kept hk' hSw).cell 0 rfl, (hR.node.cells.kept hk' (hO x (by simp)).1).cell 5 rfl, H.out.1, hk'⟩
      · exact .inr h
    -- the second side
    have C1 : Hid (∀ V, J (pre ++ [x] ++ N0) V → Kept S w V → CallsIn Fence.wide (m - 1) Try.prog 68 #[pt a1, .pointer (some ⟨by', 0, none⟩), .pointer (some ⟨bw, 0, none⟩)] V fun e w' => ∃ bb : Bool, e = .returned (.bool bb) ∧ Hid ((bb = true → J (pre ++ (x :: (N0 ++ N1))) w' ∧ Kept S w w') ∧ (bb = false → ∃ q, q <+: M ∧ Jx q w'))) := fun V hjV hkV => by
      have hpm : pre ++ [x] ++ N0 ++ N1 <+: M := by simpa using hM
      refine (IH (m - 1) a1 N1 (pre ++ [x] ++ N0) V (hR.h1.keptW hkV (fun y hy => hO y (by simp [hy]))) (fun y hy => hO y (by simp [hy])) hpm hjV (hy.kept hkV hSy) (hw.kept hkV hSw)).mono ?_
      rintro e w' (⟨rfl, H⟩ | ⟨rfl, H⟩)
      · exact ⟨true, rfl, (⟨fun _ => ⟨by have := H.out.1; simpa using this, hkV.trans H.out.2⟩, fun e => nomatch e⟩ : _ ∧ _)⟩
      · exact ⟨false, rfl, (⟨fun e => (nomatch e), fun _ => H.out⟩ : _ ∧ _)⟩
    clear hH hO hM hj hy hw hY IH hJ hSy hSw
    generalize pt a0 = P0 at *
    generalize pt a1 = P1 at *
    refine callsIn_of_wp Try.func68 rfl trivial ?_ rfl
    simp only [Try.ntmps68, List.size_toArray, List.length_cons, List.length_nil, Nat.reduceAdd, Nat.reduceSub, Array.replicate_succ, Array.replicate_zero, List.push_toArray, List.append_toArray, List.nil_append, List.cons_append]
    rw [show pt (some x.blk) = Value.pointer (some ⟨x.blk, 0, none⟩) from rfl]
    gi_wp2_with fail
    gi_cut [4] from 5 (fun t wx => ∃ bb : Bool, t = .bool bb ∧ Hid ((bb = true → J (pre ++ (x :: (N0 ++ N1))) wx ∧ Kept S w wx) ∧ (bb = false → ∃ q, q <+: M ∧ Jx q wx)))
    case first =>
      have CT2 := CT.out w.drew ((Below.refl _ _).drew)
      obtain ⟨fn, tmps, assign, body, hyi, HRd⟩ := CT2
      clear CT
      gi_region_with (first
        | (refine ⟨no_depth _, ?_⟩; refine HRd.out.mono ?_; rintro e w7 (⟨rfl, d1, d2, H7⟩ | ⟨rfl, H7⟩); rotate_left; (
            gi_wp2_with fail
            refine finish_any (a' := { tmps := #[.pointer (some ⟨x.blk, 0, none⟩), .pointer (some ⟨by', 0, none⟩), .pointer (some ⟨bw, 0, none⟩), undef, .bool false, .pointer (some ⟨x.blk, 0, none⟩), .bool false, .bool false, .func (.yield l) #[] #[], .pointer (some ⟨x.blk, 0, none⟩), .bool false, .bool false, undef, undef, undef, undef, undef, undef, undef, .bool false, .bool false, undef, undef, undef, undef, undef, undef, undef, .bool false, .bool false], defers := [] }) (by kernel_rfl) (fun _ _ _ _ _ h => h) _ _ _ _ (by kernel_rfl) ?_
            gi_wp2_with fail
            go_meet
            exact ⟨false, rfl, (⟨fun e => (nomatch e), fun _ => H7.out⟩ : _ ∧ _)⟩))
        | (refine ⟨trivial, no_depth _, ?_⟩; refine (C1.out _ H8.out.1 H8.out.2).mono ?_; rintro e w9 ⟨bb, rfl, H9⟩)
        | (refine ⟨trivial, no_depth _, ?_⟩; refine (C0.out _ H7.out.1 H7.out.2).mono ?_; rintro e w8 (⟨rfl, e1, e2, H8⟩ | ⟨rfl, H7⟩); rotate_left; (
            gi_wp2_with fail
            refine finish_any (a' := { tmps := #[.pointer (some ⟨x.blk, 0, none⟩), .pointer (some ⟨by', 0, none⟩), .pointer (some ⟨bw, 0, none⟩), undef, .bool false, .pointer (some ⟨x.blk, 0, none⟩), .bool false, .bool false, .func (.yield l) #[] #[], .pointer (some ⟨x.blk, 0, none⟩), .bool true, .bool true, .func (.func 68) #[] #[.pointer (some ⟨by', 0, none⟩), .pointer (some ⟨bw, 0, none⟩)], .pointer (some ⟨x.blk, 0, none⟩), .pointer (some ⟨x.blk, 0, none⟩), .pointer (some ⟨x.blk, 4, none⟩), .pointer (some ⟨x.blk, 4, none⟩), P0, .bool false, .bool false, .bool false, undef, undef, undef, undef, undef, undef, undef, .bool false, .bool false], defers := [] }) (by kernel_rfl) (fun _ _ _ _ _ h => h) _ _ _ _ (by kernel_rfl) ?_
            gi_wp2_with fail
            go_meet
            exact ⟨false, rfl, (⟨fun e => (nomatch e), fun _ => H7.out⟩ : _ ∧ _)⟩)))
      all_goals (gi_wp2_with fail; go_meet; exact ⟨bb, rfl, H9⟩)
    case rest =>
      obtain ⟨bb, rfl, HM7⟩ := hcut
      cases bb
      · have HF : Hid (∃ q, q <+: M ∧ Jx q wc) := HM7.out.2 rfl
        clear HM7
        gi_wp2_with fail
        go_ret
        exact .inr ⟨rfl, HF.out⟩
      · have HF : Hid (J (pre ++ (x :: (N0 ++ N1))) wc ∧ Kept S w wc) := HM7.out.1 rfl
        clear HM7
        gi_wp2_with fail
        go_ret
        exact .inl ⟨rfl, HF.out⟩
end Go.Proofs.Ytgdpplipahhffaa
namespace Go.Proofs.Ytgdpplipahhffaa
open Go.RowKit
set_option linter.unusedVariables false
set_option linter.unusedSimpArgs false

set_option maxHeartbeats 4000000 in
set_option maxRecDepth 100000 in
theorem each_tellsG {W : Nat} (gt : TypeId) (hgt : gt ≠ 121) (w : World) {k : Nat} {a : Option Nat} {N : List (Nd Int)} (hH : HangI W w k a N) (bn : Nat) (hbn : Blk w bn #[pt a] 82) (S : Nat → Prop) (hS : ∀ k, S k → k < w.heap.size) (hSN : Off S N) :
    TellsG gt Try.prog 67 #[.pointer (some ⟨bn, 0, none⟩)] (fun x : Nd Int => #[Value.pointer (some ⟨x.blk, 0, none⟩)]) N S w := by
  intro n l J Jx w1 hW hl hJ hJx hY h0
  have hs := hW.size
  obtain ⟨S', hS'⟩ : ∃ S' : Nat → Prop, S' = fun k => S k ∨ (w1.heap.size ≤ k ∧ k ≠ w1.heap.size ∧ k ≠ w1.heap.size + 1) := ⟨_, rfl⟩
  have hn1 : ¬ S' w1.heap.size := by rw [hS']; exact fun e => e.elim (fun e => by have := hS _ e; omega) (fun e => e.2.1 rfl)
  have hn2 : ¬ S' (w1.heap.size + 1) := by rw [hS']; exact fun e => e.elim (fun e => by have := hS _ e; omega) (fun e => e.2.2 rfl)
  have hoff : Off S' N := fun x hx => by
    rw [hS']
    exact ⟨fun e => e.elim (hSN x hx).1 (by have := (hH.blks x hx).1; omega), fun t v ht e => e.elim ((hSN x hx).2 t v ht) (by have := (hH.blks x hx).2 t v ht; omega)⟩
  have CW : Hid (∀ w3, Below w1.heap.size w1 w3 → Blk w3 w1.heap.size #[.func (.yield l) #[] #[]] 121 → Blk w3 (w1.heap.size + 1) #[.func (.func 68) #[] #[.pointer (some ⟨w1.heap.size, 0, none⟩), .pointer (some ⟨w1.heap.size + 1, 0, none⟩)]] 121 →
      CallsIn Fence.wide (n - 1) Try.prog 68 #[pt a, .pointer (some ⟨w1.heap.size, 0, none⟩), .pointer (some ⟨w1.heap.size + 1, 0, none⟩)] w3 fun e w' => ∃ bb : Bool, e = .returned (.bool bb) ∧ Hid (J N w' ∨ ∃ pre, pre <+: N ∧ Jx pre w')) := fun w3 h3 b1 b2 => by
    have hJb : ∀ s A C, Below A.heap.size A C → J s A → J s C := fun s A C hb hj => hJ s A C (Kept.of_below hb) hj
    have := walk_core (W := W) w1.heap.size (w1.heap.size + 1) l N S' hn1 hn2
      (fun pre V => J pre V ∧ Blk V w1.heap.size #[.func (.yield l) #[] #[]] 121 ∧ Blk V (w1.heap.size + 1) #[.func (.func 68) #[] #[.pointer (some ⟨w1.heap.size, 0, none⟩), .pointer (some ⟨w1.heap.size + 1, 0, none⟩)]] 121) Jx
      (fun s A C hb hj => ⟨hJb s A C hb hj.1, hj.2.1.below hb, hj.2.2.below hb⟩)
      (fun m pre x W1 hpre hj => by
        obtain ⟨fn, tmps, assign, body, g1, g2⟩ := yield_any (m' := m) (hY pre x W1 hpre hj.1)
        have hk : ∀ k, k < W1.heap.size → Gst gt w1.heap.size S W1 k → S' k := fun k _ e => by
          rw [hS']
          rcases e with e | ⟨e, cs, f, hr⟩
          · exact .inl e
          · refine .inr ⟨e, ?_, ?_⟩
            · rintro rfl
              have := hj.2.1
              unfold Blk at this
              rw [this] at hr
              cases hr; exact hgt rfl
            · rintro rfl
              have := hj.2.2
              unfold Blk at this
              rw [this] at hr
              cases hr; exact hgt rfl
        refine ⟨fn, tmps, assign, body, g1, g2.mono ?_⟩
        rintro e W' (⟨rfl, k1, k2⟩ | ⟨rfl, k1, k2⟩)
        · have k3 := k2.mono hk
          exact .inl ⟨rfl, ⟨k1, hj.2.1.kept k3 hn1, hj.2.2.kept k3 hn2⟩, k3⟩
        · exact .inr ⟨rfl, k1, k2.mono fun k hk' e => e.elim (fun e => .inl (hk k hk' e)) .inr⟩)
      k (n - 1) a N [] w3 ((hH.below hW).below h3) hoff (by simp) ⟨hJb _ _ _ h3 h0, b1, b2⟩ b1 b2
    refine this.mono ?_
    rintro e w' (⟨rfl, H⟩ | ⟨rfl, H⟩)
    · exact ⟨true, rfl, .inl H.out.1.1⟩
    · exact ⟨false, rfl, .inr H.out⟩
  have HB : Hid _ := two_new' w1 #[.func (.yield l) #[] #[]] #[.func (.func 68) #[] #[.pointer (some ⟨w1.heap.size, 0, none⟩), .pointer (some ⟨w1.heap.size + 1, 0, none⟩)]] 121 121
  have HN : Hid (Blk w1 bn #[pt a] 82) := hbn.below hW
  have hbl := hbn.lt
  have hbl1 := HN.out.lt
  clear hH hbn hY hJ hJx hoff hn1 hn2 h0 hSN hS hS'
  generalize pt a = P0 at *
  refine callsIn_of_wp Try.func67 rfl trivial ?_ rfl
  simp only [Try.ntmps67, List.size_toArray, List.length_cons, List.length_nil, Nat.reduceAdd, Nat.reduceSub, Array.replicate_succ, Array.replicate_zero, List.push_toArray, List.append_toArray, List.nil_append, List.cons_append]
  gi_upto_region 3 with fail
  generalize ((w1.alloc _).alloc _) = w2 at HB ⊢
  have x1 := HB.out.2.1.cell 0 (v := .func (.func 68) #[] #[.pointer (some ⟨w1.heap.size, 0, none⟩), .pointer (some ⟨w1.heap.size + 1, 0, none⟩)]) rfl
  have x0 := (HN.out.below HB.out.2.2.1).cell 0 (v := P0) rfl
  gi_wp2_with fail
  refine ⟨trivial, no_depth _, ?_⟩
  refine (CW.out _ HB.out.2.2.1 HB.out.1 HB.out.2.1).mono ?_
  rintro e w3 ⟨bb, rfl, H3⟩
  clear CW HB HN x0 x1
  gi_wp2_with fail
  go_end0
  exact ⟨⟨_, rfl⟩, H3.out⟩
end Go.Proofs.Ytgdpplipahhffaa
