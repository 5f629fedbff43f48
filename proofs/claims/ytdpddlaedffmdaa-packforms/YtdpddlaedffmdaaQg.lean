/- Package pack's read round the closures of Fixed, Text, Raw and Bits; the calls that read: what each answers and leaves. -/
import Derived.Test.YtdpddlaedffmdaaQf
namespace Go.Proofs.Ytdpddlaedffmdaa
open Go.RowKit
set_option linter.unusedVariables false
set_option linter.unusedSimpArgs false

/-- The deferred one, where the call returns: it does nothing. -/
theorem idle78 (p : Addr) (w : World) : CallsD Try.prog 78 #[.pointer (some p)] .returning w fun e u' w' => e = .returned (.tuple #[]) ∧ u' = .returning ∧ w' = w := by
  refine callsD_of_wpS Try.func78 rfl fun c₀ cs hu => ?_
  apply wpS_seq
  apply wpS_region
  simp [wpOpsS, go_sem, recoverD, hu, Try.ntmps78, Exit.thenS]
  rw [show (#[Value.pointer (some p)] ++ ((Array.replicate 9 undef).setIfInBounds 1 Value.nilIface).setIfInBounds 0 Value.nilIface) = #[Value.pointer (some p), Value.nilIface, Value.nilIface, undef, undef, undef, undef, undef, undef, undef] from rfl]
  refine wpS_of_wp ?_
  go_wp2
  cases c₀
  simp_all [bodyPostS, results, Try.results78, Exit.thenS]
theorem catch78 (p : Addr) (b : Nat) (g f : Int) (w : World) (hp : w.cell? p = some (.pointer (some ⟨b, 0, none⟩))) (hc : w.cell? ⟨b, 2, none⟩ = some (.int .i64 g)) (hz : w.frozen? ⟨b, 2, none⟩ = false) :
    CallsD Try.prog 78 #[.pointer (some p)] (.panicking [pe f]) w fun e u' w' => e = .returned (.tuple #[]) ∧ u' = .panicking [{ v := .iface 29 (.int .i64 f), recovered := true }] ∧ w' = (w.setCell ⟨b, 2, none⟩ (.int .i64 f)).drew := by
  refine callsD_of_wpS Try.func78 rfl fun c₀ cs hu => ?_
  unfold pe at hu
  apply wpS_seq
  apply wpS_region
  simp [wpOpsS, go_sem, recoverD, hu, Try.ntmps78, Exit.thenS]
  rw [show (#[Value.pointer (some p)] ++ ((Array.replicate 9 undef).setIfInBounds 1 (Value.iface 29 (Value.int IntKind.i64 f))).setIfInBounds 0 (Value.iface 29 (Value.int IntKind.i64 f))) = #[Value.pointer (some p), Value.iface 29 (Value.int IntKind.i64 f), Value.iface 29 (Value.int IntKind.i64 f), undef, undef, undef, undef, undef, undef, undef] from rfl]
  refine wpS_of_wp ?_
  have hta := assert29 f
  go_wp2
  go_region
  change bodyPostS _ _ _ _ _ _ _ _ _
  simp [bodyPostS, results, Try.results78, Exit.thenS]
/-- The deferred one, where the call returns: it does nothing. -/
theorem idle79 (p : Addr) (w : World) : CallsD Try.prog 79 #[.pointer (some p)] .returning w fun e u' w' => e = .returned (.tuple #[]) ∧ u' = .returning ∧ w' = w := by
  refine callsD_of_wpS Try.func79 rfl fun c₀ cs hu => ?_
  apply wpS_seq
  apply wpS_region
  simp [wpOpsS, go_sem, recoverD, hu, Try.ntmps79, Exit.thenS]
  rw [show (#[Value.pointer (some p)] ++ ((Array.replicate 9 undef).setIfInBounds 1 Value.nilIface).setIfInBounds 0 Value.nilIface) = #[Value.pointer (some p), Value.nilIface, Value.nilIface, undef, undef, undef, undef, undef, undef, undef] from rfl]
  refine wpS_of_wp ?_
  go_wp2
  cases c₀
  simp_all [bodyPostS, results, Try.results79, Exit.thenS]
theorem catch79 (p : Addr) (b : Nat) (g f : Int) (w : World) (hp : w.cell? p = some (.pointer (some ⟨b, 0, none⟩))) (hc : w.cell? ⟨b, 2, none⟩ = some (.int .i64 g)) (hz : w.frozen? ⟨b, 2, none⟩ = false) :
    CallsD Try.prog 79 #[.pointer (some p)] (.panicking [pe f]) w fun e u' w' => e = .returned (.tuple #[]) ∧ u' = .panicking [{ v := .iface 29 (.int .i64 f), recovered := true }] ∧ w' = (w.setCell ⟨b, 2, none⟩ (.int .i64 f)).drew := by
  refine callsD_of_wpS Try.func79 rfl fun c₀ cs hu => ?_
  unfold pe at hu
  apply wpS_seq
  apply wpS_region
  simp [wpOpsS, go_sem, recoverD, hu, Try.ntmps79, Exit.thenS]
  rw [show (#[Value.pointer (some p)] ++ ((Array.replicate 9 undef).setIfInBounds 1 (Value.iface 29 (Value.int IntKind.i64 f))).setIfInBounds 0 (Value.iface 29 (Value.int IntKind.i64 f))) = #[Value.pointer (some p), Value.iface 29 (Value.int IntKind.i64 f), Value.iface 29 (Value.int IntKind.i64 f), undef, undef, undef, undef, undef, undef, undef] from rfl]
  refine wpS_of_wp ?_
  have hta := assert29 f
  go_wp2
  go_region
  change bodyPostS _ _ _ _ _ _ _ _ _
  simp [bodyPostS, results, Try.results79, Exit.thenS]

set_option maxHeartbeats 1000000 in
set_option maxRecDepth 100000 in
theorem read51 {w : World} {b : Nat} {s : ByteArray} {a : Nat} (h : Rd w b s a 0) (cap x : Value) (a' : Nat) (f : Int) (hx : f ≠ 0 → x = .int .u64 0 ∧ a' = a)
    (hC : ∀ w1 : World, Below w.heap.size w w1 → Pl w1 (w.heap.size + 1) s a → Calls Try.prog 51 #[.pointer (some ⟨w.heap.size + 1, 0, none⟩), cap] w1 fun e w' => Outc (w.heap.size + 1) s w1 x a' f e w') :
    Calls Try.prog 48 #[.pointer (some ⟨b, 0, none⟩), .func (.func 51) #[] #[cap]] w fun e w' => e = .returned x ∧ Rd w' b s a' f ∧ Kept (fun k => k = b) w w' := by
  have hmf := mk_func
  have hlt := h.lt
  have hRd := h
  have HC : Hid (∀ w1 : World, Below w.heap.size w w1 → Pl w1 (w.heap.size + 1) s a → Calls Try.prog 51 #[.pointer (some ⟨w.heap.size + 1, 0, none⟩), cap] w1 fun e w' => Outc (w.heap.size + 1) s w1 x a' f e w') := hC
  obtain ⟨⟨h0, h1, h2, h3⟩, h4, h5, h6⟩ := h
  have hB2 : Below w.heap.size w ((w.alloc (.cells #[.pointer (some ⟨b, 0, none⟩)] 39)).alloc (.cells #[.string s, .int .i64 (a : Int)] 73)) := ((Below.refl _ _).alloc (Nat.le_refl _) _).alloc (by simp) _
  have hP2 : Pl ((w.alloc (.cells #[.pointer (some ⟨b, 0, none⟩)] 39)).alloc (.cells #[.string s, .int .i64 (a : Int)] 73)) (w.heap.size + 1) s a := ⟨by simp, by simp, by simp, h3⟩
  have c0 : ((w.alloc (.cells #[.pointer (some ⟨b, 0, none⟩)] 39)).alloc (.cells #[.string s, .int .i64 (a : Int)] 73)).cell? ⟨w.heap.size, 0, none⟩ = some (.pointer (some ⟨b, 0, none⟩)) := by simp
  have hRd2 := hRd.below hB2
  clear hC hRd
  go_enter_defers Try.func48, Try.ntmps48
  go_wp2_with fail
  generalize (w.alloc (.cells #[.pointer (some ⟨b, 0, none⟩)] 39)).alloc (.cells #[.string s, .int .i64 (a : Int)] 73) = W2 at *
  clear h0 h1 h2 h3 h4 h5 h6
  refine (HC.out _ hB2 hP2).mono ?_
  rintro e w3 ⟨hk, (⟨rfl, rfl, hp⟩ | ⟨hf, rfl⟩)⟩
  · have d0 := hk.cell c0 (by simp)
    have hR3 := hRd2.kept hk (by show ¬ b = w.heap.size + 1; omega)
    have hk3 : Kept (fun k => k = b) w w3 := ((Kept.of_below hB2).trans (S := fun k => k = b ∨ k = w.heap.size + 1) (hk.mono (fun k _ h => .inr h))).mono (fun k hk h => by rcases h with h | h; exact h; omega)
    obtain ⟨⟨h0, h1, h2, h3⟩, h4, h5, h6⟩ := id hR3
    obtain ⟨p0, p1, p2, p3⟩ := hp
    clear hk hRd2 c0 hB2 hP2 HC
    go_wp2
    refine leaves_cons (f := 74) (args := #[.pointer (some ⟨w.heap.size, 0, none⟩)]) (by simp) (by simp [go_sem]) ?_
    refine (idle74 ⟨w.heap.size, 0, none⟩ _).mono ?_
    rintro e u' w'' ⟨rfl, rfl, rfl⟩
    simp [Leaves, settle, results, Try.results48, go_sem]
    exact ⟨hR3.place a' p3, Kept.set (S := fun k => k = b) (Kept.set (S := fun k => k = b) hk3 rfl _) rfl _⟩
  · obtain ⟨rfl, rfl⟩ := hx hf
    have d0 := hk.cell c0 (by simp)
    have hR3 := hRd2.kept hk (by show ¬ b = w.heap.size + 1; omega)
    have hk3 : Kept (fun k => k = b) w w3 := ((Kept.of_below hB2).trans (S := fun k => k = b ∨ k = w.heap.size + 1) (hk.mono (fun k _ h => .inr h))).mono (fun k hk h => by rcases h with h | h; exact h; omega)
    obtain ⟨⟨h0, h1, h2, h3⟩, h4, h5, h6⟩ := id hR3
    clear hk hRd2 c0 hB2 hP2 HC
    go_wp2
    refine leaves_cons (f := 74) (args := #[.pointer (some ⟨w.heap.size, 0, none⟩)]) (by simp) (by simp [go_sem]) ?_
    refine (catch74 ⟨w.heap.size, 0, none⟩ b 0 f _ d0 h4 h6).mono ?_
    rintro e u' w'' ⟨rfl, rfl, rfl⟩
    simp [Leaves, settle, results, Try.results48, go_sem]
    exact ⟨hR3.fail f, (Kept.set (S := fun k => k = b) hk3 rfl _).drewN 1⟩

set_option maxHeartbeats 1000000 in
set_option maxRecDepth 100000 in
theorem read54 {w : World} {b : Nat} {s : ByteArray} {a : Nat} (h : Rd w b s a 0) (cap x : Value) (a' : Nat) (f : Int) (hx : f ≠ 0 → x = .string ⟨#[]⟩ ∧ a' = a)
    (hC : ∀ w1 : World, Below w.heap.size w w1 → Pl w1 (w.heap.size + 1) s a → Calls Try.prog 54 #[.pointer (some ⟨w.heap.size + 1, 0, none⟩), cap] w1 fun e w' => Outc (w.heap.size + 1) s w1 x a' f e w') :
    Calls Try.prog 53 #[.pointer (some ⟨b, 0, none⟩), .func (.func 54) #[] #[cap]] w fun e w' => e = .returned x ∧ Rd w' b s a' f ∧ Kept (fun k => k = b) w w' := by
  have hmf := mk_func
  have hlt := h.lt
  have hRd := h
  have HC : Hid (∀ w1 : World, Below w.heap.size w w1 → Pl w1 (w.heap.size + 1) s a → Calls Try.prog 54 #[.pointer (some ⟨w.heap.size + 1, 0, none⟩), cap] w1 fun e w' => Outc (w.heap.size + 1) s w1 x a' f e w') := hC
  obtain ⟨⟨h0, h1, h2, h3⟩, h4, h5, h6⟩ := h
  have hB2 : Below w.heap.size w ((w.alloc (.cells #[.pointer (some ⟨b, 0, none⟩)] 39)).alloc (.cells #[.string s, .int .i64 (a : Int)] 73)) := ((Below.refl _ _).alloc (Nat.le_refl _) _).alloc (by simp) _
  have hP2 : Pl ((w.alloc (.cells #[.pointer (some ⟨b, 0, none⟩)] 39)).alloc (.cells #[.string s, .int .i64 (a : Int)] 73)) (w.heap.size + 1) s a := ⟨by simp, by simp, by simp, h3⟩
  have c0 : ((w.alloc (.cells #[.pointer (some ⟨b, 0, none⟩)] 39)).alloc (.cells #[.string s, .int .i64 (a : Int)] 73)).cell? ⟨w.heap.size, 0, none⟩ = some (.pointer (some ⟨b, 0, none⟩)) := by simp
  have hRd2 := hRd.below hB2
  clear hC hRd
  go_enter_defers Try.func53, Try.ntmps53
  go_wp2_with fail
  generalize (w.alloc (.cells #[.pointer (some ⟨b, 0, none⟩)] 39)).alloc (.cells #[.string s, .int .i64 (a : Int)] 73) = W2 at *
  clear h0 h1 h2 h3 h4 h5 h6
  refine (HC.out _ hB2 hP2).mono ?_
  rintro e w3 ⟨hk, (⟨rfl, rfl, hp⟩ | ⟨hf, rfl⟩)⟩
  · have d0 := hk.cell c0 (by simp)
    have hR3 := hRd2.kept hk (by show ¬ b = w.heap.size + 1; omega)
    have hk3 : Kept (fun k => k = b) w w3 := ((Kept.of_below hB2).trans (S := fun k => k = b ∨ k = w.heap.size + 1) (hk.mono (fun k _ h => .inr h))).mono (fun k hk h => by rcases h with h | h; exact h; omega)
    obtain ⟨⟨h0, h1, h2, h3⟩, h4, h5, h6⟩ := id hR3
    obtain ⟨p0, p1, p2, p3⟩ := hp
    clear hk hRd2 c0 hB2 hP2 HC
    go_wp2
    refine leaves_cons (f := 78) (args := #[.pointer (some ⟨w.heap.size, 0, none⟩)]) (by simp) (by simp [go_sem]) ?_
    refine (idle78 ⟨w.heap.size, 0, none⟩ _).mono ?_
    rintro e u' w'' ⟨rfl, rfl, rfl⟩
    simp [Leaves, settle, results, Try.results53, go_sem]
    exact ⟨hR3.place a' p3, Kept.set (S := fun k => k = b) (Kept.set (S := fun k => k = b) hk3 rfl _) rfl _⟩
  · obtain ⟨rfl, rfl⟩ := hx hf
    have d0 := hk.cell c0 (by simp)
    have hR3 := hRd2.kept hk (by show ¬ b = w.heap.size + 1; omega)
    have hk3 : Kept (fun k => k = b) w w3 := ((Kept.of_below hB2).trans (S := fun k => k = b ∨ k = w.heap.size + 1) (hk.mono (fun k _ h => .inr h))).mono (fun k hk h => by rcases h with h | h; exact h; omega)
    obtain ⟨⟨h0, h1, h2, h3⟩, h4, h5, h6⟩ := id hR3
    clear hk hRd2 c0 hB2 hP2 HC
    go_wp2
    refine leaves_cons (f := 78) (args := #[.pointer (some ⟨w.heap.size, 0, none⟩)]) (by simp) (by simp [go_sem]) ?_
    refine (catch78 ⟨w.heap.size, 0, none⟩ b 0 f _ d0 h4 h6).mono ?_
    rintro e u' w'' ⟨rfl, rfl, rfl⟩
    simp [Leaves, settle, results, Try.results53, go_sem]
    exact ⟨hR3.fail f, (Kept.set (S := fun k => k = b) hk3 rfl _).drewN 1⟩

set_option maxHeartbeats 1000000 in
set_option maxRecDepth 100000 in
theorem read59 {w : World} {b : Nat} {s : ByteArray} {a : Nat} (h : Rd w b s a 0) (cap x : Value) (a' : Nat) (f : Int) (hx : f ≠ 0 → x = .string ⟨#[]⟩ ∧ a' = a)
    (hC : ∀ w1 : World, Below w.heap.size w w1 → Pl w1 (w.heap.size + 1) s a → Calls Try.prog 59 #[.pointer (some ⟨w.heap.size + 1, 0, none⟩), cap] w1 fun e w' => Outc (w.heap.size + 1) s w1 x a' f e w') :
    Calls Try.prog 53 #[.pointer (some ⟨b, 0, none⟩), .func (.func 59) #[] #[cap]] w fun e w' => e = .returned x ∧ Rd w' b s a' f ∧ Kept (fun k => k = b) w w' := by
  have hmf := mk_func
  have hlt := h.lt
  have hRd := h
  have HC : Hid (∀ w1 : World, Below w.heap.size w w1 → Pl w1 (w.heap.size + 1) s a → Calls Try.prog 59 #[.pointer (some ⟨w.heap.size + 1, 0, none⟩), cap] w1 fun e w' => Outc (w.heap.size + 1) s w1 x a' f e w') := hC
  obtain ⟨⟨h0, h1, h2, h3⟩, h4, h5, h6⟩ := h
  have hB2 : Below w.heap.size w ((w.alloc (.cells #[.pointer (some ⟨b, 0, none⟩)] 39)).alloc (.cells #[.string s, .int .i64 (a : Int)] 73)) := ((Below.refl _ _).alloc (Nat.le_refl _) _).alloc (by simp) _
  have hP2 : Pl ((w.alloc (.cells #[.pointer (some ⟨b, 0, none⟩)] 39)).alloc (.cells #[.string s, .int .i64 (a : Int)] 73)) (w.heap.size + 1) s a := ⟨by simp, by simp, by simp, h3⟩
  have c0 : ((w.alloc (.cells #[.pointer (some ⟨b, 0, none⟩)] 39)).alloc (.cells #[.string s, .int .i64 (a : Int)] 73)).cell? ⟨w.heap.size, 0, none⟩ = some (.pointer (some ⟨b, 0, none⟩)) := by simp
  have hRd2 := hRd.below hB2
  clear hC hRd
  go_enter_defers Try.func53, Try.ntmps53
  go_wp2_with fail
  generalize (w.alloc (.cells #[.pointer (some ⟨b, 0, none⟩)] 39)).alloc (.cells #[.string s, .int .i64 (a : Int)] 73) = W2 at *
  clear h0 h1 h2 h3 h4 h5 h6
  refine (HC.out _ hB2 hP2).mono ?_
  rintro e w3 ⟨hk, (⟨rfl, rfl, hp⟩ | ⟨hf, rfl⟩)⟩
  · have d0 := hk.cell c0 (by simp)
    have hR3 := hRd2.kept hk (by show ¬ b = w.heap.size + 1; omega)
    have hk3 : Kept (fun k => k = b) w w3 := ((Kept.of_below hB2).trans (S := fun k => k = b ∨ k = w.heap.size + 1) (hk.mono (fun k _ h => .inr h))).mono (fun k hk h => by rcases h with h | h; exact h; omega)
    obtain ⟨⟨h0, h1, h2, h3⟩, h4, h5, h6⟩ := id hR3
    obtain ⟨p0, p1, p2, p3⟩ := hp
    clear hk hRd2 c0 hB2 hP2 HC
    go_wp2
    refine leaves_cons (f := 78) (args := #[.pointer (some ⟨w.heap.size, 0, none⟩)]) (by simp) (by simp [go_sem]) ?_
    refine (idle78 ⟨w.heap.size, 0, none⟩ _).mono ?_
    rintro e u' w'' ⟨rfl, rfl, rfl⟩
    simp [Leaves, settle, results, Try.results53, go_sem]
    exact ⟨hR3.place a' p3, Kept.set (S := fun k => k = b) (Kept.set (S := fun k => k = b) hk3 rfl _) rfl _⟩
  · obtain ⟨rfl, rfl⟩ := hx hf
    have d0 := hk.cell c0 (by simp)
    have hR3 := hRd2.kept hk (by show ¬ b = w.heap.size + 1; omega)
    have hk3 : Kept (fun k => k = b) w w3 := ((Kept.of_below hB2).trans (S := fun k => k = b ∨ k = w.heap.size + 1) (hk.mono (fun k _ h => .inr h))).mono (fun k hk h => by rcases h with h | h; exact h; omega)
    obtain ⟨⟨h0, h1, h2, h3⟩, h4, h5, h6⟩ := id hR3
    clear hk hRd2 c0 hB2 hP2 HC
    go_wp2
    refine leaves_cons (f := 78) (args := #[.pointer (some ⟨w.heap.size, 0, none⟩)]) (by simp) (by simp [go_sem]) ?_
    refine (catch78 ⟨w.heap.size, 0, none⟩ b 0 f _ d0 h4 h6).mono ?_
    rintro e u' w'' ⟨rfl, rfl, rfl⟩
    simp [Leaves, settle, results, Try.results53, go_sem]
    exact ⟨hR3.fail f, (Kept.set (S := fun k => k = b) hk3 rfl _).drewN 1⟩

theorem close51 {w : World} {b : Nat} {s : ByteArray} {a : Nat} (h : Pl w b s a) (hs : s.size ≤ 140737488351232) (n : Int) (mb : Nat) (hm : w.cell? ⟨mb, 0, none⟩ = some (.int .i64 n)) : Calls Try.prog 51 #[.pointer (some ⟨b, 0, none⟩), .pointer (some ⟨mb, 0, none⟩)] w fun e w' =>
    Outc b s w (.int .u64 (fixQ s a n).1) (fixQ s a n).2.1 (fixQ s a n).2.2 e w' := by
  have C : Hid (Calls Try.prog 52 #[.pointer (some ⟨b, 0, none⟩), .int .i64 n] w fun e w' => Outc b s w (.int .u64 (fixQ s a n).1) (fixQ s a n).2.1 (fixQ s a n).2.2 e w') := pfixed_any h hs n
  clear h
  generalize fixQ s a n = R at *
  go_enter Try.func51, Try.ntmps51
  go_wp2_with fail
  refine C.out.mono ?_
  rintro e w1 ⟨hk, (⟨hf, rfl, hp⟩ | ⟨hf, rfl⟩)⟩
  · go_wp2
    go_ret
    exact ⟨hk, .inl ⟨hf, rfl, hp⟩⟩
  · go_wp2
    exact ⟨rfl, hk, .inr ⟨hf, rfl⟩⟩

theorem close54 {w : World} {b : Nat} {s : ByteArray} {a : Nat} (h : Pl w b s a) (hs : s.size ≤ 140737488351232) (n : Int) (hn : n ≤ 9223372036854775807) (mb : Nat) (hm : w.cell? ⟨mb, 0, none⟩ = some (.int .i64 n)) : Calls Try.prog 54 #[.pointer (some ⟨b, 0, none⟩), .pointer (some ⟨mb, 0, none⟩)] w fun e w' =>
    Outc b s w (.string (textQ s a n).1) (textQ s a n).2.1 (textQ s a n).2.2 e w' := by
  have C : Hid (Calls Try.prog 55 #[.pointer (some ⟨b, 0, none⟩), .int .i64 n] w fun e w' => Outc b s w (.string (textQ s a n).1) (textQ s a n).2.1 (textQ s a n).2.2 e w') := ptext_any h hs n hn
  clear h hn
  generalize textQ s a n = R at *
  go_enter Try.func54, Try.ntmps54
  go_wp2_with fail
  refine C.out.mono ?_
  rintro e w1 ⟨hk, (⟨hf, rfl, hp⟩ | ⟨hf, rfl⟩)⟩
  · go_wp2
    go_ret
    exact ⟨hk, .inl ⟨hf, rfl, hp⟩⟩
  · go_wp2
    exact ⟨rfl, hk, .inr ⟨hf, rfl⟩⟩

theorem close59 {w : World} {b : Nat} {s : ByteArray} {a : Nat} (h : Pl w b s a) (hs : s.size ≤ 140737488351232) (n : Int) (mb : Nat) (hm : w.cell? ⟨mb, 0, none⟩ = some (.int .i64 n)) : Calls Try.prog 59 #[.pointer (some ⟨b, 0, none⟩), .pointer (some ⟨mb, 0, none⟩)] w fun e w' =>
    Outc b s w (.string (rawR s a n).1) (rawR s a n).2.1 (rawR s a n).2.2 e w' := by
  have C : Hid (Calls Try.prog 60 #[.pointer (some ⟨b, 0, none⟩), .int .i64 n] w fun e w' => Outc b s w (.string (rawR s a n).1) (rawR s a n).2.1 (rawR s a n).2.2 e w') := praw_any h hs n
  clear h
  generalize rawR s a n = R at *
  go_enter Try.func59, Try.ntmps59
  go_wp2_with fail
  refine C.out.mono ?_
  rintro e w1 ⟨hk, (⟨hf, rfl, hp⟩ | ⟨hf, rfl⟩)⟩
  · go_wp2
    go_ret
    exact ⟨hk, .inl ⟨hf, rfl, hp⟩⟩
  · go_wp2
    exact ⟨rfl, hk, .inr ⟨hf, rfl⟩⟩

theorem fixQ_zero (s : ByteArray) (a : Nat) (k : Int) : (fixQ s a k).2.2 ≠ 0 → Value.int .u64 (fixQ s a k).1 = .int .u64 0 ∧ (fixQ s a k).2.1 = a := by
  unfold fixQ; split
  · split
    · intro h; exact absurd rfl h
    · intro _; exact ⟨rfl, rfl⟩
  · intro _; exact ⟨rfl, rfl⟩
theorem rawR_zero (s : ByteArray) (a : Nat) (k : Int) : (rawR s a k).2.2 ≠ 0 → Value.string (rawR s a k).1 = .string ⟨#[]⟩ ∧ (rawR s a k).2.1 = a := by
  unfold rawR; split
  · intro _; exact ⟨rfl, rfl⟩
  · split
    · intro h; exact absurd rfl h
    · intro _; exact ⟨rfl, rfl⟩
theorem textQ_zero (s : ByteArray) (a : Nat) (k : Int) : (textQ s a k).2.2 ≠ 0 → Value.string (textQ s a k).1 = .string ⟨#[]⟩ ∧ (textQ s a k).2.1 = a := by
  unfold textQ; split
  · intro _; exact ⟨rfl, rfl⟩
  · split
    · intro _; exact ⟨rfl, rfl⟩
    · split
      · intro _; exact ⟨rfl, rfl⟩
      · rename_i h1 h2 h3; intro h; exact absurd h h3

theorem rfixed_any {w : World} {b : Nat} {s : ByteArray} {a : Nat} (h : Rd w b s a 0) (hs : s.size ≤ 140737488351232) (n : Int) :
    Calls Try.prog 22 #[.pointer (some ⟨b, 0, none⟩), .int .i64 n] w fun e w' => e = .returned (.int .u64 (fixQ s a n).1) ∧ Rd w' b s (fixQ s a n).2.1 (fixQ s a n).2.2 ∧ Kept (fun k => k = b) w w' := by
  have hmf := mk_func
  have hb1 : Below w.heap.size w (w.alloc (.cells #[.int .i64 n] 3)) := (Below.refl _ _).alloc (Nat.le_refl _) _
  have c0 : (w.alloc (.cells #[.int .i64 n] 3)).cell? ⟨w.heap.size, 0, none⟩ = some (.int .i64 n) := by simp
  have hsz : (w.alloc (.cells #[.int .i64 n] 3)).heap.size = w.heap.size + 1 := by simp
  have C : Hid (Calls Try.prog 48 #[.pointer (some ⟨b, 0, none⟩), .func (.func 51) #[] #[.pointer (some ⟨w.heap.size, 0, none⟩)]] (w.alloc (.cells #[.int .i64 n] 3)) fun e w' => e = .returned (.int .u64 (fixQ s a n).1) ∧ Rd w' b s (fixQ s a n).2.1 (fixQ s a n).2.2 ∧ Kept (fun k => k = b) (w.alloc (.cells #[.int .i64 n] 3)) w') := by
    refine read51 (h.below hb1) _ _ _ _ (fixQ_zero s a n) (fun w1 hB hP => ?_)
    exact close51 hP hs n w.heap.size (by rw [hB.cell (p := ⟨w.heap.size, 0, none⟩) (by rw [hsz]; simp)]; exact c0)
  generalize fixQ s a n = R at *
  clear h c0
  go_enter Try.func22, Try.ntmps22
  go_wp2_with fail
  refine C.out.mono ?_
  rintro e w1 ⟨rfl, hR, hk⟩
  go_wp2
  go_ret
  exact ⟨rfl, hR, (Kept.of_below hb1).trans hk⟩

theorem rtext_any {w : World} {b : Nat} {s : ByteArray} {a : Nat} (h : Rd w b s a 0) (hs : s.size ≤ 140737488351232) (n : Int) (hn : n ≤ 9223372036854775807) :
    Calls Try.prog 23 #[.pointer (some ⟨b, 0, none⟩), .int .i64 n] w fun e w' => e = .returned (.string (textQ s a n).1) ∧ Rd w' b s (textQ s a n).2.1 (textQ s a n).2.2 ∧ Kept (fun k => k = b) w w' := by
  have hmf := mk_func
  have hb1 : Below w.heap.size w (w.alloc (.cells #[.int .i64 n] 3)) := (Below.refl _ _).alloc (Nat.le_refl _) _
  have c0 : (w.alloc (.cells #[.int .i64 n] 3)).cell? ⟨w.heap.size, 0, none⟩ = some (.int .i64 n) := by simp
  have hsz : (w.alloc (.cells #[.int .i64 n] 3)).heap.size = w.heap.size + 1 := by simp
  have C : Hid (Calls Try.prog 53 #[.pointer (some ⟨b, 0, none⟩), .func (.func 54) #[] #[.pointer (some ⟨w.heap.size, 0, none⟩)]] (w.alloc (.cells #[.int .i64 n] 3)) fun e w' => e = .returned (.string (textQ s a n).1) ∧ Rd w' b s (textQ s a n).2.1 (textQ s a n).2.2 ∧ Kept (fun k => k = b) (w.alloc (.cells #[.int .i64 n] 3)) w') := by
    refine read54 (h.below hb1) _ _ _ _ (textQ_zero s a n) (fun w1 hB hP => ?_)
    exact close54 hP hs n hn w.heap.size (by rw [hB.cell (p := ⟨w.heap.size, 0, none⟩) (by rw [hsz]; simp)]; exact c0)
  generalize textQ s a n = R at *
  clear h c0 hn
  go_enter Try.func23, Try.ntmps23
  go_wp2_with fail
  refine C.out.mono ?_
  rintro e w1 ⟨rfl, hR, hk⟩
  go_wp2
  go_ret
  exact ⟨rfl, hR, (Kept.of_below hb1).trans hk⟩

theorem rraw_any {w : World} {b : Nat} {s : ByteArray} {a : Nat} (h : Rd w b s a 0) (hs : s.size ≤ 140737488351232) (n : Int) :
    Calls Try.prog 25 #[.pointer (some ⟨b, 0, none⟩), .int .i64 n] w fun e w' => e = .returned (.string (rawR s a n).1) ∧ Rd w' b s (rawR s a n).2.1 (rawR s a n).2.2 ∧ Kept (fun k => k = b) w w' := by
  have hmf := mk_func
  have hb1 : Below w.heap.size w (w.alloc (.cells #[.int .i64 n] 3)) := (Below.refl _ _).alloc (Nat.le_refl _) _
  have c0 : (w.alloc (.cells #[.int .i64 n] 3)).cell? ⟨w.heap.size, 0, none⟩ = some (.int .i64 n) := by simp
  have hsz : (w.alloc (.cells #[.int .i64 n] 3)).heap.size = w.heap.size + 1 := by simp
  have C : Hid (Calls Try.prog 53 #[.pointer (some ⟨b, 0, none⟩), .func (.func 59) #[] #[.pointer (some ⟨w.heap.size, 0, none⟩)]] (w.alloc (.cells #[.int .i64 n] 3)) fun e w' => e = .returned (.string (rawR s a n).1) ∧ Rd w' b s (rawR s a n).2.1 (rawR s a n).2.2 ∧ Kept (fun k => k = b) (w.alloc (.cells #[.int .i64 n] 3)) w') := by
    refine read59 (h.below hb1) _ _ _ _ (rawR_zero s a n) (fun w1 hB hP => ?_)
    exact close59 hP hs n w.heap.size (by rw [hB.cell (p := ⟨w.heap.size, 0, none⟩) (by rw [hsz]; simp)]; exact c0)
  generalize rawR s a n = R at *
  clear h c0
  go_enter Try.func25, Try.ntmps25
  go_wp2_with fail
  refine C.out.mono ?_
  rintro e w1 ⟨rfl, hR, hk⟩
  go_wp2
  go_ret
  exact ⟨rfl, hR, (Kept.of_below hb1).trans hk⟩
end Go.Proofs.Ytdpddlaedffmdaa
