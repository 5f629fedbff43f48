/- Package exact: a map as it lies in memory; New, find, Len, and what strings.Clone answers. -/
import Derived.Test.YtkcjcidndckgbaaRg
import Derived.Test.YtkcjcidndckgbaaFr
import Derived.Test.YtkcjcidndckgbaaSf
import Derived.Test.YtkcjcidndckgbaaQp
namespace Go.Proofs.Ytkcjcidndckgbaa
open Go.RowKit
set_option linter.unusedVariables false
set_option linter.unusedSimpArgs false

section
variable {V : Type}
/-- A search of so many places. -/
def fndAt (r : List (Pl V)) (k : ByteArray) : Nat → Nat → Nat × Bool
  | 0, a => (a, false)
  | n + 1, a => match r[a]? with
    | some (some y) => if y.1 = k then (a, true) else fndAt r k n (nx r.length a)
    | _ => (a, false)
theorem found_from {r : List (Pl V)} {k : ByteArray} {f : Nat} (hf : r[f]? = some none) : ∀ (d a : Nat), Seek spr r k a → r.length - dist r.length (home spr r.length k) a ≤ d → Found r k (fndAt r k d a).1 (fndAt r k d a).2
  | 0, a, h, hd => by
    have := dist_lt (home_lt spr (L := r.length) (by have := h.lt; omega) k) h.lt
    omega
  | d + 1, a, h, hd => by
    obtain ⟨x, hx⟩ : ∃ x, r[a]? = some x := ⟨r[a]'(h.lt), List.getElem?_eq_getElem _⟩
    cases x with
    | none =>
      have e : fndAt r k (d + 1) a = (a, false) := by rw [fndAt, hx]
      rw [e]; exact ⟨h, .inr ⟨rfl, hx⟩⟩
    | some y =>
      by_cases e : y.1 = k
      · have e1 : fndAt r k (d + 1) a = (a, true) := by rw [fndAt, hx]; simp [e]
        rw [e1]; exact ⟨h, .inl ⟨rfl, y.2, by rw [hx, ← e]⟩⟩
      · have e1 : fndAt r k (d + 1) a = fndAt r k d (nx r.length a) := by rw [fndAt, hx]; simp [e]
        rw [e1]
        obtain ⟨h1, h2, h3⟩ := h.next hx e hf
        exact found_from hf d _ h1 (by omega)
theorem Found.uniq {r : List (Pl V)} {k : ByteArray} {a b : Nat} {t u : Bool} (h : Found r k a t) (g : Found r k b u) : a = b ∧ t = u := by
  have lh := home_lt spr (L := r.length) (by have := h.1.lt; omega) k
  have no : ∀ {a b : Nat} {t u : Bool}, Found r k a t → Found r k b u → ¬ dist r.length (home spr r.length k) a < dist r.length (home spr r.length k) b := by
    intro a b t u h g hd
    obtain ⟨x, hx, hk⟩ := g.1.past a h.1.lt hd
    rcases h.2 with ⟨_, v, hv⟩ | ⟨_, hv⟩
    · rw [hx] at hv; simp at hv; subst hv; exact hk rfl
    · rw [hx] at hv; simp at hv
  have e : a = b := dist_inj lh h.1.lt g.1.lt (by have := no h g; have := no g h; omega)
  subst e
  refine ⟨rfl, ?_⟩
  rcases h.2 with ⟨rfl, v, hv⟩ | ⟨rfl, hv⟩ <;> rcases g.2 with ⟨rfl, u, hu⟩ | ⟨rfl, hu⟩
  · rfl
  · rw [hv] at hu; simp at hu
  · rw [hv] at hu; simp at hu
  · rfl
/-- Where a text is found, and whether. -/
def fnd (r : List (Pl V)) (k : ByteArray) : Nat × Bool := fndAt r k r.length (home spr r.length k)
theorem fnd_found {r : List (Pl V)} (h2 : 2 ≤ r.length) {f : Nat} (hf : r[f]? = some none) (k : ByteArray) : Found r k (fnd r k).1 (fnd r k).2 :=
  found_from hf _ _ (Seek.start spr h2 k) (Nat.sub_le _ _)
end
theorem findI_val (b cap : Nat) (r : List (Pl Int)) (k : ByteArray) (w : World) (hr : RowOf 89 4 encI w b r) (hR : 2 ≤ r.length) (hL : r.length ≤ 16384) {f : Nat} (hf : r[f]? = some none) :
    Calls Try.prog 82 #[.slice (some ⟨b, 0, none⟩) r.length cap, .int .u32 (spr k), .string k] w fun e w' => e = .returned (.tuple #[.int .i64 ((fnd r k).1 : Nat), .bool (fnd r k).2]) ∧ w' = w := by
  refine (findI_any b cap r k w hr hR hL hf).mono ?_
  rintro e w' ⟨a, th, rfl, rfl, h⟩
  obtain ⟨e1, e2⟩ := (fnd_found hR hf k).uniq h.out
  rw [e1, e2]
  exact ⟨rfl, rfl⟩

/-- A map. -/
structure MapAt (w : World) (q b most : Nat) (r : List (Pl Int)) (cap : Nat) : Prop where
  hd : Blk w q #[.int .i64 most, .int .i64 (cont r).length, .slice (some ⟨b, 0, none⟩) r.length cap] 77
  row : RowOf 89 4 encI w b r
  rw : Rw spr r
  big : 8 ≤ r.length ∧ r.length ≤ 16384
  half : 2 * (cont r).length ≤ r.length
  most : (cont r).length ≤ most ∧ 1 ≤ most ∧ most ≤ 4096
  ne : q ≠ b
theorem MapAt.kept {w w' : World} {q b most cap : Nat} {r : List (Pl Int)} (h : MapAt w q b most r cap) {S : Nat → Prop} (hk : Kept S w w') (h1 : ¬ S q) (h2 : ¬ S b) : MapAt w' q b most r cap :=
  ⟨h.hd.kept hk h1, h.row.kept hk h2, h.rw, h.big, h.half, h.most, h.ne⟩
theorem MapAt.below {w w' : World} {q b most cap : Nat} {r : List (Pl Int)} (h : MapAt w q b most r cap) (hk : Below w.heap.size w w') : MapAt w' q b most r cap :=
  ⟨h.hd.below hk, h.row.below hk, h.rw, h.big, h.half, h.most, h.ne⟩
theorem MapAt.free {w : World} {q b most cap : Nat} {r : List (Pl Int)} (h : MapAt w q b most r cap) : ∃ f : Nat, r[f]? = some none := free_of r (by have := h.half; have := h.big; omega)
theorem MapAt.found {w : World} {q b most cap : Nat} {r : List (Pl Int)} (h : MapAt w q b most r cap) (k : ByteArray) : Found r k (fnd r k).1 (fnd r k).2 := by
  obtain ⟨f, hf⟩ := h.free
  exact fnd_found h.rw.pos hf k
theorem cloneI_any (s : ByteArray) (hs : s.size ≤ 281474976710656) (w : World) : Calls Try.prog 44 #[.string s] w fun e w' => e = .returned (.string s) ∧ Below w.heap.size w w' := by
  have C : Hid (Calls Try.prog 67 #[.string s] w fun e w' => e = .returned (.string s) ∧ Below w.heap.size w w') := Try.stringslite_Clone s w hs
  go_enter Try.func44, Try.ntmps44
  go_wp2_with fail
  refine C.out.mono ?_
  rintro e w1 ⟨rfl, hb⟩
  have HB : Hid (Below w.heap.size w w1) := hb
  clear hb C
  go_wp2
  go_ret
  exact ⟨rfl, HB.out⟩
set_option maxHeartbeats 1000000 in
theorem newI_bad (n : Int) (h : n < 1 ∨ 4096 < n) (w : World) : Calls Try.prog 7 #[.int .i64 n] w fun e w' => e = .returned (.tuple #[.pointer none, .int .i64 1]) ∧ w' = w := by
  go_enter Try.func7, Try.ntmps7
  rcases h with h | h
  · go_wp2
    go_ret2
    exact ⟨rfl, rfl⟩
  · have h' : ¬ n < 1 := by omega
    go_wp2
    go_ret2
    exact ⟨rfl, rfl⟩
set_option maxHeartbeats 1000000 in
theorem lenI_any (q b most cap : Nat) (r : List (Pl Int)) (w : World) (h : MapAt w q b most r cap) : Calls Try.prog 33 #[.pointer (some ⟨q, 0, none⟩)] w fun e w' => e = .returned (.int .i64 (cont r).length) ∧ w' = w := by
  have c1 := h.hd.cell 1 (v := .int .i64 (cont r).length) rfl
  clear h
  go_enter Try.func33, Try.ntmps33
  go_wp2
  go_ret
  exact ⟨rfl, rfl⟩
set_option maxHeartbeats 2000000 in
theorem mfindI_any (q b most cap : Nat) (r : List (Pl Int)) (k : ByteArray) (hk : k.size ≤ 9223372036854775807) (w : World) (h : MapAt w q b most r cap) :
    Calls Try.prog 57 #[.pointer (some ⟨q, 0, none⟩), .string k] w fun e w' => e = .returned (.tuple #[.int .i64 ((fnd r k).1 : Nat), .bool (fnd r k).2]) ∧ Below w.heap.size w w' := by
  have c2 : ∀ z : Grown w, (gw z).cell? ⟨q, 2, none⟩ = some (.slice (some ⟨b, 0, none⟩) r.length cap) := gw_cell (h.hd.cell 2 rfl)
  obtain ⟨f, hf⟩ := h.free
  have C1 : Hid (∀ w1, Calls Try.prog 49 #[.string k] w1 fun e w' => e = .returned (.int .u32 (spr k)) ∧ w' = w1) := fun w1 => spr_any k hk w1
  have C2 : Hid (∀ z : Grown w, Calls Try.prog 82 #[.slice (some ⟨b, 0, none⟩) r.length cap, .int .u32 (spr k), .string k] (gw z) fun e w' => e = .returned (.tuple #[.int .i64 ((fnd r k).1 : Nat), .bool (fnd r k).2]) ∧ w' = gw z) := fun z => findI_val b cap r k _ (h.row.below (gw_below z)) h.rw.pos h.big.2 hf
  generalize fnd r k = p at *
  generalize spr k = hh at *
  clear h hf hk
  go_enter Try.func57, Try.ntmps57
  go_upto_region 3 with fail
  refine region_grows (by kernel_rfl) (by kernel_rfl) ?_
  repeat (go_big_quiet_step ((first | (go_at_call 49; exact calls_gw_same (C1.out _)) | (go_at_call 82; exact calls_gw_same (C2.out _)))))
  refine wpQuiet_nil ?_
  intro wq hwq
  obtain ⟨zq, hwq⟩ := hwq
  subst hwq
  have HB : Hid (Below w.heap.size w (gw zq)) := gw_below zq
  generalize gw zq = W at *
  clear C1 C2 c2
  go_wp2
  go_ret2
  exact ⟨rfl, HB.out⟩
end Go.Proofs.Ytkcjcidndckgbaa
