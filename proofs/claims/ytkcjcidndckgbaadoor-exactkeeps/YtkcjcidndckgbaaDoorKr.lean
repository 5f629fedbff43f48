/- The law's key; what the law keeps beside a map: a list of numbers, 0 where nothing is kept. -/
import Derived.Test.YtkcjcidndckgbaaDoorKx
import Derived.Test.YtkcjcidndckgbaaDoorAw
import Derived.Lib.LaidTab
namespace Go.Proofs.YtkcjcidndckgbaaDoor
open Go.RowKit
set_option linter.unusedVariables false
set_option linter.unusedSimpArgs false

abbrev Tab (w : World) : Prop := Lib.TabIs Tryd.prog w "internal/strconv.uint64pow10" .u64 Lib.pow10Tab
theorem itoa_nat (i : Nat) : Lib.itoa (i : Int) = Lib.decDigits i := by
  unfold Lib.itoa; rw [if_neg (by omega)]; simp
set_option maxHeartbeats 1000000 in
theorem key_any (i : Nat) (hi : i < 10000) (tail : ByteArray) (ht : tail.size ≤ 64) (w : World) (hT : Tab w) : Calls Tryd.prog 7 #[.int .i64 i, .string tail] w fun e w' => e = .returned (.string (keyB i tail)) ∧ Below w.heap.size w w' := by
  have C : Hid (Calls Tryd.prog 16 #[.int .i64 i] w fun e w' => e = .returned (.string ⟨(Lib.decDigits i).toArray⟩) ∧ Below w.heap.size w w') := (Tryd.strconv_Itoa i (by omega) (by omega) w hT).mono (by
    rintro e w' ⟨rfl, k, os, rfl⟩
    refine ⟨by rw [itoa_nat], ⟨rfl, rfl, rfl, ?_, fun j hj => ?_⟩⟩
    · show w.heap.size ≤ (w.heap ++ os).size
      simp
    · show (w.heap ++ os)[j]? = _
      rw [Array.getElem?_append_left hj])
  have hl := Go.Proofs.YtkcjcidndckgbaaDoor.dec_len 3 i (by omega)
  have hd : (⟨(Lib.decDigits i).toArray⟩ : ByteArray).size ≤ 4 := by show (Lib.decDigits i).toArray.size ≤ 4; simpa using hl
  have HK : Hid (keyB i tail = ⟨(Lib.decDigits i).toArray⟩ ++ tail) := by show _ = _; rfl
  generalize (⟨(Lib.decDigits i).toArray⟩ : ByteArray) = D at *
  clear hT hl
  go_enter Tryd.func7, Tryd.ntmps7
  go_wp2_with fail
  refine C.out.mono ?_
  rintro e w1 ⟨rfl, hb⟩
  have HB : Hid (Below w.heap.size w w1) := hb
  clear C hb
  go_wp2
  go_ret
  exact ⟨by rw [HK.out]; rfl, HB.out⟩
def encH : Pl Int → List Value
  | none => [.int .i64 0]
  | some (k, v) => [.int .i64 v]
theorem encH_len (x : Pl Int) : (encH x).length = 1 := by cases x <;> rfl
theorem info3 : (Tryd.prog.info? 3).map (fun i => (i.zero, i.size, i.bytes)) = some (some (.int .i64 0), 1, 8) := by kernel_rfl
theorem RowOf.madeH {w1 : World} {base g n cap : Nat} (hown : w1.ownsRow base 3 1 (.slice (some ⟨g, 0, none⟩) n cap) n (madeCells #[Value.int .i64 0] n).toList) : RowOf 3 1 encH w1 g (List.replicate n none) := by
  have hown : w1.ownsRow base 3 1 (.slice (some ⟨g, 0, none⟩) n cap) n (madeCells (Value.int .i64 0).cells (n * 1)).toList := by rw [Nat.mul_one]; exact hown
  rcases hown.2 with ⟨e, _⟩ | ⟨g', cap', cur, e, _, hb, _, _, hs, ht⟩
  · cases e
  · simp only [Value.slice.injEq, Option.some.injEq, Addr.mk.injEq, and_true, true_and] at e
    obtain ⟨rfl, rfl⟩ := e
    have h4 : n ≤ cap := by assumption
    refine ⟨cur, hb, by rw [List.length_replicate]; omega, fun i x hx j v hv => ?_⟩
    rw [List.getElem?_replicate] at hx
    split at hx
    · next hi =>
      injection hx with hx; subst hx
      have hj : j < 1 := (List.getElem?_eq_some_iff.1 hv).1
      obtain rfl : j = 0 := by omega
      have hlt : i * 1 + 0 < n * 1 := by omega
      have e1 : (cur.toList.take (n * 1))[i * 1 + 0]? = (madeCells (Value.int .i64 0).cells (n * 1)).toList[i * 1 + 0]? := by rw [ht]
      rw [List.getElem?_take_of_lt hlt, Array.getElem?_toList, Array.getElem?_toList, made_get hlt] at e1
      rw [e1]
      have e2 : (Value.int .i64 0).cells = #[.int .i64 0] := rfl
      rw [e2, show #[Value.int .i64 0].size = 1 from rfl, Nat.mod_one]
      exact hv
    · cases hx

/-- What the law knows of the map between two calls. -/
structure KS (tail : ByteArray) (w W : World) (q b g N : Nat) (r : List (Pl Int)) (cap : Nat) (hs : List (Pl Int)) : Prop where
  at_ : MapAt W q b N r cap
  row : RowOf 3 1 encH W g hs
  len : hs.length = N
  con : (cont r).Perm (cont hs)
  key : ∀ (i : Nat) (x : ByteArray × Int), hs[i]? = some (some x) → x.1 = keyB i tail ∧ x.2 ≠ 0
  bel : Below w.heap.size w W
  lq : w.heap.size ≤ q
  lb : w.heap.size ≤ b
  lg : w.heap.size ≤ g
  gq : g ≠ q
  gb : g ≠ b
section
variable {tail : ByteArray} {w W : World} {q b g N cap : Nat} {r hs : List (Pl Int)}
theorem KS.below (h : KS tail w W q b g N r cap hs) {W' : World} (hb : Below W.heap.size W W') : KS tail w W' q b g N r cap hs :=
  ⟨h.at_.below hb, h.row.below hb, h.len, h.con, h.key, h.bel.trans (hb.mono h.bel.size), h.lq, h.lb, h.lg, h.gq, h.gb⟩
theorem KS.cell0 (h : KS tail w W q b g N r cap hs) {i : Nat} (hi : hs[i]? = some none) : W.cell? ⟨g, i, none⟩ = some (.int .i64 0) := by
  have := h.row.cell hi 0 (v := .int .i64 0) rfl
  rwa [Nat.mul_one, Nat.add_zero] at this
theorem KS.cellv (h : KS tail w W q b g N r cap hs) {i : Nat} {x : ByteArray × Int} (hi : hs[i]? = some (some x)) : W.cell? ⟨g, i, none⟩ = some (.int .i64 x.2) := by
  have := h.row.cell hi 0 (v := .int .i64 x.2) rfl
  rwa [Nat.mul_one, Nat.add_zero] at this
theorem KS.new (h : KS tail w W q b g N r cap hs) {i : Nat} (hi : hs[i]? = some none) : ∀ x ∈ cont r, x.1 ≠ keyB i tail := by
  intro x hx e
  obtain ⟨j, hj⟩ := mem_cont.1 (h.con.mem_iff.1 hx)
  have := (h.key j x hj).1
  rw [this] at e
  have := keyB_inj e
  subst this
  rw [hi] at hj; simp at hj
theorem KS.room (h : KS tail w W q b g N r cap hs) {i : Nat} (hi : hs[i]? = some none) : (cont r).length < N := by
  have h1 := (cont_lay (keyB i tail, (1 : Int)) hi).length_eq
  have h2 := cont_len_le (hs.set i (some (keyB i tail, (1 : Int))))
  rw [List.length_set, h.len] at h2
  rw [h.con.length_eq]
  simp at h1; omega
theorem KS.mem (h : KS tail w W q b g N r cap hs) {i : Nat} {v : Int} (hi : hs[i]? = some (some (keyB i tail, v))) : (keyB i tail, v) ∈ cont r := h.con.mem_iff.2 (mem_cont.2 ⟨i, hi⟩)
theorem KS.store (h : KS tail w W q b g N r cap hs) {W1 : World} {b2 cap2 : Nat} {r2 : List (Pl Int)} (h1 : MapAt W1 q b2 N r2 cap2) (hk : Kept (fun z => z = q ∨ z = b) W W1) (hb : b2 = b ∨ W.heap.size ≤ b2)
    {i : Nat} (x : Pl Int) (hi : i < hs.length) (hc : (cont r2).Perm (cont (hs.set i x))) (hx : ∀ y, x = some y → y.1 = keyB i tail ∧ y.2 ≠ 0) {u : Value} (hu : encH x = [u]) :
    KS tail w (W1.setCell ⟨g, i, none⟩ u) q b2 g N r2 cap2 (hs.set i x) := by
  have hgl := h.row.lt
  have hgb2 : g ≠ b2 := by have := h.gb; rcases hb with hb | hb <;> omega
  have hrow : RowOf 3 1 encH W1 g hs := h.row.kept hk (fun e => by have := h.gq; have := h.gb; rcases e with e | e <;> omega)
  have hset := hrow.set i x hi encH_len
  rw [Nat.mul_one, hu] at hset
  have hset' : RowOf 3 1 encH (W1.setCell ⟨g, i, none⟩ u) g (hs.set i x) := hset
  have ks : Kept (fun z => z = g) W1 (W1.setCell ⟨g, i, none⟩ u) := (Kept.refl (fun z => z = g) W1).set (p := ⟨g, i, none⟩) rfl _
  have hb1 : Below w.heap.size w W1 := h.bel.trans (hk.below h.bel.size (fun k e => by have := h.lq; have := h.lb; rcases e with e | e <;> omega))
  have hbs := h.bel.size
  have hlb := h.lb
  have hgq := h.gq
  refine ⟨h1.kept ks (fun e => h.gq e.symm) (fun e => hgb2 e.symm), hset', by rw [List.length_set]; exact h.len, hc, fun j y hy => ?_, hb1.trans (ks.below hb1.size (fun k e => by have := h.lg; omega)), h.lq, by rcases hb with hb | hb <;> omega, h.lg, h.gq, hgb2⟩
  by_cases e : i = j
  · subst e
    rw [List.getElem?_set_self hi] at hy
    exact hx y (by injection hy)
  · rw [List.getElem?_set_ne e] at hy
    exact h.key j y hy
end
end Go.Proofs.YtkcjcidndckgbaaDoor
