/- The library's sort at the taken places. -/
import Derived.Test.YtkcjcidndckgbaaSa
namespace Go.Proofs.Ytkcjcidndckgbaa
open Go.RowKit Go.Sort
set_option linter.unusedVariables false
set_option linter.unusedSimpArgs false

theorem CellsOf.kept {α : Type} {K : Nat} {enc : α → List Value} {w w' : World} {g : Nat} {xs : List α} (h : CellsOf K enc w g xs) {S : Nat → Prop} (hk : Kept S w w') (hg : ¬ S g) : CellsOf K enc w' g xs := fun i x hx j v hv => hk.cell (h i x hx j v hv) hg
theorem kept_sorted {α : Type} [Inhabited α] (enc : α → List Value) (k : Nat) (w : World) (g m : Nat) (d : Array α) (os : Array Obj) : Kept (fun z => z = g) w (sortWorldK enc k w g 0 m d os) := by
  unfold sortWorldK
  have e : ∀ (i : Nat), i < w.heap.size → ¬ i = g → (grow (putRowK enc k (Sort.ahead w m) g 0 d) os).heap[i]? = w.heap[i]? := fun i hi hne => by
    show ((putRowK enc k (Sort.ahead w m) g 0 d).heap ++ os)[i]? = _
    rw [Array.getElem?_append_left (by rw [size_putRowK]; exact hi)]
    unfold putRowK putRow mapBlock
    show ((Sort.ahead w m).heap.modify g _)[i]? = _
    rw [Array.getElem?_modify, if_neg (fun q => hne q.symm)]
    rfl
  refine ⟨rfl, rfl, rfl, ?_, e⟩
  show w.heap.size ≤ ((putRowK enc k (Sort.ahead w m) g 0 d).heap ++ os).size
  rw [Array.size_append, size_putRowK]
  exact Nat.le_add_right _ _
theorem holds_row {w : World} {g : Nat} {xs : List (ByteArray × Int)} (h : RowOf 89 4 encS w g xs) : HoldsK encS 4 w g 0 xs.toArray := by
  intro t ht
  have ht' : t < xs.toArray.size * 4 := by rw [size_flatK] at ht; exact ht
  have hi : t / 4 < xs.length := by simp at ht'; omega
  have hm : t % 4 < 4 := Nat.mod_lt _ (by decide)
  rw [get_flatK encS 4 _ t ht', Nat.zero_add]
  have hx : xs[t / 4]? = some (xs[t / 4]'hi) := List.getElem?_eq_getElem hi
  have e1 : xs.toArray[t / 4]! = xs[t / 4]'hi := by rw [getElem!_pos xs.toArray (t / 4) (by simpa using hi)]; simp
  have hl : (encS (xs[t / 4]'hi)).length = 4 := encI_len _
  have hv : (encS (xs[t / 4]'hi))[t % 4]? = some ((encS (xs[t / 4]'hi))[t % 4]!) := by
    rw [getElem!_pos _ _ (by rw [hl]; exact hm)]
    exact List.getElem?_eq_getElem _
  have hc := h.cell hx (t % 4) hv
  rw [show t / 4 * 4 + t % 4 = t by omega] at hc
  rw [e1]
  exact ⟨hc, h.frozen t⟩
theorem cells_holds {w : World} {g : Nat} {d : Array (ByteArray × Int)} (h : HoldsK encS 4 w g 0 d) : CellsOf 4 encS w g d.toList := by
  intro i x hx j v hv
  have hi : i < d.size := by have := (List.getElem?_eq_some_iff.1 hx).1; simpa using this
  have hj : j < 4 := Nat.lt_of_lt_of_eq (List.getElem?_eq_some_iff.1 hv).1 (encI_len _)
  have := (h.cell hi hj).1
  rw [Nat.zero_add] at this
  have e1 : d[i]! = x := by
    rw [getElem!_pos d i hi]
    have := (List.getElem?_eq_some_iff.1 hx).2
    simpa using this
  have e2 : (encS x)[j]! = v := by
    obtain ⟨h1, h2⟩ := List.getElem?_eq_some_iff.1 hv
    rw [getElem!_pos (encS x) j h1]; exact h2
  rw [this, e1, e2]
theorem sortI_any (g cap : Nat) (xs : List (ByteArray × Int)) (w : World) (h : RowOf 89 4 encS w g xs) (hd : xs.Pairwise fun a b => a.1 ≠ b.1) (hsz : xs.length < 4611686018427387904) :
    Calls Try.prog 64 #[.slice (some ⟨g, 0, none⟩) xs.length cap, .func (.func 65) #[] #[]] w fun e w' => e = .returned (.tuple #[]) ∧ ∃ ys : List (ByteArray × Int), ys.Perm xs ∧ Srt ys ∧ CellsOf 4 encS w' g ys ∧ Kept (fun z => z = g) w w' := by
  have eg : ∀ args w, (callFunc 65 args).run Try.prog w = .ok (.enter 65 args) w := enters_of Try.func65 (by kernel_rfl) rfl
  have hH := holds_row h
  have hcon := AnyQ.slices_SortFunc Try.sortP 4 Try.isAgg89 Try.sizeOf89 encS (fun _ => encI_len _) encS_one cfK swoK 65 #[] g 0 cap xs.toArray w eg (fun _ _ _ _ x y => cmpI_any x y _) hH h.lt (by simpa using hsz)
  have e : xs.toArray.size = xs.length := by simp
  rw [e] at hcon
  refine Calls.mono hcon ?_
  rintro e2 w' ⟨rfl, d', n, os, hp, hs, rfl⟩
  have hsize : d'.size = xs.length := by rw [hp.1]; simp
  have hperm : d'.toList.Perm xs := by
    have := hp.2.2
    have tk : List.take xs.length d'.toList = d'.toList := List.take_of_length_le (by rw [Array.length_toList]; omega)
    simpa [tk] using this
  have hne := (hperm.pairwise_iff (fun h => Ne.symm h)).2 hd
  refine ⟨rfl, d'.toList, hperm, ?_, cells_holds (holdsK_sortWorldK_c encS 4 w g 0 xs.toArray d' n os hH h.lt (by simpa using hsize)), kept_sorted _ _ _ _ _ _ _⟩
  rw [Srt, List.pairwise_iff_getElem]
  rw [List.pairwise_iff_getElem] at hne
  intro i j hi hj hij
  have hi' : i < d'.size := by simpa using hi
  have hj' : j < d'.size := by simpa using hj
  have h1 := hs i j (Nat.zero_le _) hij (by rw [← hsize]; exact hj')
  rw [lt_cfK, getElem!_pos d' i hi', getElem!_pos d' j hj'] at h1
  have h2 := hne i j hi hj hij
  simp only [Array.getElem_toList] at h2 ⊢
  cases q : blt d'[i].1 d'[j].1 with
  | true => rfl
  | false => exact absurd (blt_tri q h1) h2
end Go.Proofs.Ytkcjcidndckgbaa
