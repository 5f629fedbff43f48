/- Package exact: a thing is laid down in a row of places; a place is made free. -/
import Derived.Test.YtkcjcidndckgbaaFd
import Derived.Deep.Cut
import Derived.OpenShut
namespace Go.Proofs.Ytkcjcidndckgbaa
open Go.RowKit
set_option linter.unusedVariables false
set_option linter.unusedSimpArgs false

theorem isz89 : (Try.prog.info? 89).map (·.size) = some 4 := by kernel_rfl
theorem encI_one (x : Pl Int) : (encI x).toArray.all (·.oneCell') = true := by cases x <;> simp [encI, Value.oneCell']
theorem Found.free {V : Type} {r : List (Pl V)} {k : ByteArray} {a : Nat} {th : Bool} (h : Found r k a th) (hn : ∀ x ∈ cont r, x.1 ≠ k) : th = false ∧ r[a]? = some Option.none := by
  rcases h.2 with ⟨e, v, hv⟩ | h2
  · exact absurd rfl (hn _ (mem_cont.2 ⟨a, hv⟩))
  · exact h2
set_option maxHeartbeats 2000000 in
set_option maxRecDepth 100000 in
theorem layI_any (b cap : Nat) (r : List (Pl Int)) (k : ByteArray) (v : Int) (w : World) (hr : RowOf 89 4 encI w b r) (hR : Rw spr r) (hL : r.length ≤ 16384) {f : Nat} (hf : r[f]? = some none) (hn : ∀ x ∈ cont r, x.1 ≠ k) :
    Calls Try.prog 59 #[.slice (some ⟨b, 0, none⟩) r.length cap, .agg (encI (some (k, v))).toArray] w fun e w' => e = .returned (.tuple #[]) ∧ Kept (fun z => z = b) w w' ∧ ∃ r', RowOf 89 4 encI w' b r' ∧ Rw spr r' ∧ r'.length = r.length ∧ (cont r').Perm ((k, v) :: cont r) := by
  have hb := hr.lt
  have HX0 : Hid (Blk (w.alloc (.cells (encI (some (k, v))).toArray 89)) w.heap.size (encI (some (k, v))).toArray 89 ∧ Below w.heap.size w (w.alloc (.cells (encI (some (k, v))).toArray 89))) := ⟨Blk.new w _ 89, (Below.refl _ _).alloc (Nat.le_refl _) _⟩
  have HC : Hid (∀ w1, Below w.heap.size w w1 → Calls Try.prog 82 #[.slice (some ⟨b, 0, none⟩) r.length cap, .int .u32 (spr k), .string k] w1 fun e w' => ∃ a th, e = .returned (.tuple #[.int .i64 (a : Nat), .bool th]) ∧ w' = w1 ∧ Hid (Found r k a th)) := fun w1 h1 => findI_any b cap r k w1 (hr.below h1) hR.pos hL hf
  have HR : Hid (RowOf 89 4 encI w b r ∧ Rw spr r ∧ ∀ x ∈ cont r, x.1 ≠ k) := ⟨hr, hR, hn⟩
  obtain ⟨n, hnn⟩ : ∃ n, n = r.length := ⟨_, rfl⟩
  have HN : Hid (n = r.length) := hnn
  rw [← hnn] at HC hL ⊢
  clear hr hR hf hn hnn
  have c0 := HX0.out.1.cell 0 (v := .bool true) rfl
  have c1 := HX0.out.1.cell 1 (v := .int .u32 (spr k)) rfl
  have c2 := HX0.out.1.cell 2 (v := .string k) rfl
  have c3 := HX0.out.1.cell 3 (v := .int .i64 v) rfl
  show Calls Try.prog 59 #[.slice (some ⟨b, 0, none⟩) n cap, .agg #[.bool true, .int .u32 (spr k), .string k, .int .i64 v]] w _
  change (w.alloc (.cells #[.bool true, .int .u32 (spr k), .string k, .int .i64 v] 89)).cell? _ = _ at c0 c1 c2 c3
  have HX : Hid (Blk (w.alloc (.cells #[.bool true, .int .u32 (spr k), .string k, .int .i64 v] 89)) w.heap.size #[.bool true, .int .u32 (spr k), .string k, .int .i64 v] 89 ∧ Below w.heap.size w (w.alloc (.cells #[.bool true, .int .u32 (spr k), .string k, .int .i64 v] 89))) := HX0
  clear HX0
  go_enter Try.func59, Try.ntmps59
  go_upto_region 1 with fail
  generalize w.alloc (.cells #[.bool true, .int .u32 (spr k), .string k, .int .i64 v] 89) = W at *
  go_wp2_with fail
  refine (HC.out _ HX.out.2).mono ?_
  rintro e w1 ⟨a, th, rfl, rfl, HF⟩
  have hfree := Found.free HF.out HR.out.2.2
  obtain ⟨rfl, ha⟩ := hfree
  have HA : Hid (r[a]? = some none) := ha
  have hal : a < n := by rw [HN.out]; exact (List.getElem?_eq_some_iff.1 ha).1
  clear ha HC
  have RW : Hid (RowOf 89 4 encI w1 b r) := HR.out.1.below HX.out.2
  have ST : Hid (w1.there b (a * 4) (encI (some (k, v))).toArray.size) := RW.out.there (by rw [← HN.out]; exact hal)
  have R1 : Hid (w1.rangeAt w.heap.size 0 (encI (some (k, v)))) := fun j u hu => by rw [Nat.zero_add]; rw [← List.getElem?_toArray] at hu; exact HX.out.1.cell j hu
  have ON : Hid ((encI (some (k, v))).toArray.all (·.oneCell') = true) := encI_one _
  have hz := isz89
  have hz1 : Hid ((Try.prog.info? 89).map (·.size) = some (encI (some (k, v))).length) := hz
  clear c0 c1 c2 c3 hz
  go_wp2_with (first | (refine wpList_load_mid rfl 89 _ rfl w.heap.size 0 rfl (encI (some (k, v))) _ R1.out Try.underlying89 rfl hz1.out ?_) | (refine wpList_store_mid rfl 89 _ _ rfl b (a * 4) (encI (some (k, v))).toArray rfl rfl ST.out hz1.out ON.out ?_))
  go_end0
  refine ⟨rfl, (Kept.of_below HX.out.2).trans (setCells_kept _ _ _ _), r.set a (some (k, v)), RW.out.set a _ (by rw [← HN.out]; exact hal) encI_len, HR.out.2.1.lay HF.out.1 HA.out, by rw [List.length_set, HN.out], cont_lay _ HA.out⟩
end Go.Proofs.Ytkcjcidndckgbaa
