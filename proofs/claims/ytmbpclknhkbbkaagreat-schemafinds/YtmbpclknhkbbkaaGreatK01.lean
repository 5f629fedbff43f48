/- Maps of the calls' own, as functions of their keys' values. -/
import Derived.Test.YtmbpclknhkbbkaaGreatK31
import Derived.Maps.Own
import Derived.Maps.OwnOps
import Derived.Maps.OwnSet
import Derived.Maps.Keyed
import Derived.StringKeys
import Derived.DeepKeys4
set_option linter.unusedSimpArgs false
set_option linter.unusedVariables false
namespace Go.Proofs.YtmbpclknhkbbkaaGreat
open Go.RowKit Go.Maps
set_option linter.unusedVariables false
set_option linter.unusedSimpArgs false

theorem law9 : Keyed Tryz.prog 9 := string_keyed Tryz.underlying9
theorem laid : laidOutB Tryz.prog = true := by kernel_rfl
theorem law42 : Keyed Tryz.prog 42 := Keyed.of_law (deep_law_laid laid (m := 5) (by decide) (of_decide_eq_true (by kernel_rfl)) (by kernel_rfl) (by kernel_rfl))
theorem law165 : Keyed Tryz.prog 165 := Keyed.of_law (deep_law_laid laid (m := 5) (by decide) (of_decide_eq_true (by kernel_rfl)) (by kernel_rfl) (by kernel_rfl))
theorem zero3 (w : World) : (zeroValue 3).run Tryz.prog w = .ok (.int .i64 0) w := by kernel_rfl
theorem key9 {s : ByteArray} (hs : Okt s) : ∃ l,keyOf Tryz.prog 9 (.string s) = some l := ⟨_,Go.WideMaps.keyOf_string_mk Tryz.underlying9 (by unfold Okt at hs; unfold maxLen; omega)⟩
theorem types_some : ∃ m,Tryz.prog.types.size = m + 2 := ⟨Tryz.prog.types.size - 2,by have : 2 ≤ Tryz.prog.types.size := of_decide_eq_true (by kernel_rfl); omega⟩
theorem lits9 (m : Nat) {s : ByteArray} (hs : Okt s) : Tryz.prog.keyLits (m + 1) 9 [.string s] = some [.string s.data.toList] := by
 unfold Program.keyLits
 rw [Tryz.underlying9]
 simp only
 rw [if_pos (by unfold Okt at hs; unfold maxLen; omega)]
theorem lits119 (m : Nat) {n : Int} (hn : (Lit.int .u64 n).wf = true) : Tryz.prog.keyLits (m + 1) 119 [.int .u64 n] = some [.int .u64 n] := by
 unfold Program.keyLits
 rw [Tryz.underlying119]
 simp only
 rw [if_pos ⟨trivial,hn⟩]
theorem c9 : Tryz.prog.cellsOf 9 = 1 := by kernel_rfl
theorem c42 : Tryz.prog.cellsOf 42 = 2 := by kernel_rfl
theorem c119 : Tryz.prog.cellsOf 119 = 1 := by kernel_rfl
theorem c121 : Tryz.prog.cellsOf 121 = 2 := by kernel_rfl
theorem c165 : Tryz.prog.cellsOf 165 = 5 := by kernel_rfl
theorem lits121 (m : Nat) {a b : Int} (ha : (Lit.int .u64 a).wf = true) (hb : (Lit.int .u64 b).wf = true) : Tryz.prog.keyLits (m + 2) 121 [.int .u64 a,.int .u64 b] = some [.int .u64 a,.int .u64 b] := by
 unfold Program.keyLits
 rw [Tryz.underlying121]
 simp [c121,c119,lits119 m ha,lits119 m hb]
theorem key42 {a b : ByteArray} (ha : Okt a) (hb : Okt b) : ∃ l,keyOf Tryz.prog 42 (.agg #[.string a,.string b]) = some l := by
 have h1 : Tryz.prog.keyType 42 = true := by kernel_rfl
 have h2 : (Value.agg #[.string a,.string b]).formed Tryz.prog 42 = true := by kernel_rfl
 obtain ⟨m,hm⟩ := types_some
 unfold keyOf
 rw [Tryz.underlying42]
 simp only [h1,h2,Bool.and_self,if_true,hm,Value.cells]
 unfold Program.keyLits
 rw [Tryz.underlying42]
 simp [c42,c9,lits9 (m + 1) ha,lits9 (m + 1) hb]
theorem key165 {a b c d : Int} {s : ByteArray} (ha : (Lit.int .u64 a).wf = true) (hb : (Lit.int .u64 b).wf = true) (hc : (Lit.int .u64 c).wf = true) (hd : (Lit.int .u64 d).wf = true) (hs : Okt s) : ∃ l,keyOf Tryz.prog 165 (.agg #[.int .u64 a,.int .u64 b,.int .u64 c,.int .u64 d,.string s]) = some l := by
 have h1 : Tryz.prog.keyType 165 = true := by kernel_rfl
 have h2 : (Value.agg #[.int .u64 a,.int .u64 b,.int .u64 c,.int .u64 d,.string s]).formed Tryz.prog 165 = true := by kernel_rfl
 obtain ⟨m,hm⟩ := types_some
 unfold keyOf
 rw [Tryz.underlying165]
 simp only [h1,h2,Bool.and_self,if_true,hm,Value.cells]
 unfold Program.keyLits
 rw [Tryz.underlying165]
 simp [c165,c121,c9,lits9 (m + 1) hs,lits121 m ha hb,lits121 m hc hd]

/-- A map of the block b: its keys' values, and what stands there. However many they are. -/
def MapOf (K : TypeId) (w : World) (b n : Nat) (f : Value → Option Int) : Prop :=
 ∃ es clock,w.heap[b]? = some (.map es clock) ∧ es.size = n ∧ es.toList.Pairwise (fun x y => x.key ≠ y.key) ∧ (∀ e ∈ es.toList,∃ l,keyOf Tryz.prog K e.key = some l) ∧ (∀ e ∈ es.toList,∃ c,e.val = .int .i64 c ∧ f e.key = some c) ∧ ∀ v,(∃ l,keyOf Tryz.prog K v = some l) → (∀ e ∈ es.toList,e.key ≠ v) → f v = none
theorem MapOf.new (K : TypeId) (w : World) : MapOf K (w.alloc (.map #[] 0)) w.heap.size 0 (fun _ => none) :=
 ⟨#[],0,(MapKept.heap_alloc w _).1,rfl,by simp,by simp,by simp,fun _ _ _ => rfl⟩
theorem MapOf.lt {K : TypeId} {w : World} {b n : Nat} {f : Value → Option Int} (h : MapOf K w b n f) : b < w.heap.size := by obtain ⟨es,clock,h,_⟩ := h; exact (Array.getElem?_eq_some_iff.1 h).1
theorem MapOf.kept {K : TypeId} {S : Nat → Prop} {w w' : World} {b n : Nat} {f : Value → Option Int} (h : MapOf K w b n f) (hk : Kept S w w') (hb : ¬ S b) : MapOf K w' b n f := by
 have hl := h.lt
 obtain ⟨es,clock,hh,r⟩ := h
 exact ⟨es,clock,(hk.block b hl hb).trans hh,r⟩
theorem MapOf.below {K : TypeId} {w w' : World} {b n : Nat} {f : Value → Option Int} (h : MapOf K w b n f) (hk : Below w.heap.size w w') : MapOf K w' b n f := h.kept (Kept.of_below (S := fun _ => False) hk) (fun h => h)
theorem MapOf.look_any {K t : TypeId} {w : World} {b n : Nat} {f : Value → Option Int} (h : MapOf K w b n f) (law : Keyed Tryz.prog K) (ht : Tryz.prog.underlying t = some (.map K 3)) {k : Value} (hk : ∃ l,keyOf Tryz.prog K k = some l) (c : Bool) :
  (Instr.lookup t (.map (some b)) k c).run Tryz.prog w = .ok (if c then .tuple #[.int .i64 ((f k).getD 0),.bool (f k).isSome] else .int .i64 ((f k).getD 0)) w := by
 obtain ⟨es,clock,hb,_,_,hks,hvs,hno⟩ := h
 obtain ⟨l,hkey⟩ := hk
 rcases law.find w hkey es.toList hks with ⟨h1,h2⟩ | ⟨j,e0,h1,h2,h3⟩
 ·rw [hno k ⟨l,hkey⟩ h2]
  simp [Instr.lookup,run_underlying ht,MapKept.run_getObj_map hb,law.check w _ hkey,h1,zero3 w,Result.andThen]
 ·obtain ⟨d,hd,hf⟩ := hvs e0 (List.mem_of_getElem? h2)
  rw [h3] at hf
  rw [hf]
  simp [Instr.lookup,run_underlying ht,MapKept.run_getObj_map hb,law.check w _ hkey,h1,Result.andThen,hd]
theorem MapOf.look {K t : TypeId} {w : World} {b n : Nat} {f : Value → Option Int} (h : MapOf K w b n f) (law : Keyed Tryz.prog K) (ht : Tryz.prog.underlying t = some (.map K 3)) {k : Value} (hk : ∃ l,keyOf Tryz.prog K k = some l) :
  (Instr.lookup t (.map (some b)) k true).run Tryz.prog w = .ok (.tuple #[.int .i64 ((f k).getD 0),.bool (f k).isSome]) w := h.look_any law ht hk true
theorem MapOf.look1 {K t : TypeId} {w : World} {b n : Nat} {f : Value → Option Int} (h : MapOf K w b n f) (law : Keyed Tryz.prog K) (ht : Tryz.prog.underlying t = some (.map K 3)) {k : Value} (hk : ∃ l,keyOf Tryz.prog K k = some l) :
  (Instr.lookup t (.map (some b)) k false).run Tryz.prog w = .ok (.int .i64 ((f k).getD 0)) w := h.look_any law ht hk false
theorem putF_ex (f : Value → Option Int) (k : Value) (c : Int) : ∃ g : Value → Option Int,g k = some c ∧ ∀ x,x ≠ k → g x = f x := by
 classical
 exact ⟨fun x => if x = k then some c else f x,if_pos rfl,fun x hx => if_neg hx⟩
theorem grown_set {w : World} {b : Nat} {o : Obj} : w.grownBy { w with heap := w.heap.setIfInBounds b o } (some b) :=
 ⟨rfl, rfl, rfl, by simp, fun i _ hi => by
   show (w.heap.setIfInBounds b o)[i]? = _
   rw [Array.getElem?_setIfInBounds_ne (fun e => hi (by rw [e]))]⟩
theorem MapOf.put {K t : TypeId} {w : World} {b n : Nat} {f : Value → Option Int} (h : MapOf K w b n f) (law : Keyed Tryz.prog K) (ht : Tryz.prog.underlying t = some (.map K 3)) {k : Value} {c : Int} (hk : ∃ l,keyOf Tryz.prog K k = some l) :
  ∃ w',(Instr.mapUpdate t (.map (some b)) k (.int .i64 c)).run Tryz.prog w = .ok () w' ∧ (∃ g,MapOf K w' b (if (f k).isSome = true then n else n + 1) g ∧ g k = some c ∧ ∀ x,x ≠ k → g x = f x) ∧ w.grownBy w' (some b) := by
 have hlt := h.lt
 obtain ⟨es,clock,hb,hn,hp,hks,hvs,hno⟩ := h
 obtain ⟨g,hg1,hg2⟩ := putF_ex f k c
 have hk' := hk
 obtain ⟨l,hkey⟩ := hk
 rcases law.find w hkey es.toList hks with ⟨h1,h2⟩ | ⟨j,e0,h1,h2,h3⟩
 ·have hf := hno k ⟨l,hkey⟩ h2
  refine ⟨{ w with heap := w.heap.setIfInBounds b (.map (es.push ⟨k,.int .i64 c,clock⟩) (clock + 1)) },by simp [Instr.mapUpdate,run_underlying ht,MapKept.run_getObj_map hb,law.check w false hkey,h1,MapKept.run_setObj_map _ hb,Result.andThen],⟨g,⟨es.push ⟨k,.int .i64 c,clock⟩,clock + 1,?_,?_,?_,?_,?_,?_⟩,hg1,hg2⟩,grown_set⟩
  ·show (w.heap.setIfInBounds b _)[b]? = _
   rw [Array.getElem?_setIfInBounds_self_of_lt hlt]
  ·rw [hf]; simp [hn]
  ·rw [Array.toList_push,List.pairwise_append]
   refine ⟨hp,by simp,fun x hx y hy => ?_⟩
   simp at hy
   rw [hy]; exact h2 x hx
  ·intro e he
   simp only [Array.toList_push,List.mem_append,List.mem_singleton] at he
   rcases he with he | rfl
   ·exact hks e he
   ·exact ⟨l,hkey⟩
  ·intro e he
   simp only [Array.toList_push,List.mem_append,List.mem_singleton] at he
   rcases he with he | rfl
   ·obtain ⟨d,h4,h5⟩ := hvs e he
    exact ⟨d,h4,by rw [hg2 _ (h2 e he)]; exact h5⟩
   ·exact ⟨c,rfl,hg1⟩
  ·intro v hv hne
   simp only [Array.toList_push,List.mem_append,List.mem_singleton] at hne
   rw [hg2 v (fun e => hne _ (.inr rfl) e.symm)]
   exact hno v hv (fun e he => hne e (.inl he))
 ·have hj : es[j]? = some e0 := by simpa using h2
  obtain ⟨d0,h4,h5⟩ := hvs e0 (List.mem_of_getElem? h2)
  rw [h3] at h5
  have hlist : (es.modify j (fun e' => { e' with key := k,val := .int .i64 c })).toList = es.toList.set j { e0 with key := k,val := .int .i64 c } := by rw [Array.toList_modify,ChangeMaps.modify_eq_set _ _ _ _ h2]
  have hjl : j < es.toList.length := (List.getElem?_eq_some_iff.1 h2).1
  have who : ∀ x ∈ es.toList.set j { e0 with key := k,val := .int .i64 c },x = { e0 with key := k,val := .int .i64 c } ∨ (x ∈ es.toList ∧ x.key ≠ k) := by
   intro x hx
   obtain ⟨i,hi,ex⟩ := List.getElem_of_mem hx
   rw [List.getElem_set] at ex
   split at ex
   ·exact .inl ex.symm
   ·rename_i hne
    have hi' : i < es.toList.length := by simpa using hi
    refine .inr ⟨ex ▸ List.getElem_mem hi',fun e => ?_⟩
    have hej : es.toList[j] = e0 := by have := h2; rw [List.getElem?_eq_getElem hjl] at this; exact Option.some.inj this
    rcases Nat.lt_or_gt_of_ne hne with hl | hl
    ·exact (List.pairwise_iff_getElem.1 hp j i hjl hi' hl) (by rw [hej,h3,ex,e])
    ·exact (List.pairwise_iff_getElem.1 hp i j hi' hjl hl) (by rw [hej,h3,ex,e])
  refine ⟨{ w with heap := w.heap.setIfInBounds b (.map (es.modify j (fun e' => { e' with key := k,val := .int .i64 c })) clock) },by simp [Instr.mapUpdate,run_underlying ht,MapKept.run_getObj_map hb,law.check w false hkey,h1,hj,h3,law.stays w hkey,MapKept.run_setObj_map _ hb,Result.andThen],⟨g,⟨es.modify j (fun e' => { e' with key := k,val := .int .i64 c }),clock,?_,?_,?_,?_,?_,?_⟩,hg1,hg2⟩,grown_set⟩
  ·show (w.heap.setIfInBounds b _)[b]? = _
   rw [Array.getElem?_setIfInBounds_self_of_lt hlt]
  ·rw [h5]; simp [hn]
  ·rw [hlist,List.pairwise_iff_getElem]
   intro i i' hi hi' hl
   have hi1 : i < es.toList.length := by simpa using hi
   have hi2 : i' < es.toList.length := by simpa using hi'
   have hej : es.toList[j] = e0 := by have := h2; rw [List.getElem?_eq_getElem hjl] at this; exact Option.some.inj this
   have key : ∀ i (hi : i < (es.toList.set j { e0 with key := k,val := .int .i64 c }).length) (hi1 : i < es.toList.length),((es.toList.set j { e0 with key := k,val := .int .i64 c })[i]).key = (es.toList[i]).key := by
    intro i hi hi1
    rw [List.getElem_set]
    split
    ·rename_i e; subst e; rw [hej,h3]
    ·rfl
   rw [key i hi hi1,key i' hi' hi2]
   exact List.pairwise_iff_getElem.1 hp i i' hi1 hi2 hl
  ·intro x hx
   rw [hlist] at hx
   rcases who x hx with rfl | ⟨hx,_⟩
   ·exact ⟨l,hkey⟩
   ·exact hks x hx
  ·intro x hx
   rw [hlist] at hx
   rcases who x hx with rfl | ⟨hx,hne⟩
   ·exact ⟨c,rfl,hg1⟩
   ·obtain ⟨d,h6,h7⟩ := hvs x hx
    exact ⟨d,h6,by rw [hg2 _ hne]; exact h7⟩
  ·intro v hv hne
   rw [hlist] at hne
   have hvk : v ≠ k := fun e => hne { e0 with key := k,val := .int .i64 c } (List.mem_iff_getElem.2 ⟨j,by simpa using hjl,by simp⟩) e.symm
   rw [hg2 v hvk]
   refine hno v hv (fun e he ek => ?_)
   obtain ⟨i,hi,rfl⟩ := List.getElem_of_mem he
   by_cases hij : i = j
   ·subst hij
    have hej : es.toList[i] = e0 := by have := h2; rw [List.getElem?_eq_getElem hjl] at this; exact Option.some.inj this
    rw [hej,h3] at ek
    exact hvk ek.symm
   ·refine hne (es.toList[i]) (List.mem_iff_getElem.2 ⟨i,by simpa using hi,?_⟩) ek
    rw [List.getElem_set,if_neg (fun e => hij e.symm)]
theorem MapOf.len {K t : TypeId} {w : World} {b n : Nat} {f : Value → Option Int} (h : MapOf K w b n f) (ht : Tryz.prog.underlying t = some (.map K 3)) (ty : TypeId) : (Builtin.len_ #[t] ty #[.map (some b)]).run Tryz.prog w = .ok (.int .i64 (n : Int)) w := by
 obtain ⟨es,clock,hb,hn,_⟩ := h
 rw [← hn]
 simp [Builtin.len_,run_underlying ht,MapKept.run_getObj_map hb,goInt,Result.andThen]

/-- Maps by texts, by references, by cases. -/
def MapT (w : World) (b n : Nat) (g : ByteArray → Option Int) : Prop := ∃ f,MapOf 9 w b n f ∧ ∀ s,f (.string s) = g s
def MapR (w : World) (b n : Nat) (g : Rf → Option Int) : Prop := ∃ f,MapOf 42 w b n f ∧ ∀ r : Rf,f (.agg #[.string r.head,.string r.name]) = g r
abbrev CasK (x : Nat × Nat) : Value := .agg #[.int .u64 (hiOf x.1),.int .u64 (loOf x.1),.int .u64 (hiOf x.2),.int .u64 (loOf x.2),.string ByteArray.empty]
def MapC (w : World) (b n : Nat) (g : Nat × Nat → Option Int) : Prop := ∃ f,MapOf 165 w b n f ∧ ∀ x,Is128 x.1 → Is128 x.2 → f (CasK x) = g x
theorem MapT.new (w : World) : MapT (w.alloc (.map #[] 0)) w.heap.size 0 (fun _ => none) := ⟨_,MapOf.new 9 w,fun _ => rfl⟩
theorem MapR.new (w : World) : MapR (w.alloc (.map #[] 0)) w.heap.size 0 (fun _ => none) := ⟨_,MapOf.new 42 w,fun _ => rfl⟩
theorem MapC.new (w : World) : MapC (w.alloc (.map #[] 0)) w.heap.size 0 (fun _ => none) := ⟨_,MapOf.new 165 w,fun _ _ _ => rfl⟩
theorem MapT.lt {w : World} {b n : Nat} {g : ByteArray → Option Int} (h : MapT w b n g) : b < w.heap.size := by obtain ⟨f,h,_⟩ := h; exact h.lt
theorem MapR.lt {w : World} {b n : Nat} {g : Rf → Option Int} (h : MapR w b n g) : b < w.heap.size := by obtain ⟨f,h,_⟩ := h; exact h.lt
theorem MapC.lt {w : World} {b n : Nat} {g : Nat × Nat → Option Int} (h : MapC w b n g) : b < w.heap.size := by obtain ⟨f,h,_⟩ := h; exact h.lt
theorem MapT.kept {S : Nat → Prop} {w w' : World} {b n : Nat} {g : ByteArray → Option Int} (h : MapT w b n g) (hk : Kept S w w') (hb : ¬ S b) : MapT w' b n g := by obtain ⟨f,h,e⟩ := h; exact ⟨f,h.kept hk hb,e⟩
theorem MapR.kept {S : Nat → Prop} {w w' : World} {b n : Nat} {g : Rf → Option Int} (h : MapR w b n g) (hk : Kept S w w') (hb : ¬ S b) : MapR w' b n g := by obtain ⟨f,h,e⟩ := h; exact ⟨f,h.kept hk hb,e⟩
theorem MapC.kept {S : Nat → Prop} {w w' : World} {b n : Nat} {g : Nat × Nat → Option Int} (h : MapC w b n g) (hk : Kept S w w') (hb : ¬ S b) : MapC w' b n g := by obtain ⟨f,h,e⟩ := h; exact ⟨f,h.kept hk hb,e⟩
theorem MapT.below {w w' : World} {b n : Nat} {g : ByteArray → Option Int} (h : MapT w b n g) (hk : Below w.heap.size w w') : MapT w' b n g := by obtain ⟨f,h,e⟩ := h; exact ⟨f,h.below hk,e⟩
theorem MapR.below {w w' : World} {b n : Nat} {g : Rf → Option Int} (h : MapR w b n g) (hk : Below w.heap.size w w') : MapR w' b n g := by obtain ⟨f,h,e⟩ := h; exact ⟨f,h.below hk,e⟩
theorem MapC.below {w w' : World} {b n : Nat} {g : Nat × Nat → Option Int} (h : MapC w b n g) (hk : Below w.heap.size w w') : MapC w' b n g := by obtain ⟨f,h,e⟩ := h; exact ⟨f,h.below hk,e⟩
theorem MapT.look {w : World} {b n : Nat} {g : ByteArray → Option Int} (h : MapT w b n g) {s : ByteArray} (hs : Okt s) : (Instr.lookup 108 (.map (some b)) (.string s) true).run Tryz.prog w = .ok (.tuple #[.int .i64 ((g s).getD 0),.bool (g s).isSome]) w := by
 obtain ⟨f,h,e⟩ := h; rw [h.look law9 Tryz.underlying108 (key9 hs),e]
theorem MapR.look {w : World} {b n : Nat} {g : Rf → Option Int} (h : MapR w b n g) (r : Rf) (h1 : Okt r.head) (h2 : Okt r.name) : (Instr.lookup 107 (.map (some b)) (.agg #[.string r.head,.string r.name]) true).run Tryz.prog w = .ok (.tuple #[.int .i64 ((g r).getD 0),.bool (g r).isSome]) w := by
 obtain ⟨f,h,e⟩ := h; rw [h.look law42 Tryz.underlying107 (key42 h1 h2),e]
theorem MapR.look1 {w : World} {b n : Nat} {g : Rf → Option Int} (h : MapR w b n g) (r : Rf) (h1 : Okt r.head) (h2 : Okt r.name) : (Instr.lookup 107 (.map (some b)) (.agg #[.string r.head,.string r.name]) false).run Tryz.prog w = .ok (.int .i64 ((g r).getD 0)) w := by
 obtain ⟨f,h,e⟩ := h; rw [h.look1 law42 Tryz.underlying107 (key42 h1 h2),e]
theorem wf_u64 {n : Int} (h0 : 0 ≤ n) (h1 : n < 18446744073709551616) : (Lit.int .u64 n).wf = true := WalkArith.wf_u64 ⟨h0,by omega⟩
theorem wf_hi {n : Nat} (h : Is128 n) : (Lit.int .u64 (hiOf n)).wf = true := wf_u64 (hiOf_nonneg n) (hiOf_lt h)
theorem wf_lo (n : Nat) : (Lit.int .u64 (loOf n)).wf = true := wf_u64 (loOf_nonneg n) (loOf_lt n)
theorem okt_empty : Okt ByteArray.empty := by unfold Okt; decide
theorem keyC {x : Nat × Nat} (h1 : Is128 x.1) (h2 : Is128 x.2) : ∃ l,keyOf Tryz.prog 165 (CasK x) = some l := key165 (wf_hi h1) (wf_lo _) (wf_hi h2) (wf_lo _) okt_empty
theorem casK_inj {x y : Nat × Nat} (h : CasK x = CasK y) : x = y := by
 simp only [CasK,Value.agg.injEq,Array.mk.injEq,List.cons.injEq,Value.int.injEq,true_and,and_true] at h
 obtain ⟨h1,h2,h3,h4⟩ := h
 unfold hiOf at h1 h3
 unfold loOf at h2 h4
 have a1 : x.1 = y.1 := by omega
 have a2 : x.2 = y.2 := by omega
 exact Prod.ext a1 a2
theorem MapC.look {w : World} {b n : Nat} {g : Nat × Nat → Option Int} (h : MapC w b n g) {x : Nat × Nat} (h1 : Is128 x.1) (h2 : Is128 x.2) : (Instr.lookup 227 (.map (some b)) (CasK x) true).run Tryz.prog w = .ok (.tuple #[.int .i64 ((g x).getD 0),.bool (g x).isSome]) w := by
 obtain ⟨f,h,e⟩ := h; rw [h.look law165 Tryz.underlying227 (keyC h1 h2),e x h1 h2]
theorem MapT.put {w : World} {b n : Nat} {g : ByteArray → Option Int} (h : MapT w b n g) {s : ByteArray} {c : Int} (hs : Okt s) :
  ∃ w',(Instr.mapUpdate 108 (.map (some b)) (.string s) (.int .i64 c)).run Tryz.prog w = .ok () w' ∧ MapT w' b (if (g s).isSome = true then n else n + 1) (fun x => if x = s then some c else g x) ∧ w.grownBy w' (some b) := by
 obtain ⟨f,h,e⟩ := h
 obtain ⟨w',h1,⟨f',h2,h3,h4⟩,h5⟩ := h.put (c := c) law9 Tryz.underlying108 (key9 hs)
 rw [e s] at h2
 refine ⟨w',h1,⟨f',h2,fun x => ?_⟩,h5⟩
 dsimp only
 by_cases hx : x = s
 ·subst hx; rw [if_pos rfl,h3]
 ·rw [if_neg hx,h4 _ (by simpa using hx),e]
theorem MapR.put {w : World} {b n : Nat} {g : Rf → Option Int} (h : MapR w b n g) {r : Rf} {c : Int} (h1 : Okt r.head) (h2 : Okt r.name) :
  ∃ w',(Instr.mapUpdate 107 (.map (some b)) (.agg #[.string r.head,.string r.name]) (.int .i64 c)).run Tryz.prog w = .ok () w' ∧ MapR w' b (if (g r).isSome = true then n else n + 1) (fun x => if x = r then some c else g x) ∧ w.grownBy w' (some b) := by
 obtain ⟨f,h,e⟩ := h
 obtain ⟨w',h1,⟨f',h2,h3,h4⟩,h5⟩ := h.put (c := c) law42 Tryz.underlying107 (key42 h1 h2)
 rw [e r] at h2
 refine ⟨w',h1,⟨f',h2,fun x => ?_⟩,h5⟩
 dsimp only
 by_cases hx : x = r
 ·subst hx; rw [if_pos rfl,h3]
 ·rw [if_neg hx,h4 _ (fun he => hx (by simp at he; cases x; cases r; simp_all)),e]
theorem MapC.put {w : World} {b n : Nat} {g : Nat × Nat → Option Int} (h : MapC w b n g) {y : Nat × Nat} {c : Int} (h1 : Is128 y.1) (h2 : Is128 y.2) :
  ∃ w',(Instr.mapUpdate 227 (.map (some b)) (CasK y) (.int .i64 c)).run Tryz.prog w = .ok () w' ∧ MapC w' b (if (g y).isSome = true then n else n + 1) (fun x => if x = y then some c else g x) ∧ w.grownBy w' (some b) := by
 obtain ⟨f,h,e⟩ := h
 obtain ⟨w',h3,⟨f',h4,h5,h6⟩,h7⟩ := h.put (c := c) law165 Tryz.underlying227 (keyC h1 h2)
 rw [e y h1 h2] at h4
 refine ⟨w',h3,⟨f',h4,fun x hx1 hx2 => ?_⟩,h7⟩
 dsimp only
 by_cases hx : x = y
 ·subst hx; rw [if_pos rfl,h5]
 ·rw [if_neg hx,h6 _ (fun he => hx (casK_inj he)),e x hx1 hx2]
theorem MapT.len {w : World} {b n : Nat} {g : ByteArray → Option Int} (h : MapT w b n g) (ty : TypeId) : (Builtin.len_ #[108] ty #[.map (some b)]).run Tryz.prog w = .ok (.int .i64 (n : Int)) w := by
 obtain ⟨f,h,e⟩ := h; exact h.len Tryz.underlying108 ty
end Go.Proofs.YtmbpclknhkbbkaaGreat
