import PyProof.Rows.All
import Wide.All
import OpenK.AllK
import Wide.FinOn
import HandS.Base
import HandS.Call
import HandS.List
import HandS.Comp
import HandS.Ends
import HandS.Dict
import HandS.Iter
import HandS.Text
import HandS.Words
import HandS.WordsList
import HandS.Conv
import HandS.Codes
import HandS.IsInst
import HandS.Replace
import HandS.StrMore
import HandS.TupAny
import HandS.WideBits
import HandS.ForExc
import HandS.ExcInit
import HandS.ExcField
import HandS.ExcIs
import KE.KExcIs
import HandS.Property
import HandS.Sort
import HandS.Deep
import KE.SortData
import KE.DataMinMax
import KE.KSortTupAny
import KE.KDictSum
import KE.KDictItemsList
import KE.KDictCopyH
import PyProof.DictUpdate
import PyProof.Transfer
import HandS.DictTup
import HandS.ExcOwn
import HandS.ExcValue
import PyProof.MinMaxWalk
import KE.KDictList
import KE.GoesEnum
import KE.GoesMore
import HandS.Rev
import HandS.ReplaceLit
import PyProof.Rows.StrCut
import HandS.TupMul
import PySem.Challenge.RW_criermoot_k71_whole_index
set_option Elab.async false
set_option linter.all false
set_option maxRecDepth 100000
namespace Z
open PySem L2

/-! ### heaps -/
/-- all that was tracked is as it was, but for what stands at s -/
def Ext (s : Addr) (H H' : Hp) : Prop := ∀ b o, b ≠ s → H b = some o → H' b = some o
theorem Ext.refl (s : Addr) (H : Hp) : Ext s H H := fun _ _ _ h => h
theorem Ext.trans {s : Addr} {H H1 H2 : Hp} (a : Ext s H H1) (b : Ext s H1 H2) : Ext s H H2 := fun c o n h => b c o n (a c o n h)
theorem Ext.of {s : Addr} {H H' : Hp} (a : Same H H') : Ext s H H' := fun c o _ h => a c o h
theorem Ext.new {s p : Addr} {H : Hp} {o : HO} (n : H p = none) : Ext s H (upd H p o) := fun b u _ h => by
  rw [upd_ne (ne_of_none h n)]; exact h
theorem Ext.put {s : Addr} {H : Hp} {o : HO} : Ext s H (upd H s o) := fun b u n h => by
  rw [upd_ne n]; exact h
theorem same_new {p : Addr} {H : Hp} {o : HO} (n : H p = none) : Same H (upd H p o) := fun b u h => by
  rw [upd_ne (ne_of_none h n)]; exact h
theorem Ext.seqT {K : PySem.W.Frag} {s a : Addr} {H H' : Hp} {xs ys : List V} (x : Ext s H H') (hs : H s = some (.lst ys)) (h : SqT K H a xs) : SqT K H' a xs := by
  rcases h with (h | ⟨o, h⟩) | h
  · exact .inl (.inl (x _ _ (fun e => by rw [e, hs] at h; cases h) h))
  · exact .inl (.inr ⟨o, x _ _ (fun e => by rw [e, hs] at h; cases h) h⟩)
  · exact .inr h
theorem Ext.seqL {K : PySem.W.Frag} {s a : Addr} {H H' : Hp} {xs : List V} (x : Ext s H H') (n : a ≠ s) (h : SqL K H a xs) : SqL K H' a xs := by
  rcases h with (h | ⟨o, h⟩) | h
  · exact .inl (.inl (x _ _ n h))
  · exact .inl (.inr ⟨o, x _ _ n h⟩)
  · exact .inr h

theorem and_nn {x : Int} (hx : 0 ≤ x) (k : Nat) : 0 ≤ Builtin.bitAnd x (1 * 2 ^ k - 1) := by
  rw [Int.one_mul, Bits.bitAnd_mask k hx]
  exact Int.emod_nonneg _ (Int.ne_of_gt (Int.pow_pos (by decide)))
/-! ### the source of draws -/
def Src (H : Hp) (s a : Addr) (c : Nat) : Prop := ∃ (ns : List Int) (i b e t : Int),
  H s = some (.lst [.ref a, .int i, .int b, .int e, .int t]) ∧ H a = some (.lst (ns.map V.int)) ∧ a ≠ s ∧ ns.length ≤ 63 ∧ 0 ≤ i ∧ i ≤ 63 ∧ 0 ≤ b ∧ 0 ≤ e ∧ e < 2147483647 ∧ 0 ≤ t ∧ t + c < 4000000000000000000
theorem Src.lst {H : Hp} {s a : Addr} {c : Nat} (h : Src H s a c) : ∃ xs, H s = some (.lst xs) := by
  obtain ⟨_, _, _, _, _, h, _⟩ := h; exact ⟨_, h⟩
theorem Src.mono {H : Hp} {s a : Addr} {c d : Nat} (h : Src H s a c) (l : d ≤ c) : Src H s a d := by
  obtain ⟨ns, i, b, e, t, h1, h2, h3, h4, h5, h6, h7, h8, h9, h10, h11⟩ := h
  exact ⟨ns, i, b, e, t, h1, h2, h3, h4, h5, h6, h7, h8, h9, h10, by omega⟩
theorem Src.ext {H H' : Hp} {s a : Addr} {c : Nat} (h : Src H s a c) (x : Same H H') : Src H' s a c := by
  obtain ⟨ns, i, b, e, t, h1, h2, h3⟩ := h
  exact ⟨ns, i, b, e, t, x _ _ h1, x _ _ h2, h3⟩
theorem Src.new {H : Hp} {s a p : Addr} {o : HO} {c : Nat} (h : Src H s a c) (n : H p = none) : Src (upd H p o) s a c := h.ext (same_new n)
theorem Src.ne {H : Hp} {s a p : Addr} {c : Nat} (h : Src H s a c) (n : H p = none) : p ≠ s := by
  obtain ⟨xs, e⟩ := h.lst
  exact (ne_of_none e n).symm
theorem Src.nea {H : Hp} {s a p : Addr} {c : Nat} (h : Src H s a c) (n : H p = none) : p ≠ a := by
  obtain ⟨ns, i, b, e, t, h1, h2, h3⟩ := h
  exact (ne_of_none h2 n).symm
theorem Src.put {H : Hp} {s a p : Addr} {o : HO} {c : Nat} (h : Src H s a c) (n : p ≠ s) (m : p ≠ a) : Src (upd H p o) s a c := by
  obtain ⟨ns, i, b, e', t, h1, h2, h3⟩ := h
  exact ⟨ns, i, b, e', t, by rw [upd_ne n.symm]; exact h1, by rw [upd_ne m.symm]; exact h2, h3⟩

/-! ### defs and their callers -/
section
variable (P : Program) (w : World) (K : PySem.W.Frag) (mg : Str → Option Value) (base : Heap)
/-- a def as callers use it -/
def Cal (x : Str) (ps : List Str) (k : Nat) (sp : Sp) : Prop := ∃ (f : Addr) (fd : FuncData), FnOk P w K mg base CX0 k f fd ps sp ∧ mg x = some (.ref f) ∧ PySem.W.keepIn K (.ref f) = true ∧ Binds K fd ps []
/-- a def as the top has left it -/
def Df (x : Str) (st : Stmt) (ps : List Str) : Prop := ∃ (f : Addr) (fd : FuncData), Fun K x x st f fd ∧ mg x = some (.ref f) ∧ Binds K fd ps []
end
theorem Cal.mono {P : Program} {w : World} {K : PySem.W.Frag} {mg : Str → Option Value} {base : Heap} {x : Str} {ps : List Str} {j k : Nat} {sp : Sp} (C : Cal P w K mg base x ps j sp) (h : j ≤ k) : Cal P w K mg base x ps k sp := by
  obtain ⟨f, fd, G, g, kp, b⟩ := C
  exact ⟨f, fd, G.mono h, g, kp, b⟩

/-! ### the promises of the drawing defs -/
def sp__law_mix : Sp := fun vs H Q _ => ∃ (x y : Int), vs = [.int x, .int y] ∧ 0 ≤ x ∧ x < 9000000000000000000 ∧ 0 ≤ y ∧ y < 9000000000000000000 ∧ ∀ v : Int, 0 ≤ v → v < 2147483647 → Q (.int v) H
def sp__law_source (K : PySem.W.Frag) : Sp := fun vs H Q _ => ∃ (a : Addr) (ns : List Int), vs = [.ref a] ∧ SqL K H a (ns.map V.int) ∧ ns.length ≤ 63 ∧ ∀ (s b : Addr) (H' : Hp), H s = none → Same H H' → Src H' s b 3000000000000000000 → Q (.ref s) H'
def sp__law_draw : Sp := fun vs H Q _ => ∃ (s a : Addr) (m : Int) (c : Nat), vs = [.ref s, .int m] ∧ 0 < m ∧ m < 1073741824 ∧ Src H s a (c + 1) ∧ ∀ (v : Int) (H' : Hp), 0 ≤ v → v < m → Ext s H H' → Src H' s a c → Q (.int v) H'

/-! ### data -/
inductive D where
  | non | bl (b : Bool) | int (i : Int) | str (x : Str) | tup (xs : List D)
mutual
def DV (K : PySem.W.Frag) (H : Hp) : D → V → Prop
  | .non, v => v = .non
  | .bl b, v => v = .bl b
  | .int i, v => v = .int i
  | .str x, v => v = .str x
  | .tup ds, v => ∃ a vs, v = .ref a ∧ SqT K H a vs ∧ DVs K H ds vs
def DVs (K : PySem.W.Frag) (H : Hp) : List D → List V → Prop
  | [], vs => vs = []
  | d :: ds, vs => ∃ v r, vs = v :: r ∧ DV K H d v ∧ DVs K H ds r
end
mutual
theorem DV.ext {K : PySem.W.Frag} {H H' : Hp} (x : ∀ a xs, SqT K H a xs → SqT K H' a xs) : ∀ {d : D} {v : V}, DV K H d v → DV K H' d v
  | .non, _, h => by unfold DV at *; exact h
  | .bl _, _, h => by unfold DV at *; exact h
  | .int _, _, h => by unfold DV at *; exact h
  | .str _, _, h => by unfold DV at *; exact h
  | .tup ds, v, h => by
    unfold DV at *
    obtain ⟨a, vs, e, q, r⟩ := h
    exact ⟨a, vs, e, x _ _ q, DVs.ext x r⟩
theorem DVs.ext {K : PySem.W.Frag} {H H' : Hp} (x : ∀ a xs, SqT K H a xs → SqT K H' a xs) : ∀ {ds : List D} {vs : List V}, DVs K H ds vs → DVs K H' ds vs
  | [], _, h => by unfold DVs at *; exact h
  | d :: ds, vs, h => by
    unfold DVs at *
    obtain ⟨v, r, e, q, t⟩ := h
    exact ⟨v, r, e, DV.ext x q, DVs.ext x t⟩
end
theorem DVs.len {K : PySem.W.Frag} {H : Hp} : ∀ {ds : List D} {vs : List V}, DVs K H ds vs → vs.length = ds.length
  | [], _, h => by unfold DVs at h; subst h; rfl
  | d :: ds, vs, h => by
    unfold DVs at h
    obtain ⟨v, r, e, q, t⟩ := h
    rw [e, List.length_cons, List.length_cons, DVs.len t]
theorem DVs.get {K : PySem.W.Frag} {H : Hp} : ∀ {ds : List D} {vs : List V} {i : Nat} {d : D}, DVs K H ds vs → ds[i]? = some d → ∃ v, vs[i]? = some v ∧ DV K H d v
  | [], _, i, d, h, e => by simp at e
  | x :: ds, vs, i, d, h, e => by
    unfold DVs at h
    obtain ⟨v, r, e1, q, t⟩ := h
    subst e1
    cases i with
    | zero =>
      have : x = d := by simpa using e
      subst this
      exact ⟨v, rfl, q⟩
    | succ i => exact DVs.get (i := i) t (by simpa using e)
theorem DVs.strs {K : PySem.W.Frag} {H : Hp} : ∀ (xs : List Str), DVs K H (xs.map D.str) (xs.map V.str)
  | [] => by unfold DVs; rfl
  | x :: xs => by
    unfold DVs
    exact ⟨_, _, rfl, by unfold DV; rfl, DVs.strs xs⟩
theorem DVs.ints {K : PySem.W.Frag} {H : Hp} : ∀ (xs : List Int), DVs K H (xs.map D.int) (xs.map V.int)
  | [] => by unfold DVs; rfl
  | x :: xs => by
    unfold DVs
    exact ⟨_, _, rfl, by unfold DV; rfl, DVs.ints xs⟩
/-- tuples lie within fewer than n others -/
def DL : Nat → D → Prop
  | 0, _ => False
  | n + 1, .tup xs => xs.length ≤ 1000000 ∧ ∀ x ∈ xs, DL n x
  | _ + 1, _ => True
theorem TyX.ofT {K : PySem.W.Frag} {H : Hp} {a : Addr} {xs : List V} (h : SqT K H a xs) : TyX K H (.ref a) (.type "tuple") := by
  rcases h with (h | ⟨o, h⟩) | ⟨o, _, _, e, c, _⟩
  · exact .base (.tup h)
  · exact .fTuple h
  · exact .kTuple e c
def sp__law_is_int (K : PySem.W.Frag) : Sp := fun vs H Q _ => ∃ i : Int, vs = [.int i] ∧ Q (.bl true) H
/-- of two values with the same data it tells True -/
def sp__law_same (K : PySem.W.Frag) (n : Nat) : Sp := fun vs H Q _ => ∃ (d : D) (v u : V), vs = [v, u] ∧ DV K H d v ∧ DV K H d u ∧ DL n d ∧ Q (.bl true) H

/-! ### texts by their signs -/
open SX (S S_cat S_len S_inj)
theorem S_lst (l : List Nat) : (S l).cps.toList = l := rfl
theorem S_of (x : Str) : x = S x.cps.toList := (SX.S_tl x).symm
theorem S_app (a b : List Nat) : S a ++ S b = S (a ++ b) := S_cat a b
/-- a for over the signs of a text -/
theorem for_str {l : List Nat} {g : TG} {tb : TS} {D : Ends} {σ : St} {H : Hp} (Pv : Nat → St → Hp → Prop) (h0 : Pv 0 σ H)
    (hs : ∀ i c σ H, l[i]? = some c → Pv i σ H → g (.str (S [c])) σ H fun σ2 H2 => tb { D with nx := Pv (i + 1), ct := Pv (i + 1), bk := D.nx } σ2 H2) (hd : ∀ σ H, Pv l.length σ H → D.nx σ H) :
    ∃ W : Nat → Nat → St → Hp → Prop, (∃ m, W 0 m σ H) ∧ ∀ i m σ H, W i m σ H →
      ((Its (S l)).stop i H ∧ D.nx σ H) ∨ ((Its (S l)).go i H ∧ ∃ N : St → Hp → Prop, (∀ σ' H', N σ' H' → ∃ m', m' < m ∧ W (i + 1) m' σ' H') ∧ ∀ x H', (Its (S l)).yld i H x H' → g x σ H' fun σ2 H2 => tb { D with nx := N, ct := N, bk := D.nx } σ2 H2) := by
  refine ⟨fun i m σ H => m = l.length - i ∧ i ≤ l.length ∧ Pv i σ H, ⟨l.length, by simp, Nat.zero_le _, h0⟩, ?_⟩
  rintro i m σ H ⟨rfl, hi, p⟩
  by_cases hlt : i < l.length
  · refine .inr ⟨by show i < l.toArray.size; simpa using hlt, Pv (i + 1), fun σ' H' p' => ⟨l.length - (i + 1), by omega, rfl, hlt, p'⟩, fun x H' y => ?_⟩
    obtain ⟨e, c, hc, y⟩ := y
    subst e y
    exact hs i c σ _ (by simpa using hc) p
  · have e : i = l.length := by omega
    subst e
    exact .inl ⟨by show l.toArray.size ≤ l.length; simp, hd σ H p⟩
/-- a comprehension over the signs of a text -/
theorem lc_str {l : List Nat} {g : TG} {tt : TT} {te : TE} {vs : List Nat} {σ : St} {H1 : Hp} {D : Addr} {Qd : Hp → Prop} (Pv : Nat → Hp → Prop) (h0 : Pv 0 (upd H1 D (.lst [])))
    (hs : ∀ i c H, l[i]? = some c → Pv i H → g (.str (S [c])) (wipe σ vs) H fun σ2 H2 => wipe σ2 vs = wipe σ vs ∧ tt σ2 H2 fun b H3 =>
      if b = true then te σ2 H3 fun y H4 => ∃ acc, H4 D = some (.lst acc) ∧ acc.length < sizeLine ∧ Pv (i + 1) (upd H4 D (.lst (acc ++ [y]))) else Pv (i + 1) H3) (hd : ∀ H, Pv l.length H → Qd H) :
    ∃ W : Nat → Nat → Hp → Prop, (∃ m, W 0 m (upd H1 D (.lst []))) ∧ ∀ i m H, W i m H →
      ((Its (S l)).stop i H ∧ Qd H) ∨ ((Its (S l)).go i H ∧ ∃ Nx : Hp → Prop, (∀ H', Nx H' → ∃ m', m' < m ∧ W (i + 1) m' H') ∧ ∀ x H', (Its (S l)).yld i H x H' → g x (wipe σ vs) H' fun σ2 H2 => wipe σ2 vs = wipe σ vs ∧ tt σ2 H2 fun b H3 =>
        if b = true then te σ2 H3 fun y H4 => ∃ acc, H4 D = some (.lst acc) ∧ acc.length < sizeLine ∧ Nx (upd H4 D (.lst (acc ++ [y]))) else Nx H3) := by
  refine ⟨fun i m H => m = l.length - i ∧ i ≤ l.length ∧ Pv i H, ⟨l.length, by simp, Nat.zero_le _, h0⟩, ?_⟩
  rintro i m H ⟨rfl, hi, p⟩
  by_cases hlt : i < l.length
  · refine .inr ⟨by show i < l.toArray.size; simpa using hlt, Pv (i + 1), fun H' p' => ⟨l.length - (i + 1), by omega, rfl, hlt, p'⟩, fun x H' y => ?_⟩
    obtain ⟨e, c, hc, y⟩ := y
    subst e y
    exact hs i c _ (by simpa using hc) p
  · have e : i = l.length := by omega
    subst e
    exact .inl ⟨by show l.toArray.size ≤ l.length; simp, hd H p⟩
/-- signs of rows -/
def Asc (l : List Nat) : Prop := ∀ x ∈ l, 32 ≤ x ∧ x ≤ 126
theorem Asc.nil : Asc [] := fun _ h => nomatch h
theorem Asc.app {a b : List Nat} (x : Asc a) (y : Asc b) : Asc (a ++ b) := fun c h => (List.mem_append.mp h).elim (x c) (y c)
theorem Asc.by_ {l : List Nat} (h : l.all (fun x => decide (32 ≤ x) && decide (x ≤ 126)) = true) : Asc l := fun x m => by
  have := List.all_eq_true.mp h x m
  simp at this
  exact this
theorem Asc.all128 {l : List Nat} (h : Asc l) : l.all (· < 128) = true := List.all_eq_true.mpr fun x m => decide_eq_true (by have := h x m; omega)
theorem joinNil : ∀ ls : List (List Nat), TL.joinL [] ls = ls.flatten
  | [] => rfl
  | [x] => by simp [TL.joinL]
  | x :: y :: r => by
    have := joinNil (y :: r)
    simp only [TL.joinL] at *
    rw [List.flatten_cons, ← this]
    simp [TL.joinL]
theorem join_nil (ls : List (List Nat)) : Txt.join (S []) (ls.map S) = S ls.flatten := by
  rw [SX.join_S, joinNil]

/-! ### texts, further -/
abbrev tl (x : Str) : List Nat := x.cps.toList
theorem tl_S (l : List Nat) : tl (S l) = l := rfl
theorem S_tl (x : Str) : S (tl x) = x := rfl
theorem tl_app (x y : Str) : tl (x ++ y) = tl x ++ tl y := TL.tl_append x y
theorem tl_len (x : Str) : x.length = (tl x).length := by show x.cps.size = x.cps.toList.length; simp
theorem tl_ext {x y : Str} (h : tl x = tl y) : x = y := TL.ext_tl h
theorem at_str {x : Str} {i : Int} (h0 : 0 ≤ i) (h1 : i < (x.length : Int)) : ∃ c, x.cps[i.toNat]? = some c ∧ (tl x)[i.toNat]? = some c ∧ c ∈ tl x := by
  have h : i.toNat < (tl x).length := by rw [← tl_len]; omega
  refine ⟨(tl x)[i.toNat], ?_, List.getElem?_eq_getElem h, List.getElem_mem h⟩
  have := List.getElem?_eq_getElem h
  rw [← this]; simp [tl]
/-- small letters and digits -/
def Low (l : List Nat) : Prop := ∀ x ∈ l, (97 ≤ x ∧ x ≤ 122) ∨ (48 ≤ x ∧ x ≤ 57)
theorem Low.nil : Low [] := fun _ h => nomatch h
theorem Low.app {a b : List Nat} (x : Low a) (y : Low b) : Low (a ++ b) := fun c h => (List.mem_append.mp h).elim (x c) (y c)
theorem Low.asc {a : List Nat} (x : Low a) : Asc a := fun c h => by have := x c h; omega
theorem low_num (n : Nat) : Low (TL.numL n) := fun c h => .inr (by have := TL.numL_digits n c h; omega)
theorem num_len : ∀ n : Nat, (TL.numL n).length ≤ n + 1 := fun n => by
  induction n using Nat.strongRecOn with
  | ind n ih =>
    by_cases h : n < 10
    · rw [TL.numL_lt h]; simp
    · rw [TL.numL_step (by omega), List.length_append]
      have := ih (n / 10) (by omega)
      simp; omega
/-- a name: a letter, then letters and digits -/
def Nm (l : List Nat) : Prop := (∃ c r, l = c :: r ∧ 97 ≤ c ∧ c ≤ 122) ∧ Low l
theorem Nm.app {a b : List Nat} (x : Nm a) (y : Low b) : Nm (a ++ b) := by
  obtain ⟨⟨c, r, e, h⟩, l⟩ := x
  exact ⟨⟨c, r ++ b, by rw [e]; rfl, h⟩, l.app y⟩
theorem flat_strs (xs : List Str) : (xs.map V.str).all flatV = true := List.all_eq_true.mpr fun x h => by
  obtain ⟨y, _, rfl⟩ := List.mem_map.mp h; rfl
theorem inV_strs (x : Str) (xs : List Str) : inV (V.str x) (xs.map V.str) = decide (x ∈ xs) := by
  unfold inV
  induction xs with
  | nil => rfl
  | cons y ys ih =>
    rw [List.map_cons, List.any_cons, ih]
    by_cases e : x = y
    · subst e; simp [eqV]
    · have : ¬ y = x := fun h => e h.symm
      simp [eqV, e, this]
def sp__law_new_name (K : PySem.W.Frag) : Sp := fun vs H Q _ => ∃ (s a u : Addr) (us : List Str) (c : Nat), vs = [.ref s, .ref u] ∧ SqL K H u (us.map V.str) ∧ u ≠ s ∧ us.length ≤ 60 ∧ Src H s a (c + 8) ∧
  ∀ (x : Str) (H' : Hp), Nm (tl x) → (tl x).length ≤ 70 → Ext s H H' → Src H' s a c → Q (.str x) H'
def sp__law_names (K : PySem.W.Frag) : Sp := fun vs H Q _ => ∃ (s a : Addr) (m c : Nat), vs = [.ref s, .int m] ∧ m ≤ 60 ∧ Src H s a (c + 8 * m) ∧
  ∀ (u : Addr) (us : List Str) (H' : Hp), H u = none → H' u = some (.lst (us.map V.str)) → us.length = m → (∀ x ∈ us, Nm (tl x) ∧ (tl x).length ≤ 70) → Ext s H H' → Src H' s a c → Q (.ref u) H'
def sp__law_row : Sp := fun vs H Q _ => ∃ (s a : Addr) (m : Int) (c : Nat), vs = [.ref s, .int m] ∧ 0 ≤ m ∧ m ≤ 1000 ∧ Src H s a (c + m.toNat) ∧
  ∀ (x : Str) (H' : Hp), Asc (tl x) → (tl x).length = m.toNat → Ext s H H' → Src H' s a c → Q (.str x) H'

/-! ### rules that name the written part themselves (for the blocks of comprehensions) -/
section
variable {X : Cx} {K : PySem.W.Frag}
/-- len of a text -/
theorem call_lenS : CallR X (.builtin "len") (fun xs H Q => ∃ x : Str, xs = [.str x] ∧ x.length ≤ sizeLine ∧ Q (.int x.length) H) := by
  intro pins s σ H xs us Q I r h
  obtain ⟨x, e, hl, q⟩ := h
  exact call_len pins s σ H xs us Q I r ⟨.str x, x.length, e, ⟨hl, rfl⟩, q⟩
theorem call_lenQ (h : X.K = K) : CallR X (.builtin "len") (fun xs H Q => ∃ p ys, xs = [.ref p] ∧ (SqL K H p ys ∨ SqT K H p ys) ∧ Q (.int ys.length) H) := by
  subst h; exact call_len_seq
theorem ix_listQ (h : X.K = K) : IxR X (rIxL K) := by subst h; exact ix_list
theorem ix_tupQ (h : X.K = K) : IxR X (rIxT K) := by subst h; exact ix_tup
theorem in_seqQ (h : X.K = K) : OpR X (compareOp .In) (rIn K false) := by subst h; exact op_in_seq
theorem notIn_seqQ (h : X.K = K) : OpR X (compareOp .NotIn) (rIn K true) := by subst h; exact op_notIn_seq
theorem isiQ (h : X.K = K) : CallR X (.builtin "isinstance") (rIsi K) := by subst h; exact call_isi
end

/-- texts of one sign each -/
def Ones (p : Nat → Prop) (xs : List Str) : Prop := ∀ x ∈ xs, ∃ c, tl x = [c] ∧ p c
theorem Ones.tail {p : Nat → Prop} {x : Str} {xs : List Str} (h : Ones p (x :: xs)) : Ones p xs := fun y m => h y (List.mem_cons_of_mem _ m)
theorem ones_len {p : Nat → Prop} : ∀ {xs : List Str}, (∀ x ∈ xs, ∃ c, tl x = [c] ∧ p c) → (xs.map (·.length)).sum = xs.length
  | [], _ => rfl
  | x :: xs, h => by
    obtain ⟨c, e, _⟩ := h x List.mem_cons_self
    have : x.length = 1 := by rw [tl_len, e]; rfl
    rw [List.map_cons, List.sum_cons, ones_len (Ones.tail h), List.length_cons, this]
    omega
/-- their only signs -/
def heads (xs : List Str) : List Nat := xs.map fun x => (tl x).headD 0
theorem tl_join0 (xs : List Str) : tl (Txt.join (S []) xs) = (xs.map tl).flatten := by
  have e : xs = (xs.map tl).map S := by rw [List.map_map]; exact (List.map_id _).symm
  have h := join_nil (xs.map tl)
  rw [← e] at h
  show tl (Txt.join (S []) xs) = _
  rw [h]
theorem ones_join {p : Nat → Prop} {xs : List Str} (h : ∀ x ∈ xs, ∃ c, tl x = [c] ∧ p c) : tl (Txt.join (S []) xs) = heads xs := by
  rw [tl_join0]
  induction xs with
  | nil => rfl
  | cons x xs ih =>
    obtain ⟨c, e, _⟩ := h x List.mem_cons_self
    rw [List.map_cons, List.flatten_cons, ih (Ones.tail h), e]
    show c :: heads xs = (tl x).headD 0 :: heads xs
    rw [e]; rfl
theorem ones_all {p : Nat → Prop} {xs : List Str} (h : ∀ x ∈ xs, ∃ c, tl x = [c] ∧ p c) : ∀ c ∈ heads xs, p c := fun c m => by
  obtain ⟨x, hx, e⟩ := List.mem_map.mp m
  obtain ⟨d, e2, hd⟩ := h x hx
  rw [e2] at e
  have : d = c := e
  rw [← this]; exact hd
theorem str0 : Str.ofString "" = S [] := rfl
theorem ones_room {p : Nat → Prop} {xs : List Str} (h : ∀ x ∈ xs, ∃ c, tl x = [c] ∧ p c) : (xs.map (·.length)).sum + xs.length * (Str.ofString "").length = xs.length := by
  rw [ones_len h]; show xs.length + xs.length * 0 = xs.length; omega
theorem ones_joinE {p : Nat → Prop} {xs : List Str} (h : ∀ x ∈ xs, ∃ c, tl x = [c] ∧ p c) : tl (Txt.join (Str.ofString "") xs) = heads xs := ones_join h
theorem ones_asc {xs : List Str} (h : ∀ x ∈ xs, ∃ c, tl x = [c] ∧ 32 ≤ c ∧ c ≤ 126) : Asc (heads xs) := fun c m => ones_all (p := fun c => 32 ≤ c ∧ c ≤ 126) h c m
theorem heads_len (xs : List Str) : (heads xs).length = xs.length := List.length_map _

theorem alpha_mem {c : Nat} (h : c ∈ tl (Str.ofString "abcdefghijklmnopqrstuvwxyz")) : 97 ≤ c ∧ c ≤ 122 := by
  have : (tl (Str.ofString "abcdefghijklmnopqrstuvwxyz")).all (fun c => decide (97 ≤ c) && decide (c ≤ 122)) = true := by decide +kernel
  have := List.all_eq_true.mp this c h
  simp at this; exact this
theorem low_mem {c : Nat} (h : c ∈ tl (Str.ofString "abcdefghijklmnopqrstuvwxyz" ++ Str.ofString "0123456789")) : (97 ≤ c ∧ c ≤ 122) ∨ (48 ≤ c ∧ c ≤ 57) := by
  rw [tl_app] at h
  have : (tl (Str.ofString "abcdefghijklmnopqrstuvwxyz") ++ tl (Str.ofString "0123456789")).all (fun c => (decide (97 ≤ c) && decide (c ≤ 122)) || (decide (48 ≤ c) && decide (c ≤ 57))) = true := by decide +kernel
  have := List.all_eq_true.mp this c h
  simp at this; exact this

theorem log_small {i : Nat} (h : i ≤ 1000000) : (Int.natAbs (0 + (i : Int))).log2 < 1920 := by
  rw [Int.zero_add, Int.natAbs_natCast]
  by_cases e : i = 0
  · subst e; decide
  · rw [Nat.log2_lt e]
    exact Nat.lt_of_le_of_lt h (Nat.lt_of_lt_of_le (by decide : 1000000 < 2 ^ 20) (Nat.pow_le_pow_right (by decide) (by decide)))

theorem fold_take {α β : Type} {f : β → α → β} {a : β} {l : List α} {i : Nat} {c : α} (h : l[i]? = some c) : (l.take (i + 1)).foldl f a = f ((l.take i).foldl f a) c := by
  rw [List.take_add_one, h, List.foldl_append]
  rfl
theorem fold_all {α β : Type} {f : β → α → β} {a : β} {l : List α} : (l.take l.length).foldl f a = l.foldl f a := by rw [List.take_length]
theorem in_abc {c : Nat} : decide (c ∈ (Str.ofString "abcdefghijklmnopqrstuvwxyz").cps.toList) = (decide (97 ≤ c) && decide (c ≤ 122)) := by
  have e : (Str.ofString "abcdefghijklmnopqrstuvwxyz").cps.toList = List.range' 97 26 := by decide +kernel
  rw [e, Bool.eq_iff_iff, decide_eq_true_iff, List.mem_range'_1]
  simp only [Bool.and_eq_true, decide_eq_true_eq]
  omega
theorem in_ABC {c : Nat} : decide (c ∈ (Str.ofString "ABCDEFGHIJKLMNOPQRSTUVWXYZ").cps.toList) = (decide (65 ≤ c) && decide (c ≤ 90)) := by
  have e : (Str.ofString "ABCDEFGHIJKLMNOPQRSTUVWXYZ").cps.toList = List.range' 65 26 := by decide +kernel
  rw [e, Bool.eq_iff_iff, decide_eq_true_iff, List.mem_range'_1]
  simp only [Bool.and_eq_true, decide_eq_true_eq]
  omega
theorem in_012 {c : Nat} : decide (c ∈ (Str.ofString "0123456789").cps.toList) = (decide (48 ≤ c) && decide (c ≤ 57)) := by
  have e : (Str.ofString "0123456789").cps.toList = List.range' 48 10 := by decide +kernel
  rw [e, Bool.eq_iff_iff, decide_eq_true_iff, List.mem_range'_1]
  simp only [Bool.and_eq_true, decide_eq_true_eq]
  omega
theorem in_abc012 {c : Nat} : decide (c ∈ (Str.ofString "abcdefghijklmnopqrstuvwxyz0123456789").cps.toList) = ((decide (97 ≤ c) && decide (c ≤ 122)) || (decide (48 ≤ c) && decide (c ≤ 57))) := by
  have e : (Str.ofString "abcdefghijklmnopqrstuvwxyz0123456789").cps.toList = List.range' 97 26 ++ List.range' 48 10 := by decide +kernel
  rw [e, Bool.eq_iff_iff, decide_eq_true_iff, List.mem_append, List.mem_range'_1, List.mem_range'_1]
  simp only [Bool.and_eq_true, Bool.or_eq_true, decide_eq_true_eq]
  omega
/-- literal texts -/
theorem tl_mapS (ws : List Str) : (ws.map tl).map S = ws := by rw [List.map_map]; exact List.map_id _

theorem strs_at (zs : List Str) {v : Int} (h0 : 0 ≤ v) (h1 : v < (zs.length : Int)) : ∃ z, z ∈ zs ∧ atI (zs.map V.str) v = some (.str z) := by
  have h : v.toNat < zs.length := by omega
  exact ⟨zs[v.toNat], List.getElem_mem h, at_of (j := v.toNat) (by omega) (by rw [List.getElem?_map, List.getElem?_eq_getElem h]; rfl)⟩
theorem tl_upper {x : Str} (h : Asc (tl x)) : tl (Txt.upper x) = (tl x).map PyProof.Rows.up1 := congrArg tl (SX.upper_S (a := tl x) h.all128)
theorem asc_upper {x : Str} (h : Asc (tl x)) : Asc (tl (Txt.upper x)) := by
  rw [tl_upper h]
  intro c hc
  obtain ⟨d, hd, e⟩ := List.mem_map.mp hc
  have := h d hd
  unfold PyProof.Rows.up1 at e
  split at e <;> omega
theorem len_upper {x : Str} (h : Asc (tl x)) : (tl (Txt.upper x)).length = (tl x).length := by rw [tl_upper h, List.length_map]
theorem DL.strs {n : Nat} (xs : List Str) (h : xs.length ≤ 1000000) : DL (n + 2) (.tup (xs.map D.str)) := ⟨by rw [List.length_map]; exact h, fun d m => by obtain ⟨x, _, rfl⟩ := List.mem_map.mp m; exact True.intro⟩
theorem DV.strs {K : PySem.W.Frag} {H : Hp} {p : Addr} {xs : List Str} (h : H p = some (.tup (xs.map V.str))) : DV K H (.tup (xs.map D.str)) (.ref p) := by
  unfold DV
  exact ⟨p, _, rfl, SqT.of h, DVs.strs xs⟩
def sp_law (K : PySem.W.Frag) : Sp := fun vs H Q _ => ∃ (a : Addr) (ns : List Int), vs = [.ref a] ∧ SqL K H a (ns.map V.int) ∧ ns.length ≤ 63 ∧ ∀ H', Q (.bl true) H'
end Z
namespace Z
open PySem L2 SX
/-! ### cuts -/
theorem sIx_pos {n d : Nat} {i : Int} (h : 0 ≤ i) : HT.sIx n d (some i) = min i.toNat n := by
  obtain ⟨k, rfl⟩ := Int.eq_ofNat_of_zero_le h
  rw [HT.sIx_nat]; rfl
theorem cutS_to {z : Str} {i : Int} (h : 0 ≤ i) : tl (cutS z none (some i)) = (tl z).take i.toNat := by
  show ((tl z).drop 0).take (HT.sIx z.length z.length (some i) - 0) = _
  rw [sIx_pos h, List.drop_zero, Nat.sub_zero, tl_len]
  by_cases e : i.toNat ≤ (tl z).length
  · rw [Nat.min_eq_left e]
  · rw [Nat.min_eq_right (by omega), List.take_length, List.take_of_length_le (by omega)]
theorem cutS_from {z : Str} {i : Int} (h : 0 ≤ i) : tl (cutS z (some i) none) = (tl z).drop i.toNat := by
  show ((tl z).drop (HT.sIx z.length 0 (some i))).take (z.length - HT.sIx z.length 0 (some i)) = _
  rw [sIx_pos h, tl_len]
  by_cases e : i.toNat ≤ (tl z).length
  · rw [Nat.min_eq_left e, List.take_of_length_le (by rw [List.length_drop]; omega)]
  · rw [Nat.min_eq_right (by omega), List.drop_of_length_le (l := tl z) (i := i.toNat) (by omega), List.drop_of_length_le (Nat.le_refl _), List.take_nil]
theorem cutS_mid {z : Str} {i j : Int} (h : 0 ≤ i) (h2 : 0 ≤ j) : tl (cutS z (some i) (some j)) = ((tl z).drop i.toNat).take (j.toNat - i.toNat) := by
  show ((tl z).drop (HT.sIx z.length 0 (some i))).take (HT.sIx z.length z.length (some j) - HT.sIx z.length 0 (some i)) = _
  rw [sIx_pos h, sIx_pos h2, tl_len]
  by_cases e : i.toNat ≤ (tl z).length
  · rw [Nat.min_eq_left e]
    by_cases f : j.toNat ≤ (tl z).length
    · rw [Nat.min_eq_left f]
    · rw [Nat.min_eq_right (by omega), List.take_of_length_le (by rw [List.length_drop]; omega), List.take_of_length_le (by rw [List.length_drop]; omega)]
  · rw [Nat.min_eq_right (a := i.toNat) (by omega), List.drop_of_length_le (Nat.le_refl _), List.drop_of_length_le (l := tl z) (i := i.toNat) (by omega)]; simp
theorem cutV_to {xs : List V} {i : Int} (h : 0 ≤ i) : cutV xs none (some i) = xs.take i.toNat := by
  show ((xs.drop 0).take (HT.sIx xs.length xs.length (some i) - 0)) = _
  rw [sIx_pos h, List.drop_zero, Nat.sub_zero]
  by_cases e : i.toNat ≤ xs.length
  · rw [Nat.min_eq_left e]
  · rw [Nat.min_eq_right (by omega), List.take_length, List.take_of_length_le (by omega)]
theorem cutV_from {xs : List V} {i : Int} (h : 0 ≤ i) : cutV xs (some i) none = xs.drop i.toNat := by
  show ((xs.drop (HT.sIx xs.length 0 (some i))).take (xs.length - HT.sIx xs.length 0 (some i))) = _
  rw [sIx_pos h]
  by_cases e : i.toNat ≤ xs.length
  · rw [Nat.min_eq_left e, List.take_of_length_le (by rw [List.length_drop]; omega)]
  · rw [Nat.min_eq_right (by omega), List.drop_of_length_le (l := xs) (i := i.toNat) (by omega), List.drop_of_length_le (Nat.le_refl _), List.take_nil]
/-- the text k times -/
def rep (k : Nat) (l : List Nat) : List Nat := (List.replicate k l).flatten
theorem rep_fold (x : Array Nat) : ∀ (k : Nat) (a : Array Nat), ((List.replicate k x).foldl (· ++ ·) a).toList = a.toList ++ rep k x.toList
  | 0, a => by simp [rep]
  | k + 1, a => by
    rw [List.replicate_succ, List.foldl_cons, rep_fold x k]
    simp [rep, List.replicate_succ]
theorem rep_len (k : Nat) (l : List Nat) : (rep k l).length = k * l.length := by
  induction k with
  | zero => simp [rep]
  | succ k ih => unfold rep at *; rw [List.replicate_succ, List.flatten_cons, List.length_append, ih, Nat.succ_mul]; omega
theorem rep_mem {k : Nat} {l : List Nat} {c : Nat} (h : c ∈ rep k l) : c ∈ l := by
  obtain ⟨x, hx, hc⟩ := List.mem_flatten.mp h
  rw [(List.mem_replicate.mp hx).2] at hc; exact hc
section
variable {X : Cx}
/-- s * k -/
theorem op_mul_str : OpR X (binaryOp .Mult) (fun x y H Q => ∃ (z : Str) (k : Int), x = .str z ∧ y = .int k ∧ k ≤ 100000 ∧ (-100000 ≤ k) ∧ (tl z).length * k.toNat ≤ 10000000 ∧ ∀ r : Str, tl r = rep k.toNat (tl z) → Q (.str r) H) := by
  intro pins s σ H x y v u Q I rx ry h
  obtain ⟨z, k, rfl, rfl, h1, h0, hz, q⟩ := h
  obtain ⟨t, rfl⟩ := rx
  obtain ⟨t', rfl⟩ := ry
  have hz' : z.length * k.toNat ≤ 10000000 := by rw [tl_len]; exact hz
  have small := PyProof.Rows.short24 (n := z.length * k.toNat) (Nat.le_trans hz' (by decide))
  refine P.mul_str ?_ (fun a b => ?_) (fun _ _ => small) ?_
  · rw [decide_eq_false (by omega), decide_eq_false (by omega)]; rfl
  · have hk : 1 ≤ k := by omega
    have hm : (z.length : Int) * k ≤ 10000000 := by
      have : ((z.length * k.toNat : Nat) : Int) ≤ 10000000 := by omega
      rw [Int.natCast_mul, Int.toNat_of_nonneg (by omega)] at this; exact this
    have hle : (z.length : Int) ≤ (2 ^ 63 - 1) / k := by
      rw [Int.le_ediv_iff_mul_le (by omega)]
      exact Int.le_trans hm (by decide)
    omega
  · by_cases hk : k < 1
    · rw [if_pos hk]
      refine ⟨by decide, ?_⟩
      exact ⟨.str Str.empty, H, I.tok _, ⟨_, rfl⟩, q _ (by rw [show k.toNat = 0 by omega]; rfl)⟩
    · rw [if_neg hk]
      by_cases hb : (k == 1 || z.length == 0) = true
      · rw [if_pos hb]
        refine ⟨.str z, H, I, ⟨_, rfl⟩, q _ ?_⟩
        rw [Bool.or_eq_true] at hb
        rcases hb with e | e
        · have : k = 1 := by simpa using e
          subst this; simp [rep]
        · have e : z.length = 0 := by simpa using e
          rw [tl_len] at e
          have : tl z = [] := List.length_eq_zero_iff.mp e
          rw [this]
          exact (List.length_eq_zero_iff.mp (by rw [rep_len]; rfl)).symm
      · rw [if_neg hb]
        have hr : tl (⟨(List.replicate k.toNat z.cps).foldl (· ++ ·) #[]⟩ : Str) = rep k.toNat (tl z) := by
          show ((List.replicate k.toNat z.cps).foldl (· ++ ·) #[]).toList = _
          rw [rep_fold]; simp [tl]
        refine ⟨?_, ?_⟩
        · rw [tl_len, hr, rep_len, Nat.mul_comm]
          exact Nat.le_trans hz (by decide)
        · exact ⟨.str _, H, I.tok _, ⟨_, rfl⟩, q _ hr⟩
end
section
variable {X : Cx} {K : PySem.W.Frag}
/-- t + u, of tuples -/
theorem op_cat (hK : X.K = K) : OpR X (binaryOp .Add) (fun x y H Q => ∃ a b xs ys, x = .ref a ∧ y = .ref b ∧ SqT K H a xs ∧ SqT K H b ys ∧ xs.length + ys.length ≤ sizeLine ∧
    ∀ p H', Same H H' → SqT K H' p (xs ++ ys) → Q (.ref p) H') := by
  subst hK
  intro pins s σ H x y v u Q I rx ry h
  obtain ⟨a, b, xs, ys, e1, e2, ha, hb, hz, q⟩ := h
  refine op_catA pins s σ H x y v u Q I rx ry ⟨a, b, xs, ys, e1, e2, ha, hb, hz, fun e => ?_, fun _ e => ?_, fun _ _ p hp => q p _ (same_new hp) (SqT.of upd_same)⟩
  · subst e; exact q b H (Same.refl _) hb
  · subst e; exact q a H (Same.refl _) (by rw [List.append_nil]; exact ha)
/-- t[lo:hi] of a tuple -/
theorem sl_tupS (hK : X.K = K) : SlR X (fun x lo hi H Q => ∃ a xs, x = .ref a ∧ SqT K H a xs ∧ ∀ p H', Same H H' → SqT K H' p (cutV xs lo hi) → Q (.ref p) H') := by
  subst hK
  intro pins s σ H x v vl vu lo hi sl Q I rx hs pl pu h
  obtain ⟨a, xs, e, hx, q⟩ := h
  refine sl_tupA pins s σ H x v vl vu lo hi sl Q I rx hs pl pu ⟨a, xs, e, hx, fun hw => q a H (Same.refl _) ?_, fun _ p hp => q p _ (same_new hp) (SqT.of upd_same)⟩
  have : cutV xs lo hi = xs := by
    show (xs.drop (HT.sIx xs.length 0 lo)).take (HT.sIx xs.length xs.length hi - HT.sIx xs.length 0 lo) = xs
    rw [hw.1, hw.2, List.drop_zero, Nat.sub_zero, List.take_length]
  rw [this]; exact hx
end
theorem _root_.L2.Same.tup {K : PySem.W.Frag} {H H' : Hp} {a : Addr} {xs : List V} (e : Same H H') (h : SqT K H a xs) : SqT K H' a xs := by
  rcases h with (h | ⟨o, h⟩) | h
  · exact .inl (.inl (e _ _ h))
  · exact .inl (.inr ⟨o, e _ _ h⟩)
  · exact .inr h

/-- a comprehension over a range that makes texts by draws (at most d of them for each) -/
theorem lc_strs {j n d : Nat} {te : TE} {vs : List Nat} {σ : St} {H : Hp} {D s a : Addr} {c : Nat} {Qd : Hp → Prop} (p : Str → Prop) (hD : H D = none) (hS : Src H s a (c + n * d)) (hn : n ≤ 100000)
    (hw : ∀ i : Nat, wipe ((wipe σ vs).set j (some (.int (0 + (i : Int))))) vs = wipe σ vs)
    (hs : ∀ (i c' : Nat) (H1 : Hp) (R : VK), i < n → Ext s H H1 → Src H1 s a (c' + d) → (∀ (x : Str) (H2 : Hp), p x → Ext s H1 H2 → Src H2 s a c' → R (.str x) H2) → te ((wipe σ vs).set j (some (.int (0 + (i : Int))))) H1 R)
    (hd : ∀ (xs : List Str) (H' : Hp), H' D = some (.lst (xs.map V.str)) → xs.length = n → (∀ x ∈ xs, p x) → Ext s H H' → Src H' s a c → Qd H') :
    ∃ W : Nat → Nat → Hp → Prop, (∃ m, W 0 m (upd H D (.lst []))) ∧ ∀ i m H, W i m H →
      ((Itr 0 n).stop i H ∧ Qd H) ∨ ((Itr 0 n).go i H ∧ ∃ Nx : Hp → Prop, (∀ H', Nx H' → ∃ m', m' < m ∧ W (i + 1) m' H') ∧ ∀ x H', (Itr 0 n).yld i H x H' → gName j x (wipe σ vs) H' fun σ2 H2 => wipe σ2 vs = wipe σ vs ∧ tYes σ2 H2 fun b H3 =>
        if b = true then te σ2 H3 fun y H4 => ∃ acc, H4 D = some (.lst acc) ∧ acc.length < sizeLine ∧ Nx (upd H4 D (.lst (acc ++ [y]))) else Nx H3) := by
  have Ds : D ≠ s := hS.ne hD
  have Da : D ≠ a := hS.nea hD
  refine lc_range (lo := 0) (n := n) (fun i H' => ∃ xs : List Str, H' D = some (.lst (xs.map V.str)) ∧ xs.length = i ∧ (∀ x ∈ xs, p x) ∧ Ext s H H' ∧ Src H' s a (c + (n - i) * d)) ?_ ?_ ?_
  · exact ⟨[], upd_same, rfl, (fun _ h => by cases h), Ext.new hD, (hS.new hD).mono (by simp)⟩
  · rintro i H' hi ⟨xs, hx, hl, hA, hE, hS'⟩
    refine ⟨hw i, ?_⟩
    show te _ H' _
    have e : c + (n - i) * d = c + (n - (i + 1)) * d + d := by
      rw [show n - i = n - (i + 1) + 1 by omega, Nat.succ_mul]; omega
    refine hs i (c + (n - (i + 1)) * d) H' _ hi hE (by rw [← e]; exact hS') (fun x H2 hp hE2 hS2 => ?_)
    refine ⟨xs.map V.str, hE2 _ _ Ds hx, ?_, xs ++ [x], by rw [upd_same, List.map_append]; rfl, by rw [List.length_append]; simp [hl], fun y hy => ?_, ?_, hS2.put Ds Da⟩
    · rw [List.length_map]; exact Nat.lt_of_lt_of_le (show xs.length < 100000 by omega) (by decide)
    · rcases List.mem_append.mp hy with h | h
      · exact hA y h
      · rw [List.mem_singleton.mp h]; exact hp
    · intro b o hb hH
      rw [upd_ne (ne_of_none hH hD)]; exact hE2 _ _ hb (hE _ _ hb hH)
  · rintro H' ⟨xs, hx, hl, hA, hE, hS'⟩
    exact hd xs H' hx hl hA hE (hS'.mono (by omega))
theorem atI_pos {α : Type} {xs : List α} {v : Int} {x : α} (h0 : 0 ≤ v) (h : xs[v.toNat]? = some x) : atI xs v = some x := by
  have e : v = (v.toNat : Int) := by omega
  rw [e]; exact atI_nat h
/-- any item of a list of texts -/
def sp__law_pick (K : PySem.W.Frag) : Sp := fun vs H Q _ =>
  (∃ (s a r : Addr) (xs : List V) (c : Nat), vs = [.ref s, .ref r] ∧ SqL K H r xs ∧ r ≠ s ∧ xs ≠ [] ∧ xs.length ≤ 100000 ∧ Src H s a (c + 1) ∧ ∀ (v : V) (H' : Hp), v ∈ xs → Ext s H H' → Src H' s a c → Q v H') ∨
  (∃ (s a : Addr) (x : Str) (c : Nat), vs = [.ref s, .str x] ∧ tl x ≠ [] ∧ (tl x).length ≤ 100000 ∧ Src H s a (c + 1) ∧ ∀ (ch : Nat) (H' : Hp), ch ∈ tl x → Ext s H H' → Src H' s a c → Q (.str (S [ch])) H')
def sp__law_once_in : Sp := fun vs H Q _ => ∃ (s a : Addr) (m : Int) (c : Nat), vs = [.ref s, .int m] ∧ 0 < m ∧ m < 1073741824 ∧ Src H s a (c + 1) ∧ ∀ (b : Bool) (H' : Hp), Ext s H H' → Src H' s a c → Q (.bl b) H'
end Z
namespace Z
open PySem L2
/-! ### own errors: raised, caught, asked -/
section
variable (P : Program) (w : World) (K : PySem.W.Frag) (mg : Str → Option Value) (base : Heap)
/-- a def that may raise, as callers use it -/
def CalX (x : Str) (ps : List Str) (k : Nat) (sp : Sp) : Prop := ∃ (f : Addr) (fd : FuncData), FnOk P w K mg base (L2.CX P w) k f fd ps sp ∧ mg x = some (.ref f) ∧ PySem.W.keepIn K (.ref f) = true ∧ Binds K fd ps []
end
/-- an own error class with an __init__ of its own (at fI) -/
structure XOk (K : PySem.W.Frag) (mg : Str → Option Value) (x : Str) (C : Addr) : Prop where
  g : mg x = some (.ref C)
  o : OexC K C
  e : ExcC K C
theorem XOk.xf {K : PySem.W.Frag} {mg : Str → Option Value} {x : Str} {C : Addr} (T : XOk K mg x C) : XfC K C := ⟨T.e.hg, T.e.hk, T.e.hs, T.e.hd⟩
/-- the class's __init__(self, f): self.f = f -/
def sp_init (K : PySem.W.Frag) (C : Addr) (f : Str) : Sp := fun vs H Q _ => ∃ (a : Addr) (v : V), vs = [.ref a, v] ∧ OexC K C ∧ PySem.W.findIn K (.ref C) f = some none ∧ H a = some (exo a C none) ∧
  ∀ dx, H dx = none → dx ≠ a → Q .non (upd (upd H dx (exd dx [(f, v)])) a (exo a C (some dx)))
/-- isinstance(e, c), e the caught error at a -/
def rIsX (K : PySem.W.Frag) (cls : Value) (d : Option Addr) (a : Addr) : List V → Hp → VK → Prop := fun xs H Q => ∃ (D dd : Addr) (c : V) (cv : Value) (b : Bool) (fs : List (Str × V)), cls = .ref D ∧ d = some dd ∧ ExcC K D ∧ xs = [.ref a, c] ∧ H dd = some (.xd fs) ∧ ClsV c cv ∧
  PySem.W.kitOne K cls cv = some b ∧ Q (.bl b) H
def rIsXT (K : PySem.W.Frag) (cls : Value) (d : Option Addr) (a : Addr) : List V → Hp → VK → Prop := fun xs H Q => ∃ (D dd tp : Addr) (cs : List V) (us : List Value) (b : Bool) (fs : List (Str × V)), cls = .ref D ∧ d = some dd ∧ ExcC K D ∧ xs = [.ref a, .ref tp] ∧ H dd = some (.xd fs) ∧
  H tp = some (.tup cs) ∧ Paired ClsV cs us ∧ PySem.W.kitAny K cls us = some b ∧ Q (.bl b) H
section
variable {X : Cx} {a : Addr} {oe : Obj} {cls : Value} {d : Option Addr} {pn : List (Addr × Obj)}
theorem inst_at {pins : List (Addr × Obj)} {σ : St} {H : Hp} {s : Shared} {D dd : Addr} {fs : List (Str × V)} (I : Inv (X.suite a ((a, oe) :: pn)) pins σ H s) (hz : Zc (.ref D) (some dd) oe) (hf : ∃ vs, oe.data = .fields vs) (hd : H dd = some (.xd fs)) :
    ∃ od, PySem.W.InstAt s.heap a oe D (some od) := by
  obtain ⟨hget, _⟩ := I.pin (a, oe) (List.mem_append.mpr (.inl List.mem_cons_self))
  obtain ⟨vs, hv⟩ := hf
  have hx : ObjOk X.prog X.w H s.heap dd (.xd fs) := I.hok dd _ hd
  obtain ⟨mA, hns, hr⟩ := hx
  obtain ⟨od, ho, hl⟩ := lookIn_ns hns
  exact ⟨od, ⟨hget, hz.1, by unfold PySem.W.notCls; rw [hv] <;> rfl, by rw [hz.2]; exact ho⟩⟩
theorem kitx_D {K : PySem.W.Frag} {D x : Addr} {ox : Obj} {od : Option Obj} (C : ExcC K D) : PySem.W.KitX K (.ref x) (.ref D) (fun h => PySem.W.InstAt h x ox D od) := by
  refine PySem.W.kitx_exc ?_ C.hg C.hk C.hs C.ha C.hn C.ht C.hm
  have h := C.hd
  obtain ⟨cd, hc, _⟩ := PySem.W.any_some h
  rw [hc]; rfl
theorem call_isX (hz : Zc cls d oe) (hf : ∃ vs, oe.data = .fields vs) : CallR (X.suite a ((a, oe) :: pn)) (.builtin "isinstance") (rIsX X.K cls d a) := by
  intro pins s σ H xs us Q I r h
  obtain ⟨D, dd, c, cv, b, fs, rfl, rfl, C, rfl, hd, k, e, q⟩ := h
  obtain ⟨u1, u2, rfl, r1, r2⟩ := vals2 r
  have e2 := k.eq r2
  subst e2
  obtain rfl : u1 = Value.ref a := r1
  obtain ⟨od, J⟩ := inst_at I hz hf hd
  exact PySem.W.kia_one (kitx_D C) I.kIn J e (fun z => nomatch z) fun tk => ⟨.bl b, H, I.kept (t' := tk) fun _ _ z => z, rfl, q⟩
theorem call_isXT (hz : Zc cls d oe) (hf : ∃ vs, oe.data = .fields vs) : CallR (X.suite a ((a, oe) :: pn)) (.builtin "isinstance") (rIsXT X.K cls d a) := by
  intro pins s σ H xs us Q I r h
  obtain ⟨D, dd, tp, cs, ws, b, fs, rfl, rfl, C, rfl, hd, hT, k, e, q⟩ := h
  obtain ⟨u1, u2, rfl, r1, r2⟩ := vals2 r
  obtain rfl : u2 = Value.ref tp := r2
  obtain rfl : u1 = Value.ref a := r1
  obtain ⟨od, J⟩ := inst_at I hz hf hd
  obtain ⟨_, its, rv, o, h1, h2, n, h3⟩ := (show ObjOk X.prog X.w H s.heap tp (.tup cs) from I.hok tp _ hT)
  have e3 := ClsV.all k rv
  subst e3
  obtain ⟨oc, od', dt, sl⟩ := o
  simp only at h2 h3
  subst h2 h3
  exact PySem.W.kia_tup (kitx_D C) I.kIn J h1 e (fun z => nomatch z) fun tk => ⟨.bl b, H, I.kept (t' := tk) fun _ _ z => z, rfl, q⟩
end
/-- the heap behind a made error -/
theorem made_same {H : Hp} {a dx : Addr} {o1 o2 o3 o4 : HO} (ha : H a = none) (hd : H dx = none) : Same H (upd (del (upd (upd (upd H a o1) dx o2) a o3) a) dx o4) := fun b u h => by
  rw [upd_ne (ne_of_none h hd), del_ne (ne_of_none h ha), upd_ne (ne_of_none h ha), upd_ne (ne_of_none h hd), upd_ne (ne_of_none h ha)]; exact h
/-- what a raised error tells: behind it all stands that stood -/
theorem paired1 {c : V} {u : Value} (k : ClsV c u) : Paired ClsV [c] [u] := .cons k .nil
end Z
namespace Z
open PySem L2 SX
open PySem.Builtin.Str (occurrences lastOccurrence subAt)
theorem at_one {x : Str} {c hi k : Nat} (h : hi ≤ (tl x).length) : StrLaws.At x (S [c]) hi k ↔ k < hi ∧ (tl x)[k]? = some c := by
  have e := StrLaws.subAt_one x c k
  have l1 : (S [c]).length = 1 := rfl
  unfold StrLaws.At
  constructor
  · rintro ⟨h1, h2⟩
    rw [l1] at h1
    refine ⟨by omega, e.mp ⟨?_, h2⟩⟩
    show k + 1 ≤ x.length
    rw [tl_len]; omega
  · rintro ⟨h1, h2⟩
    have h3 := e.mpr h2
    exact ⟨by rw [l1]; omega, h3.2⟩
theorem find_from (x : Str) (c : Nat) {i : Int} (h : 0 ≤ i) :
    (Txt.find3 x (S [c]) i = -1 ∧ ∀ k : Nat, i ≤ (k : Int) → (tl x)[k]? ≠ some c) ∨ ∃ k : Nat, Txt.find3 x (S [c]) i = (k : Int) ∧ i ≤ (k : Int) ∧ (tl x)[k]? = some c ∧ ∀ j : Nat, i ≤ (j : Int) → j < k → (tl x)[j]? ≠ some c := by
  obtain ⟨n, rfl⟩ := Int.eq_ofNat_of_zero_le h
  have hf : fromIndex x.length (n : Int) = n := by
    unfold fromIndex
    rw [if_neg (by omega), Int.max_eq_right (by omega)]; rfl
  unfold Txt.find3
  rw [hf, StrLaws.occ_eq]
  have hx : x.length = (tl x).length := tl_len x
  rcases StrLaws.occ_first x (S [c]) x.length 1 (Nat.le_refl _) (List.range' n (x.length + 1 - n)) n (fun i hi => (List.mem_range'_1.mp hi).1) with ⟨h0, hn⟩ | ⟨pre, a, post, e, h0, ha, hn⟩
  · refine .inl ⟨by rw [h0], fun k hk hc => ?_⟩
    have hlt := (List.getElem?_eq_some_iff.mp hc).1
    exact hn k (List.mem_range'_1.mpr ⟨by omega, by omega⟩) ((at_one (by omega)).mpr ⟨by omega, hc⟩)
  · have h1 := (at_one (by omega)).mp ha
    have hm : a ∈ List.range' n (x.length + 1 - n) := by rw [e]; simp
    refine .inr ⟨a, ?_, by have := (List.mem_range'_1.mp hm).1; omega, h1.2, fun j hj hl hc => ?_⟩
    · cases hq : (forIn (List.range' n (x.length + 1 - n)) ((#[] : Array Nat), n) (StrLaws.occBody x (S [c]) x.length 1)).run.fst.toList with
      | nil =>
        have : (forIn (List.range' n (x.length + 1 - n)) ((#[] : Array Nat), n) (StrLaws.occBody x (S [c]) x.length 1)).run.fst = #[] := Array.toList_eq_nil_iff.mp hq
        rw [this] at h0; simp at h0
      | cons b r =>
        have hb : (forIn (List.range' n (x.length + 1 - n)) ((#[] : Array Nat), n) (StrLaws.occBody x (S [c]) x.length 1)).run.fst[0]? = some b := by
          rw [← Array.getElem?_toList, hq]; rfl
        rw [hb] at h0
        cases h0; rfl
    · have hjm : j ∈ pre := by
        have hlt := (List.getElem?_eq_some_iff.mp hc).1
        have hjr : j ∈ List.range' n (x.length + 1 - n) := List.mem_range'_1.mpr ⟨by omega, by omega⟩
        have hp : (pre ++ a :: post).Pairwise (· < ·) := by rw [← e]; exact List.pairwise_lt_range'
        rw [e] at hjr
        rcases List.mem_append.mp hjr with q | q
        · exact q
        · rcases List.mem_cons.mp q with q | q
          · omega
          · have := (List.pairwise_cons.mp (List.pairwise_append.mp hp).2.1).1 j q
            omega
      exact hn j hjm ((at_one (by omega)).mpr ⟨by have := (List.getElem?_eq_some_iff.mp hc).1; omega, hc⟩)
theorem rfind_in (x : Str) (c : Nat) {i m : Int} (h : 0 ≤ i) (hm : 0 ≤ m) :
    (Txt.rfindIn x (S [c]) i m = -1 ∧ ∀ k : Nat, i ≤ (k : Int) → (k : Int) < m → (tl x)[k]? ≠ some c) ∨ ∃ k : Nat, Txt.rfindIn x (S [c]) i m = (k : Int) ∧ i ≤ (k : Int) ∧ (k : Int) < m ∧ (tl x)[k]? = some c ∧ ∀ j : Nat, k < j → (j : Int) < m → (tl x)[j]? ≠ some c := by
  obtain ⟨n, rfl⟩ := Int.eq_ofNat_of_zero_le h
  obtain ⟨e, rfl⟩ := Int.eq_ofNat_of_zero_le hm
  have hf : fromIndex x.length (n : Int) = n := by
    unfold fromIndex
    rw [if_neg (by omega), Int.max_eq_right (by omega)]; rfl
  have ht : toIndexW x.length (e : Int) = min e x.length := by
    unfold toIndexW
    rw [if_neg (by omega), Int.max_eq_right (by omega)]; rfl
  have hx : x.length = (tl x).length := tl_len x
  unfold Txt.rfindIn
  rw [hf, ht, StrLaws.last_eq]
  have key := StrLaws.last_run x (S [c]) (min e x.length) (List.range' n (min e x.length + 1 - n)) [] none (fun _ h => nomatch h) (fun _ h => nomatch h) List.pairwise_lt_range'
  rw [List.nil_append] at key
  cases hq : (forIn (List.range' n (min e x.length + 1 - n)) none (StrLaws.lastBody x (S [c]) (min e x.length))).run with
  | none =>
    rw [hq] at key
    refine .inl ⟨rfl, fun k hk hk2 hc => ?_⟩
    have hlt := (List.getElem?_eq_some_iff.mp hc).1
    exact key k (List.mem_range'_1.mpr ⟨by omega, by omega⟩) ((at_one (by omega)).mpr ⟨by omega, hc⟩)
  | some a =>
    rw [hq] at key
    obtain ⟨ha, hl⟩ := key
    have h1 := (at_one (by omega)).mp ha
    have hr : n ≤ a := by
      -- the last place is one of those that were looked at
      have : ∀ (l : List Nat) (st : Option Nat) (b : Nat), (forIn l st (StrLaws.lastBody x (S [c]) (min e x.length))).run = some b → st = some b ∨ b ∈ l := by
        intro l
        induction l with
        | nil => intro st b hb; exact .inl hb
        | cons d l ih =>
          intro st b hb
          rw [List.forIn_cons] at hb
          unfold StrLaws.lastBody at hb
          split at hb
          · rcases ih _ _ hb with q | q
            · exact .inr (by cases q; exact List.mem_cons_self)
            · exact .inr (List.mem_cons_of_mem _ q)
          · rcases ih _ _ hb with q | q
            · exact .inl q
            · exact .inr (List.mem_cons_of_mem _ q)
      rcases this _ _ _ hq with q | q
      · cases q
      · exact (List.mem_range'_1.mp q).1
    refine .inr ⟨a, rfl, by omega, by omega, h1.2, fun j hj hj2 hc => ?_⟩
    have hlt := (List.getElem?_eq_some_iff.mp hc).1
    exact hl j (List.mem_range'_1.mpr ⟨by omega, by omega⟩) hj ((at_one (by omega)).mpr ⟨by omega, hc⟩)

theorem tl_inj : ∀ {a b : List Str}, a.map tl = b.map tl → a = b
  | [], [], _ => rfl
  | [], _ :: _, h => by cases h
  | _ :: _, [], h => by cases h
  | x :: a, y :: b, h => by
    rw [List.map_cons, List.map_cons] at h
    obtain ⟨h1, h2⟩ := List.cons.inj h
    rw [tl_ext h1, tl_inj h2]
theorem DV.strsT {K : PySem.W.Frag} {H : Hp} {p : Addr} {xs : List Str} (h : SqT K H p (xs.map V.str)) : DV K H (.tup (xs.map D.str)) (.ref p) := by
  unfold DV
  exact ⟨p, _, rfl, h, DVs.strs xs⟩
end Z
namespace Z
open PySem L2 SX
/-! ### methods of own classes -/
section
variable (P : Program) (w : World) (K : PySem.W.Frag) (mg : Str → Option Value) (base : Heap)
/-- a method, with its promise -/
def CalM (C : Addr) (m : Str) (ps : List Str) (k : Nat) (sp : Sp) : Prop := ∃ (f : Addr) (fd : FuncData), FnOk P w K mg base CX0 k f fd ps sp ∧ Meth K C m f ∧ Binds K fd ps []
def CalI (C : Addr) (ps : List Str) (k : Nat) (sp : Sp) : Prop := ∃ (f : Addr) (fd : FuncData), FnOk P w K mg base CX0 k f fd ps sp ∧ Mk K C f ∧ Binds K fd ps []
def CalP (C : Addr) (m : Str) (ps : List Str) (k : Nat) (sp : Sp) : Prop := ∃ (p f : Addr) (fd : FuncData), FnOk P w K mg base CX0 k f fd ps sp ∧ PropOf K C m p f ∧ Binds K fd ps []
def DfM (C : Addr) (m q : Str) (st : Stmt) (ps : List Str) : Prop := ∃ (f : Addr) (fd : FuncData), Fun K m q st f fd ∧ Meth K C m f ∧ Binds K fd ps []
def DfI (C : Addr) (q : Str) (st : Stmt) (ps : List Str) : Prop := ∃ (f : Addr) (fd : FuncData), Fun K "__init__" q st f fd ∧ Mk K C f ∧ Binds K fd ps []
def DfP (C : Addr) (m q : Str) (st : Stmt) (ps : List Str) : Prop := ∃ (p f : Addr) (fd : FuncData), Fun K m q st f fd ∧ PropOf K C m p f ∧ Binds K fd ps []
end
/-- all but these stays -/
def ExtL (ms : List Addr) (H H' : Hp) : Prop := ∀ b o, b ∉ ms → H b = some o → H' b = some o
theorem ExtL.refl (ms : List Addr) (H : Hp) : ExtL ms H H := fun _ _ _ h => h
theorem ExtL.trans {ms : List Addr} {H H1 H2 : Hp} (a : ExtL ms H H1) (b : ExtL ms H1 H2) : ExtL ms H H2 := fun c o n h => b c o n (a c o n h)
theorem ExtL.of {ms : List Addr} {H H' : Hp} (a : Same H H') : ExtL ms H H' := fun c o _ h => a c o h
theorem ExtL.ofExt {ms : List Addr} {s : Addr} {H H' : Hp} (a : Ext s H H') (m : s ∈ ms) : ExtL ms H H' := fun c o n h => a c o (fun e => n (by rw [e]; exact m)) h
theorem ExtL.mono {ms ns : List Addr} {H H' : Hp} (a : ExtL ms H H') (m : ∀ x ∈ ms, x ∈ ns) : ExtL ns H H' := fun c o n h => a c o (fun e => n (m c e)) h
theorem ExtL.put {ms : List Addr} {p : Addr} {H : Hp} {o : HO} (m : p ∈ ms) : ExtL ms H (upd H p o) := fun c u n h => by
  rw [upd_ne (fun e => n (by rw [e]; exact m))]; exact h
theorem ExtL.new {ms : List Addr} {p : Addr} {H : Hp} {o : HO} (n : H p = none) : ExtL ms H (upd H p o) := ExtL.of (same_new n)
end Z
namespace Z
open PySem PySem.W PySem.Calls PyProof.Rows L2
/-! ### data, as the sorts and comparisons see it -/
mutual
def py : D → PyData
  | .non => .none
  | .bl b => .bool b
  | .int i => .int i
  | .str x => .str x
  | .tup xs => .tuple (pys xs)
def pys : List D → List PyData
  | [] => []
  | d :: ds => py d :: pys ds
end
theorem pys_map : ∀ ds : List D, pys ds = ds.map py
  | [] => by simp [pys]
  | d :: ds => by rw [pys, pys_map ds, List.map_cons]
section
variable {K : Frag} {H : Hp}
mutual
theorem DV.dp : ∀ {d : D} {v : V}, DV K H d v → Dp K H v (py d)
  | .non, _, h => by unfold DV at h; subst h; unfold py; exact .non
  | .bl b, _, h => by unfold DV at h; subst h; unfold py; exact .bl b
  | .int i, _, h => by unfold DV at h; subst h; unfold py; exact .int i
  | .str x, _, h => by unfold DV at h; subst h; unfold py; exact .str x
  | .tup ds, _, h => by
    unfold DV at h
    obtain ⟨a, vs, rfl, q, r⟩ := h
    unfold py
    exact .tup q (DVs.dpa r)
theorem DVs.dpa : ∀ {ds : List D} {vs : List V}, DVs K H ds vs → DpAll K H vs (pys ds)
  | [], _, h => by unfold DVs at h; subst h; unfold pys; exact .nil
  | d :: ds, _, h => by
    unfold DVs at h
    obtain ⟨v, r, rfl, q, t⟩ := h
    unfold pys
    exact .cons (DV.dp q) (DVs.dpa t)
end
end
mutual
theorem py_eqv : ∀ (d e : D), alike (py d) (py e) = true → (PyData.eqv (py d) (py e) = true ↔ d = e)
  | .non, .non, _ => by simp [py, PyData.eqv]
  | .bl b, .bl c, _ => by simp [py, PyData.eqv]
  | .int b, .int c, _ => by simp [py, PyData.eqv]
  | .str b, .str c, _ => by simp [py, PyData.eqv]
  | .tup xs, .tup ys, h => by
    have := pys_eqv xs ys (by simpa [py, alike] using h)
    simp only [py, PyData.eqv, D.tup.injEq]
    exact this
  | .non, .bl _, h | .non, .int _, h | .non, .str _, h | .non, .tup _, h => by simp [py, alike] at h
  | .bl _, .non, h | .bl _, .int _, h | .bl _, .str _, h | .bl _, .tup _, h => by simp [py, alike] at h
  | .int _, .non, h | .int _, .bl _, h | .int _, .str _, h | .int _, .tup _, h => by simp [py, alike] at h
  | .str _, .non, h | .str _, .bl _, h | .str _, .int _, h | .str _, .tup _, h => by simp [py, alike] at h
  | .tup _, .non, h | .tup _, .bl _, h | .tup _, .int _, h | .tup _, .str _, h => by simp [py, alike] at h
theorem pys_eqv : ∀ (d e : List D), alikeAll (pys d) (pys e) = true → (PyData.eqvAll (pys d) (pys e) = true ↔ d = e)
  | [], [], _ => by simp [pys, PyData.eqvAll]
  | [], y :: ys, _ => by simp [pys, PyData.eqvAll]
  | x :: xs, [], _ => by simp [pys, PyData.eqvAll]
  | x :: xs, y :: ys, h => by
    have h' : alike (py x) (py y) = true ∧ alikeAll (pys xs) (pys ys) = true := by simpa [pys, alikeAll] using h
    simp only [pys, PyData.eqvAll, Bool.and_eq_true, List.cons.injEq, py_eqv x y h'.1, pys_eqv xs ys h'.2]
end
/-- compared with another by == -/
def eqD (d e : D) : Bool := PyData.eqv (py d) (py e)
theorem eqD_iff {d e : D} (h : alike (py d) (py e) = true) : eqD d e = true ↔ d = e := py_eqv d e h
def Okd (d : D) : Prop := SeqAt.shaped (py d) = true
def Okl (ds : List D) : Prop := SeqAt.shaped (.list (pys ds)) = true
mutual
def fine : Nat → D → Bool
  | _, .non => true
  | _, .bl _ => true
  | _, .int _ => true
  | _, .str x => PyData.strOk x
  | 0, .tup _ => false
  | n + 1, .tup xs => fines n xs
def fines : Nat → List D → Bool
  | _, [] => true
  | n, d :: ds => fine n d && fines n ds
end
mutual
theorem fine_lay : ∀ {n : Nat} {d : D}, fine n d = true → (py d).canLay0 = true ∧ (py d).depth ≤ n
  | n, .non, _ => by simp [py, PyData.canLay0, PyData.depth]
  | n, .bl _, _ => by simp [py, PyData.canLay0, PyData.depth]
  | n, .int _, _ => by simp [py, PyData.canLay0, PyData.depth]
  | n, .str x, h => by
    have h' : PyData.strOk x = true := by cases n <;> simpa [fine] using h
    refine ⟨by simpa [py, PyData.canLay0] using h', by simp [py, PyData.depth]⟩
  | 0, .tup _, h => by simp [fine] at h
  | n + 1, .tup xs, h => by
    have h' := fines_lay (show fines n xs = true by simpa [fine] using h)
    refine ⟨by simpa [py, PyData.canLay0] using h'.1, ?_⟩
    simp only [py, PyData.depth]
    have := h'.2
    omega
theorem fines_lay : ∀ {n : Nat} {ds : List D}, fines n ds = true → PyData.canLayAll0 (pys ds) = true ∧ PyData.depthAll (pys ds) ≤ n
  | n, [], _ => by simp [pys, PyData.canLayAll0, PyData.depthAll]
  | n, d :: ds, h => by
    have h' : fine n d = true ∧ fines n ds = true := by simpa [fines] using h
    have h1 := fine_lay h'.1
    have h2 := fines_lay h'.2
    refine ⟨by simp [pys, PyData.canLayAll0, h1.1, h2.1], ?_⟩
    simp only [pys, PyData.depthAll]
    have := h1.2
    have := h2.2
    omega
end
theorem fine_ok {n : Nat} {d : D} (h : fine n d = true) (hn : n ≤ 60 := by decide) : Okd d := by
  have := fine_lay h
  unfold Okd SeqAt.shaped
  rw [this.1, decide_eq_true (by omega)]; rfl
theorem fines_ok {n : Nat} {ds : List D} (h : fines n ds = true) (hn : n ≤ 60 := by decide) : Okl ds := by
  have := fines_lay h
  unfold Okl SeqAt.shaped
  have e : (PyData.list (pys ds)).canLay0 = true := by simpa [PyData.canLay0] using this.1
  have f : (PyData.list (pys ds)).depth ≤ 64 := by simp only [PyData.depth]; omega
  rw [e, decide_eq_true f]; rfl
theorem fines_map {α : Type} {f : α → D} {n : Nat} : ∀ {l : List α}, (∀ x ∈ l, fine n (f x) = true) → fines n (l.map f) = true
  | [], _ => by simp [fines]
  | x :: l, h => by
    rw [List.map_cons, fines, h x (by simp), fines_map fun y m => h y (List.mem_cons_of_mem _ m)]; rfl
theorem fine_tup {n : Nat} {ds : List D} (h : fines n ds = true) : fine (n + 1) (.tup ds) = true := by simpa [fine] using h
theorem fine_low {n : Nat} {x : Str} (h : ∀ c ∈ tl x, c < 1114112) : fine n (.str x) = true := by
  have : PyData.strOk x = true := by
    unfold PyData.strOk
    rw [← Array.all_toList, List.all_eq_true]
    exact fun c m => decide_eq_true (h c m)
  cases n <;> simpa [fine] using this
theorem fines_cons {n : Nat} {d : D} {ds : List D} (h : fine n d = true) (t : fines n ds = true) : fines n (d :: ds) = true := by rw [fines, h, t]; rfl
theorem fines_nil {n : Nat} : fines n [] = true := by rw [fines]
theorem fine_int {n : Nat} {i : Int} : fine n (.int i) = true := by cases n <;> simp [fine]
theorem fine_non {n : Nat} : fine n .non = true := by cases n <;> simp [fine]
section
variable {X : Cx}
/-- == and != of data -/
def rEqDD (K : Frag) : R2 := fun x y H Q => ∃ d e, DV K H d x ∧ DV K H e y ∧ Okd d ∧ Okd e ∧ Q (.bl (eqD d e)) H
def rNeDD (K : Frag) : R2 := fun x y H Q => ∃ d e, DV K H d x ∧ DV K H e y ∧ Okd d ∧ Okd e ∧ Q (.bl (!eqD d e)) H
theorem op_eqDD (hu : X.A.units + 64 < cLine) : OpR X (compareOp .Eq) (rEqDD X.K) := by
  intro pins s σ H x y v u Q I rx ry h
  obtain ⟨d, e, hd, he, sd, se, q⟩ := h
  exact op_eqD hu pins s σ H x y v u Q I rx ry ⟨_, _, hd.dp, he.dp, sd, se, q⟩
theorem op_neDD (hu : X.A.units + 64 < cLine) : OpR X (compareOp .NotEq) (rNeDD X.K) := by
  intro pins s σ H x y v u Q I rx ry h
  obtain ⟨d, e, hd, he, sd, se, q⟩ := h
  exact op_neD hu pins s σ H x y v u Q I rx ry ⟨_, _, hd.dp, he.dp, sd, se, q⟩
/-- in and not in over a list of data -/
def rInDD (K : Frag) (neg : Bool) : R2 := fun x y H Q => ∃ (d : D) (a : Addr) (vs : List V) (ds : List D), DV K H d x ∧ y = .ref a ∧ SqL K H a vs ∧ DVs K H ds vs ∧ Okd d ∧ Okl ds ∧ Q (.bl (if neg then !ds.any (fun z => eqD z d) else ds.any fun z => eqD z d)) H
theorem any_pys (d : D) (ds : List D) : ((pys ds).any fun z => PyData.eqv z (py d)) = ds.any fun z => eqD z d := by
  rw [pys_map, List.any_map]; rfl
theorem op_inDD (hu : X.A.units + 65 < cLine) : OpR X (compareOp .In) (rInDD X.K false) := by
  intro pins s σ H x y v u Q I rx ry h
  obtain ⟨d, a, vs, ds, hd, rfl, hs, he, sd, se, q⟩ := h
  exact op_inD hu pins s σ H _ _ v u Q I rx ry ⟨_, _, hd.dp, .lst hs he.dpa, sd, se, by rw [any_pys]; exact q⟩
theorem op_notInDD (hu : X.A.units + 65 < cLine) : OpR X (compareOp .NotIn) (rInDD X.K true) := by
  intro pins s σ H x y v u Q I rx ry h
  obtain ⟨d, a, vs, ds, hd, rfl, hs, he, sd, se, q⟩ := h
  exact op_notInD hu pins s σ H _ _ v u Q I rx ry ⟨_, _, hd.dp, .lst hs he.dpa, sd, se, by rw [any_pys]; exact q⟩
theorem any_eqD {α : Type} {f : α → D} {d : α} {l : List α} (hf : ∀ x ∈ l, f x = f d → x = d) (h : ∀ x ∈ l, alike (py (f x)) (py (f d)) = true) : (l.map f).any (fun z => eqD z (f d)) = true ↔ d ∈ l := by
  rw [List.any_eq_true]
  constructor
  · rintro ⟨z, hz, e⟩
    obtain ⟨x, hx, rfl⟩ := List.mem_map.mp hz
    rw [← hf x hx ((eqD_iff (h x hx)).mp e)]; exact hx
  · intro m
    exact ⟨f d, List.mem_map_of_mem m, (eqD_iff (h d m)).mpr rfl⟩
/-- sorted(xs), xs a list of data -/
def dle {β : Type} (f : β → D) : β → β → Bool := dataLe false fun b => py (f b)
def rSortDD (K : Frag) : List V → Hp → VK → Prop := fun vs H Q => ∃ (a : Addr) (us : List V) (β : Type) (l : List β) (f : β → D), vs = [.ref a] ∧ SqL K H a us ∧ DVs K H (l.map f) us ∧ AllAlike (l.map fun b => py (f b)) ∧ Sortable (l.map fun b => py (f b)) ∧ (∀ b ∈ l, (py (f b)).depth ≤ 60) ∧
  ∀ (ys : List V) (p : Addr), H p = none → DVs K H ((l.mergeSort (dle f)).map f) ys → Q (.ref p) (upd H p (.lst ys))
theorem dvs_each {K : Frag} {H : Hp} {β : Type} {f : β → D} : ∀ {l : List β} {us : List V} {vs : List Value}, DVs K H (l.map f) us → Vals us vs → EachIs (fun u b => ∃ v, RelV v u ∧ DV K H (f b) v) vs l
  | [], _, _, h, r => by
    unfold List.map DVs at h; subst h; cases r; exact .nil
  | b :: l, _, _, h, r => by
    obtain ⟨v, t, rfl, q, h2⟩ := h
    cases r with
    | cons r1 r2 => exact .cons ⟨v, r1, q⟩ (dvs_each h2 r2)
theorem each_dvs {K : Frag} {H : Hp} {β : Type} {f : β → D} : ∀ {l : List β} {vs : List Value}, EachIs (fun u b => ∃ v, RelV v u ∧ DV K H (f b) v) vs l → ∃ us, DVs K H (l.map f) us ∧ Vals us vs
  | [], _, h => by cases h; exact ⟨[], by unfold List.map DVs; rfl, .nil⟩
  | b :: l, _, h => by
    cases h with
    | cons h1 h2 =>
      obtain ⟨v, r1, q⟩ := h1
      obtain ⟨us, d, r2⟩ := each_dvs h2
      exact ⟨v :: us, ⟨v, us, rfl, q, d⟩, .cons r1 r2⟩
theorem each_reads {pins : List (Addr × Obj)} {σ : L2.St} {H : Hp} {s : Shared} (I : Inv X pins σ H s) {β : Type} {f : β → D} {l : List β} {vs : List Value} (h : EachIs (fun u b => ∃ v, RelV v u ∧ DV X.K H (f b) v) vs l) :
    EachIs (fun u b => ∃ as, Reads s.heap u (py (f b)) as) vs l := h.mono fun u b ⟨v, r, q⟩ => Dp.reads I _ _ _ q.dp r
theorem vals_len : ∀ {us : List V} {vs : List Value}, Vals us vs → us.length = vs.length
  | _, _, .nil => rfl
  | _, _, .cons _ r => by rw [List.length_cons, List.length_cons, vals_len r]
theorem hu_big {n : Nat} (h : X.A.units + 65 < cLine) (k : n ≤ 60) : X.A.units + 2 + n < cLine := by omega
theorem cr_sortDD (hu : X.A.units + 65 < cLine) : CallR X (.builtin "sorted") (rSortDD X.K) := by
  intro pins s σ H vs us Q I r h
  obtain ⟨a, xs, β, l, f, rfl, hs, hd, hal, hsb, hdp, q⟩ := h
  obtain ⟨its, rv, hl, hz⟩ := I.list hs
  obtain ⟨u, rfl, ru⟩ := vals1 r
  obtain rfl : u = Value.ref a := ru
  have e := dvs_each hd rv
  have hlen := vals_len rv
  have hlen2 := e.length
  refine PySem.W.sorted_data (enc := fun b => py (f b)) hl.isList e (each_reads I e) hal hsb (by omega) (fun b m => hu_big hu (hdp b m)) fun out ho eo => ?_
  obtain ⟨ys, dy, ry⟩ := each_dvs eo
  have fr : H (s.heap.objs.size + 1) = none := I.hok.fresh (Nat.le_succ _)
  obtain ⟨n, hn⟩ := sortedAll_at s.heap its (List.toArray out)
  refine ⟨.ref _, upd H _ (.lst ys), I.laid (t' := s.toks) (fun b o g => sortedAll_old g) (Nat.le_succ _) ⟨?_, out, n, ry, hn⟩, rfl, q ys _ fr dy⟩
  rw [vals_len ry]; omega
/-- min(xs), max(xs) of data -/
def rMinDD (K : Frag) (mx : Bool) : List V → Hp → VK → Prop := fun vs H Q => ∃ (a : Addr) (us : List V) (β : Type) (l : List β) (f : β → D), vs = [.ref a] ∧ SqL K H a us ∧ DVs K H (l.map f) us ∧ AllAlike (l.map fun b => py (f b)) ∧ (∀ b ∈ l, f b ≠ .non) ∧ (∀ b ∈ l, (py (f b)).depth ≤ 60) ∧ l ≠ [] ∧
  ∀ (m : β) (v : V), m ∈ l → (∀ y ∈ l, (if mx then dataLt (py (f m)) (py (f y)) else dataLt (py (f y)) (py (f m))) = false) → DV K H (f m) v → Q v H
theorem depth_all {β : Type} {g : β → PyData} : ∀ {l : List β}, (∀ b ∈ l, (g b).depth ≤ 60) → PyData.depthAll (l.map g) ≤ 60
  | [], _ => by simp [PyData.depthAll]
  | b :: l, h => by
    have h1 := h b (by simp)
    have h2 := depth_all (l := l) fun c m => h c (List.mem_cons_of_mem _ m)
    rw [List.map_cons, PyData.depthAll]; omega
theorem lt_irr (x : PyData) : dataLt x x = false := lex_irrefl _
theorem minD_mem (x : PyData) : ∀ xs : List PyData, minD x xs ∈ x :: xs := by
  intro xs
  unfold minD
  suffices h : ∀ (xs : List PyData) (a : PyData) (L : List PyData), a ∈ L → (∀ y ∈ xs, y ∈ L) → xs.foldl (fun a y => if dataLt y a then y else a) a ∈ L from h xs x (x :: xs) (by simp) (fun y m => List.mem_cons_of_mem _ m)
  intro xs
  induction xs with
  | nil => intro a L h _; exact h
  | cons y ys ih =>
    intro a L h k
    rw [List.foldl_cons]
    refine ih _ L ?_ fun z m => k z (List.mem_cons_of_mem _ m)
    split
    · exact k y (by simp)
    · exact h
def pyLe (a b : PyData) : Bool := !dataLt b a
theorem pyLe_total : TotalLe pyLe := sortLe_total (listOrd itemOrd) false keyToks
theorem lt_of_pyLe {a b : PyData} (h : pyLe a b = true) : dataLt b a = false := by unfold pyLe at h; simpa using h
theorem pyLe_of {a b : PyData} (h : dataLt b a = false) : pyLe a b = true := by unfold pyLe; rw [h]; rfl
theorem pyLe_lt {a b : PyData} (h : dataLt a b = true) : pyLe a b = true := (pyLe_total.total a b).elim id fun k => by
  have := lt_of_pyLe k
  rw [this] at h; cases h
theorem minD_le : ∀ (xs : List PyData) (x : PyData), ∀ y ∈ x :: xs, pyLe (minD x xs) y = true := by
  intro xs
  suffices h : ∀ (xs : List PyData) (a : PyData) (L : List PyData), (∀ y ∈ L, pyLe a y = true) → ∀ y, y ∈ L ∨ y ∈ xs → pyLe (xs.foldl (fun a y => if dataLt y a then y else a) a) y = true from fun x y m => h xs x [x] (fun z m => by rw [List.mem_singleton.mp m]; exact pyLe_total.refl x) y (by
    rcases List.mem_cons.mp m with e | e
    · exact .inl (by rw [e]; simp)
    · exact .inr e)
  intro xs
  induction xs with
  | nil => intro a L h y m; exact h y (m.resolve_right (by simp))
  | cons z zs ih =>
    intro a L h y m
    rw [List.foldl_cons]
    refine ih _ (z :: L) ?_ y ?_
    · intro w mw
      by_cases c : dataLt z a = true
      · rw [if_pos c]
        rcases List.mem_cons.mp mw with e | e
        · rw [e]; exact pyLe_total.refl z
        · exact pyLe_total.trans _ _ _ (pyLe_lt c) (h w e)
      · rw [if_neg c]
        rcases List.mem_cons.mp mw with e | e
        · rw [e]; exact pyLe_of (by simpa using c)
        · exact h w e
    · rcases m with m | m
      · exact .inl (List.mem_cons_of_mem _ m)
      · rcases List.mem_cons.mp m with e | e
        · exact .inl (by rw [e]; simp)
        · exact .inr e
theorem maxD_mem (x : PyData) : ∀ xs : List PyData, maxD x xs ∈ x :: xs := by
  intro xs
  unfold maxD
  suffices h : ∀ (xs : List PyData) (a : PyData) (L : List PyData), a ∈ L → (∀ y ∈ xs, y ∈ L) → xs.foldl (fun a y => if dataLt a y then y else a) a ∈ L from h xs x (x :: xs) (by simp) (fun y m => List.mem_cons_of_mem _ m)
  intro xs
  induction xs with
  | nil => intro a L h _; exact h
  | cons y ys ih =>
    intro a L h k
    rw [List.foldl_cons]
    refine ih _ L ?_ fun z m => k z (List.mem_cons_of_mem _ m)
    split
    · exact k y (by simp)
    · exact h
theorem maxD_le : ∀ (xs : List PyData) (x : PyData), ∀ y ∈ x :: xs, pyLe y (maxD x xs) = true := by
  intro xs
  suffices h : ∀ (xs : List PyData) (a : PyData) (L : List PyData), (∀ y ∈ L, pyLe y a = true) → ∀ y, y ∈ L ∨ y ∈ xs → pyLe y (xs.foldl (fun a y => if dataLt a y then y else a) a) = true from fun x y m => h xs x [x] (fun z m => by rw [List.mem_singleton.mp m]; exact pyLe_total.refl x) y (by
    rcases List.mem_cons.mp m with e | e
    · exact .inl (by rw [e]; simp)
    · exact .inr e)
  intro xs
  induction xs with
  | nil => intro a L h y m; exact h y (m.resolve_right (by simp))
  | cons z zs ih =>
    intro a L h y m
    rw [List.foldl_cons]
    refine ih _ (z :: L) ?_ y ?_
    · intro w mw
      by_cases c : dataLt a z = true
      · rw [if_pos c]
        rcases List.mem_cons.mp mw with e | e
        · rw [e]; exact pyLe_total.refl z
        · exact pyLe_total.trans _ _ _ (h w e) (pyLe_lt c)
      · rw [if_neg c]
        rcases List.mem_cons.mp mw with e | e
        · rw [e]; exact pyLe_of (by simpa using c)
        · exact h w e
    · rcases m with m | m
      · exact .inl (List.mem_cons_of_mem _ m)
      · rcases List.mem_cons.mp m with e | e
        · exact .inl (by rw [e]; simp)
        · exact .inr e
theorem each_get {β : Type} {R : Value → β → Prop} : ∀ {vs : List Value} {l : List β} {i : Nat} {v : Value}, EachIs R vs l → vs[i]? = some v → ∃ b, l[i]? = some b ∧ R v b
  | _, _, _, _, .nil, h => by simp at h
  | _, _, 0, _, .cons h1 _, h => by cases (show some _ = some _ from h); exact ⟨_, rfl, h1⟩
  | _, _, i + 1, _, .cons _ t, h => each_get (i := i) t (by simpa using h)
theorem min_pick {pins : List (Addr × Obj)} {σ : L2.St} {H : Hp} {s : Shared} (I : Inv X pins σ H s) {β : Type} {l : List β} {f : β → D} {its : List Value} (e : EachIs (fun u b => ∃ v, RelV v u ∧ DV X.K H (f b) v) its l) (hal : AllAlike (l.map fun b => py (f b))) {i : Nat} {v : Value} {h' : Heap} {m : PyData} {bs : List Addr}
    (hv : its[i]? = some v) (hr : Reads h' v m bs) (kp : ∀ b o, s.heap.get? b = some o → h'.get? b = some o) (hm : m ∈ l.map fun b => py (f b)) : ∃ b w, b ∈ l ∧ RelV w v ∧ DV X.K H (f b) w ∧ py (f b) = m := by
  obtain ⟨b, hb, w, rw', dw⟩ := each_get e hv
  have mb := List.mem_of_getElem? hb
  obtain ⟨as, r1⟩ := Dp.reads I _ _ _ dw.dp rw'
  have r2 : Reads h' v (py (f b)) as := PyProof.Rows.Reads.keeps kp r1
  exact ⟨b, w, mb, rw', dw, alike_unique _ _ _ _ _ (hal _ (List.mem_map_of_mem mb) _ hm) r2 hr⟩
theorem cr_minDD (hu : X.A.units + 65 < cLine) (hc : X.calm = true) : CallR X (.builtin "min") (rMinDD X.K false) := by
  intro pins s σ H vs us Q I r h
  obtain ⟨a, xs, β, l, f, rfl, hs, hd, hal, hnn, hdp, hne, q⟩ := h
  obtain ⟨its, rv, hl, hz⟩ := I.list hs
  obtain ⟨u, rfl, ru⟩ := vals1 r
  obtain rfl : u = Value.ref a := ru
  have e := dvs_each hd rv
  obtain ⟨b0, l', rfl⟩ : ∃ b0 l', l = b0 :: l' := by
    cases l with
    | nil => exact absurd rfl hne
    | cons b r => exact ⟨b, r, rfl⟩
  obtain ⟨as, hra⟩ := Dp.readsAll I _ _ _ hd.dpa rv
  have ep : pys ((b0 :: l').map f) = py (f b0) :: l'.map (fun b => py (f b)) := by rw [pys_map, List.map_map]; rfl
  rw [ep] at hra
  have hal' : AllAlike (py (f b0) :: l'.map (fun b => py (f b))) := hal
  refine min_list_data (I.ok.hd hc) hl.isList (vs := its.toArray) (by simpa using hra) ⟨fun x mx y my => hal' x mx y my, fun x mx => ?_⟩ ?_ fun i v h' tk bs hv hr kp => ?_
  · obtain ⟨b, hb, rfl⟩ := List.mem_map.mp (show x ∈ (b0 :: l').map (fun b => py (f b)) from mx)
    intro e0
    refine hnn b hb ?_
    cases hf : f b with
    | non => rfl
    | _ => rw [hf] at e0; simp [py] at e0
  · have := depth_all hdp
    rw [List.map_cons] at this
    omega
  · obtain ⟨b, w, mb, rw', dw, em⟩ := min_pick I e hal (by simpa using hv) hr kp (minD_mem _ _)
    refine ⟨w, H, I.kept kp, rw', q b w mb (fun y my => ?_) dw⟩
    have := minD_le (l'.map fun b => py (f b)) (py (f b0)) (py (f y)) (List.mem_map_of_mem (f := fun b => py (f b)) my)
    rw [← em] at this
    exact lt_of_pyLe this
theorem cr_maxDD (hu : X.A.units + 65 < cLine) (hc : X.calm = true) : CallR X (.builtin "max") (rMinDD X.K true) := by
  intro pins s σ H vs us Q I r h
  obtain ⟨a, xs, β, l, f, rfl, hs, hd, hal, hnn, hdp, hne, q⟩ := h
  obtain ⟨its, rv, hl, hz⟩ := I.list hs
  obtain ⟨u, rfl, ru⟩ := vals1 r
  obtain rfl : u = Value.ref a := ru
  have e := dvs_each hd rv
  obtain ⟨b0, l', rfl⟩ : ∃ b0 l', l = b0 :: l' := by
    cases l with
    | nil => exact absurd rfl hne
    | cons b r => exact ⟨b, r, rfl⟩
  obtain ⟨as, hra⟩ := Dp.readsAll I _ _ _ hd.dpa rv
  have ep : pys ((b0 :: l').map f) = py (f b0) :: l'.map (fun b => py (f b)) := by rw [pys_map, List.map_map]; rfl
  rw [ep] at hra
  have hal' : AllAlike (py (f b0) :: l'.map (fun b => py (f b))) := hal
  refine max_list_data (I.ok.hd hc) hl.isList (vs := its.toArray) (by simpa using hra) ⟨fun x mx y my => hal' x mx y my, fun x mx => ?_⟩ ?_ fun i v h' tk bs hv hr kp => ?_
  · obtain ⟨b, hb, rfl⟩ := List.mem_map.mp (show x ∈ (b0 :: l').map (fun b => py (f b)) from mx)
    intro e0
    refine hnn b hb ?_
    cases hf : f b with
    | non => rfl
    | _ => rw [hf] at e0; simp [py] at e0
  · have := depth_all hdp
    rw [List.map_cons] at this
    omega
  · obtain ⟨b, w, mb, rw', dw, em⟩ := min_pick I e hal (by simpa using hv) hr kp (maxD_mem _ _)
    refine ⟨w, H, I.kept kp, rw', q b w mb (fun y my => ?_) dw⟩
    have := maxD_le (l'.map fun b => py (f b)) (py (f b0)) (py (f y)) (List.mem_map_of_mem (f := fun b => py (f b)) my)
    rw [← em] at this
    exact lt_of_pyLe this
/-- what a sorted list of data is -/
theorem dle_total {β : Type} (f : β → D) : TotalLe (dle f) := sortLe_total (listOrd itemOrd) false fun b => keyToks (py (f b))
theorem sort_perm {β : Type} (f : β → D) (l : List β) : (l.mergeSort (dle f)).Perm l := List.mergeSort_perm l _
theorem sort_pw {β : Type} (f : β → D) (l : List β) : (l.mergeSort (dle f)).Pairwise fun a b => dle f a b = true := sort_pairwise (dle_total f) l
theorem dle_str {β : Type} {f : β → Str} {a b : β} : dle (fun b => D.str (f b)) a b = !decide (tl (f b) < tl (f a)) := by
  show (!dataLt (py (.str (f b))) (py (.str (f a)))) = _
  rw [py, py, dataLt_str]
/-- the same, the written part named -/
theorem op_eqDDQ {K : Frag} (h : X.K = K) (hu : X.A.units + 65 < cLine) : OpR X (compareOp .Eq) (rEqDD K) := by subst h; exact op_eqDD (by omega)
theorem op_neDDQ {K : Frag} (h : X.K = K) (hu : X.A.units + 65 < cLine) : OpR X (compareOp .NotEq) (rNeDD K) := by subst h; exact op_neDD (by omega)
theorem op_inDDQ {K : Frag} (h : X.K = K) (hu : X.A.units + 65 < cLine) : OpR X (compareOp .In) (rInDD K false) := by subst h; exact op_inDD hu
theorem op_notInDDQ {K : Frag} (h : X.K = K) (hu : X.A.units + 65 < cLine) : OpR X (compareOp .NotIn) (rInDD K true) := by subst h; exact op_notInDD hu
theorem cr_sortDDQ {K : Frag} (h : X.K = K) (hu : X.A.units + 65 < cLine) : CallR X (.builtin "sorted") (rSortDD K) := by subst h; exact cr_sortDD hu
theorem cr_minDDQ {K : Frag} (h : X.K = K) (hu : X.A.units + 65 < cLine) (hc : X.calm = true) : CallR X (.builtin "min") (rMinDD K false) := by subst h; exact cr_minDD hu hc
theorem cr_maxDDQ {K : Frag} (h : X.K = K) (hu : X.A.units + 65 < cLine) (hc : X.calm = true) : CallR X (.builtin "max") (rMinDD K true) := by subst h; exact cr_maxDD hu hc
theorem aa_of {β : Type} {f : β → D} {l : List β} (h : ∀ b c, alike (py (f b)) (py (f c)) = true) : AllAlike (l.map fun b => py (f b)) := AllAlike.of h
theorem aa_str {β : Type} {f : β → Str} {l : List β} : AllAlike (l.map fun b => py (.str (f b))) := aa_of fun _ _ => by simp [py, alike]
theorem aa_int {β : Type} {f : β → Int} {l : List β} : AllAlike (l.map fun b => py (.int (f b))) := aa_of fun _ _ => by simp [py, alike]
theorem so_str {β : Type} {f : β → Str} {l : List β} : Sortable (l.map fun b => py (.str (f b))) := Sortable.others fun b => ⟨by simp [py], fun _ => by simp [py]⟩
theorem so_tup {β : Type} {f : β → D} {l : List β} (h : ∀ b, ∃ x r, f b = .tup (x :: r)) : Sortable (l.map fun b => py (f b)) := Sortable.tuples fun b => by
  obtain ⟨x, r, e⟩ := h b
  exact ⟨py x, pys r, by rw [e, py, pys]⟩
theorem lt_of_dl {x y : Str} (h : (if false = true then dataLt (py (.str y)) (py (.str x)) else dataLt (py (.str x)) (py (.str y))) = false) : ¬ tl x < tl y := by
  simp only [Bool.false_eq_true, if_false, py] at h
  rw [dataLt_str] at h
  exact of_decide_eq_false h
theorem room65 {k : Nat} {A : Around} (r : Room k A) : A.units + 65 < cLine := by have := r.un; omega
end
end Z
namespace Z
open PySem PySem.W PySem.Calls PyProof.Rows L2
/-! ### sorted of whatever can be collected, dicts among them -/
section
variable {prog : Program} {w : World} {A : Around} {E : Value → Shared → Prop} {s : Shared}
theorem each_ix {β : Type} {R : Value → β → Prop} : ∀ {vs : List Value} {bs : List β}, EachIs R vs bs → EachIs (fun v b => ∃ j : Nat, vs[j]? = some v ∧ bs[j]? = some b) vs bs
  | _, _, .nil => .nil
  | _, _, .cons h t => .cons ⟨0, rfl, rfl⟩ ((each_ix t).mono fun v b ⟨j, h1, h2⟩ => ⟨j + 1, h1, h2⟩)
theorem sorted_by {x : Value} {β : Type} {enc : β → PyData} {bs : List β} {C : Heap → List Value → Prop} {Q : Value → Shared → Prop}
    (hcol : ∀ {R' : List Value → Shared → Prop}, (∀ (h' : Heap) (tk : Nat) (vs : List Value), (∀ b o, s.heap.get? b = some o → h'.get? b = some o) → C h' vs → R' vs { s with heap := h', toks := tk }) → wpAny (model prog w) A.in1 (collect x) R' E s)
    (hC : ∀ h' vs, C h' vs → EachIs (fun v b => ∃ as, Reads h' v (enc b) as) vs bs)
    (hal : AllAlike (bs.map enc)) (hk : Sortable (bs.map enc)) (hL : bs.length ≤ sizeLine) (hu : ∀ b ∈ bs, A.units + 2 + (enc b).depth < cLine)
    (h : ∀ (h1 h' : Heap) (tk : Nat) (a : Addr) (vs out : List Value) (n : Nat), C h1 vs → (∀ b o, s.heap.get? b = some o → h1.get? b = some o) → (∀ b o, h1.get? b = some o → h'.get? b = some o) → h1.objs.size = a → h'.get? a = some (seqObj "list" out.toArray n) → out.length = bs.length →
      EachIs (fun v b => ∃ j : Nat, vs[j]? = some v ∧ bs[j]? = some b) out (bs.mergeSort (dataLe false enc)) → Q (.ref a) { s with heap := h', toks := tk }) :
    wpAny (model prog w) A (call (.builtin "sorted") [x]) Q E s := by
  refine call_function_entry kind_sorted plain_sorted entry_sorted (args_sorted1 _) ?_
  unfold Builtin.«sorted»
  refine wpAny_bind (m := checkCount "sorted" 1 1 _) (wpAny_pure ?_)
  refine wpAny_bind (hcol fun h1 tk vs kp hc => ?_)
  have er := hC h1 vs hc
  have el := er.length
  refine wpAny_bind (wpAny_newList ?_ (by omega))
  have ho : (h1.push { cls := .type "list", data := .seq vs.toArray }).get? h1.objs.size = some (seqObj "list" vs.toArray 0) := Heap.get?_push_size _ rfl
  have old : ∀ b o, h1.get? b = some o → (h1.push { cls := .type "list", data := .seq vs.toArray }).get? b = some o := fun b o e => Heap.get?_push_of_some _ e
  refine wpAny_bind (wpAny_holding (wpAny_mono (PySem.W.list_sort_data (A := A.in1) (enc := enc) (s := { s with heap := h1.push { cls := .type "list", data := .seq vs.toArray }, toks := tk }) ho (each_ix er) ?_ hal hk hL (fun b m => hu b m) fun out lo eo => ?_) (fun _ s' x => x) fun _ _ e => e))
  · refine er.mono fun v b ⟨as, r⟩ => ?_
    exact ⟨as, PyProof.Rows.Reads.keeps old r, fun m => by
      obtain ⟨o, ho⟩ := PyProof.On.reads_mem_get r _ m
      exact absurd (Heap.lt_size ho) (Nat.lt_irrefl _)⟩
  · obtain ⟨n, hn⟩ := sortedHeap_at (h := h1.push { cls := .type "list", data := .seq vs.toArray }) (out := List.toArray out) ho
    refine wpAny_pure ⟨_, rfl, h h1 _ _ _ vs out n hc kp (fun b o e => ?_) rfl hn lo eo⟩
    have lt := Heap.lt_size e
    rw [sortedHeap_old (Nat.ne_of_lt lt) (by rw [size_push']; exact Nat.lt_succ_of_lt lt)]
    exact old b o e
end
/-! ### keys, values and items of dicts, sorted -/
def kD : Key → D
  | .inl i => .int i
  | .inr x => .str x
theorem kD_dv {K : Frag} {H : Hp} : ∀ k : Key, DV K H (kD k) (kV k)
  | .inl i => by unfold kD; unfold DV; rfl
  | .inr x => by unfold kD; unfold DV; rfl
theorem kD_dvs {K : Frag} {H : Hp} : ∀ l : List Key, DVs K H (l.map kD) (l.map kV)
  | [] => by unfold List.map DVs; rfl
  | k :: l => ⟨_, _, rfl, kD_dv k, kD_dvs l⟩
theorem dvs_kD {K : Frag} {H : Hp} : ∀ {l : List Key} {ys : List V}, DVs K H (l.map kD) ys → ys = l.map kV
  | [], _, h => by unfold List.map DVs at h; exact h
  | .inl i :: l, _, h => by
    obtain ⟨v, r, rfl, q, t⟩ := h
    unfold kD DV at q
    rw [q, dvs_kD t]; rfl
  | .inr i :: l, _, h => by
    obtain ⟨v, r, rfl, q, t⟩ := h
    unfold kD DV at q
    rw [q, dvs_kD t]; rfl
theorem so_key {l : List Key} : Sortable (l.map fun k => py (kD k)) := Sortable.others fun k => by
  cases k with
  | inl i => exact ⟨by simp [kD, py], fun _ => by simp [kD, py]⟩
  | inr x => exact ⟨by simp [kD, py], fun _ => by simp [kD, py]⟩
theorem each_of_ix {β : Type} {R : Value → β → Prop} : ∀ {vs : List Value} {bs : List β}, vs.length = bs.length → (∀ (i : Nat) (v : Value) (b : β), vs[i]? = some v → bs[i]? = some b → R v b) → EachIs R vs bs
  | [], [], _, _ => .nil
  | [], _ :: _, h, _ => by simp at h
  | _ :: _, [], h, _ => by simp at h
  | v :: vs, b :: bs, h, k => .cons (k 0 v b rfl rfl) (each_of_ix (by simpa using h) fun i v' b' h1 h2 => k (i + 1) v' b' h1 h2)
theorem vals_of_each {β : Type} {R : Value → β → Prop} {f : β → V} : ∀ {out : List Value} {l : List β}, EachIs R out l → (∀ v b, R v b → RelV (f b) v) → Vals (l.map f) out
  | _, _, .nil, _ => .nil
  | _, _, .cons h t, k => .cons (k _ _ h) (vals_of_each t k)
theorem pair_get {α β : Type} {F : α → β → Prop} : ∀ {l₁ : List α} {l₂ : List β} {j : Nat} {x : α}, Paired F l₁ l₂ → l₁[j]? = some x → ∃ y, l₂[j]? = some y ∧ F x y
  | _, _, _, _, .nil, h => by simp at h
  | _, _, 0, _, .cons a _, h => by cases (show some _ = some _ from h); exact ⟨_, rfl, a⟩
  | _, _, j + 1, _, .cons _ t, h => pair_get (j := j) t (by simpa using h)
theorem kV_rel {P : Program} {w : World} {k : Key} {u : Value} (h : (mixKind P w).is k u = true) : RelV (kV k) u := by
  rcases keyIs_shape h with ⟨i, t, e1, e2⟩ | ⟨x, t, e1, e2⟩
  · subst e1; subst e2; exact ⟨t, rfl⟩
  · subst e1; subst e2; exact ⟨t, rfl⟩
theorem Dp.reads0 {h : Heap} (k : Key) {u : Value} (r : RelV (kV k) u) : ∃ as, Reads h u (py (kD k)) as := by
  cases k with
  | inl i => obtain ⟨t, e⟩ := (show ∃ t, u = Value.int i t from r); subst e; exact ⟨_, by unfold kD py; exact Reads.int i t⟩
  | inr x => obtain ⟨t, e⟩ := (show ∃ t, u = Value.str x t from r); subst e; exact ⟨_, by unfold kD py; exact Reads.str x t⟩
theorem no_get {h h' : Heap} (k : ∀ b o, h.get? b = some o → h'.get? b = some o) : h.get? h'.objs.size = none := by
  cases e : h.get? h'.objs.size with
  | none => rfl
  | some o => exact absurd (Heap.lt_size (k _ _ e)) (Nat.lt_irrefl _)
section
variable {X : Cx}
/-- what stands in the entries -/
theorem kv_raw {H : Hp} {h : Heap} {a : Addr} {kvs : List (Key × V)} (ok : HOk X.prog X.w H h) (e : H a = some (.dK kvs)) : kvs.length ≤ sizeLine ∧ (a == sysModules) = false ∧ ∃ es ep, h.DictRaw a es ep ∧ es.size = kvs.length ∧
    ∀ i (hi : i < es.size) k v, kvs[i]? = some (k, v) → RelV (kV k) es[i].key ∧ RelV v es[i].val := by
  obtain ⟨z, hd, vs, rel, dd⟩ := dk_of ok e
  obtain ⟨es, ep, hr, hs, he⟩ := dd.raw
  have hl : kvs.length = vs.length := Paired.length rel
  refine ⟨z, hd, es, ep, hr, by omega, fun i hi k v hk => ?_⟩
  obtain ⟨⟨k', u⟩, hp, h1, h2⟩ := pair_get rel hk
  have h1' : k = k' := h1
  subst h1'
  obtain ⟨q1, q2⟩ := he i hi k u hp
  exact ⟨kV_rel q1, by rw [q2]; exact h2⟩
def rSortKeys : List V → Hp → VK → Prop := fun vs H Q => ∃ (a : Addr) (kvs : List (Key × V)), vs = [.ref a] ∧ H a = some (.dK kvs) ∧ AllAlike ((kvs.map (·.1)).map fun k => py (kD k)) ∧
  ∀ p, H p = none → Q (.ref p) (upd H p (.lst (((kvs.map (·.1)).mergeSort (dle kD)).map kV)))
theorem cr_sortKeys (hu : X.A.units + 65 < cLine) (hc : X.calm = true) : CallR X (.builtin "sorted") rSortKeys := by
  intro pins s σ H vs us Q I r h
  obtain ⟨a, kvs, rfl, ha, hal, q⟩ := h
  obtain ⟨u, rfl, ru⟩ := vals1 r
  obtain rfl : u = Value.ref a := ru
  obtain ⟨z, lo, es, ep, hr, hs, he⟩ := kv_raw I.hok ha
  have hh : X.A.handled = none := I.ok.hd hc
  refine sorted_by (enc := fun k => py (kD k)) (bs := kvs.map (·.1)) (C := fun h' vs => (∀ b o, s.heap.get? b = some o → h'.get? b = some o) ∧ EachIs (fun u k => RelV (kV k) u) vs (kvs.map (·.1)))
    (fun {R'} k => kdu_collect (KdlSrc.rawDict (prog := X.prog) (w := X.w) lo) hh hr (by omega) fun h' tk acc kp hI => k h' tk acc.toList kp ⟨kp, each_of_ix (by rw [Array.length_toList, hI.1, List.length_map, hs]) fun i v k hv hk => ?_⟩)
    (fun h' vs c => c.2.mono fun u k ru => Dp.reads0 k ru) hal so_key (by rw [List.length_map]; exact z) (fun k _ => by
      have : (py (kD k)).depth = 0 := by cases k <;> simp [kD, py, PyData.depth]
      rw [this]; exact hu_big hu (by decide)) fun h1 h' tk b vs out n c kp1 kp2 eb hb lo' eo => ?_
  · rw [Array.getElem?_toList] at hv
    obtain ⟨hi, rfl⟩ := hI.2 i v hv
    rw [List.getElem?_map] at hk
    cases hk' : kvs[i]? with
    | none => rw [hk'] at hk; cases hk
    | some p =>
      rw [hk'] at hk
      obtain rfl := Option.some.inj hk
      exact (he i hi p.1 p.2 hk').1
  · have ng : s.heap.get? b = none := by rw [← eb]; exact no_get kp1
    have fr : H b = none := I.hok.gone ng
    have vo : Vals (((kvs.map (·.1)).mergeSort (dle kD)).map kV) out := vals_of_each eo fun v k ⟨j, h1, h2⟩ => by
      obtain ⟨k', hk', rk⟩ := each_get c.2 h1
      rw [h2] at hk'
      obtain rfl := Option.some.inj hk'
      exact rk
    refine ⟨.ref b, upd H b (.lst _), I.laidN (t' := tk) (fun b o g => kp2 b o (kp1 b o g)) ng fr ⟨?_, out, n, vo, hb⟩, rfl, q b fr⟩
    rw [vals_len vo, lo', List.length_map]; exact z
/-- the view d.values() at p -/
def valuesO (p d : Addr) : HO := .ext fun h => h.IsValuesView p d
theorem valuesO_ok {P : Program} {w : World} {H : Hp} {h : Heap} {p d : Addr} (e : h.get? p = some { cls := .type "dict_values", data := .fields #[.ref d] }) : ObjOk P w H h p (valuesO p d) :=
  ⟨⟨_, e, rfl, rfl⟩, ⟨_, e⟩, fun h1 h2 x k => let ⟨o, ho, r⟩ := x; ⟨o, k o ho, r⟩⟩
def rValuesK : V → List V → Hp → VK → Prop := fun x xs H Q => ∃ (a : Addr) (kvs : List (Key × V)), x = .ref a ∧ xs = [] ∧ H a = some (.dK kvs) ∧ ∀ p, H p = none → Q (.ref p) (upd H p (valuesO p a))
def rItemsK : V → List V → Hp → VK → Prop := fun x xs H Q => ∃ (a : Addr) (kvs : List (Key × V)), x = .ref a ∧ xs = [] ∧ H a = some (.dK kvs) ∧ ∀ p, H p = none → Q (.ref p) (upd H p (L2.DX.itemsO p a))
theorem mt_itemsK : MtR X "dict.items" rItemsK := by
  intro pins s σ H x xs v us Q I rx rxs h
  obtain ⟨a, kvs, rfl, rfl, ha, q⟩ := h
  cases rx
  cases rxs
  obtain ⟨z, hd, es, ep, hr, hs, he⟩ := kv_raw I.hok ha
  refine DT.callItems (es := es) (ep := ep) hd hr ?_
  have hf : H s.heap.objs.size = none := I.hok.fresh (Nat.le_refl _)
  exact ⟨.ref s.heap.objs.size, upd H s.heap.objs.size (L2.DX.itemsO s.heap.objs.size a), I.laid (t' := s.toks) (fun b u e => Heap.get?_push_of_some _ e) (Nat.le_refl _) (L2.DX.itemsO_ok (Heap.get?_push_size _ rfl)), rfl, q _ hf⟩
/-- sorted of such a view -/
def rSortVals (K : Frag) : List V → Hp → VK → Prop := fun vs H Q => ∃ (p a : Addr) (kvs : List (Key × V)) (β : Type) (l : List β) (f : β → D), vs = [.ref p] ∧ H p = some (valuesO p a) ∧ H a = some (.dK kvs) ∧ DVs K H (l.map f) (kvs.map (·.2)) ∧ AllAlike (l.map fun b => py (f b)) ∧ PySem.W.Sortable (l.map fun b => py (f b)) ∧ (∀ b ∈ l, (py (f b)).depth ≤ 60) ∧
  ∀ (ys : List V) (r : Addr), H r = none → DVs K H ((l.mergeSort (dle f)).map f) ys → Q (.ref r) (upd H r (.lst ys))
theorem cr_sortVals (hu : X.A.units + 65 < cLine) (hc : X.calm = true) : CallR X (.builtin "sorted") (rSortVals X.K) := by
  intro pins s σ H vs us Q I r h
  obtain ⟨p, a, kvs, β, l, f, rfl, hp, ha, hd, hal, hsb, hdp, q⟩ := h
  obtain ⟨u, rfl, ru⟩ := vals1 r
  obtain rfl : u = Value.ref p := ru
  have view : s.heap.IsValuesView p a := (show ObjOk X.prog X.w H s.heap p (valuesO p a) from I.hok p _ hp).1
  obtain ⟨z, lo, es, ep, hr, hs, he⟩ := kv_raw I.hok ha
  have hh : X.A.handled = none := I.ok.hd hc
  have ll : l.length = kvs.length := by have := hd.len; rw [List.length_map, List.length_map] at this; omega
  have dv : ∀ (i : Nat) (b : β) (k : Key) (v : V), l[i]? = some b → kvs[i]? = some (k, v) → DV X.K H (f b) v := fun i b k v hb hk => by
    obtain ⟨v', hv', d⟩ := hd.get (i := i) (d := f b) (by rw [List.getElem?_map, hb]; rfl)
    rw [List.getElem?_map, hk] at hv'
    obtain rfl := Option.some.inj hv'
    exact d
  refine sorted_by (enc := fun b => py (f b)) (bs := l) (C := fun h' vs => (∀ b o, s.heap.get? b = some o → h'.get? b = some o) ∧ EachIs (fun u b => ∃ v, RelV v u ∧ DV X.K H (f b) v) vs l)
    (fun {R'} k => kdu_collect (KdlSrc.rawValues (prog := X.prog) (w := X.w)) hh ⟨view, hr⟩ (by omega) fun h' tk acc kp hI => k h' tk acc.toList kp ⟨kp, each_of_ix (by rw [Array.length_toList, hI.1, ll, hs]) fun i v b hv hb => ?_⟩)
    (fun h' vs c => c.2.mono fun u b ⟨v, rv, d⟩ => by
      obtain ⟨as, rr⟩ := Dp.reads I _ _ _ d.dp rv
      exact ⟨as, PyProof.Rows.Reads.keeps c.1 rr⟩) hal hsb (by omega) (fun b m => hu_big hu (hdp b m)) fun h1 h' tk b vs out n c kp1 kp2 eb hb lo' eo => ?_
  · rw [Array.getElem?_toList] at hv
    obtain ⟨hi, rfl⟩ := hI.2 i v hv
    obtain ⟨⟨k, v⟩, hk⟩ : ∃ p, kvs[i]? = some p := ⟨_, List.getElem?_eq_getElem (by omega)⟩
    exact ⟨v, (he i hi k v hk).2, dv i b k v hb hk⟩
  · have ng : s.heap.get? b = none := by rw [← eb]; exact no_get kp1
    have fr : H b = none := I.hok.gone ng
    have eo2 : EachIs (fun u b => ∃ v, RelV v u ∧ DV X.K H (f b) v) out (l.mergeSort (dle f)) := eo.mono fun v k ⟨j, h1, h2⟩ => by
      obtain ⟨k', hk', rk⟩ := each_get c.2 h1
      rw [h2] at hk'
      obtain rfl := Option.some.inj hk'
      exact rk
    obtain ⟨ys, dy, ry⟩ := each_dvs eo2
    refine ⟨.ref b, upd H b (.lst ys), I.laidN (t' := tk) (fun b o g => kp2 b o (kp1 b o g)) ng fr ⟨?_, out, n, ry, hb⟩, rfl, q ys b fr dy⟩
    rw [vals_len ry, lo', ll]; exact z
/-- d.update(e) -/
def rUpdK : V → List V → Hp → VK → Prop := fun x xs H Q => ∃ (a b : Addr) (kvs more : List (Key × V)), x = .ref a ∧ xs = [.ref b] ∧ a ≠ b ∧ H a = some (.dK kvs) ∧ H b = some (.dK more) ∧ kvs.length + more.length ≤ sizeLine ∧ Q .non (upd H a (.dK (mergeK kvs more)))
theorem mt_updK : MtR X "dict.update" rUpdK := by
  intro pins s σ H x xs v us Q I rx rxs h
  obtain ⟨a, b, kvs, more, rfl, rfl, ab, ha, hb, hz, q⟩ := h
  cases rx
  obtain ⟨u, rfl, ru⟩ := rxs.one
  cases ru
  obtain ⟨z, hd, vs, rel, dd⟩ := dk_of I.hok ha
  obtain ⟨z', hd', vs', rel', dd'⟩ := dk_of I.hok hb
  refine call_meetsIn PySem.F.slot_dict_update dd.typeIs PySem.F.entry_dict_update (PySem.F.args_dict_update_2 _ _) (meets_dict_update (mixKind X.prog X.w) a b ab hd')
    ⟨vs, vs', dd, dd', by rw [← rel.length, ← rel'.length]; exact hz, fun h' d1 d2 hs => ⟨.non, _, ?_, rfl, q⟩⟩
  have he : ∃ q, h'.get? a = some q := let ⟨q, _, _, hq, _⟩ := d1; ⟨q, hq⟩
  exact d_write I (by rw [ha]; exact True.intro) hs he (dk_new (Nat.le_trans (length_mergeK _ _) hz) hd (KV.merge rel' rel) d1)
theorem mt_valuesK : MtR X "dict.values" rValuesK := by
  intro pins s σ H x xs v us Q I rx rxs h
  obtain ⟨a, kvs, rfl, rfl, ha, q⟩ := h
  cases rx
  cases rxs
  obtain ⟨z, hd, es, ep, hr, hs, he⟩ := kv_raw I.hok ha
  have hf : H s.heap.objs.size = none := I.hok.fresh (Nat.le_refl _)
  refine call_meetsIn PySem.F.slot_dict_values hr.typeIs PySem.F.entry_dict_values (PySem.F.args_dict_values_1 _) (meets_dict_values_raw (prog := X.prog) (w := X.w) a hd) ⟨⟨es, ep, hr⟩, ?_⟩
  exact ⟨.ref s.heap.objs.size, upd H s.heap.objs.size (valuesO s.heap.objs.size a), I.laid (t' := s.toks) (fun b u e => Heap.get?_push_of_some _ e) (Nat.le_refl _) (valuesO_ok (Heap.get?_push_size _ rfl)), rfl, q _ hf⟩
end
section
variable {prog : Program} {w : World} {A : Around} {E : Value → Shared → Prop} {s : Shared}
theorem bestX (bt : Nat → Nat → Bool) : (bt 1 0 = false ∧ argBest bt 1 = 0) ∨ (bt 1 0 = true ∧ argBest bt 1 = 1) := by
  by_cases h : bt 1 (argBest bt 0) = true
  · exact .inr ⟨h, if_pos h⟩
  · exact .inl ⟨Bool.eq_false_iff.mpr h, if_neg h⟩
/-- the larger one -/
theorem max_strX {x y : Str} {t u : Tok} {Q : Value → Shared → Prop} (calm : A.handled = none)
    (h : ∀ (hp : Heap) (tk : Nat), (∀ b o, s.heap.get? b = some o → hp.get? b = some o) → Q (if decide (tl x < tl y) = true then .str y u else .str x t) { s with heap := hp, toks := tk }) : wpAny (model prog w) A (call (.builtin "max") [.str x t, .str y u]) Q E s := by
  have tp : (s.heap.push { cls := .type "tuple", data := .seq #[.str x t, .str y u] }).IsTuple s.heap.objs.size #[.str x t, .str y u] := ⟨_, Heap.get?_push_size _ rfl, rfl, 0, rfl⟩
  have z1 : (s.heap.push { cls := .type "tuple", data := .seq #[.str x t, .str y u] }).objs.size = s.heap.objs.size + 1 := Heap.size_push ..
  refine call_max_two (wpAny_pyIter_tuple tp ?_)
  refine ⟨_, [_, s.heap.objs.size], [_], _, _, _, fun i j => decide ((if j = 0 then x else y).cps.toList < (if i = 0 then x else y).cps.toList), rfl, Walks.tuple (A := A.in1) calm _ s.heap.objs.size (by rw [z1]; exact Nat.ne_of_lt (Nat.lt_succ_self _)) #[.str x t, .str y u], ⟨⟨_, Heap.get?_push_size _ rfl, rfl, rfl⟩, tp.push _⟩, fun b hb => ?_, by simp, fun i j vi vj s1 Q1 E1 gi gj q => ?_, fun v hp tk hv kp => ?_⟩
  · show b < ((s.heap.push _).push _).objs.size
    rw [Heap.size_push]
    simp only [List.mem_cons, List.not_mem_nil, or_false] at hb
    rcases hb with e | e <;> subst e
    · exact Nat.lt_succ_self _
    · rw [z1]; exact Nat.lt_succ_of_lt (Nat.lt_succ_self _)
  · have pick : ∀ {k : Nat} {v : Value}, (#[Value.str x t, Value.str y u])[k]? = some v → ∃ tt, v = .str (if k = 0 then x else y) tt := fun {k v} g => by
      match k, g with
      | 0, g => exact ⟨t, (Option.some.inj g).symm⟩
      | 1, g => exact ⟨u, (Option.some.inj g).symm⟩
      | k + 2, g => simp at g
    obtain ⟨ti, rfl⟩ := pick gi
    obtain ⟨tj, rfl⟩ := pick gj
    exact PySem.P.gt_str q
  · have old : ∀ b o, s.heap.get? b = some o → hp.get? b = some o := fun b o g => by
      refine kp b o (fun m => ?_) (Heap.get?_push_of_some _ (Heap.get?_push_of_some _ g))
      have lt := Heap.lt_size g
      rw [List.mem_singleton.mp m, z1] at lt
      exact absurd lt (Nat.not_lt_of_lt (Nat.lt_succ_self _))
    have hv' : (#[Value.str x t, Value.str y u])[argBest (fun i j => decide ((if j = 0 then x else y).cps.toList < (if i = 0 then x else y).cps.toList)) 1]? = some v := hv
    rcases bestX (fun i j => decide ((if j = 0 then x else y).cps.toList < (if i = 0 then x else y).cps.toList)) with ⟨e0, e⟩ | ⟨e0, e⟩
    · rw [e] at hv'
      have ev : Value.str x t = v := Option.some.inj hv'
      have := h hp tk old
      have e1 : (decide (tl x < tl y)) = false := e0
      rw [e1] at this
      rw [← ev]; exact this
    · rw [e] at hv'
      have ev : Value.str y u = v := Option.some.inj hv'
      have := h hp tk old
      have e1 : (decide (tl x < tl y)) = true := e0
      rw [e1] at this
      rw [← ev]; exact this
theorem min_strX {x y : Str} {t u : Tok} {Q : Value → Shared → Prop} (calm : A.handled = none)
    (h : ∀ (hp : Heap) (tk : Nat), (∀ b o, s.heap.get? b = some o → hp.get? b = some o) → Q (if decide (tl y < tl x) = true then .str y u else .str x t) { s with heap := hp, toks := tk }) : wpAny (model prog w) A (call (.builtin "min") [.str x t, .str y u]) Q E s := by
  have tp : (s.heap.push { cls := .type "tuple", data := .seq #[.str x t, .str y u] }).IsTuple s.heap.objs.size #[.str x t, .str y u] := ⟨_, Heap.get?_push_size _ rfl, rfl, 0, rfl⟩
  have z1 : (s.heap.push { cls := .type "tuple", data := .seq #[.str x t, .str y u] }).objs.size = s.heap.objs.size + 1 := Heap.size_push ..
  refine call_min_two (wpAny_pyIter_tuple tp ?_)
  refine ⟨_, [_, s.heap.objs.size], [_], _, _, _, fun i j => decide ((if i = 0 then x else y).cps.toList < (if j = 0 then x else y).cps.toList), rfl, Walks.tuple (A := A.in1) calm _ s.heap.objs.size (by rw [z1]; exact Nat.ne_of_lt (Nat.lt_succ_self _)) #[.str x t, .str y u], ⟨⟨_, Heap.get?_push_size _ rfl, rfl, rfl⟩, tp.push _⟩, fun b hb => ?_, by simp, fun i j vi vj s1 Q1 E1 gi gj q => ?_, fun v hp tk hv kp => ?_⟩
  · show b < ((s.heap.push _).push _).objs.size
    rw [Heap.size_push]
    simp only [List.mem_cons, List.not_mem_nil, or_false] at hb
    rcases hb with e | e <;> subst e
    · exact Nat.lt_succ_self _
    · rw [z1]; exact Nat.lt_succ_of_lt (Nat.lt_succ_self _)
  · have pick : ∀ {k : Nat} {v : Value}, (#[Value.str x t, Value.str y u])[k]? = some v → ∃ tt, v = .str (if k = 0 then x else y) tt := fun {k v} g => by
      match k, g with
      | 0, g => exact ⟨t, (Option.some.inj g).symm⟩
      | 1, g => exact ⟨u, (Option.some.inj g).symm⟩
      | k + 2, g => simp at g
    obtain ⟨ti, rfl⟩ := pick gi
    obtain ⟨tj, rfl⟩ := pick gj
    exact PySem.P.lt_str q
  · have old : ∀ b o, s.heap.get? b = some o → hp.get? b = some o := fun b o g => by
      refine kp b o (fun m => ?_) (Heap.get?_push_of_some _ (Heap.get?_push_of_some _ g))
      have lt := Heap.lt_size g
      rw [List.mem_singleton.mp m, z1] at lt
      exact absurd lt (Nat.not_lt_of_lt (Nat.lt_succ_self _))
    have hv' : (#[Value.str x t, Value.str y u])[argBest (fun i j => decide ((if i = 0 then x else y).cps.toList < (if j = 0 then x else y).cps.toList)) 1]? = some v := hv
    rcases bestX (fun i j => decide ((if i = 0 then x else y).cps.toList < (if j = 0 then x else y).cps.toList)) with ⟨e0, e⟩ | ⟨e0, e⟩
    · rw [e] at hv'
      have ev : Value.str x t = v := Option.some.inj hv'
      have := h hp tk old
      have e1 : (decide (tl y < tl x)) = false := e0
      rw [e1] at this
      rw [← ev]; exact this
    · rw [e] at hv'
      have ev : Value.str y u = v := Option.some.inj hv'
      have := h hp tk old
      have e1 : (decide (tl y < tl x)) = true := e0
      rw [e1] at this
      rw [← ev]; exact this
end
section
variable {X : Cx}
def minP (x y : Str) : Str := if decide (tl y < tl x) = true then y else x
def maxP (x y : Str) : Str := if decide (tl x < tl y) = true then y else x
theorem call_maxX (hc : X.calm = true) : CallR X (.builtin "max") (fun xs H Q => ∃ x y : Str, xs = [.str x, .str y] ∧ Q (.str (maxP x y)) H) := by
  intro pins s σ H xs us Q I r h
  obtain ⟨x, y, rfl, q⟩ := h
  obtain ⟨u, w', rfl, ⟨t, rfl⟩, ⟨t', rfl⟩⟩ := vals2 r
  refine max_strX (I.ok.hd hc) fun hp tk old => ?_
  refine ⟨.str (maxP x y), H, I.kept old, ?_, q⟩
  unfold maxP
  split
  · exact ⟨t', rfl⟩
  · exact ⟨t, rfl⟩
theorem call_minX (hc : X.calm = true) : CallR X (.builtin "min") (fun xs H Q => ∃ x y : Str, xs = [.str x, .str y] ∧ Q (.str (minP x y)) H) := by
  intro pins s σ H xs us Q I r h
  obtain ⟨x, y, rfl, q⟩ := h
  obtain ⟨u, w', rfl, ⟨t, rfl⟩, ⟨t', rfl⟩⟩ := vals2 r
  refine min_strX (I.ok.hd hc) fun hp tk old => ?_
  refine ⟨.str (minP x y), H, I.kept old, ?_, q⟩
  unfold minP
  split
  · exact ⟨t', rfl⟩
  · exact ⟨t, rfl⟩
end
end Z
namespace Z
open PySem PySem.W PySem.Calls PyProof.Rows L2
/-! ### values of a dict with tuple keys -/
section
variable {X : Cx}
/-- what stands in the entries of a dict with tuple keys -/
theorem kt_raw {H : Hp} {h : Heap} {a : Addr} {kvs : List (List Key × V)} (ok : HOk X.prog X.w H h) (e : H a = some (.dT kvs)) : kvs.length ≤ sizeLine ∧ (a == sysModules) = false ∧ ∃ es ep, h.DictRaw a es ep ∧ es.size = kvs.length ∧
    ∀ i (hi : i < es.size) k v, kvs[i]? = some (k, v) → (∃ b, es[i].key = .ref b ∧ H b = some (.tup (k.map kV))) ∧ RelV v es[i].val := by
  obtain ⟨z, hd, xs, rel, o, es, ep, ho, hx, hdat, hes, his, hn⟩ := dt_of ok e
  have hs : es.size = kvs.length := by rw [size_of_entries hes, Paired.length rel]
  refine ⟨z, hd, es, ep, ⟨o, ho, hx, hdat⟩, hs, fun i hi k v hk => ?_⟩
  obtain ⟨x, hp, h1, h2, h3⟩ := pair_get rel hk
  have he := entry_at hes i
  rw [hp, Array.getElem?_eq_getElem hi] at he
  have he' : es[i] = entryOfKey (tupleKind (mixKind X.prog X.w)) x := Option.some.inj he
  rw [he']
  exact ⟨⟨x.2.1, rfl, h2⟩, h3⟩
def rValuesT : V → List V → Hp → VK → Prop := fun x xs H Q => ∃ (a : Addr) (kvs : List (List Key × V)), x = .ref a ∧ xs = [] ∧ H a = some (.dT kvs) ∧ ∀ p, H p = none → Q (.ref p) (upd H p (valuesO p a))
theorem mt_valuesT : MtR X "dict.values" rValuesT := by
  intro pins s σ H x xs v us Q I rx rxs h
  obtain ⟨a, kvs, rfl, rfl, ha, q⟩ := h
  cases rx
  cases rxs
  obtain ⟨z, hd, es, ep, hr, hs, he⟩ := kt_raw I.hok ha
  have hf : H s.heap.objs.size = none := I.hok.fresh (Nat.le_refl _)
  refine call_meetsIn PySem.F.slot_dict_values hr.typeIs PySem.F.entry_dict_values (PySem.F.args_dict_values_1 _) (meets_dict_values_raw (prog := X.prog) (w := X.w) a hd) ⟨⟨es, ep, hr⟩, ?_⟩
  exact ⟨.ref s.heap.objs.size, upd H s.heap.objs.size (valuesO s.heap.objs.size a), I.laid (t' := s.toks) (fun b u e => Heap.get?_push_of_some _ e) (Nat.le_refl _) (valuesO_ok (Heap.get?_push_size _ rfl)), rfl, q _ hf⟩
/-- list of such a view -/
def rListValsT : List V → Hp → VK → Prop := fun xs H Q => ∃ (p a : Addr) (kvs : List (List Key × V)), xs = [.ref p] ∧ H p = some (valuesO p a) ∧ H a = some (.dT kvs) ∧ ∀ r, H r = none → Q (.ref r) (upd H r (.lst (kvs.map (·.2))))
theorem cr_listValsT (hc : X.calm = true) : CallR X (.type "list") rListValsT := by
  intro pins s σ H xs us Q I r h
  obtain ⟨p, a, kvs, rfl, hp, ha, q⟩ := h
  obtain ⟨u, rfl, ru⟩ := vals1 r
  obtain rfl : u = Value.ref p := ru
  have view : s.heap.IsValuesView p a := (show ObjOk X.prog X.w H s.heap p (valuesO p a) from I.hok p _ hp).1
  obtain ⟨z, lo, es, ep, hr, hs, he⟩ := kt_raw I.hok ha
  have hh : X.A.handled = none := I.ok.hd hc
  refine kdl_call (KdlSrc.rawValues (prog := X.prog) (w := X.w)) hh ⟨view, hr⟩ (by omega) fun h' tk acc c kp hg hI => ?_
  have fr : H s.heap.objs.size = none := I.hok.fresh (Nat.le_refl _)
  have vo : Vals (kvs.map (·.2)) acc.toList := by
    refine vals_of_each (R := fun v (kv : List Key × V) => RelV kv.2 v) (f := fun kv => kv.2) (each_of_ix (by rw [Array.length_toList, hI.1, hs]) fun i v b hv hb => ?_) fun v b h => h
    rw [Array.getElem?_toList] at hv
    obtain ⟨hi, rfl⟩ := hI.2 i v hv
    exact (he i hi b.1 b.2 hb).2
  refine ⟨.ref s.heap.objs.size, upd H s.heap.objs.size (.lst (kvs.map (·.2))), I.laid (t' := tk) kp (Nat.le_refl _) ⟨?_, acc.toList, c, vo, by rw [Array.toArray_toList]; exact hg⟩, rfl, q _ fr⟩
  rw [List.length_map]; exact z
end
end Z
namespace Z
open PySem L2 SX
def top (i : Nat) : Stmt := PySem.Challenge.pw_criermoot_k71_whole_index.main.body.getD i (.Pass ⟨0, 0, 0, 0⟩)
abbrev s_split_address : Stmt := top 3
abbrev N_split_address : List Str := ["address", "person", "_", "place"]
theorem sc_split_address : FnScope ["address", "person", "_", "place"] ["address"] (defScope s_split_address) := ⟨rfl, rfl, rfl, by decide +kernel, rfl, by decide +kernel, by decide +kernel⟩
abbrev s_words_of : Stmt := top 4
abbrev N_words_of : List Str := ["row", "words", "word", "sign"]
theorem sc_words_of : FnScope ["row", "words", "word", "sign"] ["row"] (defScope s_words_of) := ⟨rfl, rfl, rfl, by decide +kernel, rfl, by decide +kernel, by decide +kernel⟩
abbrev s_is_from : Stmt := top 6
abbrev N_is_from : List Str := ["person", "place", "author", "own_person", "own_place"]
theorem sc_is_from : FnScope ["person", "place", "author", "own_person", "own_place"] ["person", "place", "author"] (defScope s_is_from) := ⟨rfl, rfl, rfl, by decide +kernel, rfl, by decide +kernel, by decide +kernel⟩
abbrev s_texts_in : Stmt := top 8
abbrev N_texts_in : List Str := ["part", "found", "inner"]
theorem sc_texts_in : FnScope ["part", "found", "inner"] ["part"] (defScope s_texts_in) := ⟨rfl, rfl, rfl, by decide +kernel, rfl, by decide +kernel, by decide +kernel⟩
abbrev s_rows_of_words : Stmt := top 9
abbrev N_rows_of_words : List Str := ["notice", "rows", "part", "row"]
theorem sc_rows_of_words : FnScope ["notice", "rows", "part", "row"] ["notice"] (defScope s_rows_of_words) := ⟨rfl, rfl, rfl, by decide +kernel, rfl, by decide +kernel, by decide +kernel⟩
abbrev s_is_near : Stmt := top 10
abbrev N_is_near : List Str := ["words", "name", "other", "most", "place", "word", "ahead"]
theorem sc_is_near : FnScope ["words", "name", "other", "most", "place", "word", "ahead"] ["words", "name", "other", "most"] (defScope s_is_near) := ⟨rfl, rfl, rfl, by decide +kernel, rfl, by decide +kernel, by decide +kernel⟩
abbrev s_fits_basic : Stmt := top 11
abbrev N_fits_basic : List Str := ["query", "notice", "rows", "word", "words"]
theorem sc_fits_basic : FnScope ["query", "notice", "rows", "word", "words"] ["query", "notice", "rows"] (defScope s_fits_basic) := ⟨rfl, rfl, rfl, by decide +kernel, rfl, by decide +kernel, by decide +kernel⟩
abbrev s_fits_rows : Stmt := top 12
abbrev N_fits_rows : List Str := ["query", "notice", "rows", "word"]
theorem sc_fits_rows : FnScope ["query", "notice", "rows", "word"] ["query", "notice", "rows"] (defScope s_fits_rows) := ⟨rfl, rfl, rfl, by decide +kernel, rfl, by decide +kernel, by decide +kernel⟩
abbrev s_Index____init__ : Stmt := inClass (top 13) 0
abbrev N_Index____init__ : List Str := ["self"]
theorem sc_Index____init__ : FnScope ["self"] ["self"] (defScope s_Index____init__) := ⟨rfl, rfl, rfl, by decide +kernel, rfl, by decide +kernel, by decide +kernel⟩
abbrev s_Index__put : Stmt := inClass (top 13) 1
abbrev N_Index__put : List Str := ["self", "notice"]
theorem sc_Index__put : FnScope ["self", "notice"] ["self", "notice"] (defScope s_Index__put) := ⟨rfl, rfl, rfl, by decide +kernel, rfl, by decide +kernel, by decide +kernel⟩
abbrev s_Index__drop : Stmt := inClass (top 13) 2
abbrev N_Index__drop : List Str := ["self", "id"]
theorem sc_Index__drop : FnScope ["self", "id"] ["self", "id"] (defScope s_Index__drop) := ⟨rfl, rfl, rfl, by decide +kernel, rfl, by decide +kernel, by decide +kernel⟩
abbrev s_Index__found : Stmt := inClass (top 13) 3
abbrev N_Index__found : List Str := ["self", "query", "entries", "places", "notice", "rows", "_", "id"]
theorem sc_Index__found : FnScope ["self", "query", "entries", "places", "notice", "rows", "_", "id"] ["self", "query"] (defScope s_Index__found) := ⟨rfl, rfl, rfl, by decide +kernel, rfl, by decide +kernel, by decide +kernel⟩
abbrev s__law_mix : Stmt := top 15
abbrev N__law_mix : List Str := ["seed", "turn", "number"]
theorem sc__law_mix : FnScope ["seed", "turn", "number"] ["seed", "turn"] (defScope s__law_mix) := ⟨rfl, rfl, rfl, by decide +kernel, rfl, by decide +kernel, by decide +kernel⟩
abbrev s__law_source : Stmt := top 16
abbrev N__law_source : List Str := ["script", "seed", "k"]
theorem sc__law_source : FnScope ["script", "seed", "k"] ["script"] (defScope s__law_source) := ⟨rfl, rfl, rfl, by decide +kernel, rfl, by decide +kernel, by decide +kernel⟩
abbrev s__law_draw : Stmt := top 17
abbrev N__law_draw : List Str := ["source", "many", "cell", "value"]
theorem sc__law_draw : FnScope ["source", "many", "cell", "value"] ["source", "many"] (defScope s__law_draw) := ⟨rfl, rfl, rfl, by decide +kernel, rfl, by decide +kernel, by decide +kernel⟩
abbrev s__law_pick : Stmt := top 18
abbrev N__law_pick : List Str := ["source", "row"]
theorem sc__law_pick : FnScope ["source", "row"] ["source", "row"] (defScope s__law_pick) := ⟨rfl, rfl, rfl, by decide +kernel, rfl, by decide +kernel, by decide +kernel⟩
abbrev s__law_new_name : Stmt := top 19
abbrev N__law_new_name : List Str := ["source", "used", "letters", "size", "name", "k", "tried"]
theorem sc__law_new_name : FnScope ["source", "used", "letters", "size", "name", "k", "tried"] ["source", "used"] (defScope s__law_new_name) := ⟨rfl, rfl, rfl, by decide +kernel, rfl, by decide +kernel, by decide +kernel⟩
abbrev s__law_names : Stmt := top 20
abbrev N__law_names : List Str := ["source", "many", "used", "k"]
theorem sc__law_names : FnScope ["source", "many", "used", "k"] ["source", "many"] (defScope s__law_names) := ⟨rfl, rfl, rfl, by decide +kernel, rfl, by decide +kernel, by decide +kernel⟩
abbrev s__law_words : Stmt := top 21
abbrev N__law_words : List Str := ["source"]
theorem sc__law_words : FnScope ["source"] ["source"] (defScope s__law_words) := ⟨rfl, rfl, rfl, by decide +kernel, rfl, by decide +kernel, by decide +kernel⟩
abbrev s__law_board : Stmt := top 22
abbrev N__law_board : List Str := ["source", "words", "size", "k"]
theorem sc__law_board : FnScope ["source", "words", "size", "k"] ["source", "words"] (defScope s__law_board) := ⟨rfl, rfl, rfl, by decide +kernel, rfl, by decide +kernel, by decide +kernel⟩
abbrev s__law_boards : Stmt := top 23
abbrev N__law_boards : List Str := ["source", "words", "most", "found", "k", "board"]
theorem sc__law_boards : FnScope ["source", "words", "most", "found", "k", "board"] ["source", "words", "most"] (defScope s__law_boards) := ⟨rfl, rfl, rfl, by decide +kernel, rfl, by decide +kernel, by decide +kernel⟩
abbrev s__law_is_int : Stmt := top 24
abbrev N__law_is_int : List Str := ["value"]
theorem sc__law_is_int : FnScope ["value"] ["value"] (defScope s__law_is_int) := ⟨rfl, rfl, rfl, by decide +kernel, rfl, by decide +kernel, by decide +kernel⟩
abbrev s__law_same : Stmt := top 25
abbrev N__law_same : List Str := ["actual", "due", "k"]
theorem sc__law_same : FnScope ["actual", "due", "k"] ["actual", "due"] (defScope s__law_same) := ⟨rfl, rfl, rfl, by decide +kernel, rfl, by decide +kernel, by decide +kernel⟩
abbrev s__law_words_in : Stmt := top 26
abbrev N__law_words_in : List Str := ["row", "found", "word", "sign"]
theorem sc__law_words_in : FnScope ["row", "found", "word", "sign"] ["row"] (defScope s__law_words_in) := ⟨rfl, rfl, rfl, by decide +kernel, rfl, by decide +kernel, by decide +kernel⟩
abbrev s__law_phrase : Stmt := top 27
abbrev N__law_phrase : List Str := ["source", "words", "most", "text", "k", "word"]
theorem sc__law_phrase : FnScope ["source", "words", "most", "text", "k", "word"] ["source", "words", "most"] (defScope s__law_phrase) := ⟨rfl, rfl, rfl, by decide +kernel, rfl, by decide +kernel, by decide +kernel⟩
abbrev s__law_searched_body : Stmt := top 28
abbrev N__law_searched_body : List Str := ["source", "words", "rows", "first", "way", "k", "sign"]
theorem sc__law_searched_body : FnScope ["source", "words", "rows", "first", "way", "k", "sign"] ["source", "words"] (defScope s__law_searched_body) := ⟨rfl, rfl, rfl, by decide +kernel, rfl, by decide +kernel, by decide +kernel⟩
abbrev s__law_pool : Stmt := top 29
abbrev N__law_pool : List Str := ["source", "words", "names", "idents", "k", "pool", "ident", "author", "date", "kind", "first"]
theorem sc__law_pool : FnScope ["source", "words", "names", "idents", "k", "pool", "ident", "author", "date", "kind", "first"] ["source", "words", "names"] (defScope s__law_pool) := ⟨rfl, rfl, rfl, by decide +kernel, rfl, by decide +kernel, by decide +kernel⟩
abbrev s__law_rows_in : Stmt := top 30
abbrev N__law_rows_in : List Str := ["part", "rows", "one"]
theorem sc__law_rows_in : FnScope ["part", "rows", "one"] ["part"] (defScope s__law_rows_in) := ⟨rfl, rfl, rfl, by decide +kernel, rfl, by decide +kernel, by decide +kernel⟩
abbrev s__law_split : Stmt := top 31
abbrev N__law_split : List Str := ["notice", "row"]
theorem sc__law_split : FnScope ["notice", "row"] ["notice"] (defScope s__law_split) := ⟨rfl, rfl, rfl, by decide +kernel, rfl, by decide +kernel, by decide +kernel⟩
abbrev s__law_apart : Stmt := top 32
abbrev N__law_apart : List Str := ["rows", "one", "other", "most", "row", "k", "j"]
theorem sc__law_apart : FnScope ["rows", "one", "other", "most", "row", "k", "j"] ["rows", "one", "other", "most"] (defScope s__law_apart) := ⟨rfl, rfl, rfl, by decide +kernel, rfl, by decide +kernel, by decide +kernel⟩
abbrev s__law_query_fits : Stmt := top 33
abbrev N__law_query_fits : List Str := ["query", "notice", "rows", "word", "parts", "row"]
theorem sc__law_query_fits : FnScope ["query", "notice", "rows", "word", "parts", "row"] ["query", "notice", "rows"] (defScope s__law_query_fits) := ⟨rfl, rfl, rfl, by decide +kernel, rfl, by decide +kernel, by decide +kernel⟩
abbrev s__law_leaves : Stmt := top 34
abbrev N__law_leaves : List Str := ["source", "words", "names", "leaves", "k", "one", "person", "name"]
theorem sc__law_leaves : FnScope ["source", "words", "names", "leaves", "k", "one", "person", "name"] ["source", "words", "names"] (defScope s__law_leaves) := ⟨rfl, rfl, rfl, by decide +kernel, rfl, by decide +kernel, by decide +kernel⟩
abbrev s__law_tree : Stmt := top 35
abbrev N__law_tree : List Str := ["source", "leaves", "depth", "way", "word"]
theorem sc__law_tree : FnScope ["source", "leaves", "depth", "way", "word"] ["source", "leaves", "depth"] (defScope s__law_tree) := ⟨rfl, rfl, rfl, by decide +kernel, rfl, by decide +kernel, by decide +kernel⟩
abbrev s__law_found_due : Stmt := top 36
abbrev N__law_found_due : List Str := ["inside", "query", "pairs", "pair"]
theorem sc__law_found_due : FnScope ["inside", "query", "pairs", "pair"] ["inside", "query"] (defScope s__law_found_due) := ⟨rfl, rfl, rfl, by decide +kernel, rfl, by decide +kernel, by decide +kernel⟩
abbrev s__law_asked : Stmt := top 37
abbrev N__law_asked : List Str := ["index", "inside", "query", "due"]
theorem sc__law_asked : FnScope ["index", "inside", "query", "due"] ["index", "inside", "query"] (defScope s__law_asked) := ⟨rfl, rfl, rfl, by decide +kernel, rfl, by decide +kernel, by decide +kernel⟩
abbrev s__law_put : Stmt := top 38
abbrev N__law_put : List Str := ["index", "inside", "chosen", "pair"]
theorem sc__law_put : FnScope ["index", "inside", "chosen", "pair"] ["index", "inside", "chosen"] (defScope s__law_put) := ⟨rfl, rfl, rfl, by decide +kernel, rfl, by decide +kernel, by decide +kernel⟩
abbrev s__law_deed : Stmt := top 39
abbrev N__law_deed : List Str := ["source", "index", "inside", "pool", "chosen", "ident", "k"]
theorem sc__law_deed : FnScope ["source", "index", "inside", "pool", "chosen", "ident", "k"] ["source", "index", "inside", "pool"] (defScope s__law_deed) := ⟨rfl, rfl, rfl, by decide +kernel, rfl, by decide +kernel, by decide +kernel⟩
abbrev s_law : Stmt := top 40
abbrev N_law : List Str := ["script", "source", "words", "names", "pool", "leaves", "indexes", "inside", "chosen", "step", "k", "query", "everything", "notice"]
theorem sc_law : FnScope ["script", "source", "words", "names", "pool", "leaves", "indexes", "inside", "chosen", "step", "k", "query", "everything", "notice"] ["script"] (defScope s_law) := ⟨rfl, rfl, rfl, by decide +kernel, rfl, by decide +kernel, by decide +kernel⟩
structure Tx (mg : Str → Option Value) : Prop where
  n_abs : mg "abs" = none
  n_any : mg "any" = none
  n_bool : mg "bool" = none
  n_enumerate : mg "enumerate" = none
  n_int : mg "int" = none
  n_isinstance : mg "isinstance" = none
  n_len : mg "len" = none
  n_list : mg "list" = none
  n_max : mg "max" = none
  n_min : mg "min" = none
  n_ord : mg "ord" = none
  n_range : mg "range" = none
  n_sorted : mg "sorted" = none
  n_str : mg "str" = none
  n_tuple : mg "tuple" = none
  c_LETTERS : ∃ t, mg "LETTERS" = some (.str ("abcdefghijklmnopqrstuvwxyz") t)
  c_DIGITS : ∃ t, mg "DIGITS" = some (.str ("0123456789") t)
structure To (K : PySem.W.Frag) (mg : Str → Option Value) (A_Index : Addr) : Prop where
  g_Index : mg "Index" = some (.ref A_Index)
  c_Index : Cls K A_Index
  n_Index_entries : NoAttr K A_Index "_entries"
end Z
namespace Z
open PySem PySem.Spec PyProof.Rows L2 SX
/-! ### enumerate(text) -/
def ItEs (x : Str) : It := ⟨fun i _ => i < x.cps.size, fun i H v H' => ∃ (T : Addr) (c : Nat), v = .ref T ∧ H T = none ∧ H' = upd H T (.tup [.int (i : Nat), .str ⟨#[c]⟩]) ∧ x.cps[i]? = some c, fun i _ => i = x.cps.size⟩
theorem turn_enumS {P : Program} {w : World} {K : PySem.W.Frag} {elts : List Expr} {kk : Nat} {tpos : Pos} (x : Str) (t : Tok) (e it : Addr) :
    Turn P w K (.Tuple elts kk tpos) (ItEs x) [e, it] e (fun i h => (∃ old, IsEnum h e it ((i : Nat) : Int) old) ∧ h.IsStrIter it (strIterType x) x t i ∧ e ≠ it) where
  mem := by simp
  obj := fun i h st b hb => by
    obtain ⟨⟨old, he⟩, ⟨o, ho, hc, hd⟩, _⟩ := st
    have e' : b = e ∨ b = it := by simpa using hb
    rcases e' with z | z
    · rw [z]; exact ⟨_, he, fun v q => nomatch q⟩
    · rw [z]; exact ⟨o, ho, fun v q => by rw [hd] at q; cases q⟩
  keep := fun i h h' st k => by
    obtain ⟨⟨old, he⟩, ⟨o, ho, r⟩, hne⟩ := st
    exact ⟨⟨old, k e (by simp) _ he⟩, ⟨o, k it (by simp) o ho, r⟩, hne⟩
  item := by
    intro X hP hw hK hc i pins s σ H E I hf st hg
    subst hP hw hK
    obtain ⟨⟨old, he⟩, hit, hne⟩ := st
    have hel : e < s.heap.objs.size := Heap.lt_size he
    have hil : it < s.heap.objs.size := by obtain ⟨_, q, _⟩ := hit; exact Heap.lt_size q
    have D := Draws.text (prog := X.prog) (w := X.w) (A := X.A.in1) (I.ok.hd hc) it x t
    refine wpAny_pyNext_enum_itemC D he hit hg hne (by simp [hne]) fun v h' tk hv ho hit' hT hsz hk => ?_
    obtain ⟨c, u, hcx, rfl⟩ := hv
    refine ⟨_, rfl, wpAny_letOwnedTupleGo_enum (s := { s with heap := h', toks := tk + 1 }) ho fun h'' he' sb => ?_⟩
    have hT2 : h''.get? s.heap.objs.size = some { cls := .type "tuple", data := .seq #[.int i tk, .str ⟨#[c]⟩ u] } := (sb.2 _ (Nat.ne_of_gt hel)).trans hT
    have new : ObjOk X.prog X.w (upd H s.heap.objs.size (.tup [.int (i : Nat), .str ⟨#[c]⟩])) h'' s.heap.objs.size (.tup [.int (i : Nat), .str ⟨#[c]⟩]) :=
      ⟨by show 2 ≤ sizeLine; decide, [.int i tk, .str ⟨#[c]⟩ u], .cons ⟨_, rfl⟩ (.cons ⟨_, rfl⟩ .nil), ⟨_, hT2, rfl, _, rfl⟩⟩
    have I1 : Inv X pins σ (upd H s.heap.objs.size (.tup [.int (i : Nat), .str ⟨#[c]⟩])) { s with heap := h'', toks := tk + 1 } :=
      I.turnedNew (ch := [e, it]) (fun b ob hb q => (sb.2 b (fun z => hb (by simp [z]))).trans (hk b ob (fun z => hb (by simp [z])) (fun z => hb (by simp [z])) q)) hf (Nat.le_refl _) new
    refine ⟨.ref s.heap.objs.size, _, I1, rfl, ⟨_, c, rfl, I.hok.fresh (Nat.le_refl _), rfl, hcx⟩, ⟨⟨.str ⟨#[c]⟩ u, ?_⟩, ?_, hne⟩, fun b hb => ?_⟩
    · have e1 : ((i + 1 : Nat) : Int) = (i : Int) + 1 := by omega
      rw [e1]; exact he'
    · obtain ⟨o, q, r⟩ := hit'
      exact ⟨o, (sb.2 it (Ne.symm hne)).trans q, r⟩
    · have hb' : b < s.heap.objs.size := by
        have e' : b = e ∨ b = it := by simpa using hb
        rcases e' with z | z
        · rw [z]; exact hel
        · rw [z]; exact hil
      rw [upd_ne (Nat.ne_of_lt hb')]
      exact (hf b hb).1
  done := by
    intro X hP hw hK hc i pins s σ H E I hf st hg
    subst hP hw hK
    obtain ⟨⟨old, he⟩, hit, hne⟩ := st
    obtain ⟨f0, f1, f2, f3, f4, f5⟩ := hf it (by simp)
    have hg' : i = x.cps.size := hg
    subst hg'
    have D := Draws.text (prog := X.prog) (w := X.w) (A := X.A.in1) (I.ok.hd hc) it x t
    exact wpAny_pyNext_enum_endD D he hit fun h' eb => ⟨rfl, I.turned (t' := s.toks) (fun b o hb q => eb b o hb q) f0 f1 f3 f4 f5⟩
  self := fun A i s Q E st h => let ⟨⟨_, he⟩, _⟩ := st; wpAny_pyIter_enum he h
def iEnumS (ta : TA) : TI := fun σ H R => ta σ H fun vs H1 => ∃ x : Str, vs = [.str x] ∧ R (ItEs x) H1
theorem pi_enumS {X : Cx} {e : Expr} {ta : TA} {p pos tpos : Pos} {elts : List Expr} {kk : Nat} (hg : Gl X "enumerate") (hm : X.mg "enumerate" = none) (ha : PA X [e] ta) (hs : starEach [e] X.env = [(false, eval e X.env)] := by rfl) :
    PI X (.Tuple elts kk tpos) (.Call (.Name "enumerate" p) [e] [] pos) (iEnumS ta) := by
  refine ⟨fun pins s σ H R I h => ?_⟩
  refine Call_ (ld_blt I hg hm boot_enumerate (PyProof.Rows.callWith_type1 (thn (ha.run pos pins s σ H _ I h) fun us s1 ⟨vs, H1, I1, r1, q1⟩ => ?_) hs rfl))
  obtain ⟨x, ex, q⟩ := q1
  subst ex
  cases r1 with
  | cons r rr =>
    cases rr
    obtain ⟨t, rfl⟩ := r
    refine call_enumerate_str fun h' he hit hsz hk => wpAny_pyIter_enum he ?_
    have I2 : Inv X pins σ H1 { s1 with heap := h' } := I1.kept (t' := s1.toks) hk
    refine ⟨s1.heap.objs.size + 1, [s1.heap.objs.size + 1, s1.heap.objs.size], _, _, H1, rfl, I2, turn_enumS x t (s1.heap.objs.size + 1) s1.heap.objs.size, ⟨⟨.none, he⟩, hit, Nat.succ_ne_self _⟩, fun b hb => ?_, q⟩
    have e' : b = s1.heap.objs.size + 1 ∨ b = s1.heap.objs.size := by simpa using hb
    have hle : s1.heap.objs.size ≤ b := by
      rcases e' with z | z
      · rw [z]; exact Nat.le_add_right _ _
      · rw [z]; exact Nat.le_refl _
    exact I1.fpOk hle (I1.hok.fresh hle)
theorem for_enumS {l : List Nat} {g : TG} {tb : TS} {D : Ends} {σ : L2.St} {H : Hp} (Pv : Nat → L2.St → Hp → Prop) (h0 : Pv 0 σ H)
    (hs : ∀ i c T σ H, l[i]? = some c → Pv i σ H → H T = none → g (.ref T) σ (upd H T (.tup [.int (i : Nat), .str (S [c])])) fun σ2 H2 => tb { D with nx := Pv (i + 1), ct := Pv (i + 1), bk := D.nx } σ2 H2) (hd : ∀ σ H, Pv l.length σ H → D.nx σ H) :
    ∃ W : Nat → Nat → L2.St → Hp → Prop, (∃ m, W 0 m σ H) ∧ ∀ i m σ H, W i m σ H →
      ((ItEs (S l)).stop i H ∧ D.nx σ H) ∨ ((ItEs (S l)).go i H ∧ ∃ N : L2.St → Hp → Prop, (∀ σ' H', N σ' H' → ∃ m', m' < m ∧ W (i + 1) m' σ' H') ∧ ∀ x H', (ItEs (S l)).yld i H x H' → g x σ H' fun σ2 H2 => tb { D with nx := N, ct := N, bk := D.nx } σ2 H2) := by
  refine ⟨fun i m σ H => m = l.length - i ∧ i ≤ l.length ∧ Pv i σ H, ⟨l.length, by simp, Nat.zero_le _, h0⟩, ?_⟩
  rintro i m σ H ⟨rfl, hi, p⟩
  by_cases hlt : i < l.length
  · refine .inr ⟨by show i < l.toArray.size; simpa using hlt, Pv (i + 1), fun σ' H' p' => ⟨l.length - (i + 1), by omega, rfl, hlt, p'⟩, fun x H' y => ?_⟩
    obtain ⟨T, c, rfl, hT, rfl, hc⟩ := y
    exact hs i c T _ _ (by simpa using hc) p hT
  · have e : i = l.length := by omega
    subst e
    exact .inl ⟨by show l.length = l.toArray.size; simp, hd σ H p⟩
end Z
namespace Z
open PySem PySem.Spec PyProof.Rows L2 SX
/-! ### enumerate(tuple) -/
set_option maxHeartbeats 1000000 in
theorem enumT_made {t : Addr} {items : Array Value} : Meets (Builtin.«enumerate.__new__» ⟨[.type "enumerate", .ref t], []⟩) (fun _ R s => s.heap.IsTuple t items ∧
    R (.ok (.ret (.ref (s.heap.push { cls := .type "tuple_iterator", data := .fields #[.ref t, .int 0 0] }).objs.size)))
      { s with heap := (s.heap.push { cls := .type "tuple_iterator", data := .fields #[.ref t, .int 0 0] }).push { cls := .type "enumerate", data := .fields #[.none, .bool false, .ref s.heap.objs.size, rawInt 0, .none, .none] } }) :=
  .of_wp fun prog w A R s hh => by
    obtain ⟨hp, gs, dr, tk, os⟩ := s
    obtain ⟨it, k⟩ := hh
    have sub := sub_enumerate
    have go : ∀ {B : Around} {F : Value → Shared → Prop} {Q : Value → Shared → Prop}, Q (.ref hp.objs.size) ⟨hp.push { cls := .type "tuple_iterator", data := .fields #[.ref t, .int 0 0] }, gs, dr, tk, os⟩ → wpAny (model prog w) B (pyIter (.ref t)) Q F ⟨hp, gs, dr, tk, os⟩ :=
      fun q => wpAny_pyIter_tuple it q
    wp_walk using go
    refine wpAny_stack_any fun z => wpAny_pure ?_
    split
    next c _ _ _ _ _ =>
      cases (c == Value.type "enumerate") <;> (wp_walk using go; exact ⟨_, rfl, k⟩)
    next => wp_walk using go
            exact ⟨_, rfl, k⟩
theorem enumT_call {prog : Program} {w : World} {A : Around} {E : Value → Shared → Prop} {s : Shared} {t : Addr} {items : Array Value} {Q : Value → Shared → Prop} (it : s.heap.IsTuple t items)
    (h : ∀ h', IsEnum h' (s.heap.objs.size + 1) s.heap.objs.size 0 .none → h'.IsTupleIter s.heap.objs.size t 0 → (∀ b o, s.heap.get? b = some o → h'.get? b = some o) → Q (.ref (s.heap.objs.size + 1)) { s with heap := h' }) :
    wpAny (model prog w) A (call (.type "enumerate") [.ref t]) Q E s := by
  refine callType_new F.called_enumerate (by decide) (F.typeCall_enumerate_1 _) (F.newCall_enumerate_1 _) (fun obj => F.args_object_init_2 obj _) F.entry_enumerate_new (enumT_made (items := items)) ⟨it, ?_⟩
  have sz : (s.heap.push { cls := .type "tuple_iterator", data := .fields #[.ref t, .int 0 0] }).objs.size = s.heap.objs.size + 1 := Heap.size_push ..
  have e1 := Heap.get?_push_size (s.heap.push { cls := .type "tuple_iterator", data := .fields #[.ref t, .int 0 0] }) (o := { cls := .type "enumerate", data := .fields #[.none, .bool false, .ref s.heap.objs.size, rawInt 0, .none, .none] }) rfl
  show _ ∧ _
  rw [sz] at e1 ⊢
  exact ⟨⟨_, e1, rfl⟩, h _ e1 ⟨_, Heap.get?_push_of_some _ (Heap.get?_push_size _ rfl), rfl, rfl⟩ fun b o x => Heap.get?_push_of_some _ (Heap.get?_push_of_some _ x)⟩
def ItEt (K : PySem.W.Frag) (a : Addr) (xs : List V) : It := ⟨fun i H => SqT K H a xs ∧ i < xs.length, fun i H v H' => ∃ (T : Addr) (x : V), v = .ref T ∧ H T = none ∧ H' = upd H T (.tup [.int (i : Nat), x]) ∧ xs[i]? = some x, fun i H => SqT K H a xs ∧ i = xs.length⟩
theorem turn_enumT {P : Program} {w : World} {K : PySem.W.Frag} {elts : List Expr} {kk : Nat} {tpos : Pos} (a : Addr) (xs : List V) (e it : Addr) :
    Turn P w K (.Tuple elts kk tpos) (ItEt K a xs) [e, it] e (fun i h => (∃ old, IsEnum h e it ((i : Nat) : Int) old) ∧ h.IsTupleIter it a i ∧ e ≠ it ∧ a ≠ it) where
  mem := by simp
  obj := fun i h st b hb => by
    obtain ⟨⟨old, he⟩, ⟨o, ho, hc, hd⟩, _⟩ := st
    have e' : b = e ∨ b = it := by simpa using hb
    rcases e' with z | z
    · rw [z]; exact ⟨_, he, fun v q => nomatch q⟩
    · rw [z]; exact ⟨o, ho, fun v q => by rw [hd] at q; cases q⟩
  keep := fun i h h' st k => by
    obtain ⟨⟨old, he⟩, ⟨o, ho, r⟩, hne⟩ := st
    exact ⟨⟨old, k e (by simp) _ he⟩, ⟨o, k it (by simp) o ho, r⟩, hne⟩
  item := by
    intro X hP hw hK hc i pins s σ H E I hf st hg
    subst hP hw hK
    obtain ⟨⟨old, he⟩, hit, hne, hat⟩ := st
    obtain ⟨its, rv, ht, hz⟩ := I.tuple hg.1
    have hT0 : s.heap.IsTuple a its.toArray := ht
    have hel : e < s.heap.objs.size := Heap.lt_size he
    have hil : it < s.heap.objs.size := by obtain ⟨_, q, _⟩ := hit; exact Heap.lt_size q
    have hal : a < s.heap.objs.size := by obtain ⟨_, q, _⟩ := hT0; exact Heap.lt_size q
    have ea : a ≠ e := fun z => by
      obtain ⟨o, ho, hc', _⟩ := hT0
      rw [z] at ho
      have := ho.symm.trans he
      cases this
      exact absurd (Value.type.inj hc') (by decide)
    have D := Draws.tuple (prog := X.prog) (w := X.w) (A := X.A.in1) (I.ok.hd hc) it a hat its.toArray
    have ilt : i < its.toArray.size := by rw [List.size_toArray, ← rv.length]; exact hg.2
    refine wpAny_pyNext_enum_itemC D he ⟨hit, hT0⟩ ilt hne (by simp [hne, ea.symm]) fun v h' tk hv ho hst' hT hsz hk => ?_
    have hit' := hst'.1
    obtain ⟨x, hx, rx⟩ : ∃ x, xs[i]? = some x ∧ RelV x v := by
      obtain ⟨x, hx⟩ : ∃ x, xs[i]? = some x := ⟨_, List.getElem?_eq_getElem hg.2⟩
      obtain ⟨u, hu, ru⟩ := rv.get hx
      have : its.toArray[i]? = some v := hv
      rw [List.getElem?_toArray, hu] at this
      cases this
      exact ⟨x, hx, ru⟩
    refine ⟨_, rfl, wpAny_letOwnedTupleGo_enum (s := { s with heap := h', toks := tk + 1 }) ho fun h'' he' sb => ?_⟩
    have hT2 : h''.get? s.heap.objs.size = some { cls := .type "tuple", data := .seq #[.int i tk, v] } := (sb.2 _ (Nat.ne_of_gt hel)).trans hT
    have new : ObjOk X.prog X.w (upd H s.heap.objs.size (.tup [.int (i : Nat), x])) h'' s.heap.objs.size (.tup [.int (i : Nat), x]) :=
      ⟨by show 2 ≤ sizeLine; decide, [.int i tk, v], .cons ⟨_, rfl⟩ (.cons rx .nil), ⟨_, hT2, rfl, _, rfl⟩⟩
    have I1 : Inv X pins σ (upd H s.heap.objs.size (.tup [.int (i : Nat), x])) { s with heap := h'', toks := tk + 1 } :=
      I.turnedNew (ch := [e, it]) (fun b ob hb q => (sb.2 b (fun z => hb (by simp [z]))).trans (hk b ob (fun z => hb (by simp [z])) (fun z => hb (by simp [z])) q)) hf (Nat.le_refl _) new
    refine ⟨.ref s.heap.objs.size, _, I1, rfl, ⟨_, x, rfl, I.hok.fresh (Nat.le_refl _), rfl, hx⟩, ⟨⟨v, ?_⟩, ?_, hne, hat⟩, fun b hb => ?_⟩
    · have e1 : ((i + 1 : Nat) : Int) = (i : Int) + 1 := by omega
      rw [e1]; exact he'
    · obtain ⟨o, q, r⟩ := hit'
      exact ⟨o, (sb.2 it (Ne.symm hne)).trans q, r⟩
    · have hb' : b < s.heap.objs.size := by
        have e' : b = e ∨ b = it := by simpa using hb
        rcases e' with z | z
        · rw [z]; exact hel
        · rw [z]; exact hil
      rw [upd_ne (Nat.ne_of_lt hb')]
      exact (hf b hb).1
  done := by
    intro X hP hw hK hc i pins s σ H E I hf st hg
    subst hP hw hK
    obtain ⟨⟨old, he⟩, hit, hne, hat⟩ := st
    obtain ⟨its, rv, ht, hz⟩ := I.tuple hg.1
    have hT0 : s.heap.IsTuple a its.toArray := ht
    obtain ⟨f0, f1, f2, f3, f4, f5⟩ := hf it (by simp)
    have hg' : i = its.toArray.size := by rw [List.size_toArray, ← rv.length]; exact hg.2
    subst hg'
    have D := Draws.tuple (prog := X.prog) (w := X.w) (A := X.A.in1) (I.ok.hd hc) it a hat its.toArray
    exact wpAny_pyNext_enum_endD D he ⟨hit, hT0⟩ fun h' eb => ⟨rfl, I.turned (t' := s.toks) (fun b o hb q => eb b o hb q) f0 f1 f3 f4 f5⟩
  self := fun A i s Q E st h => let ⟨⟨_, he⟩, _⟩ := st; wpAny_pyIter_enum he h
def iEnumT (K : PySem.W.Frag) (ta : TA) : TI := fun σ H R => ta σ H fun vs H1 => ∃ (a : Addr) (xs : List V), vs = [.ref a] ∧ SqT K H1 a xs ∧ R (ItEt K a xs) H1
theorem pi_enumT {X : Cx} {e : Expr} {ta : TA} {p pos tpos : Pos} {elts : List Expr} {kk : Nat} (hg : Gl X "enumerate") (hm : X.mg "enumerate" = none) (ha : PA X [e] ta) (hs : starEach [e] X.env = [(false, eval e X.env)] := by rfl) :
    PI X (.Tuple elts kk tpos) (.Call (.Name "enumerate" p) [e] [] pos) (iEnumT X.K ta) := by
  refine ⟨fun pins s σ H R I h => ?_⟩
  refine Call_ (ld_blt I hg hm boot_enumerate (PyProof.Rows.callWith_type1 (thn (ha.run pos pins s σ H _ I h) fun us s1 ⟨vs, H1, I1, r1, q1⟩ => ?_) hs rfl))
  obtain ⟨a, xs, ex, hx, q⟩ := q1
  subst ex
  cases r1 with
  | cons r rr =>
    cases rr
    cases r
    obtain ⟨its, rv, ht, hz⟩ := I1.tuple hx
    have hT0 : s1.heap.IsTuple a its.toArray := ht
    have hal : a < s1.heap.objs.size := by obtain ⟨_, q, _⟩ := hT0; exact Heap.lt_size q
    refine enumT_call hT0 fun h' he hit hk => wpAny_pyIter_enum he ?_
    have I2 : Inv X pins σ H1 { s1 with heap := h' } := I1.kept (t' := s1.toks) hk
    refine ⟨s1.heap.objs.size + 1, [s1.heap.objs.size + 1, s1.heap.objs.size], _, _, H1, rfl, I2, turn_enumT a xs (s1.heap.objs.size + 1) s1.heap.objs.size, ⟨⟨.none, he⟩, hit, Nat.succ_ne_self _, Nat.ne_of_lt hal⟩, fun b hb => ?_, q⟩
    have e' : b = s1.heap.objs.size + 1 ∨ b = s1.heap.objs.size := by simpa using hb
    have hle : s1.heap.objs.size ≤ b := by
      rcases e' with z | z
      · rw [z]; exact Nat.le_add_right _ _
      · rw [z]; exact Nat.le_refl _
    exact I1.fpOk hle (I1.hok.fresh hle)
theorem for_enumT {K : PySem.W.Frag} {a : Addr} {xs : List V} {g : TG} {tb : TS} {D : Ends} {σ : L2.St} {H : Hp} (Pv : Nat → L2.St → Hp → Prop) (h0 : Pv 0 σ H) (hl : ∀ i σ H, Pv i σ H → SqT K H a xs)
    (hs : ∀ i x T σ H, xs[i]? = some x → Pv i σ H → H T = none → g (.ref T) σ (upd H T (.tup [.int (i : Nat), x])) fun σ2 H2 => tb { D with nx := Pv (i + 1), ct := Pv (i + 1), bk := D.nx } σ2 H2) (hd : ∀ σ H, Pv xs.length σ H → D.nx σ H) :
    ∃ W : Nat → Nat → L2.St → Hp → Prop, (∃ m, W 0 m σ H) ∧ ∀ i m σ H, W i m σ H →
      ((ItEt K a xs).stop i H ∧ D.nx σ H) ∨ ((ItEt K a xs).go i H ∧ ∃ N : L2.St → Hp → Prop, (∀ σ' H', N σ' H' → ∃ m', m' < m ∧ W (i + 1) m' σ' H') ∧ ∀ x H', (ItEt K a xs).yld i H x H' → g x σ H' fun σ2 H2 => tb { D with nx := N, ct := N, bk := D.nx } σ2 H2) := by
  refine ⟨fun i m σ H => m = xs.length - i ∧ i ≤ xs.length ∧ Pv i σ H, ⟨xs.length, by simp, Nat.zero_le _, h0⟩, ?_⟩
  rintro i m σ H ⟨rfl, hi, p⟩
  by_cases hlt : i < xs.length
  · refine .inr ⟨⟨hl i σ H p, hlt⟩, Pv (i + 1), fun σ' H' p' => ⟨xs.length - (i + 1), by omega, rfl, hlt, p'⟩, fun x H' y => ?_⟩
    obtain ⟨T, c, rfl, hT, rfl, hc⟩ := y
    exact hs i c T _ _ hc p hT
  · have e : i = xs.length := by omega
    subst e
    exact .inl ⟨⟨hl _ σ H p, rfl⟩, hd σ H p⟩
end Z
namespace Z
open PySem L2 SX
/-! ### comprehensions with two for -/
theorem pi_tupQ {X : Cx} {K : PySem.W.Frag} {tg l : Expr} {tl : TE} (h : X.K = K) (hl : PE X l tl) : PI X tg l (iTup K tl) := by subst h; exact pi_tup hl
theorem pi_listQ {X : Cx} {K : PySem.W.Frag} {tg l : Expr} {tl : TE} (h : X.K = K) (hl : PE X l tl) : PI X tg l (iList K tl) := by subst h; exact pi_list hl
/-- the outer walk, over a list -/
theorem lc2_list {K : PySem.W.Frag} {a : Addr} {xs : List V} {g g1 : TG} {tt tt1 : TT} {wi1 : TI} {te : TE} {vs vs1 : List Nat} {σ : St} {H1 : Hp} {D : Addr} {Qd : Hp → Prop} (Pv : Nat → Hp → Prop) (h0 : Pv 0 (upd H1 D (.lst []))) (hl : ∀ i H, i ≤ xs.length → Pv i H → SqL K H a xs)
    (hs : ∀ i x H, xs[i]? = some x → Pv i H → g x (wipe σ vs) H fun σ2 H2 => wipe σ2 vs = wipe σ vs ∧ tt σ2 H2 fun b H3 => if b = true then wi1 σ2 H3 fun J1 H4 => ∃ W1 : Nat → Nat → Hp → Prop, (∃ m, W1 0 m H4) ∧ ∀ j k H, W1 j k H →
      (J1.stop j H ∧ Pv (i + 1) H) ∨ (J1.go j H ∧ ∃ Nx1 : Hp → Prop, (∀ H', Nx1 H' → ∃ k', k' < k ∧ W1 (j + 1) k' H') ∧ ∀ x H', J1.yld j H x H' → g1 x (wipe σ2 vs1) H' fun σ3 H5 => wipe σ3 vs1 = wipe σ2 vs1 ∧ tt1 σ3 H5 fun b H6 =>
        if b = true then te σ3 H6 fun y H7 => ∃ acc, H7 D = some (.lst acc) ∧ acc.length < sizeLine ∧ Nx1 (upd H7 D (.lst (acc ++ [y]))) else Nx1 H6) else Pv (i + 1) H3) (hd : ∀ H, Pv xs.length H → Qd H) :
    ∃ W : Nat → Nat → Hp → Prop, (∃ m, W 0 m (upd H1 D (.lst []))) ∧ ∀ i m H, W i m H →
      ((Itl K a).stop i H ∧ Qd H) ∨ ((Itl K a).go i H ∧ ∃ Nx : Hp → Prop, (∀ H', Nx H' → ∃ m', m' < m ∧ W (i + 1) m' H') ∧ ∀ x H', (Itl K a).yld i H x H' → g x (wipe σ vs) H' fun σ2 H2 => wipe σ2 vs = wipe σ vs ∧ tt σ2 H2 fun b H3 =>
        if b = true then wi1 σ2 H3 fun J1 H4 => ∃ W1 : Nat → Nat → Hp → Prop, (∃ m, W1 0 m H4) ∧ ∀ j k H, W1 j k H →
          (J1.stop j H ∧ Nx H) ∨ (J1.go j H ∧ ∃ Nx1 : Hp → Prop, (∀ H', Nx1 H' → ∃ k', k' < k ∧ W1 (j + 1) k' H') ∧ ∀ x H', J1.yld j H x H' → g1 x (wipe σ2 vs1) H' fun σ3 H5 => wipe σ3 vs1 = wipe σ2 vs1 ∧ tt1 σ3 H5 fun b H6 =>
            if b = true then te σ3 H6 fun y H7 => ∃ acc, H7 D = some (.lst acc) ∧ acc.length < sizeLine ∧ Nx1 (upd H7 D (.lst (acc ++ [y]))) else Nx1 H6)
        else Nx H3) := by
  refine ⟨fun k m H => k + m = xs.length ∧ Pv k H, ⟨xs.length, Nat.zero_add _, h0⟩, ?_⟩
  rintro k m H ⟨e, pk⟩
  have q := hl k H (by omega) pk
  rcases Nat.lt_or_ge k xs.length with lt | ge
  · have hx : xs[k]? = some xs[k] := List.getElem?_eq_getElem lt
    refine .inr ⟨⟨xs, xs[k], q, hx⟩, Pv (k + 1), fun H' p => ⟨m - 1, by omega, by omega, p⟩, ?_⟩
    rintro x H' ⟨rfl, y⟩
    exact hs k x _ (y xs q) pk
  · have e2 : k = xs.length := by omega
    subst e2
    exact .inl ⟨⟨xs, q, Nat.le_refl _⟩, hd H pk⟩
/-- the inner walk, over a tuple -/
theorem in_tup {K : PySem.W.Frag} {a : Addr} {xs : List V} {g1 : TG} {tt1 : TT} {te : TE} {vs1 : List Nat} {σ2 : St} {H4 : Hp} {D : Addr} {Nx : Hp → Prop} (Pv : Nat → Hp → Prop) (h0 : Pv 0 H4) (hl : ∀ i H, Pv i H → SqT K H a xs)
    (hs : ∀ i x H, xs[i]? = some x → Pv i H → g1 x (wipe σ2 vs1) H fun σ3 H5 => wipe σ3 vs1 = wipe σ2 vs1 ∧ tt1 σ3 H5 fun b H6 => if b = true then te σ3 H6 fun y H7 => ∃ acc, H7 D = some (.lst acc) ∧ acc.length < sizeLine ∧ Pv (i + 1) (upd H7 D (.lst (acc ++ [y]))) else Pv (i + 1) H6) (hd : ∀ H, Pv xs.length H → Nx H) :
    ∃ W1 : Nat → Nat → Hp → Prop, (∃ m, W1 0 m H4) ∧ ∀ j k H, W1 j k H →
      ((Itt K a).stop j H ∧ Nx H) ∨ ((Itt K a).go j H ∧ ∃ Nx1 : Hp → Prop, (∀ H', Nx1 H' → ∃ k', k' < k ∧ W1 (j + 1) k' H') ∧ ∀ x H', (Itt K a).yld j H x H' → g1 x (wipe σ2 vs1) H' fun σ3 H5 => wipe σ3 vs1 = wipe σ2 vs1 ∧ tt1 σ3 H5 fun b H6 =>
        if b = true then te σ3 H6 fun y H7 => ∃ acc, H7 D = some (.lst acc) ∧ acc.length < sizeLine ∧ Nx1 (upd H7 D (.lst (acc ++ [y]))) else Nx1 H6) := by
  refine ⟨fun k m H => k + m = xs.length ∧ Pv k H, ⟨xs.length, Nat.zero_add _, h0⟩, ?_⟩
  rintro k m H ⟨e, pk⟩
  have q := hl k H pk
  rcases Nat.lt_or_ge k xs.length with lt | ge
  · have hx : xs[k]? = some xs[k] := List.getElem?_eq_getElem lt
    refine .inr ⟨⟨xs, xs[k], q, hx⟩, Pv (k + 1), fun H' p => ⟨m - 1, by omega, by omega, p⟩, ?_⟩
    rintro x H' ⟨rfl, y⟩
    exact hs k x _ (y xs q) pk
  · have e2 : k = xs.length := by omega
    subst e2
    exact .inl ⟨⟨xs, q, Nat.le_refl _⟩, hd H pk⟩
end Z
namespace Z
open PySem L2 SX
/-! ### where a beginning stands in a glob -/
abbrev nts (l : List Nat) : List V := l.map fun k : Nat => V.int (k : Int)
def st0 (g : List Nat) : Nat → Prop
  | 0 => True
  | i + 1 => g[i]? = some 42 ∧ st0 g i
def nxt (g : List Nat) (M : Nat → Prop) (c : Nat) : Nat → Prop
  | 0 => False
  | i + 1 => (g[i]? = some 42 ∧ (nxt g M c i ∨ M (i + 1))) ∨ (g[i]? ≠ some 42 ∧ M i ∧ (g[i]? = some 63 ∨ g[i]? = some c))
def stand (g b : List Nat) : Nat → Prop := b.foldl (fun M c => nxt g M c) (st0 g)
/-- closed along stars -/
def closed (g : List Nat) (M : Nat → Prop) : Prop := ∀ y, M y → g[y]? = some 42 → M (y + 1)
def within (g : List Nat) (M : Nat → Prop) : Prop := ∀ y, M y → y ≤ g.length
theorem st0_closed (g : List Nat) : closed g (st0 g) := fun _ h e => ⟨e, h⟩
theorem st0_within (g : List Nat) : within g (st0 g) := fun y h => by
  cases y with
  | zero => omega
  | succ i => have := (List.getElem?_eq_some_iff.mp h.1).1; omega
theorem nxt_closed (g : List Nat) (M : Nat → Prop) (c : Nat) : closed g (nxt g M c) := fun _ h e => .inl ⟨e, .inl h⟩
theorem nxt_within (g : List Nat) (M : Nat → Prop) (c : Nat) : within g (nxt g M c) := fun y h => by
  cases y with
  | zero => omega
  | succ i =>
    rcases h with ⟨h, _⟩ | ⟨_, _, h | h⟩ <;> (have := (List.getElem?_eq_some_iff.mp h).1; omega)
theorem stand_nil (g : List Nat) : stand g [] = st0 g := rfl
theorem stand_snoc (g b : List Nat) (c : Nat) : stand g (b ++ [c]) = nxt g (stand g b) c := by unfold stand; rw [List.foldl_append]; rfl
theorem stand_ok (g b : List Nat) : closed g (stand g b) ∧ within g (stand g b) := by
  unfold stand
  rw [← List.reverse_reverse b, List.foldl_reverse]
  cases b.reverse with
  | nil => exact ⟨st0_closed g, st0_within g⟩
  | cons c r => exact ⟨nxt_closed g _ c, nxt_within g _ c⟩
/-- the places, ascending -/
def Asd (ps : List Nat) (M : Nat → Prop) : Prop := ps.Pairwise (· < ·) ∧ ∀ y, y ∈ ps ↔ M y
theorem asd_one : ∀ {a b : List Nat}, a.Pairwise (· < ·) → b.Pairwise (· < ·) → (∀ y, y ∈ a ↔ y ∈ b) → a = b
  | [], [], _, _, _ => rfl
  | [], y :: b, _, _, h => by have := (h y).mpr (by simp); cases this
  | x :: a, [], _, _, h => by have := (h x).mp (by simp); cases this
  | x :: a, y :: b, pa, pb, h => by
    have ha := List.pairwise_cons.mp pa
    have hb := List.pairwise_cons.mp pb
    have e : x = y := by
      have h1 := (h x).mp (by simp)
      have h2 := (h y).mpr (by simp)
      rcases List.mem_cons.mp h1 with e | e
      · exact e
      · rcases List.mem_cons.mp h2 with f | f
        · exact f.symm
        · have := hb.1 x e; have := ha.1 y f; omega
    subst e
    rw [asd_one ha.2 hb.2 fun z => ?_]
    constructor
    · intro hz
      rcases List.mem_cons.mp ((h z).mp (List.mem_cons_of_mem _ hz)) with e | e
      · subst e; have := ha.1 z hz; omega
      · exact e
    · intro hz
      rcases List.mem_cons.mp ((h z).mpr (List.mem_cons_of_mem _ hz)) with e | e
      · subst e; have := hb.1 z hz; omega
      · exact e
theorem Asd.one {a b : List Nat} {M : Nat → Prop} (x : Asd a M) (y : Asd b M) : a = b := asd_one x.1 y.1 fun z => (x.2 z).trans (y.2 z).symm
theorem Asd.congr {a : List Nat} {M N : Nat → Prop} (x : Asd a M) (h : ∀ y, M y ↔ N y) : Asd a N := ⟨x.1, fun y => (x.2 y).trans (h y)⟩
theorem Asd.len {a : List Nat} {M : Nat → Prop} {g : List Nat} (x : Asd a M) (w : within g M) : a.length ≤ g.length + 1 := by
  have : ∀ (n : Nat) (l : List Nat), l.Pairwise (· < ·) → (∀ y ∈ l, y < n) → l.length ≤ n := by
    intro n
    induction n with
    | zero => intro l _ h; cases l with
      | nil => simp
      | cons y r => have := h y (by simp); omega
    | succ n ih =>
      intro l p h
      rcases List.eq_nil_or_concat l with e | ⟨r, z, e⟩
      · subst e; simp
      · subst e
        rw [List.concat_eq_append] at p h ⊢
        have h2 := ih r (List.pairwise_append.mp p).1 (fun y hy => by
          have := (List.pairwise_append.mp p).2.2 y hy z (by simp)
          have := h z (by simp)
          omega)
        rw [List.length_append]; simp; exact h2
  exact this (g.length + 1) a x.1 fun y hy => by have := w y ((x.2 y).mp hy); omega
/-- a row of stars behind x -/
def isRun (g : List Nat) (x k : Nat) : Prop := (∀ j, j < k → g[x + j]? = some 42) ∧ g[x + k]? ≠ some 42
/-- places that are built up: L so far, m the greatest one that was put in, A what was put in -/
structure Up (g L : List Nat) (m : Nat) (A : Nat → Prop) : Prop where
  asc : L.Pairwise (· < ·)
  cl : ∀ y ∈ L, g[y]? = some 42 → y + 1 ∈ L
  gap : ∀ y z, m ≤ y → y ≤ z → z ∈ L → y ∈ L
  has : ∀ y, A y → y ∈ L
  only : ∀ (N : Nat → Prop), closed g N → (∀ y, A y → N y) → ∀ y ∈ L, N y
theorem Up.nil (g : List Nat) : Up g [] 0 (fun _ => False) := ⟨.nil, (fun _ h => by cases h), (fun _ _ _ _ h => by cases h), (fun _ h => h.elim), (fun _ _ _ _ h => by cases h)⟩
theorem Up.stay {g L : List Nat} {m x z : Nat} {A : Nat → Prop} (u : Up g L m A) (hm : m ≤ x) (hz : z ∈ L) (hx : x ≤ z) : Up g L x (fun y => A y ∨ y = x) :=
  ⟨u.asc, u.cl, fun y z a b c => u.gap y z (by omega) b c, fun y h => h.elim (u.has y) fun e => by subst e; exact u.gap _ _ hm hx hz, fun N c h => u.only N c fun y a => h y (.inl a)⟩
theorem run_mem {x k y : Nat} : y ∈ List.range' x (k + 1) ↔ x ≤ y ∧ y ≤ x + k := by rw [List.mem_range'_1]; omega
theorem Up.more {g L : List Nat} {m x k : Nat} {A : Nat → Prop} (u : Up g L m A) (hl : ∀ y ∈ L, y < x) (hr : isRun g x k) : Up g (L ++ List.range' x (k + 1)) x (fun y => A y ∨ y = x) := by
  refine ⟨?_, ?_, ?_, ?_, ?_⟩
  · exact List.pairwise_append.mpr ⟨u.asc, List.pairwise_lt_range', fun a ha b hb => by have := hl a ha; have := (run_mem.mp hb).1; omega⟩
  · intro y hy e
    rcases List.mem_append.mp hy with h | h
    · exact List.mem_append_left _ (u.cl y h e)
    · refine List.mem_append_right _ (run_mem.mpr ?_)
      have := run_mem.mp h
      by_cases q : y = x + k
      · subst q; exact absurd e hr.2
      · omega
  · intro y z hy hyz hz
    rcases List.mem_append.mp hz with h | h
    · have := hl z h; omega
    · have := run_mem.mp h
      exact List.mem_append_right _ (run_mem.mpr ⟨by omega, by omega⟩)
  · intro y h
    rcases h with h | e
    · exact List.mem_append_left _ (u.has y h)
    · subst e; exact List.mem_append_right _ (run_mem.mpr ⟨Nat.le_refl _, by omega⟩)
  · intro N c h y hy
    rcases List.mem_append.mp hy with q | q
    · exact u.only N c (fun z a => h z (.inl a)) y q
    · obtain ⟨q1, q2⟩ := run_mem.mp q
      have : ∀ j, j ≤ k → N (x + j) := by
        intro j
        induction j with
        | zero => intro _; exact h x (.inr rfl)
        | succ j ih => intro hj; exact c _ (ih (by omega)) (hr.1 j (by omega))
      have := this (y - x) (by omega)
      rwa [show x + (y - x) = y by omega] at this
theorem Up.congr {g L : List Nat} {m : Nat} {A B : Nat → Prop} (u : Up g L m A) (h : ∀ y, A y ↔ B y) : Up g L m B :=
  ⟨u.asc, u.cl, u.gap, fun y b => u.has y ((h y).mpr b), fun N c q => u.only N c fun y a => q y ((h y).mp a)⟩
/-- what is put in by the places of M that are taken -/
def puts (g : List Nat) (c : Nat) (T : Nat → Prop) (y : Nat) : Prop := (T y ∧ ∃ i, y = i + 1 ∧ g[i]? = some 42) ∨ ∃ i, y = i + 1 ∧ T i ∧ (g[i]? = some 63 ∨ g[i]? = some c)
theorem puts_next {g : List Nat} {M : Nat → Prop} {c : Nat} (hc : c ≠ 42) (cl : closed g M) {L : List Nat} {m : Nat} (u : Up g L m (puts g c M)) : Asd L (nxt g M c) := by
  refine ⟨u.asc, fun y => ⟨fun hy => u.only _ (nxt_closed g M c) (fun y p => ?_) y hy, ?_⟩⟩
  · rcases p with ⟨t, i, rfl, e⟩ | ⟨i, rfl, t, e⟩
    · exact .inl ⟨e, .inr t⟩
    · refine .inr ⟨fun q => ?_, t, e⟩
      rcases e with e | e <;> rw [e] at q
      · cases q
      · exact hc (Option.some.inj q)
  · intro h
    induction y with
    | zero => exact h.elim
    | succ i ih =>
      rcases h with ⟨e, h | h⟩ | ⟨_, t, e⟩
      · exact u.cl i (ih h) e
      · exact u.has _ (.inl ⟨h, i, rfl, e⟩)
      · exact u.has _ (.inr ⟨i, rfl, t, e⟩)
theorem start_asd {g L : List Nat} {m : Nat} (u : Up g L m (fun y => y = 0)) : Asd L (st0 g) := by
  refine ⟨u.asc, fun y => ⟨fun hy => u.only _ (st0_closed g) (fun y e => by subst e; exact True.intro) y hy, ?_⟩⟩
  intro h
  induction y with
  | zero => exact u.has 0 rfl
  | succ i ih => exact u.cl i (ih h.2) h.1
/-! ### promises -/
def sp_add_place : Sp := fun vs H Q _ => ∃ (g : Str) (p : Addr) (x : Nat) (L : List Nat) (m : Nat) (A : Nat → Prop), vs = [.str g, .ref p, .int (x : Int)] ∧ H p = some (.lst (nts L)) ∧ Up (tl g) L m A ∧ m ≤ x ∧ x ≤ (tl g).length ∧ (∀ y ∈ L, y ≤ (tl g).length) ∧ (tl g).length ≤ 10000 ∧
  ∀ (L' : List Nat) (H' : Hp), H' p = some (.lst (nts L')) → (∀ b, b ≠ p → H' b = H b) → Up (tl g) L' x (fun y => A y ∨ y = x) → (∀ y ∈ L', y ≤ (tl g).length) → Q .non H'
def sp_follows (K : PySem.W.Frag) : Sp := fun vs H Q _ => ∃ (g : Str) (a : Addr) (c : Nat) (ps : List Nat) (M : Nat → Prop), vs = [.str g, .ref a, .str (S [c])] ∧ SqT K H a (nts ps) ∧ Asd ps M ∧ closed (tl g) M ∧ within (tl g) M ∧ c ≠ 42 ∧ (tl g).length ≤ 10000 ∧
  ∀ (q : Addr) (qs : List Nat) (H' : Hp), Same H H' → H' q = some (.tup (nts qs)) → Asd qs (nxt (tl g) M c) → Q (.ref q) H'
def sp_standing (K : PySem.W.Frag) : Sp := fun vs H Q _ => ∃ (g b : Str), vs = [.str g, .str b] ∧ (∀ c ∈ tl b, c ≠ 42) ∧ (tl g).length ≤ 10000 ∧
  ∀ (q : Addr) (qs : List Nat) (H' : Hp), Same H H' → H' q = some (.tup (nts qs)) → Asd qs (stand (tl g) (tl b)) → Q (.ref q) H'
open Classical in
def sp_fits (K : PySem.W.Frag) : Sp := fun vs H Q _ => ∃ (g b : Str), vs = [.str g, .str b] ∧ (∀ c ∈ tl b, c ≠ 42) ∧ (tl g).length ≤ 10000 ∧
  ∀ (H' : Hp), Same H H' → Q (.bl (decide (stand (tl g) (tl b) (tl g).length))) H'
theorem inV_nts (n : Nat) (l : List Nat) : inV (V.int (n : Int)) (nts l) = decide (n ∈ l) := by
  unfold inV nts
  induction l with
  | nil => rfl
  | cons y ys ih =>
    rw [List.map_cons, List.any_cons, ih]
    by_cases e : n = y
    · subst e; simp [eqV]
    · have : ¬ (y : Int) = (n : Int) := fun h => e (by omega)
      simp [eqV, e, this]
theorem flat_nts (xs : List Nat) : (nts xs).all flatV = true := List.all_eq_true.mpr fun x h => by
  obtain ⟨y, _, rfl⟩ := List.mem_map.mp h; rfl
theorem DVs.nats {K : PySem.W.Frag} {H : Hp} (xs : List Nat) : DVs K H (xs.map fun k : Nat => D.int (k : Int)) (nts xs) := by
  have := DVs.ints (K := K) (H := H) (xs.map fun k : Nat => (k : Int))
  rwa [List.map_map, List.map_map] at this
theorem DV.nats {K : PySem.W.Frag} {H : Hp} {p : Addr} {xs : List Nat} (h : SqT K H p (nts xs)) : DV K H (.tup (xs.map fun k : Nat => D.int (k : Int))) (.ref p) := by
  unfold DV
  exact ⟨p, _, rfl, h, DVs.nats xs⟩
theorem DL.nats {n : Nat} (xs : List Nat) (h : xs.length ≤ 1000000) : DL (n + 2) (.tup (xs.map fun k : Nat => D.int (k : Int))) := ⟨by rw [List.length_map]; exact h, fun d m => by obtain ⟨x, _, rfl⟩ := List.mem_map.mp m; exact True.intro⟩
end Z
namespace Z
open PySem L2 SX
/-! ### patterns -/
def parts (p : List Nat) : List (List Nat) := TL.spl [44] 0 [] p
theorem spl_bound (c0 : Nat) : ∀ (l acc : List Nat), (∀ q ∈ TL.spl [c0] 0 acc l, q.length ≤ acc.length + l.length) ∧ (TL.spl [c0] 0 acc l).length ≤ l.length + 1
  | [], acc => by
    rw [TL.spl_nil]
    exact ⟨fun q h => by rw [List.mem_singleton.mp h]; exact Nat.le_refl _, Nat.le_refl _⟩
  | c :: r, acc => by
    cases h : TL.pre [c0] (c :: r) with
    | true =>
      rw [TL.spl_hit h]
      have ih := spl_bound c0 r []
      refine ⟨fun q hq => ?_, ?_⟩
      · rcases List.mem_cons.mp hq with e | e
        · subst e; omega
        · have := ih.1 q e; rw [List.length_nil] at this; rw [List.length_cons]; omega
      · have := ih.2; show (TL.spl [c0] 0 [] r).length + 1 ≤ r.length + 1 + 1; omega
    | false =>
      rw [TL.spl_miss h]
      have ih := spl_bound c0 r (acc ++ [c])
      refine ⟨fun q hq => ?_, ?_⟩
      · have := ih.1 q hq; rw [List.length_append] at this; rw [List.length_cons]; simp at this; omega
      · rw [List.length_cons]; have := ih.2; omega
theorem parts_len {p q : List Nat} (h : q ∈ parts p) : q.length ≤ p.length := by have := (spl_bound 44 p []).1 q h; rw [List.length_nil] at this; omega
theorem parts_num (p : List Nat) : (parts p).length ≤ p.length + 1 := (spl_bound 44 p []).2
/-- an item: its sign, its glob -/
def isBar (it : List Nat) : Bool := decide (it.take 1 = [33])
def globOf (it : List Nat) : List Nat := if isBar it = true then it.drop 1 else it
theorem globOf_len (it : List Nat) : (globOf it).length ≤ it.length := by
  unfold globOf; split
  · rw [List.length_drop]; omega
  · exact Nat.le_refl _
def fit (g b : List Nat) : Prop := stand g b g.length
open Classical in
noncomputable def letsL (its : List (List Nat)) (b : List Nat) : Bool := its.foldl (fun ans it => if fit (globOf it) b then !isBar it else ans) false
open Classical in
theorem lets_skip (b : List Nat) : ∀ (its : List (List Nat)) (v : Bool), (∀ it ∈ its, ¬ fit (globOf it) b) → its.foldl (fun ans it => if fit (globOf it) b then !isBar it else ans) v = v
  | [], _, _ => rfl
  | x :: r, v, h => by rw [List.foldl_cons, if_neg (h x (by simp))]; exact lets_skip b r v fun y hy => h y (List.mem_cons_of_mem _ hy)
theorem lets_last {its : List (List Nat)} {b : List Nat} {i : Nat} {it : List Nat} (h : its[i]? = some it) (hf : fit (globOf it) b) (hn : ∀ (j : Nat) (y : List Nat), i < j → its[j]? = some y → ¬ fit (globOf y) b) : letsL its b = !isBar it := by
  classical
  unfold letsL
  have e : its = its.take i ++ it :: its.drop (i + 1) := by
    obtain ⟨h1, h2⟩ := List.getElem?_eq_some_iff.mp h
    rw [← h2, List.getElem_cons_drop, List.take_append_drop]
  rw [e, List.foldl_append, List.foldl_cons, if_pos hf]
  refine lets_skip b _ _ fun y hy => ?_
  obtain ⟨j, hj, e2⟩ := List.getElem_of_mem hy
  refine hn (i + 1 + j) y (by omega) ?_
  have := List.getElem?_eq_getElem hj
  rw [List.getElem?_drop, e2] at this
  exact this
theorem lets_none {its : List (List Nat)} {b : List Nat} (hn : ∀ (j : Nat) (y : List Nat), its[j]? = some y → ¬ fit (globOf y) b) : letsL its b = false := by
  classical
  unfold letsL
  refine lets_skip b _ _ fun y hy => ?_
  obtain ⟨j, hj, e⟩ := List.getElem_of_mem hy
  exact hn j y (by rw [List.getElem?_eq_getElem hj, e])
def Clean (b : List Nat) : Prop := ∀ c ∈ b, c ≠ 42
theorem bar_starts (x : Str) : Txt.startswith x (Str.ofString "!") = isBar (tl x) := by
  have e := StrLaws.subAt_one x 33 0
  have e0 : ((tl x)[0]? = some 33) ↔ (tl x).take 1 = [33] := by
    cases tl x with
    | nil => simp
    | cons y r => simp
  unfold Txt.startswith isBar
  rw [Bool.eq_iff_iff, Bool.and_eq_true, decide_eq_true_iff, decide_eq_true_iff, ← e0]
  exact e
theorem bar_cut (x : Str) : decide (V.str (cutS x none (some 1)) = V.str (Str.ofString "!")) = isBar (tl x) := by
  unfold isBar
  rw [Bool.eq_iff_iff, decide_eq_true_iff, decide_eq_true_iff]
  have e : tl (cutS x none (some 1)) = (tl x).take 1 := cutS_to (by decide)
  constructor
  · intro h
    have h2 := congrArg tl (V.str.inj h)
    rw [e] at h2; exact h2
  · intro h
    exact congrArg V.str (tl_ext (by rw [e, h]; rfl))
/-- the law's places: those that lie ahead of a star, too -/
def Lax (g : List Nat) (N M : Nat → Prop) : Prop := ∀ y, M y ↔ (N y ∨ (g[y]? = some 42 ∧ N (y + 1)))
theorem lax_start (g : List Nat) : Lax g (st0 g) (st0 g) := fun y => ⟨.inl, fun h => h.elim id fun k => k.2.2⟩
/-- what the law puts in, ahead of its last loop -/
def lawA (g : List Nat) (M : Nat → Prop) (c : Nat) (y : Nat) : Prop := (M y ∧ g[y]? = some 42) ∨ ∃ i, y = i + 1 ∧ M i ∧ (g[i]? = some 63 ∨ g[i]? = some c)
def lawB (g : List Nat) (A : Nat → Prop) : Nat → Prop
  | 0 => A 0
  | i + 1 => A (i + 1) ∨ (lawB g A i ∧ g[i]? = some 42)
theorem lax_next {g : List Nat} {N M : Nat → Prop} {c : Nat} (hc : c ≠ 42) (cl : closed g N) (l : Lax g N M) : Lax g (nxt g N c) (lawB g (lawA g M c)) := by
  have ns : ∀ i : Nat, (g[i]? = some 63 ∨ g[i]? = some c) → g[i]? ≠ some 42 := fun i h e => by
    rcases h with h | h <;> rw [h] at e
    · cases e
    · exact hc (Option.some.inj e)
  have bA : ∀ y, lawA g M c y → lawB g (lawA g M c) y := fun y h => by
    cases y with
    | zero => exact h
    | succ i => exact .inl h
  have fA : ∀ y, lawA g M c y → nxt g N c y ∨ (g[y]? = some 42 ∧ nxt g N c (y + 1)) := fun y h => by
    rcases h with ⟨m, e⟩ | ⟨i, rfl, m, k⟩
    · refine .inr ⟨e, .inl ⟨e, .inr ?_⟩⟩
      rcases (l y).mp m with n | ⟨_, n⟩
      · exact cl y n e
      · exact n
    · refine .inl (.inr ⟨ns i k, ?_, k⟩)
      rcases (l i).mp m with n | ⟨q, _⟩
      · exact n
      · exact absurd q (ns i k)
  have back : ∀ y, nxt g N c y → lawB g (lawA g M c) y := fun y => by
    induction y with
    | zero => intro h; exact h.elim
    | succ i ih =>
      rintro (⟨e, h | h⟩ | ⟨_, n, k⟩)
      · exact .inr ⟨ih h, e⟩
      · exact .inr ⟨bA i (.inl ⟨(l i).mpr (.inr ⟨e, h⟩), e⟩), e⟩
      · exact .inl (.inr ⟨i, rfl, (l i).mpr (.inl n), k⟩)
  intro y
  constructor
  · induction y with
    | zero => intro h; exact fA 0 h
    | succ i ih =>
      rintro (h | ⟨h, e⟩)
      · exact fA _ h
      · rcases ih h with n | ⟨_, n⟩
        · exact .inl (.inl ⟨e, .inl n⟩)
        · exact .inl n
  · rintro (h | ⟨e, h⟩)
    · exact back y h
    · rcases h with ⟨_, h | h⟩ | ⟨q, _⟩
      · exact back y h
      · exact bA y (.inl ⟨(l y).mpr (.inr ⟨e, h⟩), e⟩)
      · exact absurd e q
/-! ### promises -/
def itemV (it : List Nat) : List V := [.int (if isBar it = true then 0 else 1), .str (S (globOf it))]
def sp_items_of (K : PySem.W.Frag) : Sp := fun vs H Q _ => ∃ (p : Str), vs = [.str p] ∧ (tl p).length ≤ 3000 ∧
  ∀ (q : Addr) (ts : List Addr) (H' : Hp), Same H H' → H' q = some (.tup (ts.map V.ref)) → ts.length = (parts (tl p)).length → (∀ (i : Nat) (t : Addr) (it : List Nat), ts[i]? = some t → (parts (tl p))[i]? = some it → H' t = some (.tup (itemV it))) → Q (.ref q) H'
def sp_lets (K : PySem.W.Frag) : Sp := fun vs H Q _ => ∃ (p b : Str), vs = [.str p, .str b] ∧ (tl p).length ≤ 3000 ∧ Clean (tl b) ∧ ∀ H', Same H H' → Q (.bl (letsL (parts (tl p)) (tl b))) H'
def sp_lets_one (K : PySem.W.Frag) : Sp := fun vs H Q _ => ∃ (p : Str) (a : Addr) (bs : List Str), vs = [.str p, .ref a] ∧ SqT K H a (bs.map V.str) ∧ (tl p).length ≤ 3000 ∧ bs.length ≤ 1000 ∧ (∀ b ∈ bs, Clean (tl b)) ∧ ∀ H', Same H H' → Q (.bl (bs.any fun b => letsL (parts (tl p)) (tl b))) H'
open Classical in
def sp__law_fits (K : PySem.W.Frag) : Sp := fun vs H Q _ => ∃ (g b : Str), vs = [.str g, .str b] ∧ Clean (tl b) ∧ (tl g).length ≤ 10000 ∧ ∀ (H' : Hp), Same H H' → Q (.bl (decide (fit (tl g) (tl b)))) H'
def sp__law_lets (K : PySem.W.Frag) : Sp := sp_lets K
def sp__law_lets_some (K : PySem.W.Frag) : Sp := sp_lets_one K
theorem split_bar (p : Str) : Txt.split p (Str.ofString ",") = (parts (tl p)).map S := split_S (a := tl p) (b := [44]) (by decide) (by decide)

/-! ### lists of truth values -/
def Bs (bs : List Bool) (n : Nat) (M : Nat → Prop) : Prop := bs.length = n + 1 ∧ ∀ y, bs[y]? = some true ↔ M y
theorem Bs.set {bs : List Bool} {n k : Nat} {M : Nat → Prop} (h : Bs bs n M) (hk : k ≤ n) : Bs (bs.set k true) n (fun y => M y ∨ y = k) := by
  refine ⟨by rw [List.length_set]; exact h.1, fun y => ?_⟩
  rw [List.getElem?_set]
  by_cases e : k = y
  · subst e
    rw [if_pos rfl, if_pos (by have := h.1; omega)]
    exact ⟨fun _ => .inr rfl, fun _ => rfl⟩
  · rw [if_neg e]
    exact ⟨fun q => .inl ((h.2 y).mp q), fun q => q.elim (h.2 y).mpr fun z => absurd z.symm e⟩
theorem Bs.congr {bs : List Bool} {n : Nat} {M N : Nat → Prop} (h : Bs bs n M) (e : ∀ y, M y ↔ N y) : Bs bs n N := ⟨h.1, fun y => (h.2 y).trans (e y)⟩
theorem Bs.get {bs : List Bool} {n k : Nat} {M : Nat → Prop} (h : Bs bs n M) (hk : k ≤ n) : ∃ b : Bool, bs[k]? = some b ∧ (b = true ↔ M k) := by
  have hl : k < bs.length := by have := h.1; omega
  refine ⟨bs[k], List.getElem?_eq_getElem hl, ?_⟩
  rw [← h.2 k, List.getElem?_eq_getElem hl]
  exact ⟨fun e => by rw [e], fun e => Option.some.inj e⟩
theorem atI_bl {bs : List Bool} {k : Nat} {b : Bool} {z : Int} (hz : z = (k : Int)) (h : bs[k]? = some b) : atI (bs.map V.bl) z = some (.bl b) := at_of hz (by rw [List.getElem?_map, h]; rfl)
theorem ixN_pos {n k : Nat} {z : Int} (hz : z = (k : Int)) (h : k < n) : ixN n z = some k := by
  subst hz
  unfold ixN
  rw [if_pos (by omega), if_pos (by omega)]; rfl
theorem map_set_bl (bs : List Bool) (k : Nat) : (bs.map V.bl).set k (.bl true) = (bs.set k true).map V.bl := by rw [List.map_set]
theorem bs_false (n : Nat) : Bs (List.replicate (n + 1) false) n (fun _ => False) := by
  refine ⟨List.length_replicate, fun y => ⟨fun h => ?_, fun h => h.elim⟩⟩
  rw [List.getElem?_replicate] at h
  split at h <;> cases h
theorem flatten_one (n : Nat) : (List.replicate n [V.bl false]).flatten = (List.replicate n false).map V.bl := by
  induction n with
  | zero => rfl
  | succ n ih => rw [List.replicate_succ, List.flatten_cons, ih, List.replicate_succ, List.map_cons]; rfl
end Z
namespace Z
open PySem L2 SX
def sp13 (f n : Nat) : Sp := fun vs H Q _ => ∃ (s a : Addr) (c : Nat), vs = [.ref s] ∧ Src H s a (c + f) ∧ ∀ (x : Str) (H' : Hp), (tl x).length ≤ n → Ext s H H' → Src H' s a c → Q (.str x) H'
def sp13_bent : Sp := fun vs H Q _ => ∃ (s a : Addr) (x : Str) (c : Nat), vs = [.ref s, .str x] ∧ (tl x).length ≤ 1000 ∧ Src H s a (c + 10) ∧ ∀ (y : Str) (H' : Hp), (tl y).length ≤ (tl x).length + 3 → Ext s H H' → Src H' s a c → Q (.str y) H'
theorem ext_free {H H1 : Hp} {s a u : Addr} {c : Nat} (x : Ext s H H1) (S : Src H1 s a c) (h : H1 u = none) : H u = none := by
  cases e : H u with
  | none => rfl
  | some o =>
    by_cases q : u = s
    · subst q
      obtain ⟨xs, e2⟩ := S.lst
      rw [h] at e2; cases e2
    · have := x _ _ q e
      rw [h] at this; cases this
theorem joinL_len {s : List Nat} {n : Nat} : ∀ {ls : List (List Nat)}, (∀ l ∈ ls, l.length ≤ n) → (TL.joinL s ls).length ≤ ls.length * (n + s.length)
  | [], _ => by simp [TL.joinL]
  | [x], h => by have := h x (by simp); show x.length ≤ 1 * (n + s.length); omega
  | x :: y :: r, h => by
    have ih := joinL_len (s := s) (ls := y :: r) (fun l m => h l (List.mem_cons_of_mem _ m))
    have := h x (by simp)
    show (x ++ (s ++ TL.joinL s (y :: r))).length ≤ ((y :: r).length + 1) * (n + s.length)
    rw [List.length_append, List.length_append, Nat.succ_mul]
    omega
theorem tl_joinS (s : Str) (xs : List Str) : tl (Txt.join s xs) = TL.joinL (tl s) (xs.map tl) := by
  have h := join_S (tl s) (xs.map tl)
  rw [tl_mapS] at h
  exact congrArg tl h
theorem sum_len {n : Nat} : ∀ {xs : List Str}, (∀ x ∈ xs, (tl x).length ≤ n) → (xs.map (·.length)).sum ≤ xs.length * n
  | [], _ => by simp
  | x :: xs, h => by
    have := h x (by simp)
    have ih := sum_len (n := n) (xs := xs) (fun y m => h y (List.mem_cons_of_mem _ m))
    rw [List.map_cons, List.sum_cons, List.length_cons, Nat.succ_mul, tl_len]; omega
theorem cut_le (x : Str) (i j : Option Int) : (tl (cutS x i j)).length ≤ (tl x).length := by
  show ((List.drop _ (tl x)).take _).length ≤ _
  rw [List.length_take, List.length_drop]; omega
theorem len_mem {n : Nat} {xs : List Str} {w : V} (h : ∀ x ∈ xs, (tl x).length ≤ n) (m : w ∈ xs.map V.str) : ∃ x, w = V.str x ∧ (tl x).length ≤ n := by
  obtain ⟨x, hx, rfl⟩ := List.mem_map.mp m
  exact ⟨x, rfl, h x hx⟩
end Z
namespace Z
open PySem L2 SX
/-! ### patterns: scanning and splitting -/
def okc (c : Nat) : Bool := decide (c ∈ tl (Str.ofString "abcdefghijklmnopqrstuvwxyz0123456789.*?"))
theorem okc_44 : okc 44 = false := by decide +kernel
theorem okc_33 : okc 33 = false := by decide +kernel
def step (a c : Nat) : Bool := (decide (c = 33) && decide (a = 44)) || (decide (c = 44) && (decide (a ≠ 44) && decide (a ≠ 33))) || okc c
/-- all signs may follow each other, behind a -/
def runs : Nat → List Nat → Bool
  | _, [] => true
  | a, c :: r => step a c && runs c r
def lastOf : Nat → List Nat → Nat
  | a, [] => a
  | _, c :: r => lastOf c r
def globP (it : List Nat) : List Nat := if decide (it.take 1 = [33]) = true then it.drop 1 else it
def goodItem (it : List Nat) : Bool := decide (globP it ≠ []) && (globP it).all okc
/-- an item so far: what stands behind its ! is of glob signs -/
def part1 (acc : List Nat) : Bool := (globP acc).all okc
theorem runs_app (a : Nat) (l m : List Nat) : runs a (l ++ m) = (runs a l && runs (lastOf a l) m) := by
  induction l generalizing a with
  | nil => simp [runs, lastOf]
  | cons c r ih => show (step a c && runs c (r ++ m)) = ((step a c && runs c r) && runs (lastOf c r) m); rw [ih, Bool.and_assoc]
theorem last_app (a c : Nat) (l : List Nat) : lastOf a (l ++ [c]) = c := by
  induction l generalizing a with
  | nil => rfl
  | cons d r ih => exact ih d
theorem globP_app {acc : List Nat} {c : Nat} (h : acc ≠ []) : globP (acc ++ [c]) = globP acc ++ [c] := by
  cases acc with
  | nil => exact absurd rfl h
  | cons d r =>
    unfold globP
    show (if decide ([d] = [33]) = true then r ++ [c] else d :: (r ++ [c])) = (if decide ([d] = [33]) = true then r else d :: r) ++ [c]
    split <;> rfl
/-- the last sign ahead, as the scan sees it: the accumulated item behind a comma -/
theorem good_last {acc : List Nat} (h : part1 acc = true) : goodItem acc = (decide (lastOf 44 acc ≠ 44) && decide (lastOf 44 acc ≠ 33)) := by
  rcases List.eq_nil_or_concat acc with e | ⟨l, c, e⟩
  · subst e; decide
  · rw [List.concat_eq_append] at e
    subst e
    rw [last_app]
    unfold goodItem
    rw [show (globP (l ++ [c])).all okc = true from h, Bool.and_true]
    by_cases hl : l = []
    · subst hl
      by_cases e33 : c = 33
      · subst e33; decide
      · have g : globP ([] ++ [c]) = [c] := by
          unfold globP
          rw [if_neg (by simp [e33])]; rfl
        have oc : okc c = true := by
          have h' : (globP ([] ++ [c])).all okc = true := h
          rw [g] at h'
          simpa using h'
        have e44 : c ≠ 44 := fun e => by rw [e, okc_44] at oc; cases oc
        rw [g, decide_eq_true (show [c] ≠ [] by simp), decide_eq_true e44, decide_eq_true e33]; rfl
    · have g := globP_app (c := c) hl
      have h' : (globP (l ++ [c])).all okc = true := h
      rw [g, List.all_append] at h'
      have oc : okc c = true := by
        have := (Bool.and_eq_true_iff.mp h').2
        simpa using this
      have e44 : c ≠ 44 := fun e => by rw [e, okc_44] at oc; cases oc
      have e33 : c ≠ 33 := fun e => by rw [e, okc_33] at oc; cases oc
      rw [g, decide_eq_true (show globP l ++ [c] ≠ [] by simp), decide_eq_true e44, decide_eq_true e33]; rfl
theorem part_step {acc : List Nat} {c : Nat} (h : part1 acc = true) (hc : c ≠ 44) : part1 (acc ++ [c]) = step (lastOf 44 acc) c := by
  unfold step
  rw [decide_eq_false hc, Bool.false_and, Bool.or_false]
  by_cases hl : acc = []
  · subst hl
    by_cases e33 : c = 33
    · subst e33; decide
    · have g : globP ([] ++ [c]) = [c] := by
        unfold globP
        rw [if_neg (by simp [e33])]; rfl
      unfold part1
      rw [g, decide_eq_false e33, Bool.false_and, Bool.false_or]
      simp
  · unfold part1
    rw [globP_app hl, List.all_append, show (globP acc).all okc = true from h]
    have l44 : lastOf 44 acc ≠ 44 := by
      rcases List.eq_nil_or_concat acc with e | ⟨l, d, e⟩
      · exact absurd e hl
      · rw [List.concat_eq_append] at e
        subst e
        rw [last_app]
        intro e
        subst e
        by_cases hl2 : l = []
        · subst hl2
          revert h; decide +kernel
        · have h' : (globP (l ++ [44])).all okc = true := h
          rw [globP_app hl2, List.all_append] at h'
          have := (Bool.and_eq_true_iff.mp h').2
          simp [okc_44] at this
    rw [decide_eq_false l44, Bool.and_false, Bool.false_or]
    simp
theorem bad_part (l : List Nat) : ∀ acc : List Nat, part1 acc = false → (TL.spl [44] 0 acc l).all goodItem = false := by
  induction l with
  | nil =>
    intro acc h
    rw [TL.spl_nil]
    show (goodItem acc && true) = false
    unfold goodItem
    rw [show (globP acc).all okc = false from h, Bool.and_false]; rfl
  | cons c r ih =>
    intro acc h
    by_cases hc : c = 44
    · subst hc
      rw [TL.spl_hit (show TL.pre [44] (44 :: r) = true by show ([44] == [44]) = true; rfl)]
      show (goodItem acc && _) = false
      unfold goodItem
      rw [show (globP acc).all okc = false from h, Bool.and_false, Bool.false_and]
    · rw [TL.spl_miss (show TL.pre [44] (c :: r) = false by show ([c] == [44]) = false; simp [hc])]
      refine ih _ ?_
      have hl : acc ≠ [] := fun e => by rw [e] at h; revert h; decide
      unfold part1
      rw [globP_app hl, List.all_append, show (globP acc).all okc = false from h, Bool.false_and]
theorem spl_good (l : List Nat) : ∀ acc : List Nat, part1 acc = true → (TL.spl [44] 0 acc l).all goodItem = (runs (lastOf 44 acc) l && (decide (lastOf (lastOf 44 acc) l ≠ 44) && decide (lastOf (lastOf 44 acc) l ≠ 33))) := by
  induction l with
  | nil =>
    intro acc h
    rw [TL.spl_nil]
    show (goodItem acc && true) = _
    rw [Bool.and_true, good_last h]; rfl
  | cons c r ih =>
    intro acc h
    by_cases hc : c = 44
    · subst hc
      rw [TL.spl_hit (show TL.pre [44] (44 :: r) = true by show ([44] == [44]) = true; rfl)]
      show (goodItem acc && (TL.spl [44] 0 [] r).all goodItem) = ((step (lastOf 44 acc) 44 && runs 44 r) && _)
      rw [ih [] (by decide), good_last h]
      have : step (lastOf 44 acc) 44 = (decide (lastOf 44 acc ≠ 44) && decide (lastOf 44 acc ≠ 33)) := by
        unfold step
        rw [okc_44]; simp
      rw [this]
      show (_ && (runs 44 r && (decide (lastOf 44 r ≠ 44) && decide (lastOf 44 r ≠ 33)))) = _
      rw [show lastOf (lastOf 44 acc) (44 :: r) = lastOf 44 r from rfl]
      simp only [Bool.and_assoc]
    · rw [TL.spl_miss (show TL.pre [44] (c :: r) = false by show ([c] == [44]) = false; simp [hc])]
      by_cases hs : step (lastOf 44 acc) c = true
      · rw [ih (acc ++ [c]) (by rw [part_step h hc]; exact hs), last_app]
        show _ = ((step (lastOf 44 acc) c && runs c r) && _)
        rw [hs, Bool.true_and]; rfl
      · have hs' : step (lastOf 44 acc) c = false := Bool.eq_false_iff.mpr hs
        show _ = ((step (lastOf 44 acc) c && runs c r) && _)
        rw [hs', Bool.false_and, Bool.false_and]
        have np : part1 (acc ++ [c]) = false := by rw [part_step h hc]; exact hs'
        exact bad_part r _ np
theorem spl_count (l : List Nat) : ∀ acc : List Nat, (TL.spl [44] 0 acc l).length = l.count 44 + 1 := by
  induction l with
  | nil => intro acc; rw [TL.spl_nil]; rfl
  | cons c r ih =>
    intro acc
    by_cases hc : c = 44
    · subst hc
      rw [TL.spl_hit (show TL.pre [44] (44 :: r) = true by show ([44] == [44]) = true; rfl), List.count_cons_self]
      show (TL.spl [44] 0 [] r).length + 1 = _
      rw [ih]
    · rw [TL.spl_miss (show TL.pre [44] (c :: r) = false by show ([c] == [44]) = false; simp [hc]), ih, List.count_cons_of_ne hc]
/-- a pattern, as the law splits it -/
def isPat (l : List Nat) : Bool := decide (l.length ≤ 60) && (decide ((TL.spl [44] 0 [] l).length ≤ 8) && (TL.spl [44] 0 [] l).all goodItem)
def endOk (a : Nat) : Bool := decide (a ≠ 44) && decide (a ≠ 33)
theorem isPat_eq (l : List Nat) : isPat l = (decide (l.length ≤ 60) && (decide (l.count 44 ≤ 7) && (runs 44 l && endOk (lastOf 44 l)))) := by
  unfold isPat endOk
  rw [spl_good l [] (by decide), spl_count]
  rw [show decide (l.count 44 + 1 ≤ 8) = decide (l.count 44 ≤ 7) by rw [decide_eq_decide]; omega]
  rfl
/-- the beginning of some pattern, as the law asks it -/
def isBeg (l : List Nat) : Bool := isPat l || isPat (l ++ [97])
theorem isBeg_eq (l : List Nat) : isBeg l = (runs 44 l && (decide (l.count 44 ≤ 7) && (decide (l.length ≤ 59) || (decide (l.length ≤ 60) && endOk (lastOf 44 l))))) := by
  unfold isBeg
  rw [isPat_eq, isPat_eq, runs_app, last_app, List.length_append, List.count_append]
  rw [show runs (lastOf 44 l) [97] = true by show (step _ 97 && true) = true; unfold step; rw [show okc 97 = true by decide +kernel]; simp, show endOk 97 = true by decide]
  rw [show List.count 44 [97] = 0 by decide, Nat.add_zero, Bool.and_true, Bool.and_true]
  rw [show decide (l.length + [97].length ≤ 60) = decide (l.length ≤ 59) by rw [decide_eq_decide]; show l.length + 1 ≤ 60 ↔ _; omega]
  cases runs 44 l <;> cases decide (l.count 44 ≤ 7) <;> cases decide (l.length ≤ 59) <;> cases decide (l.length ≤ 60) <;> cases endOk (lastOf 44 l) <;> rfl
/-- a sign behind a, behind k commas, at the place n -/
def may (c a k n : Nat) : Bool := if c = 33 then decide (a = 44) && decide (n < 59) else if c = 44 then (decide (a ≠ 44) && decide (a ≠ 33)) && (decide (k < 7) && decide (n < 59)) else okc c && decide (n < 60)
theorem isBeg_snoc (l : List Nat) (c : Nat) : isBeg (l ++ [c]) = (isBeg l && may c (lastOf 44 l) (l.count 44) l.length) := by
  rw [isBeg_eq, isBeg_eq, runs_app, last_app, List.length_append, List.count_append]
  show ((runs 44 l && (step (lastOf 44 l) c && true)) && (decide (l.count 44 + List.count 44 [c] ≤ 7) && (decide (l.length + 1 ≤ 59) || (decide (l.length + 1 ≤ 60) && endOk c)))) = _
  unfold may step
  by_cases h33 : c = 33
  · subst h33
    rw [if_pos rfl, show List.count 44 [33] = 0 by decide, okc_33, show endOk 33 = false by decide, decide_eq_true (rfl : (33 : Nat) = 33), decide_eq_false (show ¬ (33 : Nat) = 44 by decide)]
    by_cases hn : l.length < 59
    · rw [decide_eq_true (show l.length + 1 ≤ 59 by omega), decide_eq_true (show l.length ≤ 59 by omega), decide_eq_true hn]
      cases runs 44 l <;> cases decide (lastOf 44 l = 44) <;> cases decide (l.count 44 ≤ 7) <;> simp
    · rw [decide_eq_false (show ¬ l.length + 1 ≤ 59 by omega), decide_eq_false hn]
      simp
  · rw [if_neg h33]
    by_cases h44 : c = 44
    · subst h44
      rw [if_pos rfl, show List.count 44 [44] = 1 by decide, okc_44, show endOk 44 = false by decide, decide_eq_true (rfl : (44 : Nat) = 44), decide_eq_false h33]
      rw [show decide (l.count 44 + 1 ≤ 7) = decide (l.count 44 < 7) by rw [decide_eq_decide]; omega]
      by_cases hn : l.length < 59
      · rw [decide_eq_true (show l.length + 1 ≤ 59 by omega), decide_eq_true (show l.length ≤ 59 by omega), decide_eq_true hn]
        by_cases hk : l.count 44 < 7
        · rw [decide_eq_true hk, decide_eq_true (show l.count 44 ≤ 7 by omega)]; simp
        · rw [decide_eq_false hk]; simp
      · rw [decide_eq_false (show ¬ l.length + 1 ≤ 59 by omega), decide_eq_false hn]
        simp
    · rw [if_neg h44, show List.count 44 [c] = 0 by rw [List.count_cons_of_ne h44]; rfl, decide_eq_false h33, decide_eq_false h44, Nat.add_zero]
      have : endOk c = true := by unfold endOk; rw [decide_eq_true h44, decide_eq_true h33]; rfl
      rw [this]
      by_cases hn : l.length < 60
      · rw [decide_eq_true (show l.length + 1 ≤ 60 by omega), decide_eq_true (show l.length ≤ 59 by omega), decide_eq_true hn]
        cases runs 44 l <;> cases okc c <;> cases decide (l.count 44 ≤ 7) <;> simp
      · rw [decide_eq_false (show ¬ l.length + 1 ≤ 59 by omega), decide_eq_false (show ¬ l.length + 1 ≤ 60 by omega), decide_eq_false hn]
        simp
theorem isPat_of_beg {l : List Nat} (h : isBeg l = true) : isPat l = endOk (lastOf 44 l) := by
  rw [isPat_eq]
  rw [isBeg_eq] at h
  simp only [Bool.and_eq_true, Bool.or_eq_true] at h
  obtain ⟨h1, h2, h3⟩ := h
  rw [h1, h2]
  have : l.length ≤ 60 := by rcases h3 with h | h
                             · have := of_decide_eq_true h; omega
                             · exact of_decide_eq_true h.1
  rw [decide_eq_true this]; rfl
theorem eqL {x y : Str} : V.str x = V.str y ↔ tl x = tl y := ⟨fun h => by injection h with h; rw [h], fun h => by rw [tl_ext h]⟩
theorem split_comma (x : Str) : Txt.split x (Str.ofString ",") = (TL.spl [44] 0 [] (tl x)).map S := split_S (a := tl x) (b := [44]) (by decide) (by decide)
def sp_isPat : Sp := fun vs H Q _ => ∃ (x : Str), vs = [.str x] ∧ (tl x).length ≤ 2000 ∧ ∀ H', Same H H' → Q (.bl (isPat (tl x))) H'
def sp_may_stand : Sp := fun vs H Q _ => ∃ (c a k n : Nat), vs = [.str (S [c]), .str (S [a]), .int (k : Int), .int (n : Int)] ∧ Q (.bl (may c a k n)) H
/-- where a text is wrong -/
def wrongAt (l : List Nat) (o : Option Nat) : Prop := match o with
  | some k => (∀ j, j < k → j < l.length → isBeg (l.take (j + 1)) = true) ∧ ((k < l.length ∧ isBeg (l.take (k + 1)) = false) ∨ (k = l.length ∧ isPat l = false))
  | none => (∀ j, j < l.length → isBeg (l.take (j + 1)) = true) ∧ isPat l = true
theorem wrongAt_one {l : List Nat} {o p : Option Nat} (x : wrongAt l o) (y : wrongAt l p) : o = p := by
  have key : ∀ (k m : Nat), wrongAt l (some k) → wrongAt l (some m) → ¬ k < m := fun k m x y h => by
    obtain ⟨_, x2⟩ := x
    obtain ⟨y1, y2⟩ := y
    have ml : m ≤ l.length := by rcases y2 with h | h <;> omega
    rcases x2 with x2 | x2
    · have := y1 k h x2.1
      rw [x2.2] at this; cases this
    · omega
  have mix : ∀ k : Nat, wrongAt l (some k) → wrongAt l none → False := fun k x y => by
    obtain ⟨_, x2⟩ := x
    obtain ⟨y1, y2⟩ := y
    rcases x2 with x2 | x2
    · have := y1 k x2.1
      rw [x2.2] at this; cases this
    · rw [x2.2] at y2; cases y2
  cases o with
  | none => cases p with
    | none => rfl
    | some m => exact (mix m y x).elim
  | some k => cases p with
    | none => exact (mix k x y).elim
    | some m =>
      have h1 := key k m x y
      have h2 := key m k y x
      rw [show k = m by omega]
def optV : Option Nat → V
  | none => .non
  | some k => .int (k : Int)
def sp_wrong_place : Sp := fun vs H Q _ => ∃ (x : Str), vs = [.str x] ∧ (tl x).length ≤ 2000 ∧ ∀ o H', wrongAt (tl x) o → Same H H' → Q (optV o) H'
def sgnI (it : List Nat) : Int := if decide (it.take 1 = [33]) = true then 0 else 1
def itemP (it : List Nat) : List V := [.int (sgnI it), .str (S (globP it))]
def itemD (it : List Nat) : D := .tup [.int (sgnI it), .str (S (globP it))]
def sp_sign_and_glob : Sp := fun vs H Q _ => ∃ (x : Str), vs = [.str x] ∧ (tl x).length ≤ 2000 ∧ ∀ (t : Addr), H t = none → Q (.ref t) (upd H t (.tup (itemP (tl x))))
def dueD (l : List Nat) : Option Nat → D
  | some k => .tup [.str (Str.ofString "bad"), .int (k : Int)]
  | none => .tup [.str (Str.ofString "read"), .tup ((TL.spl [44] 0 [] l).map itemD)]
def sp_due (K : PySem.W.Frag) : Sp := fun vs H Q _ => ∃ (x : Str), vs = [.str x] ∧ (tl x).length ≤ 1000 ∧ ∀ o v H', wrongAt (tl x) o → DV K H' (dueD (tl x) o) v → Same H H' → Q v H'
theorem DVs.items {K : PySem.W.Frag} {H : Hp} : ∀ {its : List (List Nat)} {ts : List Addr}, ts.length = its.length → (∀ (k : Nat) (t : Addr) (it : List Nat), ts[k]? = some t → its[k]? = some it → H t = some (.tup (itemP it))) → DVs K H (its.map itemD) (ts.map V.ref)
  | [], [], _, _ => by unfold DVs; rfl
  | [], _ :: _, h, _ => by simp at h
  | _ :: _, [], h, _ => by simp at h
  | it :: its, t :: ts, h, f => by
    refine ⟨.ref t, ts.map V.ref, rfl, ?_, DVs.items (by simpa using h) fun k t' it' h1 h2 => f (k + 1) t' it' (by simpa using h1) (by simpa using h2)⟩
    exact ⟨t, _, rfl, SqT.of (f 0 t it rfl rfl), _, _, rfl, by unfold DV; rfl, _, _, rfl, by unfold DV; rfl, rfl⟩
def sp_write_pattern (K : PySem.W.Frag) : Sp := fun vs H Q _ => ∃ (a : Addr) (ts : List Addr) (its : List (List Nat)), vs = [.ref a] ∧ SqT K H a (ts.map V.ref) ∧ ts.length = its.length ∧ its.length ≤ 100 ∧ (∀ it ∈ its, it.length ≤ 1000) ∧ (∀ (k : Nat) (t : Addr) (it : List Nat), ts[k]? = some t → its[k]? = some it → SqT K H t (itemP it)) ∧
  ∀ (y : Str) (H' : Hp), tl y = TL.joinL [44] its → Same H H' → Q (.str y) H'
theorem join_spl (l : List Nat) : ∀ acc : List Nat, TL.joinL [44] (TL.spl [44] 0 acc l) = acc ++ l := by
  induction l with
  | nil => intro acc; rw [TL.spl_nil, List.append_nil]; rfl
  | cons c r ih =>
    intro acc
    by_cases hc : c = 44
    · subst hc
      rw [TL.spl_hit (show TL.pre [44] (44 :: r) = true by show ([44] == [44]) = true; rfl)]
      have e := ih []
      have ne : TL.spl [44] 0 [] r ≠ [] := fun h => by
        have := spl_count r []
        rw [h] at this; cases this
      show TL.joinL [44] (acc :: TL.spl [44] 0 [] r) = _
      cases hs : TL.spl [44] 0 [] r with
      | nil => exact absurd hs ne
      | cons y ys =>
        show acc ++ ([44] ++ TL.joinL [44] (y :: ys)) = _
        rw [← hs, e]; rfl
    · rw [TL.spl_miss (show TL.pre [44] (c :: r) = false by show ([c] == [44]) = false; simp [hc]), ih, List.append_assoc]; rfl
theorem DVs.items_inv {K : PySem.W.Frag} {H : Hp} : ∀ {its : List (List Nat)} {vs : List V}, DVs K H (its.map itemD) vs → ∃ ts : List Addr, vs = ts.map V.ref ∧ ts.length = its.length ∧ ∀ (k : Nat) (t : Addr) (it : List Nat), ts[k]? = some t → its[k]? = some it → SqT K H t (itemP it)
  | [], vs, h => by unfold DVs at h; subst h; exact ⟨[], rfl, rfl, fun k t it h1 h2 => by simp at h1⟩
  | it :: its, vs, h => by
    obtain ⟨v, r, rfl, h1, h2⟩ := h
    obtain ⟨ts, rfl, hl, hk⟩ := DVs.items_inv h2
    unfold itemD DV at h1
    obtain ⟨a, xs, rfl, hS, h3⟩ := h1
    obtain ⟨v1, r1, rfl, e1, h4⟩ := h3
    obtain ⟨v2, r2, rfl, e2, h5⟩ := h4
    unfold DV at e1 e2
    unfold DVs at h5
    subst e1 e2 h5
    refine ⟨a :: ts, rfl, by rw [List.length_cons, hl, List.length_cons], fun k t it' g1 g2 => ?_⟩
    cases k with
    | zero =>
      have ea : a = t := Option.some.inj g1
      have ei : it = it' := Option.some.inj g2
      subst ea ei
      exact hS
    | succ k => exact hk k t it' (by simpa using g1) (by simpa using g2)
def sp_read_pattern (K : PySem.W.Frag) (C : Addr) : Sp := fun vs H Q E => ∃ (x : Str), vs = [.str x] ∧ (tl x).length ≤ 1000 ∧
  (∀ (u : Addr) (ts : List Addr) (H1 : Hp), wrongAt (tl x) none → Same H H1 → H1 u = some (.tup (ts.map V.ref)) → ts.length = (TL.spl [44] 0 [] (tl x)).length → (∀ (i : Nat) (t : Addr) (it : List Nat), ts[i]? = some t → (TL.spl [44] 0 [] (tl x))[i]? = some it → H1 t = some (.tup (itemP it))) → Q (.ref u) H1) ∧
  (∀ (k : Nat) (dd : Addr) (H1 : Hp), wrongAt (tl x) (some k) → Same H H1 → H1 dd = some (.xd [("at", .int (k : Int))]) → E (.ref C) (some dd) H1)
end Z
namespace Z
open PySem PySem.Spec PyProof.Rows L2 SX
/-! ### name = text[..]; text = text.replace(name, ''): the token of the name is known -/
theorem nsSet_det {M : Model} {Γ : PySem.Ctx} {E : Value → Pos → Shared → Prop} {p : Pos} {s : Shared} {a : Addr} {m : Str → Option Value} (hn : s.heap.Ns a m) (name : Str) (v : Value) :
    ∃ h', h'.Ns a (fun x => if x = name then some v else m x) ∧ ∀ Q, Sem.wp M Γ (nsSet a name v) Q E p s ↔ Q () p { s with heap := h', toks := s.toks + 1 } := by
  have key : ∃ h', ∀ Q, Sem.wp M Γ (nsSet a name v) Q E p s ↔ Q () p { s with heap := h', toks := s.toks + 1 } := by
    obtain ⟨o, es, ep, ho, hd, hk, hm⟩ := hn
    have hany : es.any (·.refKey) = false := by
      rw [Array.any_eq_false']
      intro e he
      obtain ⟨n, t, h⟩ := hk e he
      simp [DictEntry.refKey, h]
    apply Exists.intro
    intro Q
    simp only [nsSet, strHash, Sem.wp_bind', Sem.wp_cmd_ask, Sem.wp_pure', Sem.wp_cmd_mkText]
    rw [Sem.wp_loadPart_of M Γ E p { s with toks := s.toks + 1 } (o := o) _ ho]
    simp only [hd, aRefKeyMayBeTheName_eq, aRefKeyMayBeTheNameByArray, hany, Bool.and_false, Bool.false_eq_true, if_false, Sem.wp_cmd_updatePart]
    exact ⟨fun h => h.2, fun h => ⟨by rw [ho]; rfl, h⟩⟩
  obtain ⟨h', hq⟩ := key
  refine ⟨h', ?_, hq⟩
  have := (hq _).mp (Sem.wp_nsSet M Γ E p s hn name v (fun _ _ s' => ∃ h2 : Heap, h2.Ns a (fun x => if x = name then some v else m x) ∧ s' = { s with heap := h2, toks := s.toks + 1 }) (fun h2 a1 _ => ⟨h2, a1, rfl⟩))
  obtain ⟨h2, a1, e⟩ := this
  have e2 : h' = h2 := congrArg Shared.heap e
  rw [e2]; exact a1
theorem store_det {M : Model} {A : Around} {E : Value → Shared → Prop} {s : Shared} {env : Env} {name : Str} {m : Str → Option Value} {v : Value} {Q : Unit → Shared → Prop} (hl : env.kindOf name = some .local) (hn : s.heap.Ns env.locals m)
    (hp : (env.scope.kind == .class || (env.scope.kind == .module && env.locals != env.globals)) = false) (h : wpAny M A (storeName env name v) Q E s) :
    wpAny M A (storeName env name v) (fun u s' => Q u s' ∧ s'.heap.Ns env.locals (fun x => if x = name then some v else m x) ∧ s'.toks = s.toks + 1) E s := by
  rw [storeName_local hl hp] at h ⊢
  intro Γ p hΓ
  obtain ⟨h', a1, hq⟩ := nsSet_det (M := M) (Γ := Γ) (E := fun e _ s' => E e s') (p := p) hn name v
  have h1 := (hq _).mp (h Γ p hΓ)
  exact (hq _).mpr ⟨h1, a1, rfl⟩
section
variable {X : Cx}
def tRepS (l o : Nat) (tb : TE) (u : TS) : TS := fun D σ H => ∃ z : Str, σ[l]? = some (some (.str z)) ∧ tb σ H fun y H1 => ∃ (i : Int) (c : Nat), y = .int i ∧ 0 ≤ i ∧ i < 2 ^ 63 ∧ i < z.length ∧ z.cps[i.toNat]? = some c ∧ z.length ≤ 1000000 ∧
  u D ((σ.set o (some (.str ⟨#[c]⟩))).set l (some (.str (Txt.replace z ⟨#[c]⟩ (Str.ofString ""))))) H1
theorem psst_rep {l o j : Nat} {nl no : Str} {eb : Expr} {rest : List Stmt} {tb : TE} {u : TS} {p1 p2 p3 p4 p5 p6 p7 p8 c1 ap pos : Pos} (hN : X.N.Nodup) (hl : X.N[l]? = some nl) (ho : X.N[o]? = some no) (hlo : o ≠ l)
    (kl : X.env.scope.names.lookup nl = some .local) (ko : X.env.scope.names.lookup no = some .local) (hb : PE X eb tb) (hs : PlainIxT eb) (h2 : PSsT X rest u)
    (hs1 : swapsWith (.Subscript (.Name nl p2) eb p3) (some (.Name no p1)) p4.line X.env = pure false := by rfl)
    (hs2 : swapsWith (.Call (.Attribute (.Name nl p6) "replace" ap) [.Name no p7, .Constant (.str (Str.ofString "")) j c1] [] pos) (some (.Name nl p5)) p8.line X.env = pure false := by rfl)
    (hst : starEach [.Name no p7, .Constant (.str (Str.ofString "")) j c1] X.env = [(false, eval (.Name no p7) X.env), (false, eval (.Constant (.str (Str.ofString "")) j c1) X.env)] := by rfl)
    (hbase : attributeBase (.Name nl p6) "replace" X.env (eval (.Name nl p6) X.env) = eval (.Name nl p6) X.env := by rfl) (hline : (ap.endLine == pos.line) = true := by rfl)
    (hd : (nl == ("__debug__" : Str)) = false := by decide) (hc : (nl == ("__classdict__" : Str)) = false := by decide) (hd' : (no == ("__debug__" : Str)) = false := by decide) :
    PSsT X (.Assign [.Name no p1] (.Subscript (.Name nl p2) eb p3) p4 :: .Assign [.Name nl p5] (.Call (.Attribute (.Name nl p6) "replace" ap) [.Name no p7, .Constant (.str (Str.ofString "")) j c1] [] pos) p8 :: rest) (tRepS l o tb u) := by
  intro pins s σ H D h0 I h
  obtain ⟨z, hz, h⟩ := h
  refine wpAny_execs_cons (wpAny_Assign_Name (Subscript_ (raw_name hl (.inl kl) I hz (fun uz rz => ?_) hd hc)) hs1)
  obtain ⟨tz, rfl⟩ := rz
  refine wpAny_mono (PySem.wpAny_toks (hb.run pins s σ H _ I h)) (fun ub s2 q => ?_) (fun _ _ x => x.2)
  obtain ⟨hk, y, H1, I2, ry, i, c, rfl, i0, i63, il, hcc, hzl, q⟩ := q
  obtain ⟨ti, rfl⟩ := ry
  have e := PySem.StrLaws.seqIndex_nonneg i0 il
  have n0 : s2.toks ≠ 0 := by omega
  refine tail_any (typeIs_str s2 z tz) slot_str_getitem.lookup (getItem_str (c := c) (by
    have e1 : decide (i < -(2 ^ 63 : Int)) = false := decide_eq_false (by omega)
    have e2 : decide (i ≥ 2 ^ 63) = false := decide_eq_false (by omega)
    rw [e1, e2] <;> rfl) (by rw [e]; exact hcc) ?_) (hs _ _)
  have I2' := I2.tok (s2.toks + 1)
  obtain ⟨m, hn, _⟩ := id I2'.loc
  have hp : (X.env.scope.kind == .class || (X.env.scope.kind == .module && X.env.locals != X.env.globals)) = false := by rw [I2.ok.kind]; rfl
  have st := store_ok (M := model X.prog X.w) (A := X.A) (E := X.xe) (v := V.str ⟨#[c]⟩) (u := Value.str ⟨#[c]⟩ s2.toks) (Q := fun _ s' => Inv X pins (σ.set o (some (V.str ⟨#[c]⟩))) H1 s') I2' hN ho (.inl ko) ⟨_, rfl⟩ (fun s' I' => I') (.inr ko)
  refine wpAny_mono (store_det ko hn hp st) (fun _ s3 q3 => ?_) (fun _ _ x => x)
  obtain ⟨I3, hn3, ht3⟩ := q3
  have ht3' : s3.toks = s2.toks + 1 + 1 := ht3
  have hz3 : (σ.set o (some (V.str ⟨#[c]⟩)))[l]? = some (some (.str z)) := by rw [List.getElem?_set_ne hlo]; exact hz
  have B : wpAny (model X.prog X.w) X.A (exec (.Assign [.Name nl p5] (.Call (.Attribute (.Name nl p6) "replace" ap) [.Name no p7, .Constant (.str (Str.ofString "")) j c1] [] pos) p8) X.env) (fun f s4 => f = .next ∧ Inv X pins ((σ.set o (some (V.str ⟨#[c]⟩))).set l (some (.str (Txt.replace z ⟨#[c]⟩ (Str.ofString ""))))) H1 s4) X.xe s3 := by
    refine wpAny_Assign_Name (PySem.Call_method2 hbase hst hline (raw_name hl (.inl kl) I3 hz3 (fun uz2 rz2 => ?_) hd hc)) hs2
    obtain ⟨tz2, rfl⟩ := rz2
    refine ⟨"str", _, PySem.F.plainAttrs_str, PySem.F.slot_str_replace, PySem.F.type_str_replace, typeIs_str _ _ _, (fun _ e => nomatch e), Calls.callWith_builtin rfl (Calls.evalArgs_plain (Calls.spliced_cons ?_))⟩
    refine wpAny_Name (wpAny_loadName_local I3.ok.kind ko hn3 (if_pos rfl) ?_) hd'
    refine Calls.spliced_cons (Calls.Constant_str (Calls.spliced_nil ?_))
    have n1 : s3.toks ≠ 0 := by omega
    have n2 : s2.toks ≠ s3.toks := by omega
    refine PySem.SC.replace (u := s2.toks) (v := s3.toks) n0 n1 n2 ?_ ?_ fun t' k => ?_
    · rfl
    · show z.length + (z.length + 1) * 0 ≤ _; omega
    exact store_ok (v := V.str (Txt.replace z ⟨#[c]⟩ (Str.ofString ""))) (u := Value.str (Txt.replace z ⟨#[c]⟩ (Str.ofString "")) t') (I3.tok k) hN hl (.inl kl) ⟨_, rfl⟩ (fun s' I' => ⟨rfl, I'⟩) (.inr kl)
  refine wpAny_execs_cons (wpAny_mono (PySem.wpAny_toks B) (fun f s4 q4 => ?_) (fun _ _ x => x.2))
  obtain ⟨hk4, rfl, I4⟩ := q4
  exact h2 pins s4 _ H1 D (by omega) I4 q
end
end Z
namespace Z
open PySem L2 SX
/-! ### items that are joined, and split again -/
theorem spl_no {it : List Nat} : (44 ∉ it) → ∀ acc : List Nat, TL.spl [44] 0 acc it = [acc ++ it] := by
  induction it with
  | nil => intro _ acc; rw [TL.spl_nil, List.append_nil]
  | cons c r ih =>
    intro h acc
    have hc : c ≠ 44 := fun e => h (by rw [e]; exact List.mem_cons_self)
    rw [TL.spl_miss (show TL.pre [44] (c :: r) = false by show ([c] == [44]) = false; simp [hc]), ih (fun m => h (List.mem_cons_of_mem _ m)), List.append_assoc]; rfl
theorem spl_cut {it m : List Nat} : (44 ∉ it) → ∀ acc : List Nat, TL.spl [44] 0 acc (it ++ 44 :: m) = (acc ++ it) :: TL.spl [44] 0 [] m := by
  induction it with
  | nil =>
    intro _ acc
    rw [List.nil_append, TL.spl_hit (show TL.pre [44] (44 :: m) = true by show ([44] == [44]) = true; rfl), List.append_nil]; rfl
  | cons c r ih =>
    intro h acc
    have hc : c ≠ 44 := fun e => h (by rw [e]; exact List.mem_cons_self)
    show TL.spl [44] 0 acc (c :: (r ++ 44 :: m)) = _
    rw [TL.spl_miss (show TL.pre [44] (c :: (r ++ 44 :: m)) = false by show ([c] == [44]) = false; simp [hc]), ih (fun m => h (List.mem_cons_of_mem _ m)), List.append_assoc]; rfl
theorem spl_join : ∀ {its : List (List Nat)}, its ≠ [] → (∀ it ∈ its, 44 ∉ it) → TL.spl [44] 0 [] (TL.joinL [44] its) = its
  | [], h, _ => absurd rfl h
  | [x], _, h => by
    show TL.spl [44] 0 [] x = [x]
    rw [spl_no (h x (by simp))]; rfl
  | x :: y :: r, _, h => by
    show TL.spl [44] 0 [] (x ++ ([44] ++ TL.joinL [44] (y :: r))) = _
    rw [show x ++ ([44] ++ TL.joinL [44] (y :: r)) = x ++ 44 :: TL.joinL [44] (y :: r) from rfl, spl_cut (h x (by simp)), spl_join (by simp) (fun z m => h z (List.mem_cons_of_mem _ m))]; rfl
/-- a text whose items are right -/
def GP (l : List Nat) : Prop := (TL.spl [44] 0 [] l).all goodItem = true
def okG (l : List Nat) : Prop := l ≠ [] ∧ ∀ c ∈ l, okc c = true
theorem good_no {it : List Nat} (h : goodItem it = true) : 44 ∉ it := fun m => by
  unfold goodItem at h
  have h2 := List.all_eq_true.mp (Bool.and_eq_true_iff.mp h).2
  unfold globP at h2
  by_cases e : it.take 1 = [33]
  · rw [if_pos (decide_eq_true e)] at h2
    cases it with
    | nil => cases m
    | cons c r =>
      have : c = 33 := by simpa using e
      subst this
      rcases List.mem_cons.mp m with q | q
      · cases q
      · have := h2 44 q; rw [okc_44] at this; cases this
  · rw [if_neg (fun q => e (of_decide_eq_true q))] at h2
    have := h2 44 m; rw [okc_44] at this; cases this
theorem okG.no33 {g : List Nat} (h : okG g) : ¬ g.take 1 = [33] := fun e => by
  cases g with
  | nil => exact h.1 rfl
  | cons c r =>
    have : c = 33 := by simpa using e
    subst this
    have := h.2 33 (by simp); rw [okc_33] at this; cases this
theorem good_glob {g : List Nat} (h : okG g) : goodItem g = true ∧ goodItem (33 :: g) = true := by
  have ha : g.all okc = true := List.all_eq_true.mpr h.2
  constructor
  · unfold goodItem globP
    rw [if_neg (fun q => h.no33 (of_decide_eq_true q)), ha, decide_eq_true h.1]; rfl
  · have e : globP (33 :: g) = g := by unfold globP; rw [if_pos (decide_eq_true (by simp))]; rfl
    unfold goodItem
    rw [e, ha, decide_eq_true h.1]; rfl
theorem GP.join {its : List (List Nat)} (ne : its ≠ []) (h : ∀ it ∈ its, goodItem it = true) : GP (TL.joinL [44] its) := by
  unfold GP
  rw [spl_join ne fun it m => good_no (h it m)]
  exact List.all_eq_true.mpr h
theorem lastOf_app (m : List Nat) : ∀ (l : List Nat) (a : Nat), lastOf a (l ++ m) = lastOf (lastOf a l) m
  | [], _ => rfl
  | c :: r, _ => lastOf_app m r c
theorem runs_ok {m : List Nat} : ∀ a : Nat, (∀ c ∈ m, okc c = true) → runs a m = true := by
  induction m with
  | nil => intro a _; rfl
  | cons c r ih =>
    intro a h
    show (step a c && runs c r) = true
    rw [ih c (fun d hd => h d (List.mem_cons_of_mem _ hd))]
    unfold step
    rw [h c (by simp)]; simp
theorem last_ok {m : List Nat} : ∀ a : Nat, (∀ c ∈ m, okc c = true) → m ≠ [] → endOk (lastOf a m) = true := by
  induction m with
  | nil => intro a _ h; exact absurd rfl h
  | cons c r ih =>
    intro a h _
    show endOk (lastOf c r) = true
    by_cases e : r = []
    · subst e
      show endOk c = true
      have hc := h c (by simp)
      unfold endOk
      rw [decide_eq_true (show c ≠ 44 from fun e => by rw [e, okc_44] at hc; cases hc), decide_eq_true (show c ≠ 33 from fun e => by rw [e, okc_33] at hc; cases hc)]; rfl
    · exact ih c (fun d hd => h d (List.mem_cons_of_mem _ hd)) e
theorem GP_iff {l : List Nat} : GP l ↔ (runs 44 l && endOk (lastOf 44 l)) = true := by
  unfold GP
  rw [spl_good l [] (by decide)]; rfl
theorem GP.app {l m : List Nat} (h : GP l) (hm : ∀ c ∈ m, okc c = true) : GP (l ++ m) := by
  by_cases e : m = []
  · subst e; rw [List.append_nil]; exact h
  rw [GP_iff] at h ⊢
  obtain ⟨h1, h2⟩ := Bool.and_eq_true_iff.mp h
  rw [runs_app, lastOf_app, h1, runs_ok _ hm, last_ok _ hm e]; rfl
/-- the other sign -/
def turnI (it : List Nat) : List Nat := if isBar it = true then it.drop 1 else 33 :: it
def oppI (l : List Nat) : List (List Nat) := [42] :: (parts l).map turnI
def oppL (l : List Nat) : List Nat := TL.joinL [44] (oppI l)
theorem globOf_nb {x : List Nat} (h : isBar x = false) : globOf x = x := by unfold globOf; rw [if_neg (by rw [h]; exact Bool.false_ne_true)]
theorem turn_good {it : List Nat} (h : goodItem it = true) : goodItem (turnI it) = true ∧ globOf (turnI it) = globOf it ∧ isBar (turnI it) = !isBar it := by
  have hg : okG (globOf it) := by
    unfold goodItem at h
    obtain ⟨h1, h2⟩ := Bool.and_eq_true_iff.mp h
    exact ⟨of_decide_eq_true h1, List.all_eq_true.mp h2⟩
  unfold turnI
  by_cases e : isBar it = true
  · have eg : globOf it = it.drop 1 := by unfold globOf; rw [if_pos e]
    rw [if_pos e, ← eg]
    have nb : isBar (globOf it) = false := by unfold isBar; exact decide_eq_false hg.no33
    exact ⟨(good_glob hg).1, globOf_nb nb, by rw [nb, e]; rfl⟩
  · have e' : isBar it = false := by simpa using e
    have eg : globOf it = it := by unfold globOf; rw [if_neg e]
    rw [if_neg e]
    have hb : isBar (33 :: it) = true := by unfold isBar; exact decide_eq_true (by simp)
    rw [eg] at hg
    refine ⟨(good_glob hg).2, ?_, by rw [hb, e']; rfl⟩
    rw [eg]; unfold globOf; rw [if_pos hb]; rfl
theorem GP.good {l it : List Nat} (h : GP l) (m : it ∈ parts l) : goodItem it = true := List.all_eq_true.mp h it m
theorem opp_good {l : List Nat} (h : GP l) : ∀ it ∈ oppI l, goodItem it = true := fun it m => by
  rcases List.mem_cons.mp m with e | m
  · subst e; decide +kernel
  · obtain ⟨x, hx, rfl⟩ := List.mem_map.mp m
    exact (turn_good (h.good hx)).1
theorem opp_parts {l : List Nat} (h : GP l) : parts (oppL l) = oppI l := spl_join (by unfold oppI; simp) fun it m => good_no (opp_good h it m)
theorem isPat_opp {l : List Nat} (h : GP l) : isPat (oppL l) = (decide ((oppL l).length ≤ 60) && decide ((parts l).length ≤ 7)) := by
  unfold isPat
  have e : TL.spl [44] 0 [] (oppL l) = oppI l := opp_parts h
  rw [e, List.all_eq_true.mpr (opp_good h), Bool.and_true]
  rw [show decide ((oppI l).length ≤ 8) = decide ((parts l).length ≤ 7) by
    rw [decide_eq_decide]; unfold oppI; rw [List.length_cons, List.length_map]; omega]
theorem fit_star (b : List Nat) : fit [42] b := by
  have key : ∀ (b : List Nat) (M : Nat → Prop), M 1 → (b.foldl (fun M c => nxt [42] M c) M) 1 := by
    intro b
    induction b with
    | nil => intro M h; exact h
    | cons c r ih => intro M h; exact ih _ (.inl ⟨rfl, .inr h⟩)
  exact key b _ ⟨rfl, True.intro⟩
open Classical in
theorem lets_opp {l b : List Nat} (h : GP l) : letsL (oppI l) b = !letsL (parts l) b := by
  have key : ∀ (its : List (List Nat)) (v : Bool), (∀ it ∈ its, goodItem it = true) →
      (its.map turnI).foldl (fun ans it => if fit (globOf it) b then !isBar it else ans) (!v) = !(its.foldl (fun ans it => if fit (globOf it) b then !isBar it else ans) v) := by
    intro its
    induction its with
    | nil => intro v _; rfl
    | cons x r ih =>
      intro v hg
      obtain ⟨_, t2, t3⟩ := turn_good (hg x (by simp))
      rw [List.map_cons, List.foldl_cons, List.foldl_cons, t2, t3, ← ih _ (fun y hy => hg y (List.mem_cons_of_mem _ hy))]
      congr 1
      by_cases hf : fit (globOf x) b
      · rw [if_pos hf, if_pos hf]
      · rw [if_neg hf, if_neg hf]
  have := key (parts l) false fun it m => h.good m
  unfold letsL
  unfold oppI
  rw [List.foldl_cons]
  have g42 : globOf [42] = [42] := by decide +kernel
  rw [g42, if_pos (fit_star b), show (!isBar [42]) = !false by decide +kernel]
  exact this
theorem isBeg_take {l : List Nat} (h : isBeg l = true) (k : Nat) : isBeg (l.take k) = true := by
  have key : ∀ (m : Nat), m ≤ l.length → isBeg (l.take (l.length - m)) = true := by
    intro m
    induction m with
    | zero => intro _; rw [Nat.sub_zero, List.take_length]; exact h
    | succ m ih =>
      intro hm
      have h1 := ih (by omega)
      have e : l.length - m = l.length - (m + 1) + 1 := by omega
      have hi : l.length - (m + 1) < l.length := by omega
      rw [e, List.take_add_one, List.getElem?_eq_getElem hi] at h1
      have h2 : isBeg (l.take (l.length - (m + 1)) ++ [l[l.length - (m + 1)]]) = true := h1
      rw [isBeg_snoc] at h2
      exact (Bool.and_eq_true_iff.mp h2).1
  by_cases hk : k ≤ l.length
  · have := key (l.length - k) (by omega)
    rw [show l.length - (l.length - k) = k by omega] at this; exact this
  · rw [List.take_of_length_le (by omega)]; exact h
theorem pat_wrong {l : List Nat} {o : Option Nat} (w : wrongAt l o) : decide (optV o = V.non) = isPat l := by
  cases o with
  | none => rw [w.2]; rfl
  | some k =>
    cases e : isPat l with
    | false => exact decide_eq_false (fun h => by cases h)
    | true =>
      have hb : isBeg l = true := by unfold isBeg; rw [e]; rfl
      have := wrongAt_one w (p := none) ⟨fun j _ => isBeg_take hb _, e⟩
      cases this
def sp_is_pattern : Sp := fun vs H Q _ => ∃ (x : Str), vs = [.str x] ∧ (tl x).length ≤ 2000 ∧ ∀ H', Same H H' → Q (.bl (isPat (tl x))) H'
def oppD (l : List Nat) : D := if isPat (oppL l) = true then .tup [.str (Str.ofString "told"), .str (S (oppL l))] else .tup [.str (Str.ofString "large"), .str (Str.ofString "pattern")]
def sp_opp (K : PySem.W.Frag) : Sp := fun vs H Q _ => ∃ (x : Str), vs = [.str x] ∧ (tl x).length ≤ 200 ∧ GP (tl x) ∧ ∀ v H', DV K H' (oppD (tl x)) v → Same H H' → Q v H'
def sp_opposite (K : PySem.W.Frag) (C : Addr) : Sp := fun vs H Q E => ∃ (x : Str), vs = [.str x] ∧ (tl x).length ≤ 200 ∧ GP (tl x) ∧ (isPat (oppL (tl x)) = true → ∀ H', Same H H' → Q (.str (S (oppL (tl x)))) H') ∧
  (isPat (oppL (tl x)) = false → ∀ (dd : Addr) (H1 : Hp), Same H H1 → H1 dd = some (.xd [("part", .str (Str.ofString "pattern"))]) → E (.ref C) (some dd) H1)
def sp_write_patternL (K : PySem.W.Frag) : Sp := fun vs H Q _ => ∃ (a : Addr) (ts : List Addr) (its : List (List Nat)), vs = [.ref a] ∧ SqL K H a (ts.map V.ref) ∧ ts.length = its.length ∧ its.length ≤ 1000 ∧ (∀ it ∈ its, it.length ≤ 1000) ∧ (∀ (k : Nat) (t : Addr) (it : List Nat), ts[k]? = some t → its[k]? = some it → SqT K H t (itemP it)) ∧
  ∀ (y : Str) (H' : Hp), tl y = TL.joinL [44] its → Same H H' → Q (.str y) H'
def sp_sight (K : PySem.W.Frag) : Sp := fun vs H Q _ => ∃ (a b : Addr) (ps bs : List Str), vs = [.ref a, .ref b] ∧ SqT K H a (ps.map V.str) ∧ SqT K H b (bs.map V.str) ∧ (∀ p ∈ ps, (tl p).length ≤ 3000) ∧ ps.length ≤ 1000 ∧ bs.length ≤ 1000 ∧ (∀ b ∈ bs, Clean (tl b)) ∧
  ∀ (t : Addr) (H' : Hp), Same H H' → SqT K H' t ((ps.map fun p => if (bs.any fun b => letsL (parts (tl p)) (tl b)) = true then (1 : Int) else 0).map V.int) → Q (.ref t) H'
def sp_lets_someL (K : PySem.W.Frag) : Sp := fun vs H Q _ => ∃ (p : Str) (a : Addr) (bs : List Str), vs = [.str p, .ref a] ∧ SqL K H a (bs.map V.str) ∧ (tl p).length ≤ 3000 ∧ bs.length ≤ 1000 ∧ (∀ b ∈ bs, Clean (tl b)) ∧ ∀ H', Same H H' → Q (.bl (bs.any fun b => letsL (parts (tl p)) (tl b))) H'
def sp_pattern_right (K : PySem.W.Frag) : Sp := fun vs H Q _ => ∃ (p : Str) (a : Addr) (bs : List Str), vs = [.str p, .ref a] ∧ SqL K H a (bs.map V.str) ∧ (tl p).length ≤ 200 ∧ GP (tl p) ∧ bs.length ≤ 1000 ∧ (∀ b ∈ bs, Clean (tl b)) ∧ ∀ H', Same H H' → Q (.bl true) H'
/-! ### signs, boards, globs, patterns, as they are drawn -/
abbrev sgs (cs : List Nat) : List V := cs.map fun c => V.str (S [c])
def No42 (l : List Nat) : Prop := ∀ c ∈ l, c ≠ 42
theorem No42.app {a b : List Nat} (x : No42 a) (y : No42 b) : No42 (a ++ b) := fun c h => (List.mem_append.mp h).elim (x c) (y c)
def Sgns (cs : List Nat) : Prop := cs.length = 4 ∧ ∀ c ∈ cs, (97 ≤ c ∧ c ≤ 122) ∨ (48 ≤ c ∧ c ≤ 57)
theorem okc_low {c : Nat} (h : (97 ≤ c ∧ c ≤ 122) ∨ (48 ≤ c ∧ c ≤ 57)) : okc c = true := by
  have e : tl (Str.ofString "abcdefghijklmnopqrstuvwxyz0123456789.*?") = List.range' 97 26 ++ List.range' 48 10 ++ [46, 42, 63] := by decide +kernel
  unfold okc
  rw [e]
  refine decide_eq_true (List.mem_append_left _ (List.mem_append.mpr ?_))
  rw [List.mem_range'_1, List.mem_range'_1]
  omega
def Wds (us : List Str) : Prop := us ≠ [] ∧ us.length ≤ 9 ∧ ∀ x ∈ us, Nm (tl x) ∧ (tl x).length ≤ 8
/-- tuples stay -/
def TK (K : PySem.W.Frag) (H H' : Hp) : Prop := ∀ a xs, SqT K H a xs → SqT K H' a xs
theorem TK.same {K : PySem.W.Frag} {H H' : Hp} (h : Same H H') : TK K H H' := fun _ _ q => h.tup q
theorem TK.ext {K : PySem.W.Frag} {H H' : Hp} {s a : Addr} {c : Nat} (h : Ext s H H') (S : Src H s a c) : TK K H H' := fun _ _ q => h.seqT S.lst.choose_spec q
theorem TK.trans {K : PySem.W.Frag} {H H1 H2 : Hp} (x : TK K H H1) (y : TK K H1 H2) : TK K H H2 := fun a xs q => y a xs (x a xs q)
/-- signs of boards -/
def Bdc (l : List Nat) : Prop := ∀ c ∈ l, (97 ≤ c ∧ c ≤ 122) ∨ (48 ≤ c ∧ c ≤ 57) ∨ c = 46
theorem Low.bdc {l : List Nat} (h : Low l) : Bdc l := fun c m => (h c m).elim .inl fun q => .inr (.inl q)
theorem Bdc.clean {l : List Nat} (h : Bdc l) : Clean l := fun c m => by have := h c m; omega
theorem Bdc.okc {l : List Nat} (h : Bdc l) : ∀ c ∈ l, okc c = true := fun c m => by
  rcases h c m with q | q | q
  · exact okc_low (.inl q)
  · exact okc_low (.inr q)
  · subst q; decide +kernel
theorem Low.okc {l : List Nat} (h : Low l) : ∀ c ∈ l, Z.okc c = true := h.bdc.okc
theorem Nm.ne {l : List Nat} (h : Nm l) : l ≠ [] := fun e => by obtain ⟨⟨c, r, e2, _⟩, _⟩ := h; rw [e] at e2; cases e2
theorem joinL_mem {s : List Nat} : ∀ {ls : List (List Nat)} {c : Nat}, c ∈ TL.joinL s ls → c ∈ s ∨ ∃ l ∈ ls, c ∈ l
  | [], c, h => by cases h
  | [x], c, h => .inr ⟨x, by simp, h⟩
  | x :: y :: r, c, h => by
    have h' : c ∈ x ++ (s ++ TL.joinL s (y :: r)) := h
    rcases List.mem_append.mp h' with q | q
    · exact .inr ⟨x, by simp, q⟩
    · rcases List.mem_append.mp q with q | q
      · exact .inl q
      · rcases joinL_mem q with q | ⟨l, m, q⟩
        · exact .inl q
        · exact .inr ⟨l, List.mem_cons_of_mem _ m, q⟩
theorem joinL_ne {s : List Nat} {ls : List (List Nat)} (h : ls ≠ []) (hx : ∀ l ∈ ls, l ≠ []) : TL.joinL s ls ≠ [] := fun e => by
  match ls, h with
  | [x], _ => exact hx x (by simp) e
  | x :: y :: r, _ =>
    have e' : x ++ (s ++ TL.joinL s (y :: r)) = [] := e
    exact hx x (by simp) (List.append_eq_nil_iff.mp e').1
def sp8__law_new_name (K : PySem.W.Frag) : Sp := fun vs H Q _ => ∃ (s a u : Addr) (us : List Str) (c : Nat), vs = [.ref s, .ref u] ∧ SqL K H u (us.map V.str) ∧ u ≠ s ∧ us.length ≤ 9 ∧ Src H s a (c + 8) ∧
  ∀ (x : Str) (H' : Hp), Nm (tl x) → (tl x).length ≤ 8 → Ext s H H' → Src H' s a c → Q (.str x) H'
def sp8__law_names (K : PySem.W.Frag) : Sp := fun vs H Q _ => ∃ (s a : Addr) (m c : Nat), vs = [.ref s, .int m] ∧ m ≤ 9 ∧ Src H s a (c + 8 * m) ∧
  ∀ (u : Addr) (us : List Str) (H' : Hp), H u = none → H' u = some (.lst (us.map V.str)) → us.length = m → (∀ x ∈ us, Nm (tl x) ∧ (tl x).length ≤ 8) → Ext s H H' → Src H' s a c → Q (.ref u) H'
def sp2__law_words (K : PySem.W.Frag) : Sp := fun vs H Q _ => ∃ (s a : Addr) (c : Nat), vs = [.ref s] ∧ Src H s a (c + 100) ∧
  ∀ (u : Addr) (us : List Str) (H' : Hp), H u = none → H' u = some (.lst (us.map V.str)) → Wds us → Ext s H H' → Src H' s a c → Q (.ref u) H'
def sp2__law_board (K : PySem.W.Frag) : Sp := fun vs H Q _ => ∃ (s a u : Addr) (us : List Str) (c : Nat), vs = [.ref s, .ref u] ∧ SqL K H u (us.map V.str) ∧ u ≠ s ∧ Wds us ∧ Src H s a (c + 10) ∧
  ∀ (x : Str) (H' : Hp), Bdc (tl x) → tl x ≠ [] → (tl x).length ≤ 30 → Ext s H H' → Src H' s a c → Q (.str x) H'
def sp2__law_boards (K : PySem.W.Frag) : Sp := fun vs H Q _ => ∃ (s a u : Addr) (us : List Str) (m : Int) (c : Nat), vs = [.ref s, .ref u, .int m] ∧ SqL K H u (us.map V.str) ∧ u ≠ s ∧ Wds us ∧ 0 < m ∧ m ≤ 10 ∧ Src H s a (c + 200) ∧
  ∀ (t : Addr) (bs : List Str) (H' : Hp), H' t = some (.tup (bs.map V.str)) → bs.length ≤ 10 → (∀ x ∈ bs, Bdc (tl x) ∧ (tl x).length ≤ 30) → Ext s H H' → Src H' s a c → Q (.ref t) H'
def sp2__law_glob (K : PySem.W.Frag) : Sp := fun vs H Q _ => ∃ (s a u : Addr) (us : List Str) (c : Nat), vs = [.ref s, .ref u] ∧ SqL K H u (us.map V.str) ∧ u ≠ s ∧ Wds us ∧ Src H s a (c + 20) ∧
  ∀ (x : Str) (H' : Hp), okG (tl x) → (tl x).length ≤ 40 → Ext s H H' → Src H' s a c → Q (.str x) H'
def sp2__law_pattern (K : PySem.W.Frag) : Sp := fun vs H Q _ => ∃ (s a u : Addr) (us : List Str) (c : Nat), vs = [.ref s, .ref u] ∧ SqL K H u (us.map V.str) ∧ u ≠ s ∧ Wds us ∧ Src H s a (c + 200) ∧
  ∀ (x : Str) (H' : Hp), GP (tl x) → (tl x).length ≤ 130 → Ext s H H' → Src H' s a c → Q (.str x) H'
def sp__law_shuffled (K : PySem.W.Frag) : Sp := fun vs H Q _ => ∃ (s a r : Addr) (xs : List V) (c : Nat), vs = [.ref s, .ref r] ∧ SqL K H r xs ∧ r ≠ s ∧ xs.length ≤ 1000 ∧ Src H s a (c + xs.length) ∧
  ∀ (d : Addr) (ys : List V) (H' : Hp), H d = none → H' d = some (.lst ys) → ys.length = xs.length → (∀ y ∈ ys, y ∈ xs) → Ext s H H' → Src H' s a c → Q (.ref d) H'
def sp2__law_signs : Sp := fun vs H Q _ => ∃ (s a : Addr) (c : Nat), vs = [.ref s] ∧ Src H s a (c + 10) ∧
  ∀ (u : Addr) (cs : List Nat) (H' : Hp), H u = none → H' u = some (.lst (sgs cs)) → Sgns cs → Ext s H H' → Src H' s a c → Q (.ref u) H'
def sp2__law_free_glob (K : PySem.W.Frag) : Sp := fun vs H Q _ => ∃ (s a u : Addr) (cs : List Nat) (m : Int) (c : Nat), vs = [.ref s, .ref u, .int m] ∧ SqL K H u (sgs cs) ∧ u ≠ s ∧ Sgns cs ∧ 0 < m ∧ m ≤ 60 ∧ Src H s a (c + 100) ∧
  ∀ (g : Str) (H' : Hp), okG (tl g) → ((tl g).length : Int) ≤ m → Ext s H H' → Src H' s a c → Q (.str g) H'
def sp__law_put : Sp := fun vs H Q _ => ∃ (t : Str) (c : Nat), vs = [.str t, .str (S [c])] ∧ c ≠ 42 ∧ No42 (tl t) ∧ (tl t).length ≤ 9000 ∧ ∀ (y : Str) (H' : Hp), Same H H' → No42 (tl y) → (tl y).length ≤ (tl t).length + 1 → Q (.str y) H'
def sp__law_drawn (K : PySem.W.Frag) : Sp := fun vs H Q _ => ∃ (s a u w : Addr) (cs : List Nat) (us : List Str) (c : Nat), vs = [.ref s, .ref u, .ref w] ∧ SqL K H u (sgs cs) ∧ u ≠ s ∧ Sgns cs ∧ SqL K H w (us.map V.str) ∧ w ≠ s ∧ Wds us ∧ Src H s a (c + 2000) ∧
  ∀ (x : Str) (H' : Hp), GP (tl x) → (tl x).length ≤ 200 → Ext s H H' → Src H' s a c → Q (.str x) H'
def sp__law_board_for (K : PySem.W.Frag) : Sp := fun vs H Q _ => ∃ (s a u : Addr) (p : Str) (cs : List Nat) (c : Nat), vs = [.ref s, .str p, .ref u] ∧ (tl p).length ≤ 200 ∧ H u = some (.lst (sgs cs)) ∧ u ≠ s ∧ Sgns cs ∧ Src H s a (c + 2000) ∧
  ∀ (y : Str) (H' : Hp), No42 (tl y) → (tl y).length ≤ 500 → Ext s H H' → Src H' s a c → Q (.str y) H'
theorem strike_len (c : Nat) : ∀ {l : List Nat}, l.Nodup → l.length ≤ (l.filter (· != c)).length + 1
  | [], _ => by simp
  | x :: r, h => by
    have hh := List.nodup_cons.mp h
    by_cases e : x = c
    · subst e
      have : r.filter (· != x) = r := List.filter_eq_self.mpr fun y hy => by
        have : y ≠ x := fun e => hh.1 (e ▸ hy)
        simp [this]
      rw [List.filter_cons_of_neg (by simp), this, List.length_cons]; exact Nat.le_refl _
    · rw [List.filter_cons_of_pos (by simp [e]), List.length_cons, List.length_cons]
      have := strike_len c hh.2
      omega
theorem tl_strike (z : Str) (c : Nat) : tl (Txt.replace z ⟨#[c]⟩ (Str.ofString "")) = (tl z).filter (· != c) := PyProof.Rows.replace_strikes z c
theorem cut_mem (x : Str) (i j : Option Int) : ∀ c ∈ tl (cutS x i j), c ∈ tl x := fun c h => by
  have h' : c ∈ (List.drop _ (tl x)).take _ := h
  exact List.mem_of_mem_drop (List.mem_of_mem_take h')
/-- what is stripped at the end is a piece -/
theorem rstrip_sub (x y : Str) : (∀ c ∈ tl (Txt.rstripChars x y), c ∈ tl x) ∧ (tl (Txt.rstripChars x y)).length ≤ (tl x).length := by
  have e : ∃ i j, tl (Txt.rstripChars x y) = ((tl x).drop i).take (j - i) := by
    have h := PyProof.Rows.stripBy_eq y.cps.contains false true x
    apply Exists.intro; apply Exists.intro
    refine (congrArg tl h).trans ?_
    show (x.cps.extract _ _).toList = _
    rw [Array.toList_extract]
  obtain ⟨i, j, e⟩ := e
  rw [e]
  exact ⟨fun c m => List.mem_of_mem_drop (List.mem_of_mem_take m), by rw [List.length_take, List.length_drop]; omega⟩
/-- a walk over the signs of a text behind a token -/
theorem pit_str {X : Cx} {tg e : Expr} {te : TE} (he : PET X e te) : PIT X tg e (iStr te) := by
  intro pins s σ H R h0 I h
  refine thn (he pins s σ H _ h0 I h) fun v s1 hh => ?_
  obtain ⟨y, H1, I1, r1, x, rfl, q⟩ := hh
  obtain ⟨t, rfl⟩ := r1
  have J := fun (ty : String) (hty : ty = "str_ascii_iterator" ∨ ty = "str_iterator") => pi_one (tk := s1.toks) I1 (tg := tg) (R := R) ⟨.type ty, none, .fields #[.str x t, .int 0 0], #[]⟩ (turn_str _ x t ty hty) ⟨_, Heap.get?_push_size _ rfl, rfl, rfl⟩ q
  by_cases ha : x.cps.all (· < 128) = true
  · exact wpAny_pyIter_ascii ha (J _ (.inl rfl))
  · exact wpAny_pyIter_wide (by simpa using ha) (J _ (.inr rfl))
theorem strs_of {ws : List V} {bs : List Str} (h : ∀ y ∈ ws, y ∈ bs.map V.str) : ∃ cs : List Str, ws = cs.map V.str ∧ ∀ c ∈ cs, c ∈ bs := by
  induction ws with
  | nil => exact ⟨[], rfl, fun _ h => by cases h⟩
  | cons w ws ih =>
    obtain ⟨cs, e, k⟩ := ih fun y hy => h y (List.mem_cons_of_mem _ hy)
    obtain ⟨b, hb, rfl⟩ := List.mem_map.mp (h w (by simp))
    exact ⟨b :: cs, by rw [e]; rfl, fun c hc => by
      rcases List.mem_cons.mp hc with e | hc
      · rw [e]; exact hb
      · exact k c hc⟩
theorem joinL_sum : ∀ {ls : List (List Nat)}, ls ≠ [] → (TL.joinL [44] ls).length + 1 = (ls.map fun it => it.length + 1).sum
  | [], h => absurd rfl h
  | [x], _ => by show x.length + 1 = _; simp
  | x :: y :: r, _ => by
    have ih := joinL_sum (ls := y :: r) (by simp)
    show (x ++ ([44] ++ TL.joinL [44] (y :: r))).length + 1 = _
    rw [List.map_cons, List.sum_cons, ← ih, List.length_append, List.length_append]
    show x.length + (1 + _) + 1 = _
    omega
theorem turn_len (it : List Nat) : (turnI it).length ≤ it.length + 1 := by
  unfold turnI
  split
  · rw [List.length_drop]; omega
  · exact Nat.le_refl _
theorem turn_sum : ∀ ls : List (List Nat), ((ls.map turnI).map fun it => it.length + 1).sum ≤ (ls.map fun it => it.length + 1).sum + ls.length
  | [] => Nat.le_refl _
  | x :: r => by
    have := turn_sum r
    have := turn_len x
    rw [List.map_cons, List.map_cons, List.map_cons, List.sum_cons, List.sum_cons, List.length_cons]
    omega
theorem opp_len (l : List Nat) : (oppL l).length ≤ 2 * l.length + 3 := by
  have h1 := joinL_sum (ls := oppI l) (by unfold oppI; simp)
  have h2 := turn_sum (parts l)
  have h3 := parts_num l
  have ne : parts l ≠ [] := fun h => by
    have := spl_count l []
    have h' : TL.spl [44] 0 [] l = [] := h
    rw [h'] at this; cases this
  have h4 := joinL_sum ne
  have e : TL.joinL [44] (parts l) = l := join_spl l []
  rw [e] at h4
  have h5 : ((oppI l).map fun it => it.length + 1).sum = 2 + (((parts l).map turnI).map fun it => it.length + 1).sum := by
    unfold oppI; rw [List.map_cons, List.sum_cons]; rfl
  have h6 : (oppL l).length = (TL.joinL [44] (oppI l)).length := rfl
  omega
theorem joinL_snoc {y : List Nat} : ∀ {ls : List (List Nat)}, ls ≠ [] → TL.joinL [44] (ls ++ [y]) = TL.joinL [44] ls ++ 44 :: y
  | [], h => absurd rfl h
  | [x], _ => rfl
  | x :: z :: r, _ => by
    have ih := joinL_snoc (y := y) (ls := z :: r) (by simp)
    show x ++ ([44] ++ TL.joinL [44] (z :: r ++ [y])) = (x ++ ([44] ++ TL.joinL [44] (z :: r))) ++ 44 :: y
    rw [ih]; simp
theorem DL_opp (l : List Nat) : DL 3 (oppD l) := by
  unfold oppD
  split
  · refine ⟨by show 2 ≤ _; decide, fun x hx => ?_⟩
    rcases List.mem_cons.mp hx with e | hx
    · subst e; exact True.intro
    · rw [List.mem_singleton.mp hx]; exact True.intro
  · refine ⟨by show 2 ≤ _; decide, fun x hx => ?_⟩
    rcases List.mem_cons.mp hx with e | hx
    · subst e; exact True.intro
    · rw [List.mem_singleton.mp hx]; exact True.intro
theorem DV_pair {K : PySem.W.Frag} {H : Hp} {t : Addr} {x y : Str} (h : SqT K H t [V.str x, V.str y]) : DV K H (.tup [.str x, .str y]) (.ref t) :=
  ⟨t, _, rfl, h, _, _, rfl, by unfold DV; rfl, _, _, rfl, by unfold DV; rfl, rfl⟩
theorem DV_pair_inv {K : PySem.W.Frag} {H : Hp} {v : V} {x y : Str} (h : DV K H (.tup [.str x, .str y]) v) : ∃ t, v = .ref t ∧ SqT K H t [V.str x, V.str y] := by
  obtain ⟨t, vs, rfl, hS, h3⟩ := h
  obtain ⟨u1, r1, rfl, e1, h4⟩ := h3
  obtain ⟨u2, r2, rfl, e2, h5⟩ := h4
  unfold DV at e1 e2
  unfold DVs at h5
  subst e1 e2 h5
  exact ⟨t, rfl, hS⟩
end Z
namespace Z
open PySem PySem.W PySem.Calls PyProof.Rows L2
/-! ### sorted(tuples of texts and numbers), min and max of two texts -/
/-- a text where the shape says so, elsewhere a number -/
def Shp (shape : Nat → Bool) : Nat → List V → Prop
  | _, [] => True
  | i, .int _ :: r => shape i = false ∧ Shp shape (i + 1) r
  | i, .str _ :: r => shape i = true ∧ Shp shape (i + 1) r
  | _, _ :: _ => False
/-- what the sort asks of a tuple in the heap -/
def TupAt (h : Heap) (shape : Nat → Bool) (v : Value) : Prop := ∃ (a : Addr) (o : Obj) (us : List Value) (n : Nat) (as : List (Int ⊕ List Nat)), v = .ref a ∧ h.get? a = some o ∧ o.cls = .type "tuple" ∧ o.data = .seq us.toArray n ∧ tupItems shape 0 us = some as ∧
  ∃ f, us[0]? = some f ∧ (shape 0 = false → ∃ k t, f = .int k t) ∧ (shape 0 = true → ∃ x t, f = .str x t)
theorem TupAt.keep {h h' : Heap} {shape : Nat → Bool} {v : Value} (p : TupAt h shape v) (k : ∀ b o, h.get? b = some o → o.cls = .type "tuple" → h'.get? b = some o) : TupAt h' shape v := by
  obtain ⟨a, o, us, n, as, e, g, c, r⟩ := p
  exact ⟨a, o, us, n, as, e, k _ _ g c, c, r⟩
theorem shp_items {shape : Nat → Bool} : ∀ {ws : List V} {us : List Value} {i : Nat}, Shp shape i ws → Vals ws us → ∃ l, tupItems shape i us = some l
  | [], _, _, _, r => by cases r; exact ⟨[], by simp [tupItems]⟩
  | .int k :: ws, _, i, h, r => by
    cases r with
    | cons r1 r2 =>
      obtain ⟨t, rfl⟩ := r1
      obtain ⟨l, hl⟩ := shp_items h.2 r2
      exact ⟨.inl k :: l, by simp [tupItems, h.1, hl]⟩
  | .str x :: ws, _, i, h, r => by
    cases r with
    | cons r1 r2 =>
      obtain ⟨t, rfl⟩ := r1
      obtain ⟨l, hl⟩ := shp_items h.2 r2
      exact ⟨.inr x.cps.toList :: l, by simp [tupItems, h.1, hl]⟩
  | .non :: _, _, _, h, _ => by unfold Shp at h; exact h.elim
  | .bl _ :: _, _, _, h, _ => by unfold Shp at h; exact h.elim
  | .ref _ :: _, _, _, h, _ => by unfold Shp at h; exact h.elim
  | .ty _ :: _, _, _, h, _ => by unfold Shp at h; exact h.elim
  | .byt _ :: _, _, _, h, _ => by unfold Shp at h; exact h.elim
  | .flt _ :: _, _, _, h, _ => by unfold Shp at h; exact h.elim
theorem shp_first {shape : Nat → Bool} {ws : List V} {us : List Value} (h : Shp shape 0 ws) (ne : ws ≠ []) (r : Vals ws us) : ∃ f, us[0]? = some f ∧ (shape 0 = false → ∃ k t, f = .int k t) ∧ (shape 0 = true → ∃ x t, f = .str x t) := by
  cases r with
  | nil => exact absurd rfl ne
  | @cons w u ws us r1 r2 =>
    refine ⟨u, rfl, fun e => ?_, fun e => ?_⟩
    · cases w with
      | int k => obtain ⟨t, rfl⟩ := r1; exact ⟨k, t, rfl⟩
      | str x => have := h.1; rw [e] at this; cases this
      | _ => unfold Shp at h; exact h.elim
    · cases w with
      | str x => obtain ⟨t, rfl⟩ := r1; exact ⟨x, t, rfl⟩
      | int x => have := h.1; rw [e] at this; cases this
      | _ => unfold Shp at h; exact h.elim
section
variable {prog : Program} {w : World} {A : Around} {E : Value → Shared → Prop} {s : Shared}
theorem tups_of {h : Heap} {shape : Nat → Bool} : ∀ {vs : List Value}, (∀ v ∈ vs, TupAt h shape v) → ∃ fs, TupsOf h shape vs fs ∧ fs.length = vs.length
  | [], _ => ⟨[], .nil, rfl⟩
  | v :: vs, hp => by
    obtain ⟨fs, h1, h2⟩ := tups_of (vs := vs) fun y m => hp y (List.mem_cons_of_mem _ m)
    obtain ⟨a, o, us, n, as, e, g, c, d, _, f, hf, k1, k2⟩ := hp v (by simp)
    refine ⟨f :: fs, .cons ⟨a, o, us.toArray, n, e, g, c, d, ?_, k1, k2⟩ h1, by rw [List.length_cons, List.length_cons, h2]⟩
    simpa using hf
theorem tupkey {h : Heap} {shape : Nat → Bool} {v : Value} (p : TupAt h shape v) : ∃ as, (tupKind h shape).keyOf v = some as := by
  obtain ⟨a, o, us, n, as, rfl, g, c, d, i, _⟩ := p
  refine ⟨as, ?_⟩
  show tupKey h shape (.ref a) = some as
  unfold tupKey
  simp only [g, d]
  exact i
theorem sorted_tups {shape : Nat → Bool} {l : Addr} {vs : List Value} {Q : Value → Shared → Prop} (hl : s.heap.IsList l vs.toArray) (hz : vs.length ≤ sizeLine) (hp : ∀ v ∈ vs, TupAt s.heap shape v)
    (hq : ∀ out : List Value, out.Perm vs → Q (.ref (s.heap.objs.size + 1)) { s with heap := sortedAll s.heap vs out.toArray }) : wpAny (model prog w) A (call (.builtin "sorted") [.ref l]) Q E s := by
  refine Srt.sorted_any hl hz (fun two h1 a ha kp => ?_) hq
  intro h2 kp2
  have tup : ∀ v ∈ vs, TupAt h2 shape v := fun v m => ((hp v m).keep fun b o g _ => (kp b o g).2).keep fun b o g c => kp2 b o (fun z => by
    subst z
    have g' : h1.get? b = some o := g
    rw [ha] at g'
    cases g'
    exact absurd (Value.type.inj c) (by decide)) g
  obtain ⟨fs, t, fl⟩ := tups_of tup
  refine ⟨tuples' true, fun Q E q => tup_kind (shape := shape) (s := { s with heap := h2 }) (by omega) t q, fun p q mp mq => ?_⟩
  obtain ⟨as, ka⟩ := tupkey (tup _ mp)
  obtain ⟨bs, kb⟩ := tupkey (tup _ mq)
  exact ⟨_, tup_ltAt (s := { s with heap := h2 }) true _ _ _ _ as bs ka kb ⟨rfl, rfl⟩⟩
end
/-- sorted(xs), xs a list of tuples of one shape: a new list of the same tuples, in some order -/
def rSortedX (K : Frag) (shape : Nat → Bool) : List V → Hp → VK → Prop := fun vs H Q => ∃ (a : Addr) (ts : List Addr), vs = [V.ref a] ∧ SqL K H a (ts.map V.ref) ∧ (∀ t ∈ ts, ∃ ws, H t = some (.tup ws) ∧ Shp shape 0 ws ∧ ws ≠ []) ∧
  ∀ (ys : List Addr) (p : Addr), ys.Perm ts → H p = none → Q (.ref p) (upd H p (.lst (ys.map V.ref)))
theorem vals_refs : ∀ {ts : List Addr} {us : List Value}, Vals (ts.map V.ref) us → us = ts.map Value.ref
  | [], _, r => by cases r; rfl
  | t :: ts, _, r => by
    cases r with
    | cons r1 r2 => cases r1; rw [vals_refs r2]; rfl
theorem refs_vals : ∀ ts : List Addr, Vals (ts.map V.ref) (ts.map Value.ref)
  | [] => .nil
  | t :: ts => .cons rfl (refs_vals ts)
theorem perm_refs {ts : List Addr} {us : List Value} (h : us.Perm (ts.map Value.ref)) : ∃ ys : List Addr, us = ys.map Value.ref ∧ ys.Perm ts := by
  refine ⟨us.map fun u => match u with | .ref a => a | _ => 0, ?_, ?_⟩
  · rw [List.map_map]
    refine (List.map_id us).symm.trans (List.map_congr_left fun u m => ?_)
    obtain ⟨a, _, rfl⟩ := List.mem_map.mp (h.mem_iff.mp m)
    rfl
  · have := h.map fun u => match u with | Value.ref a => a | _ => 0
    rw [List.map_map] at this
    rwa [show ts.map ((fun u => match u with | Value.ref a => a | _ => 0) ∘ Value.ref) = ts from (List.map_congr_left fun _ _ => rfl).trans (List.map_id ts)] at this
section
variable {X : Cx}
theorem cr_sortedX {shape : Nat → Bool} : CallR X (.builtin "sorted") (rSortedX X.K shape) := by
  intro pins s σ H vs us Q I r h
  obtain ⟨a, ts, rfl, hs, ht, q⟩ := h
  obtain ⟨its, rv, hl, hz⟩ := I.list hs
  have e1 := vals_refs rv
  subst e1
  obtain ⟨u, rfl, ru⟩ := vals1 r
  obtain rfl : u = Value.ref a := ru
  rw [List.length_map] at hz
  refine sorted_tups (shape := shape) hl.isList (by rw [List.length_map]; exact hz) (fun v m => ?_) fun out po => ?_
  · obtain ⟨t, tm, rfl⟩ := List.mem_map.mp m
    obtain ⟨ws, hw, sh, ne⟩ := ht t tm
    have ok : ObjOk X.prog X.w H s.heap t (.tup ws) := I.hok t _ hw
    obtain ⟨_, xs, rx, o, g, c, n, d⟩ := ok
    obtain ⟨as, hi⟩ := shp_items sh rx
    exact ⟨t, o, xs, n, as, rfl, g, c, d, hi, shp_first sh ne rx⟩
  · obtain ⟨ys, rfl, py⟩ := perm_refs po
    have fr : H (s.heap.objs.size + 1) = none := I.hok.fresh (Nat.le_succ _)
    obtain ⟨n, hn⟩ := sortedAll_at s.heap (ts.map Value.ref) (ys.map Value.ref).toArray
    refine ⟨.ref _, upd H _ (.lst (ys.map V.ref)), I.laid (t' := s.toks) (fun b o g => sortedAll_old g) (Nat.le_succ _) ⟨?_, ys.map Value.ref, n, refs_vals ys, hn⟩, rfl, q ys _ py fr⟩
    rw [List.length_map, py.length_eq]; exact hz
end
section
variable {prog : Program} {w : World} {A : Around} {E : Value → Shared → Prop} {s : Shared}
theorem best1 (bt : Nat → Nat → Bool) : argBest bt 1 = 0 ∨ argBest bt 1 = 1 := by
  by_cases h : bt 1 (argBest bt 0) = true
  · exact .inr (if_pos h)
  · exact .inl (if_neg h)
/-- the larger one -/
theorem max_strs {x y : Str} {t u : Tok} {Q : Value → Shared → Prop} (calm : A.handled = none)
    (h : ∀ (k : Bool) (hp : Heap) (tk : Nat), (∀ b o, s.heap.get? b = some o → hp.get? b = some o) → Q (if k = true then .str y u else .str x t) { s with heap := hp, toks := tk }) : wpAny (model prog w) A (call (.builtin "max") [.str x t, .str y u]) Q E s := by
  have tp : (s.heap.push { cls := .type "tuple", data := .seq #[.str x t, .str y u] }).IsTuple s.heap.objs.size #[.str x t, .str y u] := ⟨_, Heap.get?_push_size _ rfl, rfl, 0, rfl⟩
  have z1 : (s.heap.push { cls := .type "tuple", data := .seq #[.str x t, .str y u] }).objs.size = s.heap.objs.size + 1 := Heap.size_push ..
  refine call_max_two (wpAny_pyIter_tuple tp ?_)
  refine ⟨_, [_, s.heap.objs.size], [_], _, _, _, fun i j => decide ((if j = 0 then x else y).cps.toList < (if i = 0 then x else y).cps.toList), rfl, Walks.tuple (A := A.in1) calm _ s.heap.objs.size (by rw [z1]; exact Nat.ne_of_lt (Nat.lt_succ_self _)) #[.str x t, .str y u], ⟨⟨_, Heap.get?_push_size _ rfl, rfl, rfl⟩, tp.push _⟩, fun b hb => ?_, by simp, fun i j vi vj s1 Q1 E1 gi gj q => ?_, fun v hp tk hv kp => ?_⟩
  · show b < ((s.heap.push _).push _).objs.size
    rw [Heap.size_push]
    simp only [List.mem_cons, List.not_mem_nil, or_false] at hb
    rcases hb with e | e <;> subst e
    · exact Nat.lt_succ_self _
    · rw [z1]; exact Nat.lt_succ_of_lt (Nat.lt_succ_self _)
  · have pick : ∀ {k : Nat} {v : Value}, (#[Value.str x t, Value.str y u])[k]? = some v → ∃ tt, v = .str (if k = 0 then x else y) tt := fun {k v} g => by
      match k, g with
      | 0, g => exact ⟨t, (Option.some.inj g).symm⟩
      | 1, g => exact ⟨u, (Option.some.inj g).symm⟩
      | k + 2, g => simp at g
    obtain ⟨ti, rfl⟩ := pick gi
    obtain ⟨tj, rfl⟩ := pick gj
    exact PySem.P.gt_str q
  · have old : ∀ b o, s.heap.get? b = some o → hp.get? b = some o := fun b o g => by
      refine kp b o (fun m => ?_) (Heap.get?_push_of_some _ (Heap.get?_push_of_some _ g))
      have lt := Heap.lt_size g
      rw [List.mem_singleton.mp m, z1] at lt
      exact absurd lt (Nat.not_lt_of_lt (Nat.lt_succ_self _))
    have cases2 : v = .str y u ∨ v = .str x t := by
      have hv' : (#[Value.str x t, Value.str y u])[argBest (fun i j => decide ((if j = 0 then x else y).cps.toList < (if i = 0 then x else y).cps.toList)) 1]? = some v := hv
      rcases best1 _ with e | e
      · rw [e] at hv'; exact .inr (Option.some.inj hv').symm
      · rw [e] at hv'; exact .inl (Option.some.inj hv').symm
    rcases cases2 with e | e
    · rw [e]; exact h true hp tk old
    · rw [e]; exact h false hp tk old
theorem min_strs {x y : Str} {t u : Tok} {Q : Value → Shared → Prop} (calm : A.handled = none)
    (h : ∀ (k : Bool) (hp : Heap) (tk : Nat), (∀ b o, s.heap.get? b = some o → hp.get? b = some o) → Q (if k = true then .str y u else .str x t) { s with heap := hp, toks := tk }) : wpAny (model prog w) A (call (.builtin "min") [.str x t, .str y u]) Q E s := by
  have tp : (s.heap.push { cls := .type "tuple", data := .seq #[.str x t, .str y u] }).IsTuple s.heap.objs.size #[.str x t, .str y u] := ⟨_, Heap.get?_push_size _ rfl, rfl, 0, rfl⟩
  have z1 : (s.heap.push { cls := .type "tuple", data := .seq #[.str x t, .str y u] }).objs.size = s.heap.objs.size + 1 := Heap.size_push ..
  refine call_min_two (wpAny_pyIter_tuple tp ?_)
  refine ⟨_, [_, s.heap.objs.size], [_], _, _, _, fun i j => decide ((if i = 0 then x else y).cps.toList < (if j = 0 then x else y).cps.toList), rfl, Walks.tuple (A := A.in1) calm _ s.heap.objs.size (by rw [z1]; exact Nat.ne_of_lt (Nat.lt_succ_self _)) #[.str x t, .str y u], ⟨⟨_, Heap.get?_push_size _ rfl, rfl, rfl⟩, tp.push _⟩, fun b hb => ?_, by simp, fun i j vi vj s1 Q1 E1 gi gj q => ?_, fun v hp tk hv kp => ?_⟩
  · show b < ((s.heap.push _).push _).objs.size
    rw [Heap.size_push]
    simp only [List.mem_cons, List.not_mem_nil, or_false] at hb
    rcases hb with e | e <;> subst e
    · exact Nat.lt_succ_self _
    · rw [z1]; exact Nat.lt_succ_of_lt (Nat.lt_succ_self _)
  · have pick : ∀ {k : Nat} {v : Value}, (#[Value.str x t, Value.str y u])[k]? = some v → ∃ tt, v = .str (if k = 0 then x else y) tt := fun {k v} g => by
      match k, g with
      | 0, g => exact ⟨t, (Option.some.inj g).symm⟩
      | 1, g => exact ⟨u, (Option.some.inj g).symm⟩
      | k + 2, g => simp at g
    obtain ⟨ti, rfl⟩ := pick gi
    obtain ⟨tj, rfl⟩ := pick gj
    exact PySem.P.lt_str q
  · have old : ∀ b o, s.heap.get? b = some o → hp.get? b = some o := fun b o g => by
      refine kp b o (fun m => ?_) (Heap.get?_push_of_some _ (Heap.get?_push_of_some _ g))
      have lt := Heap.lt_size g
      rw [List.mem_singleton.mp m, z1] at lt
      exact absurd lt (Nat.not_lt_of_lt (Nat.lt_succ_self _))
    have cases2 : v = .str y u ∨ v = .str x t := by
      have hv' : (#[Value.str x t, Value.str y u])[argBest (fun i j => decide ((if i = 0 then x else y).cps.toList < (if j = 0 then x else y).cps.toList)) 1]? = some v := hv
      rcases best1 _ with e | e
      · rw [e] at hv'; exact .inr (Option.some.inj hv').symm
      · rw [e] at hv'; exact .inl (Option.some.inj hv').symm
    rcases cases2 with e | e
    · rw [e]; exact h true hp tk old
    · rw [e]; exact h false hp tk old
end
section
variable {X : Cx}
/-- min, max of two texts: one of them -/
def rOne2 : List V → Hp → VK → Prop := fun xs H Q => ∃ x y : Str, xs = [.str x, .str y] ∧ Q (.str x) H ∧ Q (.str y) H
theorem call_maxS (hc : X.calm = true) : CallR X (.builtin "max") rOne2 := by
  intro pins s σ H xs us Q I r h
  obtain ⟨x, y, rfl, q1, q2⟩ := h
  obtain ⟨u, w', rfl, ⟨t, rfl⟩, ⟨t', rfl⟩⟩ := vals2 r
  refine max_strs (I.ok.hd hc) fun k hp tk old => ?_
  cases k with
  | true => exact ⟨.str y, H, I.kept old, ⟨t', rfl⟩, q2⟩
  | false => exact ⟨.str x, H, I.kept old, ⟨t, rfl⟩, q1⟩
theorem call_minS (hc : X.calm = true) : CallR X (.builtin "min") rOne2 := by
  intro pins s σ H xs us Q I r h
  obtain ⟨x, y, rfl, q1, q2⟩ := h
  obtain ⟨u, w', rfl, ⟨t, rfl⟩, ⟨t', rfl⟩⟩ := vals2 r
  refine min_strs (I.ok.hd hc) fun k hp tk old => ?_
  cases k with
  | true => exact ⟨.str y, H, I.kept old, ⟨t', rfl⟩, q2⟩
  | false => exact ⟨.str x, H, I.kept old, ⟨t, rfl⟩, q1⟩
end
end Z
namespace Z
open PySem PySem.Spec PyProof.Rows L2
theorem mulT1 (l : Addr) (its : Array Value) (n : Nat) (dd : Option Addr) (sl : Array (Option Value)) (u : Tok) : Meets (Builtin.«tuple.__mul__» ⟨[.ref l, .int 1 u], []⟩) (fun _ R s =>
    s.heap.get? l = some { cls := .type "tuple", dict := dd, data := .seq its n, slots := sl } ∧ R (.ok (.ret (.ref l))) s) := .of_wp fun prog w A R s h => by
  obtain ⟨hp, g, d, tk, os⟩ := s
  obtain ⟨at_, h⟩ := h
  have ix := AutoSeq1.idx_int
  have c1 : (its.isEmpty || (1 : Int) == 1) = true := by cases its.isEmpty <;> rfl
  wp_walk using wpAny_loadPart' at_
  repeat (first
    | (refine wpAny_ite_false (decide_eq_false (by decide)) ?_; wp_walk using wpAny_loadPart' at_)
    | (refine wpAny_ite_true (decide_eq_true (by first | decide | exact c1)) ?_; wp_walk using wpAny_loadPart' at_))
  exact ⟨_, rfl, h⟩
theorem mulT0 (l : Addr) (its : Array Value) (n : Nat) (dd : Option Addr) (sl : Array (Option Value)) (u : Tok) (ne : its.isEmpty = false) : Meets (Builtin.«tuple.__mul__» ⟨[.ref l, .int 0 u], []⟩) (fun _ R s =>
    s.heap.get? l = some { cls := .type "tuple", dict := dd, data := .seq its n, slots := sl } ∧ R (.ok (.ret (.ref s.heap.objs.size))) { s with heap := s.heap.push { cls := .type "tuple", data := .seq #[] }, toks := s.toks }) := .of_wp fun prog w A R s h => by
  obtain ⟨hp, g, d, tk, os⟩ := s
  obtain ⟨at_, h⟩ := h
  have ix := AutoSeq1.idx_int
  have c1 : (its.isEmpty || (0 : Int) == 1) = false := by rw [ne]; rfl
  wp_walk using wpAny_loadPart' at_
  repeat (first
    | (refine wpAny_ite_false (decide_eq_false (by first | decide | (rw [c1]; exact Bool.false_ne_true))) ?_; wp_walk using wpAny_loadPart' at_)
    | (refine wpAny_ite_true (decide_eq_true (by first | decide | rfl)) ?_; wp_walk using wpAny_loadPart' at_))
  exact ⟨_, rfl, h⟩
/-- t * k, of a tuple -/
def rMulT (K : PySem.W.Frag) : R2 := fun x y H Q => ∃ (l : Addr) (k : Nat) (xs : List V), x = .ref l ∧ y = .int (k : Int) ∧ SqT K H l xs ∧ xs ≠ [] ∧ k ≤ 1000 ∧ xs.length ≤ 1000 ∧ ∀ (p : Addr) (H' : Hp), Same H H' → SqT K H' p (List.replicate k xs).flatten → Q (.ref p) H'
section
variable {X : Cx}
theorem op_mulT : OpR X (binaryOp .Mult) (rMulT X.K) := by
  intro pins s σ H x y v u Q I rx ry h
  obtain ⟨l, k, xs, ex, ey, hT, ne, hk, hx, q⟩ := h
  by_cases h2 : 2 ≤ k
  · exact op_repT pins s σ H x y v u Q I rx ry ⟨l, _, xs, ex, ey, hT, ne, by omega, by omega, hx, fun p hp => q p _ (same_new hp) (SqT.of (by rw [upd_same]; rfl))⟩
  subst ex ey
  cases rx
  obtain ⟨t, rfl⟩ := ry
  obtain ⟨its, r, ⟨⟨cls, dd, data, sl⟩, at_, hc, n, hd⟩, hs⟩ := I.tuple hT
  simp only at hc hd
  subst hc hd
  have hi : its.toArray.isEmpty = false := by
    cases r with
    | nil => exact absurd rfl ne
    | cons _ _ => rfl
  have k01 : k = 0 ∨ k = 1 := by omega
  rcases k01 with e | e
  · subst e
    refine wpAny_binaryOp_repeat_ref (T := "tuple") (U := "int") (by decide) ⟨_, at_, rfl⟩ (fun s1 => typeIs_int s1 _ t) noFill_tuple_mul F.fills_int_mul F.slot_int_rmul repeat_tuple F.slot_int_index.lookup (call_meets F.slot_int_rmul (typeIs_int s _ t) F.entry_int_rmul (F.args_int_rmul_2 _ _) (int_rmul_tuple _ t l its.toArray n dd sl) ⟨at_, rfl, ⟨_, at_, rfl⟩, call_meets F.slot_tuple_mul ⟨_, at_, rfl⟩ F.entry_tuple_mul (F.args_tuple_mul_2 _ _) (mulT0 l its.toArray n dd sl t hi) ⟨at_, ?_⟩⟩)
    have fr : H s.heap.objs.size = none := I.hok.fresh (Nat.le_refl _)
    exact ⟨.ref _, upd H s.heap.objs.size (.tup []), I.laid (t' := s.toks) (fun b o g => Heap.get?_push_of_some _ g) (Nat.le_refl _) ⟨by show 0 ≤ sizeLine; decide, [], .nil, IsTup.new _ _⟩, rfl, q _ _ (same_new fr) (SqT.of upd_same)⟩
  · subst e
    refine wpAny_binaryOp_repeat_ref (T := "tuple") (U := "int") (by decide) ⟨_, at_, rfl⟩ (fun s1 => typeIs_int s1 _ t) noFill_tuple_mul F.fills_int_mul F.slot_int_rmul repeat_tuple F.slot_int_index.lookup (call_meets F.slot_int_rmul (typeIs_int s _ t) F.entry_int_rmul (F.args_int_rmul_2 _ _) (int_rmul_tuple _ t l its.toArray n dd sl) ⟨at_, rfl, ⟨_, at_, rfl⟩, call_meets F.slot_tuple_mul ⟨_, at_, rfl⟩ F.entry_tuple_mul (F.args_tuple_mul_2 _ _) (mulT1 l its.toArray n dd sl t) ⟨at_, ?_⟩⟩)
    exact ⟨.ref l, H, I, rfl, q l H (Same.refl _) (by show SqT X.K H l (xs ++ []); rw [List.append_nil]; exact hT)⟩
end
end Z
namespace Z
open PySem L2 SX
/-! ### data, by place -/
section
variable {K : PySem.W.Frag} {H : Hp}
theorem DV.any {ds : List D} {v : V} {i : Nat} {d : D} (h : DV K H (.tup ds) v) (e : ds[i]? = some d) : ∃ a us u, v = .ref a ∧ SqT K H a us ∧ us[i]? = some u ∧ DV K H d u := by
  obtain ⟨a, us, rfl, hS, hs⟩ := h
  obtain ⟨u, eu, du⟩ := hs.get e
  exact ⟨a, us, u, rfl, hS, eu, du⟩
theorem DV.sub {ds es : List D} {v : V} {i : Nat} (h : DV K H (.tup ds) v) (e : ds[i]? = some (.tup es)) : ∃ a us c ws, v = .ref a ∧ SqT K H a us ∧ us[i]? = some (V.ref c) ∧ SqT K H c ws ∧ DVs K H es ws := by
  obtain ⟨a, us, u, rfl, hS, eu, du⟩ := h.any e
  obtain ⟨c, ws, rfl, hc, hw⟩ := du
  exact ⟨a, us, c, ws, rfl, hS, eu, hc, hw⟩
theorem DV.leafS {ds : List D} {v : V} {i : Nat} {x : Str} (h : DV K H (.tup ds) v) (e : ds[i]? = some (.str x)) : ∃ a us, v = .ref a ∧ SqT K H a us ∧ us[i]? = some (V.str x) := by
  obtain ⟨a, us, u, rfl, hS, eu, du⟩ := h.any e
  unfold DV at du
  subst du
  exact ⟨a, us, rfl, hS, eu⟩
theorem DVs.map_get {α : Type} {f : α → D} : ∀ {l : List α} {us : List V} {i : Nat} {u : V}, DVs K H (l.map f) us → us[i]? = some u → ∃ x, l[i]? = some x ∧ DV K H (f x) u
  | [], _, i, u, h, e => by unfold DVs at h; subst h; simp at e
  | x :: l, us, i, u, h, e => by
    obtain ⟨v, r, rfl, q, t⟩ := h
    cases i with
    | zero =>
      have : v = u := Option.some.inj e
      subst this
      exact ⟨x, rfl, q⟩
    | succ i => exact DVs.map_get (i := i) t e
theorem DVs.map_len {α : Type} {f : α → D} {l : List α} {us : List V} (h : DVs K H (l.map f) us) : us.length = l.length := by rw [h.len, List.length_map]
/-- values that are data of some of these -/
theorem DVs.pick {α : Type} {f : α → D} {xs : List V} {l : List α} : ∀ {ys : List V}, DVs K H (l.map f) xs → (∀ y ∈ ys, y ∈ xs) → ∃ m : List α, DVs K H (m.map f) ys ∧ m.length = ys.length ∧ ∀ x ∈ m, x ∈ l
  | [], _, _ => ⟨[], by unfold List.map DVs; rfl, rfl, fun _ h => by cases h⟩
  | y :: ys, h, k => by
    obtain ⟨m, h1, h2, h3⟩ := DVs.pick h fun z hz => k z (List.mem_cons_of_mem _ hz)
    obtain ⟨i, hi⟩ := List.getElem?_of_mem (k y (by simp))
    obtain ⟨x, hx, dx⟩ := h.map_get hi
    refine ⟨x :: m, ?_, by rw [List.length_cons, List.length_cons, h2], fun z hz => ?_⟩
    · exact ⟨y, ys, rfl, dx, h1⟩
    · rcases List.mem_cons.mp hz with e | e
      · rw [e]; exact List.mem_of_getElem? hx
      · exact h3 z e
theorem DVs.snoc {α : Type} {f : α → D} {x : α} {u : V} : ∀ {l : List α} {us : List V}, DVs K H (l.map f) us → DV K H (f x) u → DVs K H ((l ++ [x]).map f) (us ++ [u])
  | [], _, h, d => by unfold List.map DVs at h; subst h; exact ⟨u, [], rfl, d, by unfold List.map DVs; rfl⟩
  | y :: l, us, h, d => by
    obtain ⟨v, r, rfl, q, t⟩ := h
    exact ⟨v, r ++ [u], rfl, q, DVs.snoc t d⟩
theorem DVs.tk {H' : Hp} (t : TK K H H') {ds : List D} {us : List V} (h : DVs K H ds us) : DVs K H' ds us := DVs.ext t h
theorem DV.tk {H' : Hp} (t : TK K H H') {d : D} {u : V} (h : DV K H d u) : DV K H' d u := DV.ext t h
end
theorem find_step {α : Type} {p : α → Bool} {l : List α} {i : Nat} {x : α} (h : (l.take i).find? p = none) (e : l[i]? = some x) (hx : p x = false) : (l.take (i + 1)).find? p = none := by
  rw [List.take_add_one, e, List.find?_append, h]
  show (none : Option α).or ([x].find? p) = none
  simp [hx]
theorem find_hit {α : Type} {p : α → Bool} {l : List α} {i : Nat} {x : α} (h : (l.take i).find? p = none) (e : l[i]? = some x) (hx : p x = true) : l.find? p = some x := by
  have el : l = l.take i ++ x :: l.drop (i + 1) := by
    obtain ⟨h1, h2⟩ := List.getElem?_eq_some_iff.mp e
    rw [← h2, List.getElem_cons_drop, List.take_append_drop]
  rw [el, List.find?_append, h]
  show (none : Option α).or ((x :: l.drop (i + 1)).find? p) = some x
  rw [List.find?_cons_of_pos hx]; rfl
/-! ### books -/
structure Si where
  n : Str
  o : Int
  m : Int
  r : Int
  p : Str
structure Fd where
  g : Str
  t : Str
  p : Str
  h : Int
  z : Int
structure Sw where
  p : Str
  a : Str
  y : D
structure Bk where
  w : Int
  x : Int
  y : Int
  si : List Si
  ln : List (Str × Str)
  fd : List Fd
  sw : List Sw
  li : List D
def siD (s : Si) : D := .tup [.str (Str.ofString "site"), .str s.n, .int s.o, .int s.m, .int s.r, .str s.p]
def lnD (l : Str × Str) : D := .tup [.str l.1, .str l.2]
def fdD (f : Fd) : D := .tup [.str (Str.ofString "feed"), .str f.g, .str f.t, .str f.p, .int f.h, .int f.z]
def swD (s : Sw) : D := .tup [.str (Str.ofString "steward"), .str s.p, .str s.a, s.y]
def bkD (b : Bk) : D := .tup [.str (Str.ofString "book"), .int b.w, .tup [.int b.x, .int b.y], .tup (b.si.map siD), .tup (b.ln.map lnD), .tup (b.fd.map fdD), .tup (b.sw.map swD), .tup b.li]
structure BkOk (b : Bk) : Prop where
  si : b.si.length ≤ 10
  ln : b.ln.length ≤ 30
  fd : b.fd.length ≤ 100
  sw : b.sw.length ≤ 10
  sp : ∀ s ∈ b.si, (tl s.p).length ≤ 3000
  wp : ∀ s ∈ b.sw, (tl s.p).length ≤ 3000
  sn : ∀ s ∈ b.si, Low (tl s.n) ∧ (tl s.n).length ≤ 8
  fn : ∀ f ∈ b.fd, Low (tl f.g) ∧ Low (tl f.t)
def siteOf (b : Bk) (n : Str) : Option Si := b.si.find? fun s => decide (s.n = n)
def feedOf (b : Bk) (g t : Str) : Option Fd := b.fd.find? fun f => decide (f.g = g) && decide (f.t = t)
noncomputable def stwOf (b : Bk) (d : List Nat) : Option Sw := b.sw.find? fun s => letsL (parts (tl s.p)) d
def polOf (b : Bk) (a : Str) : Option Sw := b.sw.find? fun s => decide (s.a = a)
def optD {α : Type} (f : α → D) : Option α → D
  | none => .non
  | some x => f x
def nearL (b : Bk) (n : Str) : List Str := ((b.ln.filter fun l => decide (l.1 = n)).map (·.2)) ++ ((b.ln.filter fun l => decide (l.2 = n)).map (·.1))
/-- the seals so far, and a board more -/
noncomputable def sealF (b : Bk) (acc : List Str) (d : Str) : List Str := match stwOf b (tl d) with
  | none => acc
  | some s => if s.a ∈ acc then acc else acc ++ [s.a]
noncomputable def sealsL (b : Bk) (bs : List Str) : List Str := bs.foldl (sealF b) []
def sp_site_of (K : PySem.W.Frag) : Sp := fun vs H Q _ => ∃ (b : Bk) (v : V) (n : Str), vs = [v, .str n] ∧ DV K H (bkD b) v ∧ ∀ u, DV K H (optD siD (siteOf b n)) u → Q u H
def sp_feed_of (K : PySem.W.Frag) : Sp := fun vs H Q _ => ∃ (b : Bk) (v : V) (g t : Str), vs = [v, .str g, .str t] ∧ DV K H (bkD b) v ∧ BkOk b ∧ Low (tl g) ∧ Low (tl t) ∧ ∀ u H', Same H H' → DV K H' (optD fdD (feedOf b g t)) u → Q u H'
def sp_neighbours (K : PySem.W.Frag) : Sp := fun vs H Q _ => ∃ (b : Bk) (v : V) (n : Str), vs = [v, .str n] ∧ DV K H (bkD b) v ∧ BkOk b ∧ ∀ (t : Addr) (ys : List Str) (H' : Hp), Same H H' → SqT K H' t (ys.map V.str) → ys.Perm (nearL b n) → PyProof.Rows.sortedS ys = true → Q (.ref t) H'
noncomputable def carriesB (b : Bk) (n : Str) (bs : List Str) : Bool := match siteOf b n with
  | none => false
  | some s => bs.any fun d => letsL (parts (tl s.p)) (tl d)
def sp_carries (K : PySem.W.Frag) : Sp := fun vs H Q _ => ∃ (b : Bk) (v : V) (n : Str) (a : Addr) (bs : List Str), vs = [v, .str n, .ref a] ∧ DV K H (bkD b) v ∧ BkOk b ∧ SqT K H a (bs.map V.str) ∧ bs.length ≤ 1000 ∧ (∀ d ∈ bs, Clean (tl d)) ∧ ∀ H', Same H H' → Q (.bl (carriesB b n bs)) H'
def swA (s : Sw) : D := .str s.a
def sp_steward_of (K : PySem.W.Frag) : Sp := fun vs H Q _ => ∃ (b : Bk) (v : V) (d : Str), vs = [v, .str d] ∧ DV K H (bkD b) v ∧ BkOk b ∧ Clean (tl d) ∧ ∀ u H', Same H H' → DV K H' (optD swA (stwOf b (tl d))) u → Q u H'
def sp_seals (K : PySem.W.Frag) : Sp := fun vs H Q _ => ∃ (b : Bk) (v : V) (a : Addr) (bs : List Str), vs = [v, .ref a] ∧ DV K H (bkD b) v ∧ BkOk b ∧ SqT K H a (bs.map V.str) ∧ bs.length ≤ 1000 ∧ (∀ d ∈ bs, Clean (tl d)) ∧ ∀ (t : Addr) H', Same H H' → SqT K H' t ((sealsL b bs).map V.str) → Q (.ref t) H'
def sp_policy_of (K : PySem.W.Frag) : Sp := fun vs H Q _ => ∃ (b : Bk) (v : V) (a : Str), vs = [v, .str a] ∧ DV K H (bkD b) v ∧ ∀ u, DV K H (optD Sw.y (polOf b a)) u → Q u H
/-! ### what the law draws -/
def sp3__law_pick (K : PySem.W.Frag) : Sp := fun vs H Q _ =>
  (∃ (s a r : Addr) (xs : List V) (c : Nat), vs = [.ref s, .ref r] ∧ SqL K H r xs ∧ r ≠ s ∧ xs ≠ [] ∧ xs.length ≤ 100000 ∧ Src H s a (c + 1) ∧ ∀ (v : V) (H' : Hp), v ∈ xs → Ext s H H' → Src H' s a c → Q v H') ∨
  (∃ (s a : Addr) (x : Str) (c : Nat), vs = [.ref s, .str x] ∧ tl x ≠ [] ∧ (tl x).length ≤ 100000 ∧ Src H s a (c + 1) ∧ ∀ (ch : Nat) (H' : Hp), ch ∈ tl x → Ext s H H' → Src H' s a c → Q (.str (S [ch])) H') ∨
  (∃ (s a r : Addr) (xs : List V) (c : Nat), vs = [.ref s, .ref r] ∧ SqT K H r xs ∧ xs ≠ [] ∧ xs.length ≤ 100000 ∧ Src H s a (c + 1) ∧ ∀ (v : V) (H' : Hp), v ∈ xs → Ext s H H' → Src H' s a c → Q v H')
def Nms (us : List Str) : Prop := us.Nodup ∧ ∀ x ∈ us, Nm (tl x) ∧ (tl x).length ≤ 8
def sp9__law_new_name (K : PySem.W.Frag) : Sp := fun vs H Q _ => ∃ (s a u : Addr) (us : List Str) (c : Nat), vs = [.ref s, .ref u] ∧ SqL K H u (us.map V.str) ∧ u ≠ s ∧ us.length ≤ 9 ∧ Src H s a (c + 8) ∧
  ∀ (x : Str) (H' : Hp), Nm (tl x) → (tl x).length ≤ 8 → x ∉ us → Ext s H H' → Src H' s a c → Q (.str x) H'
def sp9__law_names (K : PySem.W.Frag) : Sp := fun vs H Q _ => ∃ (s a : Addr) (m c : Nat), vs = [.ref s, .int m] ∧ m ≤ 9 ∧ Src H s a (c + 8 * m) ∧
  ∀ (u : Addr) (us : List Str) (H' : Hp), H u = none → H' u = some (.lst (us.map V.str)) → us.length = m → Nms us → Ext s H H' → Src H' s a c → Q (.ref u) H'
def sp_lines (K : PySem.W.Frag) : Sp := fun vs H Q _ => ∃ (s a u : Addr) (us : List Str) (c : Nat), vs = [.ref s, .ref u] ∧ SqL K H u (us.map V.str) ∧ u ≠ s ∧ 1 ≤ us.length ∧ us.length ≤ 9 ∧ (∀ x ∈ us, Low (tl x)) ∧ Src H s a (c + 100) ∧
  ∀ (L : Addr) (ws : List V) (ls : List (Str × Str)) (H' : Hp), H L = none → H' L = some (.lst ws) → DVs K H' (ls.map lnD) ws → ls.length ≤ 20 → (∀ l ∈ ls, Low (tl l.1) ∧ Low (tl l.2)) → Ext s H H' → Src H' s a c → Q (.ref L) H'
def sp_feeds (K : PySem.W.Frag) : Sp := fun vs H Q _ => ∃ (s a L w : Addr) (ws : List V) (ls : List (Str × Str)) (us : List Str) (k : Int) (c : Nat), vs = [.ref s, .ref L, .ref w, .int k] ∧ SqL K H L ws ∧ L ≠ s ∧ DVs K H (ls.map lnD) ws ∧ ls.length ≤ 20 ∧ (∀ l ∈ ls, Low (tl l.1) ∧ Low (tl l.2)) ∧ SqL K H w (us.map V.str) ∧ w ≠ s ∧ Wds us ∧ 0 < k ∧ k ≤ 100 ∧ Src H s a (c + 20000) ∧
  ∀ (u : V) (fs : List Fd) (H' : Hp), DV K H' (.tup (fs.map fdD)) u → fs.length ≤ 40 → (∀ f ∈ fs, Low (tl f.g) ∧ Low (tl f.t)) → Ext s H H' → Src H' s a c → Q u H'
def sp_sites (K : PySem.W.Frag) : Sp := fun vs H Q _ => ∃ (s a u w o : Addr) (us ws : List Str) (z : Int) (is : List Int) (c : Nat), vs = [.ref s, .ref u, .ref w, .int z, .ref o] ∧ SqL K H u (us.map V.str) ∧ u ≠ s ∧ us.length ≤ 9 ∧ SqL K H w (ws.map V.str) ∧ w ≠ s ∧ Wds ws ∧ H o = some (.lst (is.map V.int)) ∧ o ≠ s ∧ is.length = us.length ∧ Src H s a (c + 5000) ∧
  ∀ (v : V) (l : List Si) (H' : Hp), DV K H' (.tup (l.map siD)) v → l.map (·.n) = us → (∀ x ∈ l, (tl x.p).length ≤ 200) → Ext s H H' → Src H' s a c → Q v H'
def sp_book (K : PySem.W.Frag) : Sp := fun vs H Q _ => ∃ (s a w : Addr) (ws : List Str) (m : Nat) (c : Nat), vs = [.ref s, .int (m : Int), .ref w] ∧ 1 ≤ m ∧ m ≤ 9 ∧ SqL K H w (ws.map V.str) ∧ w ≠ s ∧ Wds ws ∧ Src H s a (c + 30000) ∧
  ∀ (v : V) (b : Bk) (H' : Hp), DV K H' (bkD b) v → BkOk b → b.sw = [] → b.si ≠ [] → (b.si.map (·.n)).Nodup → Ext s H H' → Src H' s a c → Q v H'
def sp_stewards (K : PySem.W.Frag) : Sp := fun vs H Q _ => ∃ (s a w : Addr) (v : V) (b : Bk) (ws : List Str) (c : Nat), vs = [.ref s, v, .ref w] ∧ DV K H (bkD b) v ∧ b.si ≠ [] ∧ BkOk b ∧ SqL K H w (ws.map V.str) ∧ w ≠ s ∧ Wds ws ∧ Src H s a (c + 5000) ∧
  ∀ (u : V) (l : List Sw) (H' : Hp), DV K H' (.tup (l.map swD)) u → l.length ≤ 3 → (∀ x ∈ l, (tl x.p).length ≤ 200 ∧ (tl x.a).length ≤ 20 ∧ DL 4 x.y) → (l.map (·.a)).Nodup → Ext s H H' → Src H' s a c → Q u H'
/-! ### sorted texts, told by what they are -/
open PyProof.Rows in
theorem eqv_pair (a b c d : Str) : PyData.eqv (.tuple [.str a, .str b]) (.tuple [.str c, .str d]) = (decide (a = c) && decide (b = d)) := by
  simp [PyData.eqv, PyData.eqvAll]
  by_cases h1 : a = c <;> by_cases h2 : b = d <;> simp [h1, h2]
theorem ok_low {x : Str} (h : Low (tl x)) : PyData.strOk x = true := by
  unfold PyData.strOk
  rw [← Array.all_toList, List.all_eq_true]
  intro c m
  have := h c m
  exact decide_eq_true (by omega)
theorem pair_shaped {x y : Str} (hx : Low (tl x)) (hy : Low (tl y)) : SeqAt.shaped (.tuple [.str x, .str y]) = true := by
  simp [SeqAt.shaped, PyData.canLay0, PyData.canLayAll0, PyData.depth, PyData.depthAll, ok_low hx, ok_low hy]
end Z
namespace Z
open PySem L2 SX
open PyProof.Rows PySem.Spec
theorem find_uniq {α : Type} {f : α → Str} : ∀ {l : List α} {i : Nat} {x : α}, (l.map f).Nodup → l[i]? = some x → l.find? (fun y => decide (f y = f x)) = some x
  | [], i, x, _, h => by simp at h
  | y :: r, i, x, nd, h => by
    rw [List.map_cons, List.nodup_cons] at nd
    cases i with
    | zero =>
      have : y = x := Option.some.inj h
      subst this
      rw [List.find?_cons_of_pos (by simp)]
    | succ i =>
      have hr : r[i]? = some x := h
      have ne : ¬ f y = f x := fun e => nd.1 (by rw [e]; exact List.mem_map_of_mem (List.mem_of_getElem? hr))
      rw [List.find?_cons_of_neg (by simpa using ne)]
      exact find_uniq nd.2 hr
theorem lt_anti : ∀ {a b : List Nat}, ltCps a b = false → ltCps b a = false → a = b
  | [], [], _, _ => rfl
  | [], _ :: _, h, _ => by simp [ltCps] at h
  | _ :: _, [], _, h => by simp [ltCps] at h
  | x :: a, y :: b, h, k => by
    simp only [ltCps, Bool.or_eq_false_iff, decide_eq_false_iff_not, Bool.and_eq_false_iff] at h k
    have e : x = y := by omega
    subst e
    have h2 := h.2.resolve_left (by simp)
    have k2 := k.2.resolve_left (by simp)
    rw [lt_anti h2 k2]
theorem lt_trans : ∀ {a b c : List Nat}, ltCps b a = false → ltCps c b = false → ltCps c a = false
  | [], _, [], _, _ => rfl
  | [], _, _ :: _, _, _ => by simp [ltCps]
  | _ :: _, [], _, h, _ => by simp [ltCps] at h
  | _ :: _, _ :: _, [], _, k => by simp [ltCps] at k
  | x :: a, y :: b, z :: c, h, k => by
    simp only [ltCps, Bool.or_eq_false_iff, decide_eq_false_iff_not, Bool.and_eq_false_iff] at h k ⊢
    refine ⟨by omega, ?_⟩
    by_cases e : z = x
    · have e1 : y = x := by omega
      have e2 : z = y := by omega
      subst e1
      subst e2
      exact .inr (lt_trans (h.2.resolve_left (by simp)) (k.2.resolve_left (by simp)))
    · exact .inl (by simpa using e)
theorem rising_pw : ∀ {l : List Str} {p : Str}, risingS p l = true → (∀ x ∈ l, ltCps x.cps.toList p.cps.toList = false) ∧ l.Pairwise (fun a b => ltCps b.cps.toList a.cps.toList = false)
  | [], _, _ => ⟨(fun _ h => by cases h), List.Pairwise.nil⟩
  | x :: r, p, h => by
    have h' : (!ltCps x.cps.toList p.cps.toList && risingS x r) = true := h
    obtain ⟨h1, h2⟩ := Bool.and_eq_true_iff.mp h'
    have h1' : ltCps x.cps.toList p.cps.toList = false := by simpa using h1
    obtain ⟨k1, k2⟩ := rising_pw h2
    refine ⟨fun y hy => ?_, List.pairwise_cons.mpr ⟨k1, k2⟩⟩
    rcases List.mem_cons.mp hy with e | e
    · rw [e]; exact h1'
    · exact lt_trans h1' (k1 y e)
theorem sorted_pw : ∀ {l : List Str}, sortedS l = true → l.Pairwise (fun a b => ltCps b.cps.toList a.cps.toList = false)
  | [], _ => List.Pairwise.nil
  | x :: r, h => List.pairwise_cons.mpr (rising_pw (show risingS x r = true from h))
theorem pw_uniq : ∀ {ys zs : List Str}, ys.Perm zs → ys.Pairwise (fun a b => ltCps b.cps.toList a.cps.toList = false) → zs.Pairwise (fun a b => ltCps b.cps.toList a.cps.toList = false) → ys = zs
  | [], zs, p, _, _ => p.nil_eq
  | y :: r, [], p, _, _ => absurd p.symm.nil_eq (by simp)
  | y :: r, z :: t, p, hy, hz => by
    obtain ⟨y1, y2⟩ := List.pairwise_cons.mp hy
    obtain ⟨z1, z2⟩ := List.pairwise_cons.mp hz
    have e : y = z := by
      have m1 : y ∈ z :: t := p.mem_iff.mp (by simp)
      have m2 : z ∈ y :: r := p.mem_iff.mpr (by simp)
      rcases List.mem_cons.mp m1 with e | e
      · exact e
      · rcases List.mem_cons.mp m2 with e2 | e2
        · exact e2.symm
        · exact tl_ext (lt_anti (z1 y e) (y1 z e2)) 
    subst e
    rw [pw_uniq ((List.perm_cons y).mp p) y2 z2]
theorem sorted_uniq {ys zs : List Str} (p : ys.Perm zs) (sy : sortedS ys = true) (sz : sortedS zs = true) : ys = zs := pw_uniq p (sorted_pw sy) (sorted_pw sz)
theorem seal_len (b : Bk) (acc : List Str) (d : Str) : (sealF b acc d).length ≤ acc.length + 1 := by
  unfold sealF
  split
  · omega
  · split
    · omega
    · rw [List.length_append]; exact Nat.le_refl _
theorem seals_len (b : Bk) : ∀ (bs acc : List Str), (bs.foldl (sealF b) acc).length ≤ acc.length + bs.length
  | [], _ => Nat.le_refl _
  | d :: r, acc => by
    have h1 := seals_len b r (sealF b acc d)
    have h2 := seal_len b acc d
    rw [List.foldl_cons, List.length_cons]; omega
end Z
namespace Z
open PySem L2 SX
/-! ### small helpers -/
theorem nodup_len : ∀ {l m : List Str}, l.Nodup → (∀ x ∈ l, x ∈ m) → l.length ≤ m.length
  | [], m, _, _ => Nat.zero_le _
  | x :: l, m, nd, h => by
    obtain ⟨n1, n2⟩ := List.nodup_cons.mp nd
    have hx := h x (by simp)
    have := nodup_len (l := l) (m := m.erase x) n2 fun y my => (List.mem_erase_of_ne (fun e => n1 (by rw [← e]; exact my))).mpr (h y (List.mem_cons_of_mem _ my))
    have e := List.length_erase_of_mem hx
    have p := List.length_pos_of_mem hx
    rw [List.length_cons]; omega
theorem sput {H H' : Hp} {a : Addr} {o : HO} (h : Same H H') (n : H a = none) : Same H (upd H' a o) := fun b u hb => by
  rw [upd_ne (ne_of_none hb n)]; exact h b u hb
theorem tk_upd {K : PySem.W.Frag} {H : Hp} {p : Addr} {u o : HO} (h : H p = some u) (n1 : ∀ xs, u ≠ .tup xs) (n2 : ∀ o w, u ≠ .frz o w) : TK K H (upd H p o) := fun a xs q => by
  rcases q with (q | ⟨o', q⟩) | q
  · exact .inl (.inl (by rw [upd_ne (fun e => by rw [e, h] at q; exact n1 _ (Option.some.inj q))]; exact q))
  · exact .inl (.inr ⟨o', by rw [upd_ne (fun e => by rw [e, h] at q; exact n2 _ _ (Option.some.inj q))]; exact q⟩)
  · exact .inr q
theorem map_get {α : Type} {f : α → V} {l : List α} {i : Nat} {x : V} (h : (l.map f)[i]? = some x) : ∃ y, l[i]? = some y ∧ x = f y := by
  rw [List.getElem?_map] at h
  cases e : l[i]? with
  | none => rw [e] at h; cases h
  | some y => rw [e] at h; exact ⟨y, rfl, (Option.some.inj h).symm⟩
theorem filt_step2 {α : Type} {p : α → Bool} {l : List α} {i : Nat} {x : α} (e : l[i]? = some x) : (l.take (i + 1)).filter p = (l.take i).filter p ++ (if p x = true then [x] else []) := by
  rw [List.take_add_one, e, List.filter_append]
  congr 1
  by_cases c : p x = true
  · rw [if_pos c]; exact List.filter_eq_self.mpr fun y hy => by rw [List.mem_singleton.mp hy]; exact c
  · rw [if_neg c]; exact List.filter_eq_nil_iff.mpr fun y hy => by rw [List.mem_singleton.mp hy]; exact c
theorem iG {c : Bool} {A B : Prop} (h : c = true) (a : A) : if c = true then A else B := by rw [if_pos h]; exact a
theorem iN {c : Bool} {A B : Prop} (h : c = false) (b : B) : if c = true then A else B := by rw [if_neg (by rw [h]; exact Bool.false_ne_true)]; exact b
theorem sorted_first {y : Str} {r : List Str} (h : (y :: r).Pairwise fun a b => PySem.Spec.ltCps b.cps.toList a.cps.toList = false) : ∀ z ∈ y :: r, ¬ tl z < tl y := fun z hz => by
  rcases List.mem_cons.mp hz with e | e
  · rw [e]; exact fun q => List.lt_irrefl _ q
  · have := (List.pairwise_cons.mp h).1 z e
    rw [PyProof.Rows.ltCps_eq] at this
    exact of_decide_eq_false this
def nms (b : Bk) : List Str := b.si.map (·.n)
theorem dls {K : PySem.W.Frag} {H : Hp} (x : Str) : DV K H (.str x) (.str x) := by unfold DV; rfl
theorem dli {K : PySem.W.Frag} {H : Hp} (x : Int) : DV K H (.int x) (.int x) := by unfold DV; rfl
theorem dln {K : PySem.W.Frag} {H : Hp} : DVs K H [] [] := by unfold DVs; rfl
theorem dlc {K : PySem.W.Frag} {H : Hp} {d : D} {ds : List D} {v : V} {vs : List V} (h : DV K H d v) (t : DVs K H ds vs) : DVs K H (d :: ds) (v :: vs) := ⟨v, vs, rfl, h, t⟩
theorem tk_put {K : PySem.W.Frag} {H : Hp} {M : Addr} {ys : List V} {o : HO} (h : H M = some (.lst ys)) : TK K H (upd H M o) := fun a xs q => Ext.seqT (s := M) (fun b o hb hh => by rw [upd_ne hb]; exact hh) h q
theorem tk_new {K : PySem.W.Frag} {H : Hp} {M : Addr} {o : HO} (h : H M = none) : TK K H (upd H M o) := TK.same (same_new h)
theorem small_le (n : Nat) (h : n ≤ 30000) : n ≤ sizeLine := Nat.le_trans h (by decide)
theorem small_lt (n : Nat) (h : n ≤ 30000) : n < sizeLine := Nat.lt_of_le_of_lt h (by decide)
theorem pw_get {α : Type} {r : α → α → Prop} : ∀ {l : List α} {i j : Nat} {a b : α}, l.Pairwise r → l[i]? = some a → l[j]? = some b → i < j → r a b
  | [], _, _, _, _, _, h, _, _ => by simp at h
  | x :: l, 0, j + 1, a, b, p, h, k, _ => by
    cases (show some _ = some _ from h)
    exact (List.pairwise_cons.mp p).1 b (List.mem_of_getElem? (by simpa using k))
  | x :: l, i + 1, j + 1, a, b, p, h, k, lt => pw_get (i := i) (j := j) (List.pairwise_cons.mp p).2 (by simpa using h) (by simpa using k) (by omega)
/-- the bookkeeping of one local list and the source -/
theorem ext_keep {s M : Addr} {H H1 : Hp} {o : HO} (n : H M = none) (x : Ext s H H1) : Ext s H (upd H1 M o) := fun b w hb hh => by
  rw [upd_ne (ne_of_none hh n)]; exact x b w hb hh
theorem DVs.of_all {K : PySem.W.Frag} {H : Hp} {α : Type} {f : α → D} {g : α → V} : ∀ {l : List α}, (∀ x ∈ l, DV K H (f x) (g x)) → DVs K H (l.map f) (l.map g)
  | [], _ => by unfold List.map DVs; rfl
  | x :: l, h => ⟨g x, l.map g, rfl, h x (by simp), DVs.of_all fun y m => h y (List.mem_cons_of_mem _ m)⟩
theorem DVs.all {K : PySem.W.Frag} {H : Hp} {α : Type} {f : α → D} {l : List α} {us : List V} (h : DVs K H (l.map f) us) {i : Nat} {x : α} (e : l[i]? = some x) : ∃ u, us[i]? = some u ∧ DV K H (f x) u :=
  h.get (by rw [List.getElem?_map, e]; rfl)
theorem ln_ok {ls : List (Str × Str)} (h : ∀ l ∈ ls, Low (tl l.1) ∧ Low (tl l.2)) : Okl (ls.map lnD) :=
  fines_ok (n := 1) (fines_map fun l m => fine_tup (fines_cons (fine_low fun c hc => by have := (h l m).1 c hc; omega) (fines_cons (fine_low fun c hc => by have := (h l m).2 c hc; omega) fines_nil)))
theorem pr_ok {x y : Str} (h : Low (tl x)) (k : Low (tl y)) : Okd (.tup [.str x, .str y]) :=
  fine_ok (n := 1) (fine_tup (fines_cons (fine_low fun c hc => by have := h c hc; omega) (fines_cons (fine_low fun c hc => by have := k c hc; omega) fines_nil)))
theorem alike_ln (b c : Str × Str) : PySem.W.alike (py (lnD b)) (py (lnD c)) = true := by simp [lnD, py, pys, PySem.W.alike, PySem.W.alikeAll]
theorem depth_ln (b : Str × Str) : (py (lnD b)).depth ≤ 60 := by simp [lnD, py, pys, PyData.depth, PyData.depthAll]
theorem lnD_inj {a b : Str × Str} (h : lnD a = lnD b) : a = b := by
  unfold lnD at h
  simp only [D.tup.injEq, List.cons.injEq, D.str.injEq, and_true] at h
  exact Prod.ext h.1 h.2
theorem erase_perm {α : Type} : ∀ (l : List α) (i : Nat) (h : i < l.length), (l[i] :: l.eraseIdx i).Perm l
  | x :: l, 0, _ => List.Perm.refl _
  | x :: l, i + 1, h => by
    have ih := erase_perm l i (by simpa using h)
    exact (List.Perm.swap x _ _).trans (ih.cons x)
theorem DVs.perm {K : PySem.W.Frag} {H : Hp} {α : Type} {f : α → D} {ys us : List V} (p : ys.Perm us) : ∀ {l : List α}, DVs K H (l.map f) us → ∃ m : List α, m.Perm l ∧ DVs K H (m.map f) ys := by
  induction p with
  | nil => intro l h; exact ⟨l, List.Perm.refl _, h⟩
  | cons x _ ih =>
    intro l h
    cases l with
    | nil => unfold List.map DVs at h; cases h
    | cons a l =>
      obtain ⟨v, r, e, q, t⟩ := h
      cases e
      obtain ⟨m, pm, d⟩ := ih t
      exact ⟨a :: m, pm.cons a, ⟨_, _, rfl, q, d⟩⟩
  | swap x y r0 =>
    intro l h
    match l, h with
    | [], h => unfold List.map DVs at h; cases h
    | [a], h =>
      obtain ⟨v, r, e, q, t⟩ := h
      cases e
      unfold List.map DVs at t; cases t
    | a :: b :: l, h =>
      obtain ⟨v, r, e, q, t⟩ := h
      cases e
      obtain ⟨v2, r2, e2, q2, t2⟩ := t
      cases e2
      exact ⟨b :: a :: l, List.Perm.swap a b l, ⟨_, _, rfl, q2, ⟨_, _, rfl, q, t2⟩⟩⟩
  | trans _ _ ih1 ih2 =>
    intro l h
    obtain ⟨m, pm, d⟩ := ih2 h
    obtain ⟨m2, pm2, d2⟩ := ih1 d
    exact ⟨m2, pm2.trans pm, d2⟩
theorem DVs.take {K : PySem.W.Frag} {H : Hp} {α : Type} {f : α → D} : ∀ {l : List α} {us : List V} (n : Nat), DVs K H (l.map f) us → DVs K H ((l.take n).map f) (us.take n)
  | _, _, 0, _ => by rw [List.take_zero, List.take_zero]; unfold List.map DVs; rfl
  | [], _, n + 1, h => by unfold List.map DVs at h; subst h; unfold List.take List.map DVs; rfl
  | x :: l, _, n + 1, h => by
    obtain ⟨v, r, rfl, q, t⟩ := h
    exact ⟨v, r.take n, rfl, q, DVs.take n t⟩
theorem DVs.drop {K : PySem.W.Frag} {H : Hp} {α : Type} {f : α → D} : ∀ {l : List α} {us : List V} (n : Nat), DVs K H (l.map f) us → DVs K H ((l.drop n).map f) (us.drop n)
  | _, _, 0, h => by rw [List.drop_zero, List.drop_zero]; exact h
  | [], _, n + 1, h => by unfold List.map DVs at h; subst h; unfold List.drop List.map DVs; rfl
  | x :: l, _, n + 1, h => by
    obtain ⟨v, r, rfl, q, t⟩ := h
    exact DVs.drop n t
end Z
namespace Z
open PySem L2 SX
def wlow (c : Nat) : Bool := (decide (97 ≤ c) && decide (c ≤ 122)) || (decide (48 ≤ c) && decide (c ≤ 57))
def wst (st : List (List Nat) × List Nat) (c : Nat) : List (List Nat) × List Nat :=
  if wlow c = true then (st.1, st.2 ++ [c]) else if st.2 ≠ [] then (st.1 ++ [st.2], []) else st
def words (l : List Nat) : List (List Nat) := ((l.map PyProof.Rows.lo1 ++ [32]).foldl wst ([], [])).1
theorem wst_len (st : List (List Nat) × List Nat) (c : Nat) : (wst st c).1.length ≤ st.1.length + 1 ∧ (wst st c).2.length ≤ st.2.length + 1 := by
  unfold wst
  split
  · exact ⟨Nat.le_succ _, by simp⟩
  · split
    · exact ⟨by simp, Nat.zero_le _⟩
    · exact ⟨Nat.le_succ _, Nat.le_succ _⟩
/-- the law's step is the program's at the small letter -/
def dst (st : List (List Nat) × List Nat) (c : Nat) : List (List Nat) × List Nat :=
  if wlow c = true then (st.1, st.2 ++ [c]) else if (decide (65 ≤ c) && decide (c ≤ 90)) = true then (st.1, st.2 ++ [c + 32]) else ((if st.2 ≠ [] then st.1 ++ [st.2] else st.1), [])
theorem dst_eq (st : List (List Nat) × List Nat) (c : Nat) : dst st c = wst st (PyProof.Rows.lo1 c) := by
  unfold dst wst PyProof.Rows.lo1 wlow
  by_cases h1 : 65 ≤ c ∧ c ≤ 90
  · have a1 : ((decide (97 ≤ c) && decide (c ≤ 122)) || (decide (48 ≤ c) && decide (c ≤ 57))) = false := by simp; omega
    have a2 : ((decide (97 ≤ c + 32) && decide (c + 32 ≤ 122)) || (decide (48 ≤ c + 32) && decide (c + 32 ≤ 57))) = true := by simp; omega
    have a3 : (decide (65 ≤ c) && decide (c ≤ 90)) = true := by simp; omega
    rw [if_pos h1, a1, a2, a3]; simp
  · have a3 : (decide (65 ≤ c) && decide (c ≤ 90)) = false := by simp; omega
    rw [if_neg h1, a3]
    obtain ⟨x, y⟩ := st
    by_cases h2 : y = []
    · subst h2; simp
    · simp [h2]
theorem dst_len (st : List (List Nat) × List Nat) (c : Nat) : (dst st c).1.length ≤ st.1.length + 1 ∧ (dst st c).2.length ≤ st.2.length + 1 := by rw [dst_eq]; exact wst_len _ _
theorem dst_fold (l : List Nat) (st : List (List Nat) × List Nat) : l.foldl dst st = (l.map PyProof.Rows.lo1).foldl wst st := by
  induction l generalizing st with
  | nil => rfl
  | cons c l ih => rw [List.foldl_cons, List.map_cons, List.foldl_cons, ih, dst_eq]
theorem words_due (l : List Nat) : ((l ++ [46]).foldl dst ([], [])).1 = words l := by
  unfold words
  rw [dst_fold, List.map_append, List.foldl_append, List.foldl_append]
  rfl
theorem fold_len (l : List Nat) (st : List (List Nat) × List Nat) : (l.foldl wst st).1.length ≤ st.1.length + l.length := by
  induction l generalizing st with
  | nil => exact Nat.le_refl _
  | cons c l ih =>
    rw [List.foldl_cons, List.length_cons]
    have := ih (wst st c)
    have := (wst_len st c).1
    omega
theorem words_len (l : List Nat) : (words l).length ≤ l.length + 1 := by
  unfold words
  have := fold_len (l.map PyProof.Rows.lo1 ++ [32]) ([], [])
  rw [List.length_append, List.length_map] at this
  simpa using this
def sp_words_of : Sp := fun vs H Q _ => ∃ (x : Str), vs = [.str x] ∧ Asc (tl x) ∧ (tl x).length ≤ 1000 ∧
  ∀ (p : Addr) (H' : Hp), H p = none → Same H H' → H' p = some (.tup ((words (tl x)).map fun l => V.str (S l))) → Q (.ref p) H'
def sp__law_due : Sp := sp_words_of
end Z
namespace Z
open PySem L2 SX
theorem dvs_str_inv {K : PySem.W.Frag} {H : Hp} : ∀ {w : List Str} {us : List V}, DVs K H (w.map D.str) us → us = w.map V.str
  | [], us, h => by unfold List.map DVs at h; exact h
  | x :: w, us, h => by
    obtain ⟨v, r, rfl, e, t⟩ := h
    unfold DV at e
    rw [e, dvs_str_inv t]; rfl
/-! ### parts -/
inductive Pt where
  | text (co : Str) (rows : List Str)
  | data (co : Str) (bs : List Nat)
  | parts (ps : List Pt)
mutual
def ptD : Pt → D
  | .text co rows => .tup [.str (Str.ofString "text"), .str co, .tup (rows.map D.str)]
  | .data co bs => .tup [.str (Str.ofString "data"), .str co, .tup (bs.map fun b => D.int (b : Nat))]
  | .parts ps => .tup [.str (Str.ofString "parts"), .tup (ptsD ps)]
def ptsD : List Pt → List D
  | [] => []
  | p :: r => ptD p :: ptsD r
end
theorem ptsD_map : ∀ ps : List Pt, ptsD ps = ps.map ptD
  | [] => by simp [ptsD]
  | p :: r => by rw [ptsD, ptsD_map r, List.map_cons]
mutual
def txP : Pt → List (Str × List Str)
  | .text co rows => [(co, rows)]
  | .data _ _ => []
  | .parts ps => txPs ps
def txPs : List Pt → List (Str × List Str)
  | [] => []
  | p :: r => txP p ++ txPs r
end
theorem txPs_map : ∀ ps : List Pt, txPs ps = ps.flatMap txP
  | [] => by simp [txPs]
  | p :: r => by rw [txPs, txPs_map r, List.flatMap_cons]
def rowsP (p : Pt) : List Str := (txP p).flatMap (·.2)
def txD (t : Str × List Str) : D := .tup [.str (Str.ofString "text"), .str t.1, .tup (t.2.map D.str)]
def okP : Nat → Pt → Prop
  | 0, _ => False
  | _ + 1, .text _ rows => rows.length ≤ 10 ∧ ∀ x ∈ rows, Asc (tl x) ∧ (tl x).length ≤ 130
  | _ + 1, .data _ _ => True
  | n + 1, .parts ps => ps.length ≤ 4 ∧ ∀ p ∈ ps, okP n p
theorem okP_tx : ∀ (n : Nat) (p : Pt), okP n p → (txP p).length ≤ 4 ^ n ∧ ∀ t ∈ txP p, t.2.length ≤ 10 ∧ ∀ x ∈ t.2, Asc (tl x) ∧ (tl x).length ≤ 130
  | 0, _, h => h.elim
  | n + 1, .text co rows, h => by
    unfold txP
    refine ⟨Nat.pow_pos (by decide), fun t ht => ?_⟩
    rw [List.mem_singleton.mp ht]
    exact h
  | n + 1, .data _ _, _ => by
    unfold txP
    exact ⟨Nat.zero_le _, fun t ht => by cases ht⟩
  | n + 1, .parts ps, h => by
    unfold txP
    rw [txPs_map]
    constructor
    · have : ∀ l : List Pt, (∀ p ∈ l, okP n p) → (l.flatMap txP).length ≤ l.length * 4 ^ n := by
        intro l
        induction l with
        | nil => intro _; exact Nat.zero_le _
        | cons p r ih =>
          intro h
          have h1 := (okP_tx n p (h p (by simp))).1
          have h2 := ih fun q hq => h q (List.mem_cons_of_mem _ hq)
          rw [List.flatMap_cons, List.length_append, List.length_cons, Nat.add_mul]
          omega
      have h1 := this ps h.2
      have h2 : ps.length * 4 ^ n ≤ 4 * 4 ^ n := Nat.mul_le_mul_right _ h.1
      rw [Nat.pow_succ]
      omega
    · intro t ht
      obtain ⟨p, hp, ht⟩ := List.mem_flatMap.mp ht
      exact (okP_tx n p (h.2 p hp)).2 t ht
theorem rowsP_few {n : Nat} {p : Pt} (h : okP n p) (hn : n ≤ 4) : (rowsP p).length ≤ 10000 ∧ (txP p).length ≤ 1000 ∧ ∀ x ∈ rowsP p, Asc (tl x) ∧ (tl x).length ≤ 130 := by
  obtain ⟨h1, h2⟩ := okP_tx n p h
  have h3 : 4 ^ n ≤ 4 ^ 4 := Nat.pow_le_pow_right (by decide) hn
  have h3' : (txP p).length ≤ 1000 := Nat.le_trans h1 (Nat.le_trans h3 (by decide))
  refine ⟨?_, h3', fun x hx => ?_⟩
  · have : ∀ l : List (Str × List Str), (∀ t ∈ l, t.2.length ≤ 10) → (l.flatMap (·.2)).length ≤ l.length * 10 := by
      intro l
      induction l with
      | nil => intro _; exact Nat.zero_le _
      | cons p r ih =>
        intro h
        have h1 := h p (by simp)
        have h2 := ih fun q hq => h q (List.mem_cons_of_mem _ hq)
        rw [List.flatMap_cons, List.length_append, List.length_cons, Nat.add_mul]
        omega
    have := this (txP p) fun t ht => (h2 t ht).1
    unfold rowsP
    omega
  · obtain ⟨t, ht, hx⟩ := List.mem_flatMap.mp hx
    exact (h2 t ht).2 x hx
section
variable {K : PySem.W.Frag} {H : Hp}
theorem pt_text {co : Str} {rows : List Str} {v : V} (h : DV K H (ptD (.text co rows)) v) : ∃ a b, v = .ref a ∧ SqT K H a [.str (Str.ofString "text"), .str co, .ref b] ∧ SqT K H b (rows.map V.str) := by
  unfold ptD at h
  obtain ⟨a, vs, rfl, hA, v1, r1, rfl, e1, v2, r2, rfl, e2, v3, r3, rfl, e3, e4⟩ := h
  unfold DV at e1 e2
  unfold DVs at e4
  obtain ⟨b, us, rfl, hB, hb⟩ := e3
  rw [dvs_str_inv hb] at hB
  subst e1 e2 e4
  exact ⟨a, b, rfl, hA, hB⟩
theorem pt_data {co : Str} {bs : List Nat} {v : V} (h : DV K H (ptD (.data co bs)) v) : ∃ a b, v = .ref a ∧ SqT K H a [.str (Str.ofString "data"), .str co, .ref b] := by
  unfold ptD at h
  obtain ⟨a, vs, rfl, hA, v1, r1, rfl, e1, v2, r2, rfl, e2, v3, r3, rfl, e3, e4⟩ := h
  unfold DV at e1 e2
  unfold DVs at e4
  obtain ⟨b, us, rfl, hB, hb⟩ := e3
  subst e1 e2 e4
  exact ⟨a, b, rfl, hA⟩
theorem pt_parts {ps : List Pt} {v : V} (h : DV K H (ptD (.parts ps)) v) : ∃ a b us, v = .ref a ∧ SqT K H a [.str (Str.ofString "parts"), .ref b] ∧ SqT K H b us ∧ DVs K H (ps.map ptD) us := by
  unfold ptD at h
  obtain ⟨a, vs, rfl, hA, v1, r1, rfl, e1, v3, r3, rfl, e3, e4⟩ := h
  unfold DV at e1
  unfold DVs at e4
  obtain ⟨b, us, rfl, hB, hb⟩ := e3
  rw [ptsD_map] at hb
  subst e1 e4
  exact ⟨a, b, us, rfl, hA, hB, hb⟩
theorem pt_text_mk {co : Str} {rows : List Str} {a b : Addr} (hA : SqT K H a [.str (Str.ofString "text"), .str co, .ref b]) (hB : SqT K H b (rows.map V.str)) : DV K H (ptD (.text co rows)) (.ref a) := by
  unfold ptD
  exact ⟨a, _, rfl, hA, dlc (dls _) (dlc (dls _) (dlc ⟨b, _, rfl, hB, DVs.strs _⟩ dln))⟩
theorem pt_parts_mk {ps : List Pt} {a b : Addr} {us : List V} (hA : SqT K H a [.str (Str.ofString "parts"), .ref b]) (hB : SqT K H b us) (h : DVs K H (ps.map ptD) us) : DV K H (ptD (.parts ps)) (.ref a) := by
  unfold ptD
  rw [ptsD_map]
  exact ⟨a, _, rfl, hA, dlc (dls _) (dlc ⟨b, _, rfl, hB, h⟩ dln)⟩
end
def sp70_texts (K : PySem.W.Frag) (n : Nat) : Sp := fun vs H Q _ => ∃ (p : Pt) (v : V), vs = [v] ∧ DV K H (ptD p) v ∧ okP n p ∧ n ≤ 4 ∧ ∀ (r : Addr) (us : List V) (H' : Hp), H r = none → Same H H' → H' r = some (.lst us) → DVs K H' ((txP p).map txD) us → Q (.ref r) H'
def sp70_rowsin (K : PySem.W.Frag) (n : Nat) : Sp := fun vs H Q _ => ∃ (p : Pt) (v : V), vs = [v] ∧ DV K H (ptD p) v ∧ okP n p ∧ n ≤ 4 ∧ ∀ (r : Addr) (H' : Hp), H r = none → Same H H' → H' r = some (.lst ((rowsP p).map V.str)) → Q (.ref r) H'
/-! ### notices -/
structure Nt where
  pe : Str
  pl : Str
  da : Int
  su : Str
  bo : Pt
def Nt.au (n : Nt) : Str := n.pe ++ Str.ofString "@" ++ n.pl
def Nt.ok (n : Nt) : Prop := 64 ∉ tl n.pe ∧ 64 ∉ tl n.pl ∧ (tl n.pe).length ≤ 70 ∧ (tl n.pl).length ≤ 70 ∧ okP 4 n.bo ∧ Asc (tl n.su) ∧ (tl n.su).length ≤ 130
def NtAt (K : PySem.W.Frag) (H : Hp) (v : V) (n : Nt) : Prop := ∃ (a : Addr) (v0 v1 v4 v6 v7 v8 u : V), v = .ref a ∧ SqT K H a [v0, v1, .str n.au, .int n.da, v4, .str n.su, v6, v7, v8, u] ∧ DV K H (ptD n.bo) u
theorem NtAt.tk {K : PySem.W.Frag} {H H' : Hp} {v : V} {n : Nt} (h : NtAt K H v n) (t : TK K H H') : NtAt K H' v n := by
  obtain ⟨a, v0, v1, v4, v6, v7, v8, u, e, h1, h2⟩ := h
  exact ⟨a, v0, v1, v4, v6, v7, v8, u, e, t _ _ h1, h2.tk t⟩
def rowsN (n : Nt) : List (List (List Nat)) := (n.su :: rowsP n.bo).map fun x => words (tl x)
def rwD (row : List (List Nat)) : D := .tup ((row.map S).map D.str)
def sp70_rows (K : PySem.W.Frag) : Sp := fun vs H Q _ => ∃ (n : Nt) (v : V), vs = [v] ∧ NtAt K H v n ∧ n.ok ∧ ∀ (r : Addr) (us : List V) (H' : Hp), Same H H' → SqT K H' r us → DVs K H' ((rowsN n).map rwD) us → Q (.ref r) H'
/-- the law's rows: a list of lists that stays -/
def LsAt (H : Hp) (s : Addr) : List (List (List Nat)) → List V → Prop
  | [], us => us = []
  | row :: r, us => ∃ a t, us = .ref a :: t ∧ a ≠ s ∧ H a = some (.lst ((row.map S).map V.str)) ∧ LsAt H s r t
theorem LsAt.ext {H H' : Hp} {s : Addr} (x : Ext s H H') : ∀ {rs : List (List (List Nat))} {us : List V}, LsAt H s rs us → LsAt H' s rs us
  | [], _, h => h
  | row :: r, _, h => by
    obtain ⟨a, t, e, n, h1, h2⟩ := h
    exact ⟨a, t, e, n, x _ _ n h1, LsAt.ext x h2⟩
theorem LsAt.get {H : Hp} {s : Addr} : ∀ {rs : List (List (List Nat))} {us : List V} {i : Nat} {u : V}, LsAt H s rs us → us[i]? = some u → ∃ row a, rs[i]? = some row ∧ u = .ref a ∧ H a = some (.lst ((row.map S).map V.str))
  | [], us, i, u, h, e => by have : us = [] := h; subst this; simp at e
  | row :: r, us, i, u, h, e => by
    obtain ⟨a, t, rfl, n, h1, h2⟩ := h
    cases i with
    | zero => exact ⟨row, a, rfl, (Option.some.inj e).symm, h1⟩
    | succ i => exact LsAt.get (i := i) h2 e
theorem LsAt.len {H : Hp} {s : Addr} : ∀ {rs : List (List (List Nat))} {us : List V}, LsAt H s rs us → us.length = rs.length
  | [], us, h => by have : us = [] := h; subst this; rfl
  | row :: r, us, h => by
    obtain ⟨a, t, rfl, n, h1, h2⟩ := h
    rw [List.length_cons, List.length_cons, h2.len]
theorem LsAt.snoc {H : Hp} {s : Addr} {row : List (List Nat)} {a : Addr} (n : a ≠ s) (h : H a = some (.lst ((row.map S).map V.str))) : ∀ {rs : List (List (List Nat))} {us : List V}, LsAt H s rs us → LsAt H s (rs ++ [row]) (us ++ [.ref a])
  | [], us, k => by have : us = [] := k; subst this; exact ⟨a, [], rfl, n, h, rfl⟩
  | r :: rs, us, k => by
    obtain ⟨b, t, rfl, m, h1, h2⟩ := k
    exact ⟨b, t ++ [.ref a], rfl, m, h1, LsAt.snoc n h h2⟩
/-! ### what is asked -/
def nearR (row : List (List Nat)) (a b : List Nat) (k : Nat) : Prop := ∃ i j, row[i]? = some a ∧ row[j]? = some b ∧ i ≠ j ∧ i ≤ j + k ∧ j ≤ i + k
inductive Qy where
  | word (w : Str)
  | near (a b : Str) (k : Nat)
  | by_ (p s : Str)
  | before (n : Int)
  | not (q : Qy)
  | and (q r : Qy)
  | or (q r : Qy)
def qyD : Qy → D
  | .word w => .tup [.str (Str.ofString "word"), .str w]
  | .near a b k => .tup [.str (Str.ofString "near"), .str a, .str b, .int (k : Nat)]
  | .by_ p s => .tup [.str (Str.ofString "by"), .str p, .str s]
  | .before n => .tup [.str (Str.ofString "before"), .int n]
  | .not q => .tup [.str (Str.ofString "not"), qyD q]
  | .and q r => .tup [.str (Str.ofString "and"), qyD q, qyD r]
  | .or q r => .tup [.str (Str.ofString "or"), qyD q, qyD r]
def okQ : Nat → Qy → Prop
  | 0, _ => False
  | _ + 1, .near _ _ k => k ≤ 1000
  | n + 1, .not q => okQ n q
  | n + 1, .and q r => okQ n q ∧ okQ n r
  | n + 1, .or q r => okQ n q ∧ okQ n r
  | _ + 1, _ => True
theorem okQ_mono : ∀ {n m : Nat} {q : Qy}, okQ n q → n ≤ m → okQ m q
  | 0, _, _, h, _ => h.elim
  | n + 1, 0, _, _, k => absurd k (by omega)
  | n + 1, m + 1, q, h, k => by
    cases q with
    | word w => trivial
    | near a b k => exact h
    | by_ p s => trivial
    | before n => trivial
    | not q => exact okQ_mono (n := n) (m := m) h (by omega)
    | and q r => exact ⟨okQ_mono (n := n) (m := m) h.1 (by omega), okQ_mono (n := n) (m := m) h.2 (by omega)⟩
    | or q r => exact ⟨okQ_mono (n := n) (m := m) h.1 (by omega), okQ_mono (n := n) (m := m) h.2 (by omega)⟩
def star : Str := Str.ofString "*"
def semQ (n : Nt) : Qy → Prop
  | .word w => ∃ row ∈ rowsN n, tl w ∈ row
  | .near a b k => ∃ row ∈ rowsN n, nearR row (tl a) (tl b) k
  | .by_ p s => (p = star ∨ p = n.pe) ∧ (s = star ∨ s = n.pl)
  | .before d => n.da < d
  | .not q => ¬ semQ n q
  | .and q r => semQ n q ∧ semQ n r
  | .or q r => semQ n q ∨ semQ n r
/-- a basic one -/
def isB : Qy → Bool
  | .not _ => false
  | .and _ _ => false
  | .or _ _ => false
  | _ => true
def sp70_from (K : PySem.W.Frag) : Sp := fun vs H Q _ => ∃ (p s : Str) (n : Nt), vs = [.str p, .str s, .str n.au] ∧ n.ok ∧ ∀ (b : Bool) (H' : Hp), Same H H' → (b = true ↔ (p = star ∨ p = n.pe) ∧ (s = star ∨ s = n.pl)) → Q (.bl b) H'
def sp70_near (K : PySem.W.Frag) : Sp := fun vs H Q _ => ∃ (t : Addr) (row : List (List Nat)) (a b : Str) (k : Nat), vs = [.ref t, .str a, .str b, .int (k : Nat)] ∧ SqT K H t ((row.map S).map V.str) ∧ row.length ≤ 2000 ∧ k ≤ 1000 ∧ ∀ (c : Bool) (H' : Hp), Same H H' → (c = true ↔ nearR row (tl a) (tl b) k) → Q (.bl c) H'
def sp70_basic (K : PySem.W.Frag) : Sp := fun vs H Q _ => ∃ (q : Qy) (n : Nt) (v u : V) (r : Addr) (us : List V), vs = [v, u, .ref r] ∧ DV K H (qyD q) v ∧ isB q = true ∧ okQ 1 q ∧ NtAt K H u n ∧ n.ok ∧ SqT K H r us ∧ DVs K H ((rowsN n).map rwD) us ∧ ∀ (c : Bool) (H' : Hp), Same H H' → (c = true ↔ semQ n q) → Q (.bl c) H'
def sp70_fitsr (K : PySem.W.Frag) (d : Nat) : Sp := fun vs H Q _ => ∃ (q : Qy) (n : Nt) (v u : V) (r : Addr) (us : List V), vs = [v, u, .ref r] ∧ DV K H (qyD q) v ∧ okQ d q ∧ NtAt K H u n ∧ n.ok ∧ SqT K H r us ∧ DVs K H ((rowsN n).map rwD) us ∧ ∀ (c : Bool) (H' : Hp), Same H H' → (c = true ↔ semQ n q) → Q (.bl c) H'
def sp70_fitsq (K : PySem.W.Frag) : Sp := fun vs H Q _ => ∃ (q : Qy) (n : Nt) (v u : V), vs = [v, u] ∧ DV K H (qyD q) v ∧ okQ 14 q ∧ NtAt K H u n ∧ n.ok ∧ ∀ (c : Bool) (H' : Hp), Same H H' → (c = true ↔ semQ n q) → Q (.bl c) H'
def sp70_split (K : PySem.W.Frag) : Sp := fun vs H Q _ => ∃ (n : Nt) (v : V), vs = [v] ∧ NtAt K H v n ∧ n.ok ∧ ∀ (r : Addr) (us : List V) (H' : Hp), H r = none → Same H H' → H' r = some (.lst us) → (∀ s, (∃ o, H s = some o) → LsAt H' s (rowsN n) us) → Q (.ref r) H'
def sp70_wordsin : Sp := fun vs H Q _ => ∃ (x : Str), vs = [.str x] ∧ Asc (tl x) ∧ (tl x).length ≤ 1000 ∧ ∀ (p : Addr) (H' : Hp), H p = none → Same H H' → H' p = some (.lst (((words (tl x)).map S).map V.str)) → Q (.ref p) H'
def sp70_apart (K : PySem.W.Frag) : Sp := fun vs H Q _ => ∃ (s r : Addr) (us : List V) (rs : List (List (List Nat))) (a b : Str) (k : Nat), vs = [.ref r, .str a, .str b, .int (k : Nat)] ∧ H r = some (.lst us) ∧ LsAt H s rs us ∧ (∀ row ∈ rs, row.length ≤ 2000) ∧ k ≤ 1000 ∧ ∀ (c : Bool) (H' : Hp), Same H H' → (c = true ↔ ∃ row ∈ rs, nearR row (tl a) (tl b) k) → Q (.bl c) H'
def sp70_lfits (K : PySem.W.Frag) (d : Nat) : Sp := fun vs H Q _ => ∃ (s : Addr) (q : Qy) (n : Nt) (v u : V) (r : Addr) (us : List V), vs = [v, u, .ref r] ∧ DV K H (qyD q) v ∧ okQ d q ∧ NtAt K H u n ∧ n.ok ∧ H r = some (.lst us) ∧ LsAt H s (rowsN n) us ∧ ∀ (c : Bool) (H' : Hp), Same H H' → (c = true ↔ semQ n q) → Q (.bl c) H'
end Z
namespace Z
open PySem L2 SX
theorem tkE {K : PySem.W.Frag} {H H' : Hp} {s a : Addr} {c : Nat} (x : Ext s H H') (S : Src H s a c) : TK K H H' := fun _ _ h => by
  obtain ⟨xs, e⟩ := S.lst
  exact x.seqT e h
/-! ### tuples stay, by their addresses too -/
def TT (K : PySem.W.Frag) (H H' : Hp) : Prop := TK K H H' ∧ ∀ a xs, H a = some (.tup xs) → H' a = some (.tup xs)
section
variable {K : PySem.W.Frag}
theorem TT.refl {H : Hp} : TT K H H := ⟨TK.same (Same.refl _), fun _ _ e => e⟩
theorem TT.same {H H' : Hp} (h : Same H H') : TT K H H' := ⟨TK.same h, fun _ _ e => h _ _ e⟩
theorem TT.trans {H H1 H2 : Hp} (x : TT K H H1) (y : TT K H1 H2) : TT K H H2 := ⟨x.1.trans y.1, fun a xs e => y.2 a xs (x.2 a xs e)⟩
theorem TT.ext {H H' : Hp} {s a : Addr} {c : Nat} (x : Ext s H H') (S : Src H s a c) : TT K H H' := ⟨tkE x S, fun b xs e => x _ _ (fun z => by
  obtain ⟨ys, e2⟩ := S.lst
  rw [z, e2] at e
  cases e) e⟩
theorem TT.over {H : Hp} {p : Addr} {u o : HO} (h : H p = some u) (n1 : ∀ xs, u ≠ .tup xs) (n2 : ∀ o w, u ≠ .frz o w) : TT K H (upd H p o) := ⟨tk_upd h n1 n2, fun b xs e => by
  rw [upd_ne (fun z => by rw [z, h] at e; exact n1 _ (Option.some.inj e))]; exact e⟩
theorem TT.put {H : Hp} {M : Addr} {ys : List V} {o : HO} (h : H M = some (.lst ys)) : TT K H (upd H M o) := TT.over h (fun _ e => by cases e) (fun _ _ e => by cases e)
end
theorem Src.extL {H H' : Hp} {s a : Addr} {c : Nat} {ms : List Addr} (h : Src H s a c) (x : ExtL ms H H') (n1 : s ∉ ms) (n2 : a ∉ ms) : Src H' s a c := by
  obtain ⟨ns, i, b, e, t, h1, h2, h3⟩ := h
  exact ⟨ns, i, b, e, t, x _ _ n1 h1, x _ _ n2 h2, h3⟩
/-! ### the law's rows, apart from cells that change -/
def LmAt (H : Hp) (M : List Addr) : List (List (List Nat)) → List V → Prop
  | [], us => us = []
  | row :: r, us => ∃ a t, us = .ref a :: t ∧ a ∉ M ∧ H a = some (.lst ((row.map S).map V.str)) ∧ LmAt H M r t
theorem LmAt.ext {H H' : Hp} {M : List Addr} (x : ExtL M H H') : ∀ {rs : List (List (List Nat))} {us : List V}, LmAt H M rs us → LmAt H' M rs us
  | [], _, h => h
  | row :: r, _, h => by
    obtain ⟨a, t, e, n, h1, h2⟩ := h
    exact ⟨a, t, e, n, x _ _ n h1, LmAt.ext x h2⟩
theorem LmAt.ls {H : Hp} {M : List Addr} {s : Addr} (m : s ∈ M) : ∀ {rs : List (List (List Nat))} {us : List V}, LmAt H M rs us → LsAt H s rs us
  | [], _, h => h
  | row :: r, _, h => by
    obtain ⟨a, t, e, n, h1, h2⟩ := h
    exact ⟨a, t, e, fun z => n (by rw [z]; exact m), h1, LmAt.ls m h2⟩
theorem LmAt.of {H : Hp} {M : List Addr} {s : Addr} (m : s ∈ M) : ∀ {rs : List (List (List Nat))} {us : List V}, (∀ s ∈ M, LsAt H s rs us) → LmAt H M rs us
  | [], _, h => h s m
  | row :: r, us, h => by
    obtain ⟨a, t, rfl, n, h1, h2⟩ := h s m
    refine ⟨a, t, rfl, fun ma => ?_, h1, LmAt.of m fun s' m' => ?_⟩
    · obtain ⟨a', t', e, n', _⟩ := h a ma
      cases e
      exact n' rfl
    · obtain ⟨a', t', e, n', _, h3⟩ := h s' m'
      cases e
      exact h3
theorem LmAt.grow {H : Hp} {M : List Addr} {d : Addr} (hd : H d = none) : ∀ {rs : List (List (List Nat))} {us : List V}, LmAt H M rs us → LmAt H (d :: M) rs us
  | [], _, h => h
  | row :: r, _, h => by
    obtain ⟨a, t, e, n, h1, h2⟩ := h
    refine ⟨a, t, e, fun z => ?_, h1, LmAt.grow hd h2⟩
    rcases List.mem_cons.mp z with z | z
    · rw [z, hd] at h1; cases h1
    · exact n z
/-! ### what may be put -/
def idk (nm : Str) (k : Int) : List L2.Key := [.inr nm, .inl k]
def idD (nm : Str) (k : Int) : D := .tup [.str nm, .int k]
structure Pe where
  pa : Addr
  v : V
  n : Nt
  t : Addr
  nm : Str
  k : Int
  r : Addr
def Pe.key (e : Pe) : List L2.Key := idk e.nm e.k
def Pe.id (e : Pe) : D := idD e.nm e.k
def Pe.pd (e : Pe) : D := .tup [.int e.n.da, e.id]
theorem idk_inj {x y : Str} {i j : Int} (h : idk x i = idk y j) : x = y ∧ i = j := by
  unfold idk at h
  injection h with h1 h2
  injection h2 with h2 _
  exact ⟨Sum.inr.inj h1, Sum.inl.inj h2⟩
theorem idD_inj {x y : Str} {i j : Int} (h : idD x i = idD y j) : x = y ∧ i = j := by
  unfold idD at h
  injection h with h
  injection h with h1 h2
  injection h2 with h2 _
  injection h1 with h1
  injection h2 with h2
  exact ⟨h1, h2⟩
theorem idD_key {x y : Str} {i j : Int} : idD x i = idD y j ↔ idk x i = idk y j := ⟨fun h => by obtain ⟨rfl, rfl⟩ := idD_inj h; rfl, fun h => by obtain ⟨rfl, rfl⟩ := idk_inj h; rfl⟩
def NiAt (K : PySem.W.Frag) (H : Hp) (v : V) (n : Nt) (t : Addr) (nm : Str) (k : Int) : Prop := ∃ (a : Addr) (v0 v4 v6 v7 v8 u : V), v = .ref a ∧ SqT K H a [v0, .ref t, .str n.au, .int n.da, v4, .str n.su, v6, v7, v8, u] ∧ DV K H (ptD n.bo) u ∧ H t = some (.tup [.str nm, .int k])
section
variable {K : PySem.W.Frag}
theorem NiAt.nt {H : Hp} {v : V} {n : Nt} {t : Addr} {nm : Str} {k : Int} (h : NiAt K H v n t nm k) : NtAt K H v n := by
  obtain ⟨a, v0, v4, v6, v7, v8, u, e, h1, h2, _⟩ := h
  exact ⟨a, v0, _, v4, v6, v7, v8, u, e, h1, h2⟩
theorem NiAt.tt {H H' : Hp} {v : V} {n : Nt} {t : Addr} {nm : Str} {k : Int} (h : NiAt K H v n t nm k) (T : TT K H H') : NiAt K H' v n t nm k := by
  obtain ⟨a, v0, v4, v6, v7, v8, u, e, h1, h2, h3⟩ := h
  exact ⟨a, v0, v4, v6, v7, v8, u, e, T.1 _ _ h1, h2.tk T.1, T.2 _ _ h3⟩
theorem NiAt.id {H : Hp} {v : V} {n : Nt} {t : Addr} {nm : Str} {k : Int} (h : NiAt K H v n t nm k) : DV K H (idD nm k) (.ref t) := by
  obtain ⟨a, v0, v4, v6, v7, v8, u, e, h1, h2, h3⟩ := h
  exact ⟨t, _, rfl, SqT.of h3, dlc (dls _) (dlc (dli _) dln)⟩
end
def PeOk (e : Pe) : Prop := e.n.ok ∧ Low (tl e.nm) ∧ 0 ≤ e.k ∧ e.k ≤ 100
def PeAt (K : PySem.W.Frag) (H : Hp) (M : List Addr) (e : Pe) : Prop := PeOk e ∧ SqT K H e.pa [e.v, .ref e.r] ∧ NiAt K H e.v e.n e.t e.nm e.k ∧ ∃ us, H e.r = some (.lst us) ∧ e.r ∉ M ∧ LmAt H M (rowsN e.n) us
section
variable {K : PySem.W.Frag}
theorem PeAt.keep {H H' : Hp} {M N : List Addr} {e : Pe} (h : PeAt K H M e) (x : ExtL N H H') (sub : ∀ a ∈ N, a ∈ M) (T : TT K H H') : PeAt K H' M e := by
  obtain ⟨ok, h1, h2, us, h3, h4, h5⟩ := h
  have x' := x.mono sub
  exact ⟨ok, T.1 _ _ h1, h2.tt T, us, x' _ _ h4 h3, h4, h5.ext x'⟩
theorem PeAt.grow {H : Hp} {M : List Addr} {d : Addr} {e : Pe} (h : PeAt K H M e) (hd : H d = none) : PeAt K H (d :: M) e := by
  obtain ⟨ok, h1, h2, us, h3, h4, h5⟩ := h
  refine ⟨ok, h1, h2, us, h3, fun z => ?_, h5.grow hd⟩
  rcases List.mem_cons.mp z with z | z
  · rw [z, hd] at h3; cases h3
  · exact h4 z
end
/-! ### an index and what should be in it -/
def EvAt (K : PySem.W.Frag) (H : Hp) (e : Pe) (kv : List L2.Key × V) : Prop := kv.1 = e.key ∧ ∃ b rt us, kv.2 = .ref b ∧ SqT K H b [e.v, .ref rt] ∧ SqT K H rt us ∧ DVs K H ((rowsN e.n).map rwD) us
def EvsAt (K : PySem.W.Frag) (H : Hp) : List Pe → List (List L2.Key × V) → Prop
  | [], kvs => kvs = []
  | e :: r, kvs => ∃ kv t, kvs = kv :: t ∧ EvAt K H e kv ∧ EvsAt K H r t
section
variable {K : PySem.W.Frag}
theorem EvAt.tk {H H' : Hp} {e : Pe} {kv : List L2.Key × V} (h : EvAt K H e kv) (T : TK K H H') : EvAt K H' e kv := by
  obtain ⟨h0, b, rt, us, h1, h2, h3, h4⟩ := h
  exact ⟨h0, b, rt, us, h1, T _ _ h2, T _ _ h3, h4.tk T⟩
theorem EvsAt.tk {H H' : Hp} (T : TK K H H') : ∀ {es : List Pe} {kvs : List (List L2.Key × V)}, EvsAt K H es kvs → EvsAt K H' es kvs
  | [], _, h => h
  | e :: r, _, h => by
    obtain ⟨kv, t, e1, h1, h2⟩ := h
    exact ⟨kv, t, e1, h1.tk T, h2.tk T⟩
theorem EvsAt.len {H : Hp} : ∀ {es : List Pe} {kvs : List (List L2.Key × V)}, EvsAt K H es kvs → kvs.length = es.length
  | [], _, h => by have : _ = [] := h; rw [this]; rfl
  | e :: r, _, h => by
    obtain ⟨kv, t, rfl, h1, h2⟩ := h
    rw [List.length_cons, List.length_cons, h2.len]
theorem EvsAt.get {H : Hp} : ∀ {es : List Pe} {kvs : List (List L2.Key × V)} {i : Nat} {kv : List L2.Key × V}, EvsAt K H es kvs → kvs[i]? = some kv → ∃ e, es[i]? = some e ∧ EvAt K H e kv
  | [], kvs, i, kv, h, q => by have : kvs = [] := h; subst this; simp at q
  | e :: r, kvs, i, kv, h, q => by
    obtain ⟨kv', t, rfl, h1, h2⟩ := h
    cases i with
    | zero => exact ⟨e, rfl, by cases q; exact h1⟩
    | succ i => exact EvsAt.get (i := i) h2 q
theorem EvsAt.snoc {H : Hp} {e : Pe} {kv : List L2.Key × V} (q : EvAt K H e kv) : ∀ {es : List Pe} {kvs : List (List L2.Key × V)}, EvsAt K H es kvs → EvsAt K H (es ++ [e]) (kvs ++ [kv])
  | [], kvs, h => by have : kvs = [] := h; subst this; exact ⟨kv, [], rfl, q, rfl⟩
  | _ :: _, _, h => by
    obtain ⟨kv', t, rfl, h1, h2⟩ := h
    exact ⟨kv', t ++ [kv], rfl, h1, h2.snoc q⟩
theorem EvsAt.has {H : Hp} {k : List L2.Key} : ∀ {es : List Pe} {kvs : List (List L2.Key × V)}, EvsAt K H es kvs → ((valV kvs k).isSome = true ↔ k ∈ es.map Pe.key)
  | [], kvs, h => by have : kvs = [] := h; subst this; simp [valV_nil]
  | e :: r, kvs, h => by
    obtain ⟨kv, t, rfl, h1, h2⟩ := h
    rw [List.map_cons, List.mem_cons]
    by_cases q : kv.1 = k
    · rw [valV_pos q]
      exact ⟨fun _ => .inl (by rw [← q, h1.1]), fun _ => rfl⟩
    · rw [valV_neg q, EvsAt.has h2]
      exact ⟨.inr, fun z => z.resolve_left fun z => q (by rw [h1.1, z])⟩
theorem EvsAt.drop {H : Hp} {k : List L2.Key} : ∀ {es : List Pe} {kvs : List (List L2.Key × V)}, EvsAt K H es kvs → EvsAt K H (es.filter fun e => decide (e.key ≠ k)) (dropK kvs k)
  | [], kvs, h => by have : kvs = [] := h; subst this; exact rfl
  | e :: r, kvs, h => by
    obtain ⟨kv, t, rfl, h1, h2⟩ := h
    have ih := EvsAt.drop (k := k) h2
    by_cases q : e.key = k
    · have z1 : dropK (kv :: t) k = dropK t k := List.filter_cons_of_neg (by simp [h1.1, q])
      rw [z1, List.filter_cons_of_neg (by simp [q])]
      exact ih
    · have z1 : dropK (kv :: t) k = kv :: dropK t k := List.filter_cons_of_pos (by simp [h1.1, q])
      rw [z1, List.filter_cons_of_pos (by simp [q])]
      exact ⟨kv, _, rfl, h1, ih⟩
end
structure IxAt (K : PySem.W.Frag) (A : Addr) (H : Hp) (M : List Addr) (p d i : Addr) (es : List Pe) : Prop where
  ob : ∃ dx, H p = some (.ins A dx [("_entries", .ref d)])
  di : ∃ kvs, H d = some (.dT kvs) ∧ EvsAt K H es kvs
  li : H i = some (.lst (es.map fun e => V.ref e.pa))
  pe : ∀ e ∈ es, PeAt K H M e
  nd : (es.map Pe.key).Nodup
  pm : p ∉ M
section
variable {K : PySem.W.Frag} {A : Addr}
theorem IxAt.keep {H H' : Hp} {M N : List Addr} {p d i : Addr} {es : List Pe} (h : IxAt K A H M p d i es) (x : ExtL N H H') (sub : ∀ a ∈ N, a ∈ M) (T : TT K H H') (nd : d ∉ N) (ni : i ∉ N) : IxAt K A H' M p d i es := by
  obtain ⟨⟨dx, h1⟩, ⟨kvs, h2, h3⟩, h4, h5, h6, h7⟩ := h
  exact ⟨⟨dx, x _ _ (fun z => h7 (sub _ z)) h1⟩, ⟨kvs, x _ _ nd h2, h3.tk T.1⟩, x _ _ ni h4, fun e m => (h5 e m).keep x sub T, h6, h7⟩
end
noncomputable def semB (q : Qy) (n : Nt) : Bool := @decide (semQ n q) (Classical.propDecidable _)
theorem semB_iff {q : Qy} {n : Nt} : semB q n = true ↔ semQ n q := by unfold semB; exact @decide_eq_true_iff _ (Classical.propDecidable _)
noncomputable def fdL (q : Qy) (es : List Pe) : List Pe := (es.filter fun e => semB q e.n).mergeSort (dle Pe.pd)
noncomputable def fndD (q : Qy) (es : List Pe) : D := .tup ((fdL q es).map Pe.id)
def putP (es : List Pe) (e : Pe) : List Pe := if (es.any fun x => decide (x.key = e.key)) = true then es else es ++ [e]
theorem any_key {es : List Pe} {k : List L2.Key} : (es.any fun x => decide (x.key = k)) = true ↔ k ∈ es.map Pe.key := by
  rw [List.any_eq_true]
  exact ⟨fun ⟨x, hx, h⟩ => List.mem_map.mpr ⟨x, hx, of_decide_eq_true h⟩, fun h => let ⟨x, hx, e⟩ := List.mem_map.mp h; ⟨x, hx, decide_eq_true e⟩⟩
def dropP (es : List Pe) (k : List L2.Key) : List Pe := es.filter fun e => decide (e.key ≠ k)
/-! ### promises -/
def sp71_init (K : PySem.W.Frag) (A : Addr) : Sp := fun vs H Q _ => ∃ (p dx : Addr), vs = [.ref p] ∧ H p = some (.ins A dx []) ∧ ∀ (d : Addr) (H' : Hp), H d = none → ExtL [p] H H' → H' p = some (.ins A dx [("_entries", .ref d)]) → H' d = some (.dT []) → Q .non H'
def sp71_iput (K : PySem.W.Frag) (A : Addr) : Sp := fun vs H Q _ => ∃ (p d dx : Addr) (es : List Pe) (kvs : List (List L2.Key × V)) (e : Pe), vs = [.ref p, e.v] ∧ H p = some (.ins A dx [("_entries", .ref d)]) ∧ H d = some (.dT kvs) ∧ EvsAt K H es kvs ∧ es.length ≤ 1000 ∧ NiAt K H e.v e.n e.t e.nm e.k ∧ e.n.ok ∧
  ∀ (kvs' : List (List L2.Key × V)) (H' : Hp), ExtL [d] H H' → TT K H H' → H' d = some (.dT kvs') → EvsAt K H' (putP es e) kvs' → Q .non H'
def sp71_idrop (K : PySem.W.Frag) (A : Addr) : Sp := fun vs H Q _ => ∃ (p d dx t : Addr) (es : List Pe) (kvs : List (List L2.Key × V)) (nm : Str) (k : Int), vs = [.ref p, .ref t] ∧ H p = some (.ins A dx [("_entries", .ref d)]) ∧ H d = some (.dT kvs) ∧ EvsAt K H es kvs ∧ H t = some (.tup [.str nm, .int k]) ∧
  ∀ (kvs' : List (List L2.Key × V)) (H' : Hp), ExtL [d] H H' → TT K H H' → H' d = some (.dT kvs') → EvsAt K H' (dropP es (idk nm k)) kvs' → Q .non H'
def sp71_ifound (K : PySem.W.Frag) (A : Addr) : Sp := fun vs H Q _ => ∃ (M : List Addr) (p d i : Addr) (es : List Pe) (q : Qy) (v : V), vs = [.ref p, v] ∧ IxAt K A H M p d i es ∧ es.length ≤ 1000 ∧ DV K H (qyD q) v ∧ okQ 14 q ∧ ∀ (u : V) (H' : Hp), Same H H' → DV K H' (fndD q es) u → Q u H'
def sp71_fdue (K : PySem.W.Frag) : Sp := fun vs H Q _ => ∃ (M : List Addr) (s i : Addr) (es : List Pe) (q : Qy) (v : V), vs = [.ref i, v] ∧ H i = some (.lst (es.map fun e => V.ref e.pa)) ∧ (∀ e ∈ es, PeAt K H M e) ∧ s ∈ M ∧ es.length ≤ 1000 ∧ DV K H (qyD q) v ∧ okQ 14 q ∧ ∀ (u : V) (H' : Hp), Same H H' → DV K H' (fndD q es) u → Q u H'
def sp71_asked (K : PySem.W.Frag) (A : Addr) : Sp := fun vs H Q _ => ∃ (M : List Addr) (s p d i : Addr) (es : List Pe) (q : Qy) (v : V), vs = [.ref p, .ref i, v] ∧ IxAt K A H M p d i es ∧ s ∈ M ∧ es.length ≤ 1000 ∧ DV K H (qyD q) v ∧ okQ 14 q ∧ ∀ (H' : Hp), Same H H' → Q (.bl true) H'
def sp71_put (K : PySem.W.Frag) (A : Addr) : Sp := fun vs H Q _ => ∃ (M : List Addr) (p d i : Addr) (es : List Pe) (e : Pe), vs = [.ref p, .ref i, .ref e.pa] ∧ IxAt K A H M p d i es ∧ PeAt K H M e ∧ d ∈ M ∧ i ∈ M ∧ d ≠ i ∧ es.length ≤ 1000 ∧
  ∀ (H' : Hp), ExtL [d, i] H H' → TT K H H' → IxAt K A H' M p d i (putP es e) → Q (.bl true) H'
def sp71_deed (K : PySem.W.Frag) (A : Addr) : Sp := fun vs H Q _ => ∃ (M : List Addr) (s a p d i P : Addr) (es ps : List Pe) (c : Nat), vs = [.ref s, .ref p, .ref i, .ref P] ∧ IxAt K A H M p d i es ∧ H P = some (.lst (ps.map fun e => V.ref e.pa)) ∧ P ∉ [d, i, s] ∧ ps ≠ [] ∧ ps.length ≤ 1000 ∧ (∀ e ∈ ps, PeAt K H M e) ∧ s ∈ M ∧ d ∈ M ∧ i ∈ M ∧ d ≠ i ∧ s ∉ [d, i] ∧ a ∉ [d, i] ∧ es.length ≤ 900 ∧ Src H s a (c + 10) ∧
  ∀ (es' : List Pe) (H' : Hp), es'.length ≤ es.length + 1 → ExtL [s, d, i] H H' → TT K H H' → IxAt K A H' M p d i es' → Src H' s a c → Q (.bl true) H'
theorem putP_len {es : List Pe} {e : Pe} : (putP es e).length ≤ es.length + 1 := by
  unfold putP
  split
  · omega
  · rw [List.length_append]; exact Nat.le_refl _
theorem dropP_len {es : List Pe} {k : List L2.Key} : (dropP es k).length ≤ es.length := List.length_filter_le _ _
theorem putP_mem {es : List Pe} {e x : Pe} (h : x ∈ putP es e) : x ∈ es ∨ x = e := by
  unfold putP at h
  split at h
  · exact .inl h
  · rcases List.mem_append.mp h with h | h
    · exact .inl h
    · exact .inr (List.mem_singleton.mp h)
theorem putP_nd {es : List Pe} {e : Pe} (h : (es.map Pe.key).Nodup) : ((putP es e).map Pe.key).Nodup := by
  unfold putP
  split
  · exact h
  · rename_i n
    rw [List.map_append, List.nodup_append]
    exact ⟨h, List.nodup_cons.mpr ⟨by simp, List.nodup_nil⟩, fun a ha b hb => by
      rw [List.mem_singleton.mp hb]
      exact fun z => n (any_key.mpr (by rw [← z]; exact ha))⟩
theorem dropP_nd {es : List Pe} {k : List L2.Key} (h : (es.map Pe.key).Nodup) : ((dropP es k).map Pe.key).Nodup := h.sublist (List.Sublist.map _ List.filter_sublist)
/-- the first with the key is the only one -/
theorem dropP_at : ∀ {es : List Pe} {j : Nat} {e : Pe}, (es.map Pe.key).Nodup → es[j]? = some e → es.eraseIdx j = dropP es e.key
  | [], j, e, _, h => by simp at h
  | x :: r, 0, e, n, h => by
    cases h
    rw [List.map_cons, List.nodup_cons] at n
    unfold dropP
    rw [List.filter_cons_of_neg (by simp)]
    refine (List.filter_eq_self.mpr fun y hy => ?_).symm
    exact decide_eq_true fun z => n.1 (by rw [← z]; exact List.mem_map_of_mem hy)
  | x :: r, j + 1, e, n, h => by
    rw [List.map_cons, List.nodup_cons] at n
    have h' : r[j]? = some e := h
    have ne : x.key ≠ e.key := fun z => n.1 (by rw [z]; exact List.mem_map_of_mem (List.mem_of_getElem? h'))
    unfold dropP
    rw [List.filter_cons_of_pos (by simpa using ne)]
    show x :: r.eraseIdx j = x :: dropP r e.key
    rw [dropP_at n.2 h']
theorem dropP_none {es : List Pe} {k : List L2.Key} (h : ∀ e ∈ es, e.key ≠ k) : dropP es k = es := List.filter_eq_self.mpr fun e m => decide_eq_true (h e m)
theorem fdL_mem {q : Qy} {es : List Pe} {e : Pe} (h : e ∈ fdL q es) : e ∈ es := by
  unfold fdL at h
  exact (List.mem_filter.mp ((List.mergeSort_perm _ _).mem_iff.mp h)).1
theorem fdL_len {q : Qy} {es : List Pe} : (fdL q es).length ≤ es.length := by
  unfold fdL
  rw [List.length_mergeSort]
  exact List.length_filter_le _ _
theorem dl_fd {q : Qy} {es : List Pe} (h : es.length ≤ 1000) : DL 3 (fndD q es) := by
  refine ⟨by rw [List.length_map]; have := fdL_len (q := q) (es := es); omega, fun x hx => ?_⟩
  obtain ⟨e, _, rfl⟩ := List.mem_map.mp hx
  refine ⟨by show 2 ≤ 1000000; decide, fun y hy => ?_⟩
  simp only [List.mem_cons, List.not_mem_nil, or_false] at hy
  rcases hy with rfl | rfl <;> trivial
section
open PySem.W PySem.Calls PyProof.Rows
theorem pd_alike {l : List Pe} : AllAlike (l.map fun b => py (Pe.pd b)) := aa_of fun b c => by simp [Pe.pd, Pe.id, idD, py, pys, alike, alikeAll]
theorem pd_sort {l : List Pe} : PySem.W.Sortable (l.map fun b => py (Pe.pd b)) := so_tup fun b => ⟨_, _, rfl⟩
theorem pd_deep (b : Pe) : (py (Pe.pd b)).depth ≤ 60 := by simp [Pe.pd, Pe.id, idD, py, pys, PyData.depth, PyData.depthAll]
end
/-- the ids of some, one after another -/
theorem id_snoc {K : PySem.W.Frag} {H : Hp} {l : List Pe} {j : Nat} {e : Pe} {zs : List V} {v : V} (he : l[j]? = some e) (d : DVs K H ((l.take j).map Pe.id) zs) (x : DV K H (Pe.id e) v) : DVs K H ((l.take (j + 1)).map Pe.id) (zs ++ [v]) := by
  rw [List.take_add_one, he]
  exact DVs.snoc d x
theorem id_okl {l : List Pe} (h : ∀ e ∈ l, PeOk e) : Okl (l.map Pe.id) := fines_ok (n := 1) (fines_map fun e m => fine_tup (fines_cons (fine_low fun c hc => by have := (h e m).2.1 c hc; omega) (fines_cons fine_int fines_nil)))
theorem id_okd {nm : Str} {k : Int} (h : Low (tl nm)) : Okd (idD nm k) := fine_ok (n := 1) (fine_tup (fines_cons (fine_low fun c hc => by have := h c hc; omega) (fines_cons fine_int fines_nil)))
theorem id_eqD {x y : Str} {i j : Int} : eqD (idD x i) (idD y j) = true ↔ idk x i = idk y j := by
  rw [eqD_iff (by simp [idD, py, pys, PySem.W.alike, PySem.W.alikeAll]), idD_key]
end Z
namespace Z
open PySem L2
section
variable {P : Program} {w : World} {K : PySem.W.Frag} {mg : Str → Option Value} {base : Heap}
theorem ok__law_mix (D : Df K mg "_law_mix" s__law_mix ["seed", "turn"]) (T : Tx mg) : Cal P w K mg base "_law_mix" ["seed", "turn"] 1 sp__law_mix := by
  obtain ⟨f, fd, F, gf, bf⟩ := D
  refine ⟨f, fd, F.ok sc__law_mix (fun vs H Q E h => ?_) (fun cdv A outer s H vs Q E hr h => ?_), gf, F.kp, bf⟩
  · obtain ⟨x, y, rfl, _⟩ := h; rfl
  · obtain ⟨x, y, rfl, x0, x1, y0, y1, q⟩ := h
    refine ⟨_, (pss_cons (ps_set (i := 2) sc__law_mix.nd rfl (Or.inl rfl) (pe_op op_mod (pe_callTy call_int1 (by rfl) T.n_int (by decide +kernel) (pa_cons (pe_op op_add (pe_op op_add (pe_op op_mul (pv 0) pe_int) (pe_op op_mul (pv 1) pe_int)) pe_int) pa_nil)) pe_int))
      (pss_cons (ps_set (i := 2) sc__law_mix.nd rfl (Or.inl rfl) (pe_op op_mod (pe_callTy call_int1 (by rfl) T.n_int (by decide +kernel) (pa_cons (pe_op op_add (pe_op op_add (pe_op op_mul (pv 2) (pv 2)) (pe_op op_mul (pv 1) pe_int)) pe_int) pa_nil)) pe_int))
      (pss_cons (ps_set (i := 2) sc__law_mix.nd rfl (Or.inl rfl) (pe_op op_mod (pe_callTy call_int1 (by rfl) T.n_int (by decide +kernel) (pa_cons (pe_op op_add (pe_op op_add (pe_op op_mul (pv 2) pe_int) (pe_op op_mul (pe_op op_mul (pv 1) (pv 1)) pe_int)) pe_int) pa_nil)) pe_int))
      (pss_one (ps_ret (pv 2)))))), ?_⟩

    refine ⟨_, rfl, _, _, rfl, rfl, .inr (by decide), _, rfl, _, _, rfl, rfl, .inr (by decide), _, _, rfl, rfl, _, _, rfl, rfl, .inl ⟨_, rfl, _, _, rfl, rfl, (by show (0 : Int) < _; decide), ?_⟩⟩
    refine ⟨_, rfl, _, rfl, _, _, rfl, rfl, .inl ⟨by omega, by omega⟩, _, rfl, _, _, rfl, rfl, .inr (by decide), _, _, rfl, rfl, _, _, rfl, rfl, .inl ⟨_, rfl, _, _, rfl, rfl, (by show (0 : Int) < _; decide), ?_⟩⟩
    refine ⟨_, rfl, _, _, rfl, rfl, .inr (by decide), _, rfl, _, rfl, _, _, rfl, rfl, .inl ⟨by omega, by omega⟩, _, _, rfl, rfl, .inr (by decide), _, _, rfl, rfl, _, _, rfl, rfl, .inl ⟨_, rfl, _, _, rfl, rfl, (by show (0 : Int) < _; decide), ?_⟩⟩
    exact ⟨_, rfl, q _ (Int.emod_nonneg _ (by decide)) (by omega)⟩
end
end Z
namespace Z
open PySem L2
section
variable {P : Program} {w : World} {K : PySem.W.Frag} {mg : Str → Option Value} {base : Heap}
theorem ok__law_source (D : Df K mg "_law_source" s__law_source ["script"]) (T : Tx mg) (C__law_mix : Cal P w K mg base "_law_mix" ["seed", "turn"] 1 sp__law_mix) : Cal P w K mg base "_law_source" ["script"] 2 (sp__law_source K) := by
  obtain ⟨f__law_mix, fd__law_mix, G__law_mix, g__law_mix, k__law_mix, b__law_mix⟩ := C__law_mix
  obtain ⟨f, fd, F, gf, bf⟩ := D
  refine ⟨f, fd, F.ok sc__law_source (fun vs H Q E h => ?_) (fun cdv A outer s H vs Q E hr h => ?_), gf, F.kp, bf⟩
  · obtain ⟨a, ns, rfl, _⟩ := h; rfl
  · obtain ⟨a, ns, rfl, hS, hlen, q⟩ := h
    refine ⟨_, (pss_cons (ps_set (i := 1) sc__law_source.nd rfl (Or.inl rfl) pe_int)
      (pss_cons (ps_for PassesOwn.never rfl (pi_range1 (by rfl) T.n_range (pa_cons (pe_callB call_len_seq (by rfl) T.n_len PySem.boot_len (pa_cons (pv 0) pa_nil)) pa_nil)) (pg_name (i := 2) sc__law_source.nd rfl (Or.inl rfl))
      (pss_one (ps_set (i := 1) sc__law_source.nd rfl (Or.inl rfl) (pe_call G__law_mix (hr.mono (by decide)) (by rfl) g__law_mix k__law_mix b__law_mix .nil pass0 (pa_cons (pe_op op_add (pv 1) (pe_op op_mod (pe_callTy call_int1 (by rfl) T.n_int (by decide +kernel) (pa_cons (pe_ix ix_list (pv 0) (pv 2) (fun _ _ => rfl)) pa_nil)) pe_int)) (pa_cons (pv 2) pa_nil))))))
      (pss_one (ps_ret (pe_lst (pa_cons (pe_callTy call_list_of (by rfl) T.n_list (by decide +kernel) (pa_cons (pv 0) pa_nil)) (pa_cons pe_int (pa_cons pe_int (pa_cons (pv 1) (pa_cons pe_int pa_nil)))))))))), ?_⟩
    refine ⟨_, rfl, a, _, rfl, .inl hS, _, rfl, by rw [List.length_map]; omega, by rw [List.length_map]; omega, ?_⟩
    refine for_range (lo := 0) (n := (((ns.map V.int).length : Int)).toNat) (fun i σ H' => ∃ (e : Int) (v : Option V), σ = [some (.ref a), some (.int e), v] ∧ H' = H ∧ 0 ≤ e ∧ e < 2147483647) ⟨17, none, rfl, rfl, by decide, by decide⟩ ?_ ?_
    · rintro i σ H' hi ⟨e, v, rfl, rfl, e0, e1⟩
      rw [List.length_map] at hi
      have hi' : i < ns.length := by omega
      refine ⟨_, rfl, _, rfl, _, rfl, a, _, _, .int ns[i], rfl, rfl, hS, ?_, .inl ⟨_, rfl, _, _, rfl, rfl, (by show (0 : Int) < _; decide), _, _, rfl, rfl, _, rfl, ?_⟩⟩
      · rw [Int.zero_add]
        exact atI_nat (by rw [List.getElem?_map, List.getElem?_eq_getElem hi']; rfl)
      · refine ⟨_, _, rfl, ?_, ?_, ?_, ?_, fun v v0 v1 => ?_⟩
        · have := Int.emod_nonneg ns[i] (by decide : (2147483647 : Int) ≠ 0); omega
        · have := Int.emod_lt_of_pos ns[i] (by decide : (0 : Int) < 2147483647); omega
        · omega
        · omega
        · exact ⟨v, _, rfl, rfl, v0, v1⟩
    · rintro σ H' ⟨e, v, rfl, rfl, e0, e1⟩
      refine ⟨_, rfl, a, _, rfl, .inl hS, fun l hl => ?_⟩
      refine ⟨_, rfl, by show 5 ≤ sizeLine; decide, fun s hs => ?_⟩
      have hsl : s ≠ l := fun z => by rw [z, upd_same] at hs; cases hs
      have hs0 : H' s = none := by rw [upd_ne hsl] at hs; exact hs
      refine q s l _ hs0 ((same_new hl).trans (same_new hs)) ⟨ns, 0, 0, e, 0, upd_same, by rw [upd_ne hsl.symm, upd_same], hsl.symm, hlen, by decide, by decide, by decide, e0, e1, by decide, by decide⟩
end
end Z
namespace Z
open PySem L2
section
variable {P : Program} {w : World} {K : PySem.W.Frag} {mg : Str → Option Value} {base : Heap}
theorem ok__law_draw (D : Df K mg "_law_draw" s__law_draw ["source", "many"]) (T : Tx mg) (C__law_mix : Cal P w K mg base "_law_mix" ["seed", "turn"] 1 sp__law_mix) : Cal P w K mg base "_law_draw" ["source", "many"] 2 sp__law_draw := by
  obtain ⟨f__law_mix, fd__law_mix, G__law_mix, g__law_mix, k__law_mix, b__law_mix⟩ := C__law_mix
  obtain ⟨f, fd, F, gf, bf⟩ := D
  refine ⟨f, fd, F.ok sc__law_draw (fun vs H Q E h => ?_) (fun cdv A outer s H vs Q E hr h => ?_), gf, F.kp, bf⟩
  · obtain ⟨s, a, m, c, rfl, _⟩ := h; rfl
  · obtain ⟨s, a, m, c, rfl, m0, m1, hS, q⟩ := h
    refine ⟨_, (C8.pss_cut (ps_if (PW.pt (pw_and (pt_cmpR op_eq (pe_ix ix_list (pv 0) pe_int (fun _ _ => rfl)) pe_int (nomark _)) (pw_and (pt_cmpR op_lt (pe_ix ix_list (pv 0) pe_int (fun _ _ => rfl)) (pe_callB call_len_seq (by rfl) T.n_len PySem.boot_len (pa_cons (pe_ix ix_list (pv 0) pe_int (fun _ _ => rfl)) pa_nil)) (nomark _)) (pw_and1 (pt_cmpR op_eq (pe_op op_mod (pe_callTy call_int1 (by rfl) T.n_int (by decide +kernel) (pa_cons (pe_ix ix_list (pv 0) pe_int (fun _ _ => rfl)) pa_nil)) pe_int) pe_int (nomark _))))))
      (pss_cons (ps_set (i := 2) sc__law_draw.nd rfl (Or.inl rfl) (pe_ix ix_list (pe_ix ix_list (pv 0) pe_int (fun _ _ => rfl)) (pe_ix ix_list (pv 0) pe_int (fun _ _ => rfl)) (fun _ _ => rfl)))
        (pss_cons (ps_asg (pe_op op_add (pe_ix ix_list (pv 0) pe_int (fun _ _ => rfl)) pe_int) (pg_sub (pv 0) pe_int set_list))
        (pss_one (ps_if (pt_cmpR op_ge (pe_callB call_abs (by rfl) T.n_abs (by decide +kernel) (pa_cons (pv 2) pa_nil)) (pe_op op_pow pe_int pe_int) (nomark _))
        (pss_one (ps_asg (pe_op op_and (pe_callB call_abs (by rfl) T.n_abs (by decide +kernel) (pa_cons (pv 2) pa_nil)) (pe_op op_sub (pe_op op_shl pe_int pe_int) pe_int)) (pg_sub (pv 0) pe_int set_list)))
        (pss_one (ps_asg (pe_call G__law_mix (hr.mono (by decide)) (by rfl) g__law_mix k__law_mix b__law_mix .nil pass0 (pa_cons (pe_op op_add (pe_ix ix_list (pv 0) pe_int (fun _ _ => rfl)) (pe_op op_mod (pe_callTy call_int1 (by rfl) T.n_int (by decide +kernel) (pa_cons (pv 2) pa_nil)) pe_int)) (pa_cons (pe_ix ix_list (pv 0) pe_int (fun _ _ => rfl)) pa_nil))) (pg_sub (pv 0) pe_int set_list)))))))
      pss_nil)
      (pss_cons (ps_if (pt_cmpR op_gt (pe_ix ix_list (pv 0) pe_int (fun _ _ => rfl)) pe_int (nomark _))
      (pss_cons (ps_set (i := 3) sc__law_draw.nd rfl (Or.inl rfl) (pe_op op_mod (pe_callTy call_int1 (by rfl) T.n_int (by decide +kernel) (pa_cons (pe_ix ix_list (pv 0) pe_int (fun _ _ => rfl)) pa_nil)) (pv 1)))
        (pss_cons (ps_asg (pe_op op_fdivN (pe_callTy call_int1 (by rfl) T.n_int (by decide +kernel) (pa_cons (pe_ix ix_list (pv 0) pe_int (fun _ _ => rfl)) pa_nil)) (pv 1)) (pg_sub (pv 0) pe_int set_list))
        (pss_one (ps_ret (pv 3)))))
      pss_nil)
      (pss_cons (ps_asg (pe_op op_add (pe_ix ix_list (pv 0) pe_int (fun _ _ => rfl)) pe_int) (pg_sub (pv 0) pe_int set_list))
      (pss_one (ps_ret (pe_op op_mod (pe_callTy call_int1 (by rfl) T.n_int (by decide +kernel) (pa_cons (pe_op op_fdiv (pe_call G__law_mix (hr.mono (by decide)) (by rfl) g__law_mix k__law_mix b__law_mix .nil pass0 (pa_cons (pe_ix ix_list (pv 0) pe_int (fun _ _ => rfl)) (pa_cons (pe_ix ix_list (pv 0) pe_int (fun _ _ => rfl)) pa_nil))) pe_int) pa_nil)) (pv 1))))))), ?_⟩
    refine ⟨fun σ' H' => (∃ v2 v3, σ' = [some (.ref s), some (.int m), v2, v3]) ∧ Src H' s a (c + 1) ∧ Ext s H H', ?_, ?_⟩
    · obtain ⟨ns, i, b, e, t, h1, h2, as, h4, h5, h6, h7, h8, h9, h10, h11⟩ := id hS
      have hL : SqL K H s [.ref a, .int i, .int b, .int e, .int t] := SqL.of h1
      refine ⟨_, rfl, _, _, _, _, rfl, rfl, hL, rfl, rfl, _, rfl, ite2 (fun c1 => ?_) (fun c1 => iteF ⟨⟨_, _, rfl⟩, hS, Ext.refl _ _⟩)⟩
      refine ⟨_, rfl, _, _, _, _, rfl, rfl, hL, rfl, _, rfl, _, _, _, _, rfl, rfl, hL, rfl, a, _, rfl, .inl (SqL.of h2), _, _, rfl, rfl, _, rfl, ite2 (fun c2 => ?_) (fun c2 => iteF ⟨⟨_, _, rfl⟩, hS, Ext.refl _ _⟩)⟩
      refine ⟨_, rfl, _, _, _, _, rfl, rfl, hL, rfl, .inl ⟨_, rfl, _, _, rfl, rfl, (by show (0 : Int) < 6; decide), rfl, _, rfl, ite2 (fun c3 => ?_) (fun c3 => ⟨⟨_, _, rfl⟩, hS, Ext.refl _ _⟩)⟩⟩
      have hi : i < ns.length := by
        have := of_decide_eq_true c2
        rw [List.length_map] at this
        exact this
      have hi' : i.toNat < ns.length := by omega
      -- cell = source[0][source[1]]
      refine ⟨_, rfl, _, _, _, _, rfl, rfl, hL, rfl, _, rfl, _, _, _, _, rfl, rfl, hL, rfl, a, _, _, .int ns[i.toNat], rfl, rfl, SqL.of h2, at_of (j := i.toNat) (by omega) (by rw [List.getElem?_map, List.getElem?_eq_getElem hi']; rfl), ?_⟩
      -- source[1] = source[1] + 1
      refine ⟨_, rfl, _, _, _, _, rfl, rfl, hL, rfl, _, _, rfl, rfl, _, rfl, _, _, _, 1, rfl, rfl, h1, rfl, ?_⟩
      refine ⟨_, rfl, _, rfl, _, _, rfl, rfl, ⟨by decide, by decide, by decide⟩, _, _, rfl, rfl, _, rfl, ite2 (fun c4 => ?_) (fun c4 => ?_)⟩
      · refine ⟨_, rfl, _, rfl, _, _, rfl, rfl, ⟨by decide, by decide, by decide⟩, _, _, rfl, rfl, _, _, rfl, rfl, _, rfl, _, _, _, 2, rfl, rfl, upd_same, rfl, ?_⟩
        refine ⟨⟨_, _, rfl⟩, ?_, ?_⟩
        · refine ⟨ns, i + 1, _, e, t, upd_same, by rw [upd_ne as, upd_ne as]; exact h2, as, h4, by omega, by omega, ?_, h8, h9, h10, h11⟩
          exact and_nn (by split <;> omega) _
        · exact Ext.put.trans Ext.put
      · refine ⟨_, rfl, _, _, _, _, rfl, rfl, SqL.of upd_same, rfl, _, rfl, .inl ⟨_, rfl, _, _, rfl, rfl, (by show (0 : Int) < 2147483647; decide), _, _, rfl, rfl, _, rfl, _, _, _, _, rfl, rfl, SqL.of upd_same, rfl, _, _, rfl, ?_, ?_, ?_, ?_, fun v v0 v1 => ?_⟩⟩
        · have := Int.emod_nonneg ns[i.toNat] (by decide : (2147483647 : Int) ≠ 0); omega
        · have := Int.emod_lt_of_pos ns[i.toNat] (by decide : (0 : Int) < 2147483647); omega
        · omega
        · omega
        · refine ⟨_, rfl, _, _, _, 3, rfl, rfl, upd_same, rfl, ⟨_, _, rfl⟩, ?_, Ext.put.trans Ext.put⟩
          exact ⟨ns, i + 1, b, v, t, upd_same, by rw [upd_ne as, upd_ne as]; exact h2, as, h4, by omega, by omega, h7, v0, v1, h10, h11⟩
    · rintro σ' H' ⟨⟨v2, v3, rfl⟩, hS', hx⟩
      obtain ⟨ns, i, b, e, t, h1, h2, as, h4, h5, h6, h7, h8, h9, h10, h11⟩ := id hS'
      have hL : SqL K H' s [.ref a, .int i, .int b, .int e, .int t] := SqL.of h1
      refine ⟨_, rfl, _, _, _, _, rfl, rfl, hL, rfl, _, _, rfl, rfl, _, rfl, ite2 (fun c1 => ?_) (fun c1 => ?_)⟩
      · refine ⟨_, rfl, _, _, _, _, rfl, rfl, hL, rfl, .inl ⟨_, rfl, _, rfl, _, _, rfl, rfl, m0, ?_⟩⟩
        refine ⟨_, rfl, _, _, _, _, rfl, rfl, hL, rfl, .inl ⟨_, rfl, _, rfl, _, _, rfl, rfl, ⟨by omega, by omega⟩, _, rfl, _, _, _, 2, rfl, rfl, h1, rfl, ?_⟩⟩
        refine ⟨_, rfl, q _ _ (Int.emod_nonneg _ (by omega)) (Int.emod_lt_of_pos _ m0) (hx.trans Ext.put) ?_⟩
        refine ⟨ns, i, _, e, t, upd_same, by rw [upd_ne as]; exact h2, as, h4, h5, h6, ?_, h8, h9, h10, by omega⟩
        exact Int.fdiv_nonneg h7 (by omega)
      · refine ⟨_, rfl, _, _, _, _, rfl, rfl, hL, rfl, _, _, rfl, rfl, _, rfl, _, _, _, 4, rfl, rfl, h1, rfl, ?_⟩
        refine ⟨_, rfl, _, _, _, _, rfl, rfl, SqL.of upd_same, rfl, _, rfl, _, _, _, _, rfl, rfl, SqL.of upd_same, rfl, _, _, rfl, h8, by omega, by omega, by omega, fun v v0 v1 => ?_⟩
        refine ⟨_, _, rfl, rfl, ⟨by decide, by decide⟩, .inl ⟨_, rfl, _, rfl, _, _, rfl, rfl, m0, ?_⟩⟩
        refine q _ _ (Int.emod_nonneg _ (by omega)) (Int.emod_lt_of_pos _ m0) (hx.trans Ext.put) ?_
        exact ⟨ns, i, b, e, t + 1, upd_same, by rw [upd_ne as]; exact h2, as, h4, h5, h6, h7, h8, h9, by omega, by omega⟩
end
end Z
namespace Z
open PySem L2
section
variable {P : Program} {w : World} {K : PySem.W.Frag} {mg : Str → Option Value} {base : Heap}
theorem ok__law_is_int (D : Df K mg "_law_is_int" s__law_is_int ["value"]) (T : Tx mg)  : Cal P w K mg base "_law_is_int" ["value"] 1 (sp__law_is_int K) := by
  obtain ⟨f, fd, F, gf, bf⟩ := D
  refine ⟨f, fd, F.ok sc__law_is_int (fun vs H Q E h => ?_) (fun cdv A outer s H vs Q E hr h => ?_), gf, F.kp, bf⟩
  · obtain ⟨i, rfl, _⟩ := h; rfl
  · obtain ⟨i, rfl, q⟩ := h
    refine ⟨_, (pss_one (ps_ret (pe_and (pe_callB call_isi (by rfl) T.n_isinstance (by decide +kernel) (pa_cons (pv 0) (pa_cons (pe_bltn (v := .ty "int") (by rfl) T.n_int (by decide +kernel) rfl) pa_nil))) (pe_one (pe_not (pe_callB call_isi (by rfl) T.n_isinstance (by decide +kernel) (pa_cons (pv 0) (pa_cons (pe_bltn (v := .ty "bool") (by rfl) T.n_bool (by decide +kernel) rfl) pa_nil)))))))), ?_⟩
    refine ⟨_, rfl, _, _, _, _, true, rfl, .ty _, .base (.int i), kit_ty (by decide +kernel), _, rfl, ?_⟩
    refine iteT ⟨_, rfl, _, _, _, _, false, rfl, .ty _, .base (.int i), kit_ty (by decide +kernel), _, rfl, q⟩

theorem ok__law_same (D : Df K mg "_law_same" s__law_same ["actual", "due"]) (T : Tx mg) (C__law_is_int : Cal P w K mg base "_law_is_int" ["value"] 1 (sp__law_is_int K)) : ∀ n, Cal P w K mg base "_law_same" ["actual", "due"] (n + 1) (sp__law_same K n)
  | 0 => by
    obtain ⟨f, fd, F, gf, bf⟩ := D
    exact ⟨f, fd, ⟨fun vs H Q E h => by obtain ⟨_, _, _, _, _, _, h, _⟩ := h; exact h.elim, fun A outer s H args us vs Q E _ _ _ _ h => by obtain ⟨_, _, _, _, _, _, h, _⟩ := h; exact h.elim⟩, gf, F.kp, bf⟩
  | n + 1 => by
    obtain ⟨f__law_same, fd__law_same, G__law_same, g__law_same, k__law_same, b__law_same⟩ := ok__law_same D T C__law_is_int n
    obtain ⟨f__law_is_int, fd__law_is_int, G__law_is_int, g__law_is_int, k__law_is_int, b__law_is_int⟩ := C__law_is_int
    obtain ⟨f, fd, F, gf, bf⟩ := D
    refine ⟨f, fd, F.ok sc__law_same (fun vs H Q E h => ?_) (fun cdv A outer s H vs Q E hr h => ?_), gf, F.kp, bf⟩
    · obtain ⟨d, v, u, rfl, _⟩ := h; rfl
    · obtain ⟨d, v, u, rfl, hv, hu, hd, q⟩ := h
      refine ⟨_, (pss_cons (ps_if (pt_val (pe_callB call_isi (by rfl) T.n_isinstance (by decide +kernel) (pa_cons (pv 1) (pa_cons (pe_bltn (v := .ty "tuple") (by rfl) T.n_tuple (by decide +kernel) rfl) pa_nil))))
      (pss_cons (ps_if (PW.pt (pw_or (pt_not (pt_val (pe_callB call_isi (by rfl) T.n_isinstance (by decide +kernel) (pa_cons (pv 0) (pa_cons (pe_bltn (v := .ty "tuple") (by rfl) T.n_tuple (by decide +kernel) rfl) pa_nil))))) (pw_or1 (pt_cmpR op_ne (pe_callB call_len_seq (by rfl) T.n_len PySem.boot_len (pa_cons (pv 0) pa_nil)) (pe_callB call_len_seq (by rfl) T.n_len PySem.boot_len (pa_cons (pv 1) pa_nil)) (nomark _)))))
        (pss_one (ps_ret pe_bl))
        pss_nil)
        (pss_cons (ps_for PassesOwn.never rfl (pi_range1 (by rfl) T.n_range (pa_cons (pe_callB call_len_seq (by rfl) T.n_len PySem.boot_len (pa_cons (pv 1) pa_nil)) pa_nil)) (pg_name (i := 2) sc__law_same.nd rfl (Or.inl rfl))
        (pss_one (ps_if (pt_not (pt_val (pe_call G__law_same hr (by rfl) g__law_same k__law_same b__law_same .nil pass0 (pa_cons (pe_ix ix_tup (pv 0) (pv 2) (fun _ _ => rfl)) (pa_cons (pe_ix ix_tup (pv 1) (pv 2) (fun _ _ => rfl)) pa_nil)))))
          (pss_one (ps_ret pe_bl))
          pss_nil)))
        (pss_one (ps_ret pe_bl))))
      pss_nil)
      (pss_cons (ps_if (pt_cmpR op_isN (pv 1) pe_non (nomark _))
      (pss_one (ps_ret (pe_cmpR op_isN (pv 0) pe_non (nomark _))))
      pss_nil)
      (pss_cons (ps_if (pt_val (pe_callB call_isi (by rfl) T.n_isinstance (by decide +kernel) (pa_cons (pv 1) (pa_cons (pe_bltn (v := .ty "bool") (by rfl) T.n_bool (by decide +kernel) rfl) pa_nil))))
      (pss_one (ps_ret (pe_and (pe_callB call_isi (by rfl) T.n_isinstance (by decide +kernel) (pa_cons (pv 0) (pa_cons (pe_bltn (v := .ty "bool") (by rfl) T.n_bool (by decide +kernel) rfl) pa_nil))) (pe_one (pe_cmpR op_eq (pv 0) (pv 1) (nomark _))))))
      pss_nil)
      (pss_cons (ps_if (pt_val (pe_callB call_isi (by rfl) T.n_isinstance (by decide +kernel) (pa_cons (pv 1) (pa_cons (pe_bltn (v := .ty "int") (by rfl) T.n_int (by decide +kernel) rfl) pa_nil))))
      (pss_one (ps_ret (pe_and (pe_call G__law_is_int (hr.mono (by omega)) (by rfl) g__law_is_int k__law_is_int b__law_is_int .nil pass0 (pa_cons (pv 0) pa_nil)) (pe_one (pe_cmpR op_eq (pv 0) (pv 1) (nomark _))))))
      pss_nil)
      (pss_one (ps_ret (pe_and (pe_callB call_isi (by rfl) T.n_isinstance (by decide +kernel) (pa_cons (pv 0) (pa_cons (pe_bltn (v := .ty "str") (by rfl) T.n_str (by decide +kernel) rfl) pa_nil))) (pe_one (pe_cmpR op_eq (pv 0) (pv 1) (nomark _)))))))))), ?_⟩
      cases d with
      | non =>
        unfold DV at hv hu; subst hv hu
        refine ⟨_, rfl, _, _, _, _, false, rfl, .ty _, .base .non, kit_ty (by decide +kernel), _, rfl, iteF ?_⟩
        exact ⟨_, rfl, rfl, _, rfl, iteT ⟨_, rfl, rfl, q⟩⟩
      | bl b =>
        unfold DV at hv hu; subst hv hu
        refine ⟨_, rfl, _, _, _, _, false, rfl, .ty _, .base (.bl b), kit_ty (by decide +kernel), _, rfl, iteF ?_⟩
        refine ⟨_, rfl, rfl, _, rfl, iteF ?_⟩
        refine ⟨_, rfl, _, _, _, _, true, rfl, .ty _, .base (.bl b), kit_ty (by decide +kernel), _, rfl, iteT ?_⟩
        refine ⟨_, rfl, _, _, _, _, true, rfl, .ty _, .base (.bl b), kit_ty (by decide +kernel), _, rfl, iteT ?_⟩
        refine ⟨_, rfl, _, rfl, rfl, ?_⟩
        rw [decide_eq_true rfl]; exact q
      | int b =>
        unfold DV at hv hu; subst hv hu
        refine ⟨_, rfl, _, _, _, _, false, rfl, .ty _, .base (.int b), kit_ty (by decide +kernel), _, rfl, iteF ?_⟩
        refine ⟨_, rfl, rfl, _, rfl, iteF ?_⟩
        refine ⟨_, rfl, _, _, _, _, false, rfl, .ty _, .base (.int b), kit_ty (by decide +kernel), _, rfl, iteF ?_⟩
        refine ⟨_, rfl, _, _, _, _, true, rfl, .ty _, .base (.int b), kit_ty (by decide +kernel), _, rfl, iteT ?_⟩
        refine ⟨_, rfl, _, rfl, _, rfl, iteT ?_⟩
        refine ⟨_, rfl, _, rfl, rfl, ?_⟩
        rw [decide_eq_true rfl]; exact q
      | str b =>
        unfold DV at hv hu; subst hv hu
        refine ⟨_, rfl, _, _, _, _, false, rfl, .ty _, .base (.str b), kit_ty (by decide +kernel), _, rfl, iteF ?_⟩
        refine ⟨_, rfl, rfl, _, rfl, iteF ?_⟩
        refine ⟨_, rfl, _, _, _, _, false, rfl, .ty _, .base (.str b), kit_ty (by decide +kernel), _, rfl, iteF ?_⟩
        refine ⟨_, rfl, _, _, _, _, false, rfl, .ty _, .base (.str b), kit_ty (by decide +kernel), _, rfl, iteF ?_⟩
        refine ⟨_, rfl, _, _, _, _, true, rfl, .ty _, .base (.str b), kit_ty (by decide +kernel), _, rfl, iteT ?_⟩
        refine ⟨_, rfl, _, rfl, rfl, ?_⟩
        rw [decide_eq_true rfl]; exact q
      | tup ds =>
        unfold DV at hv hu
        obtain ⟨a, vs, rfl, ha, hvs⟩ := hv
        obtain ⟨b, us, rfl, hb, hus⟩ := hu
        have hl := hvs.len
        have hm := hus.len
        refine ⟨_, rfl, _, _, _, _, true, rfl, .ty _, TyX.ofT hb, kit_ty (by decide +kernel), _, rfl, iteT ?_⟩
        refine ⟨_, rfl, _, _, _, _, true, rfl, .ty _, TyX.ofT ha, kit_ty (by decide +kernel), _, rfl, iteF ?_⟩
        refine ⟨_, rfl, a, _, rfl, .inr ha, _, rfl, b, _, rfl, .inr hb, rfl, _, rfl, iteNS (by rw [hl, hm]) ?_⟩
        refine ⟨_, rfl, b, _, rfl, .inr hb, _, rfl, by omega, by have := hd.1; omega, ?_⟩
        refine for_range (lo := 0) (n := ((us.length : Int)).toNat) (fun i σ H' => ∃ (x : Option V), σ = [some (.ref a), some (.ref b), x] ∧ H' = H) ⟨none, rfl, rfl⟩ ?_ ?_
        · rintro i σ H' hi ⟨x, rfl, rfl⟩
          have hi' : i < us.length := by omega
          have hi2 : i < ds.length := by omega
          obtain ⟨v1, e1, q1⟩ := hvs.get (List.getElem?_eq_getElem hi2)
          obtain ⟨v2, e2, q2⟩ := hus.get (List.getElem?_eq_getElem hi2)
          refine ⟨_, rfl, _, rfl, a, _, _, v1, rfl, rfl, ha, at_of (j := i) (by omega) e1, _, rfl, _, rfl, b, _, _, v2, rfl, rfl, hb, at_of (j := i) (by omega) e2, ?_⟩
          refine ⟨ds[i], v1, v2, rfl, q1, q2, hd.2 _ (List.getElem_mem hi2), _, rfl, iteF ?_⟩
          exact ⟨_, rfl, rfl⟩
        · rintro σ H' ⟨x, rfl, rfl⟩
          exact q
end
end Z
namespace Z
open PySem L2 SX
theorem nodup_le : ∀ {l us : List (List Nat)}, l.Nodup → (∀ x ∈ l, x ∈ us) → l.length ≤ us.length
  | [], us, _, _ => Nat.zero_le _
  | x :: l, us, h, k => by
    have hh := List.nodup_cons.mp h
    have m := k x (by simp)
    have := nodup_le (us := us.erase x) hh.2 fun y hy => (List.mem_erase_of_ne (fun e : y = x => hh.1 (by rw [e] at hy; exact hy))).mpr (k y (List.mem_cons_of_mem _ hy))
    rw [List.length_erase_of_mem m] at this
    have p := List.length_pos_of_mem m
    rw [List.length_cons]; omega
def sfxL (j : Nat) : List Nat := if j = 0 then [] else [48 + j]
theorem sfx_nodup : ((List.range 10).map sfxL).Nodup := by decide +kernel
theorem tried_nodup (p : List Nat) {m : Nat} (h : m ≤ 10) : ((List.range m).map fun j => p ++ sfxL j).Nodup := by
  have h1 : ((List.range m).map sfxL).Nodup := by
    have e : List.range m = (List.range 10).take m := by rw [List.take_range, Nat.min_eq_left h]
    rw [e, List.map_take]
    exact sfx_nodup.sublist (List.take_sublist _ _)
  rw [List.nodup_iff_pairwise_ne, List.pairwise_map] at h1 ⊢
  exact h1.imp fun ne e => ne (List.append_cancel_left e)
section
variable {P : Program} {w : World} {K : PySem.W.Frag} {mg : Str → Option Value} {base : Heap}
theorem ok__law_pick (D : Df K mg "_law_pick" s__law_pick ["source", "row"]) (T : Tx mg)  (C__law_draw : Cal P w K mg base "_law_draw" ["source", "many"] 2 sp__law_draw) : Cal P w K mg base "_law_pick" ["source", "row"] 3 (sp3__law_pick K) := by
  obtain ⟨f__law_draw, fd__law_draw, G__law_draw, g__law_draw, k__law_draw, b__law_draw⟩ := C__law_draw
  obtain ⟨f, fd, F, gf, bf⟩ := D
  refine ⟨f, fd, F.ok sc__law_pick (fun vs H Q E h => ?_) (fun cdv A outer s₀ H vs Q E hr h => ?_), gf, F.kp, bf⟩
  · rcases h with ⟨s, a, r, xs, c, rfl, _⟩ | ⟨s, a, x, c, rfl, _⟩ | ⟨s, a, r, xs, c, rfl, _⟩ <;> rfl
  · refine ⟨_, (pss_one (ps_ret (pe_ix ix_seq (pv 1) (pe_call G__law_draw (hr.mono (by decide)) (by rfl) g__law_draw k__law_draw b__law_draw .nil pass0 (pa_cons (pv 0) (pa_cons (pe_callB call_len (by rfl) T.n_len PySem.boot_len (pa_cons (pv 1) pa_nil)) pa_nil))) (fun _ _ => rfl)))), ?_⟩
    rcases h with ⟨s, a, r, xs, c, rfl, hR, rs, ne, hl, hS, q⟩ | ⟨s, a, x, c, rfl, ne, hl, hS, q⟩ | ⟨s, a, r, xs, c, rfl, hR, ne, hl, hS, q⟩
    · have n0 : 0 < xs.length := List.length_pos_iff.mpr ne
      refine ⟨_, rfl, _, rfl, _, rfl, _, _, rfl, .inl ⟨xs, hR, rfl⟩, s, a, (xs.length : Int), c, rfl, by omega, by omega, hS, fun v H' v0 v1 hE hS' => ?_⟩
      have hv : v.toNat < xs.length := by omega
      exact .inl ⟨r, xs, v, xs[v.toNat], rfl, rfl, hE.seqL rs hR, atI_pos v0 (List.getElem?_eq_getElem hv), q _ _ (List.getElem_mem hv) hE hS'⟩
    · have n0 : 0 < (tl x).length := List.length_pos_iff.mpr ne
      have hx := tl_len x
      refine ⟨_, rfl, _, rfl, _, rfl, _, x.length, rfl, ⟨by rw [hx]; exact Nat.le_trans hl (by decide), rfl⟩, s, a, (x.length : Int), c, rfl, by omega, by omega, hS, fun v H' v0 v1 hE hS' => ?_⟩
      have hv : v.toNat < (tl x).length := by omega
      exact .inr (.inr ⟨x, v, (tl x)[v.toNat], rfl, rfl, by rw [hx]; exact Nat.le_trans hl (by decide), atI_pos v0 (List.getElem?_eq_getElem hv), q _ _ (List.getElem_mem hv) hE hS'⟩)
    · have n0 : 0 < xs.length := List.length_pos_iff.mpr ne
      refine ⟨_, rfl, _, rfl, _, rfl, _, _, rfl, .inr ⟨xs, hR, rfl⟩, s, a, (xs.length : Int), c, rfl, by omega, by omega, hS, fun v H' v0 v1 hE hS' => ?_⟩
      have hv : v.toNat < xs.length := by omega
      exact .inr (.inl ⟨r, xs, v, xs[v.toNat], rfl, rfl, TK.ext hE hS _ _ hR, atI_pos v0 (List.getElem?_eq_getElem hv), q _ _ (List.getElem_mem hv) hE hS'⟩)
end
section
variable {P : Program} {w : World} {K : PySem.W.Frag} {mg : Str → Option Value} {base : Heap}
theorem ok__law_new_name (D : Df K mg "_law_new_name" s__law_new_name ["source", "used"]) (T : Tx mg)  (C__law_draw : Cal P w K mg base "_law_draw" ["source", "many"] 2 sp__law_draw) : Cal P w K mg base "_law_new_name" ["source", "used"] 3 (sp9__law_new_name K) := by
  obtain ⟨f__law_draw, fd__law_draw, G__law_draw, g__law_draw, k__law_draw, b__law_draw⟩ := C__law_draw
  obtain ⟨f, fd, F, gf, bf⟩ := D
  refine ⟨f, fd, F.ok sc__law_new_name (fun vs H Q E h => ?_) (fun cdv A outer s₀ H vs Q E hr h => ?_), gf, F.kp, bf⟩
  · obtain ⟨s, a, u, us, c, rfl, _⟩ := h; rfl
  · obtain ⟨s, a, u, us, c, rfl, hU, hus, hul, hS, q⟩ := h
    refine ⟨_, (pss_cons (ps_set (i := 2) sc__law_new_name.nd rfl (Or.inl rfl) pe_str)
      (pss_cons (ps_set (i := 3) sc__law_new_name.nd rfl (Or.inl rfl) (pe_op op_add pe_int (pe_call G__law_draw (hr.mono (by decide)) (by rfl) g__law_draw k__law_draw b__law_draw .nil pass0 (pa_cons (pv 0) (pa_cons pe_int pa_nil)))))
      (pss_cons (ps_set (i := 4) sc__law_new_name.nd rfl (Or.inl rfl) (pe_item_str (pv 2) (pe_call G__law_draw (hr.mono (by decide)) (by rfl) g__law_draw k__law_draw b__law_draw .nil pass0 (pa_cons (pv 0) (pa_cons pe_int pa_nil))) (fun _ _ => rfl)))
      (pss_cons (ps_for PassesOwn.never rfl (pi_range1 (by rfl) T.n_range (pa_cons (pe_op op_sub (pv 3) pe_int) pa_nil)) (pg_name (i := 5) sc__law_new_name.nd rfl (Or.inl rfl))
      (pss_one (ps_set (i := 4) sc__law_new_name.nd rfl (Or.inl rfl) (pe_op op_add_str (pv 4) (pe_item_str (pe_op op_add_str (pv 2) pe_str) (pe_call G__law_draw (hr.mono (by decide)) (by rfl) g__law_draw k__law_draw b__law_draw .nil pass0 (pa_cons (pv 0) (pa_cons pe_int pa_nil))) (fun _ _ => rfl))))))
      (pss_cons (ps_for PassesOwn.never rfl (pi_range1 (by rfl) T.n_range (pa_cons (pe_op op_add (pe_callB call_len_seq (by rfl) T.n_len PySem.boot_len (pa_cons (pv 1) pa_nil)) pe_int) pa_nil)) (pg_name (i := 5) sc__law_new_name.nd rfl (Or.inl rfl))
      (pss_cons (ps_set (i := 6) sc__law_new_name.nd rfl (Or.inl rfl) (pe_op op_add_str (pv 4) (pe_ix ix_list (pe_lst (pa_cons pe_str (pa_cons (pe_callTy call_str_int (by rfl) T.n_str (by decide +kernel) (pa_cons (pv 5) pa_nil)) pa_nil))) (pe_callTy call_int1 (by rfl) T.n_int (by decide +kernel) (pa_cons (pe_cmpR op_gt (pv 5) pe_int (nomark _)) pa_nil)) (fun _ _ => rfl))))
        (pss_one (ps_if (pt_cmpR op_notIn_seq (pv 6) (pv 1) (by rfl))
        (pss_one (ps_ret (pv 6)))
        pss_nil))))
      (pss_one (ps_ret (pv 4)))))))), ?_⟩
    refine ⟨_, rfl, s, a, _, c + 7, rfl, by decide, by decide, hS, fun v1 H1 v10 v11 x1 S1 => ?_⟩
    refine ⟨_, _, rfl, rfl, ?_⟩
    refine ⟨_, rfl, _, rfl, s, a, _, c + 6, rfl, by decide, by decide, S1, fun v2 H2 v20 v21 x2 S2 => ?_⟩
    obtain ⟨ch, e1, _, e3⟩ := at_str (x := Str.ofString "abcdefghijklmnopqrstuvwxyz") v20 v21
    refine ⟨_, _, ch, rfl, rfl, v20, by omega, v21, e1, ?_⟩
    have hch : 97 ≤ ch ∧ ch ≤ 122 := alpha_mem e3
    refine ⟨_, rfl, _, _, rfl, rfl, _, rfl, by omega, by omega, ?_⟩
    refine for_range (lo := 0) (n := (1 + v1 - 1).toNat) (fun i σ H' => ∃ (x : Str) (v : Option V), σ = [some (.ref s), some (.ref u), some (.str "abcdefghijklmnopqrstuvwxyz"), some (.int (1 + v1)), some (.str x), v, none] ∧ Nm (tl x) ∧ (tl x).length = i + 1 ∧ Ext s H H' ∧ Src H' s a (c + (5 - i))) ?_ ?_ ?_
    · exact ⟨S [ch], none, rfl, ⟨⟨ch, [], rfl, hch⟩, fun y hy => by rw [List.mem_singleton.mp hy]; exact .inl hch⟩, rfl, x1.trans x2, S2.mono (by omega)⟩
    · rintro i σ H' hi ⟨x, v, rfl, hN, hl, hE, hS'⟩
      refine ⟨_, rfl, _, rfl, _, _, rfl, rfl, by decide +kernel, ?_⟩
      refine ⟨_, rfl, s, a, _, c + (5 - (i + 1)), rfl, by decide, by decide, hS'.mono (by omega), fun v3 H3 v30 v31 x3 S3 => ?_⟩
      obtain ⟨d, e1, _, e3⟩ := at_str (x := Str.ofString "abcdefghijklmnopqrstuvwxyz" ++ Str.ofString "0123456789") v30 v31
      refine ⟨_, _, d, rfl, rfl, v30, by omega, v31, e1, _, _, rfl, rfl, ?_, ?_⟩
      · rw [tl_len, hl]; exact Nat.le_trans (show i + 1 + 1 ≤ 10 by omega) (by decide)
      · exact ⟨_, _, rfl, by rw [tl_app]; exact hN.app (fun y hy => by rw [List.mem_singleton.mp hy]; exact low_mem e3), by rw [tl_app, List.length_append, hl]; rfl, hE.trans x3, S3⟩
    · rintro σ H3 ⟨x, v, rfl, hN, hl, hE, hS'⟩
      have hU3 : SqL K H3 u (us.map V.str) := hE.seqL hus hU
      refine ⟨_, rfl, u, _, rfl, .inl hU3, _, _, rfl, rfl, _, rfl, by rw [List.length_map]; omega, by rw [List.length_map]; omega, ?_⟩
      refine for_range (lo := 0) (n := ((((us.map V.str).length : Int)) + 1).toNat) (fun i σ H' => ∃ (v t : Option V), σ = [some (.ref s), some (.ref u), some (.str "abcdefghijklmnopqrstuvwxyz"), some (.int (1 + v1)), some (.str x), v, t] ∧ Same H3 H' ∧ ∀ j, j < i → tl x ++ sfxL j ∈ us.map tl) ⟨_, _, rfl, Same.refl _, fun j hj => by omega⟩ ?_ ?_
      · rintro i σ H' hi ⟨v', t', rfl, hM, hall⟩
        rw [List.length_map] at hi
        obtain ⟨y, hy, hyl, hya⟩ : ∃ y : Str, atI [V.str (Str.ofString ""), V.str (Str.ofString (toString (0 + (i : Int))))] (if decide ((0 : Int) < 0 + (i : Int)) = true then 1 else 0) = some (.str y) ∧ tl y = sfxL i ∧ Low (tl y) := by
          by_cases h0 : i = 0
          · subst h0
            exact ⟨Str.ofString "", rfl, rfl, Low.nil⟩
          · rw [if_pos (decide_eq_true (by omega))]
            refine ⟨_, rfl, ?_, ?_⟩
            · rw [Int.zero_add, num_S, tl_S, TL.numL_lt (by omega)]
              unfold sfxL; rw [if_neg h0]
            · rw [Int.zero_add, num_S, tl_S]
              exact low_num i
        have yl : (tl y).length ≤ 1 := by rw [hyl]; unfold sfxL; split <;> simp
        refine ⟨_, rfl, _, rfl, _, rfl, log_small (by omega), by show 2 ≤ sizeLine; decide, fun p hp => ?_⟩
        refine ⟨_, rfl, _, _, rfl, rfl, .inr ⟨_, rfl, p, _, _, _, rfl, rfl, SqL.of upd_same, hy, _, _, rfl, rfl, ?_, ?_⟩⟩
        · rw [tl_len, tl_len]; exact Nat.le_trans (show _ ≤ 70 by omega) (by decide)
        have hM' : Same H3 (upd H' p (HO.lst [V.str (Str.ofString ""), V.str (Str.ofString (toString (0 + (i : Int))))])) := hM.trans (same_new hp)
        have ein := inV_strs (x ++ y) us
        refine ⟨_, rfl, _, rfl, u, _, rfl, .inl (hM'.seq hU3), rfl, flat_strs us, _, rfl, ite2 (fun cc => ?_) (fun cc => ⟨_, _, rfl, hM', fun j hj => ?_⟩)⟩
        · refine ⟨_, rfl, q _ _ (by rw [tl_app]; exact hN.app hya) (by rw [tl_app, List.length_append]; omega) (fun m => ?_) (hE.trans (Ext.of hM')) ((hS'.ext hM').mono (by omega))⟩
          have cc' : (!inV (V.str (x ++ y)) (us.map V.str)) = true := cc
          rw [ein, decide_eq_true m] at cc'
          cases cc'
        · by_cases e : j < i
          · exact hall j e
          · have : j = i := by omega
            subst this
            have cc' : ¬ (!inV (V.str (x ++ y)) (us.map V.str)) = true := cc
            rw [ein] at cc'
            have m : x ++ y ∈ us := by simpa using cc'
            have := List.mem_map_of_mem (f := tl) m
            rw [tl_app, hyl] at this
            exact this
      · rintro σ H' ⟨v', t', rfl, hM, hall⟩
        rw [List.length_map] at hall
        have h1 := nodup_le (us := us.map tl) (tried_nodup (tl x) (m := us.length + 1) (by omega)) fun z hz => by
          obtain ⟨j, hj, rfl⟩ := List.mem_map.mp hz
          exact hall j (by have := List.mem_range.mp hj; omega)
        rw [List.length_map, List.length_map, List.length_range] at h1
        omega
end
section
variable {P : Program} {w : World} {K : PySem.W.Frag} {mg : Str → Option Value} {base : Heap}
theorem ok__law_names (D : Df K mg "_law_names" s__law_names ["source", "many"]) (T : Tx mg)  (C__law_new_name : Cal P w K mg base "_law_new_name" ["source", "used"] 3 (sp9__law_new_name K)) : Cal P w K mg base "_law_names" ["source", "many"] 4 (sp9__law_names K) := by
  obtain ⟨f__law_new_name, fd__law_new_name, G__law_new_name, g__law_new_name, k__law_new_name, b__law_new_name⟩ := C__law_new_name
  obtain ⟨f, fd, F, gf, bf⟩ := D
  refine ⟨f, fd, F.ok sc__law_names (fun vs H Q E h => ?_) (fun cdv A outer s₀ H vs Q E hr h => ?_), gf, F.kp, bf⟩
  · obtain ⟨s, a, m, c, rfl, _⟩ := h; rfl
  · obtain ⟨s, a, m, c, rfl, hm, hS, q⟩ := h
    refine ⟨_, (pss_cons (ps_set (i := 2) sc__law_names.nd rfl (Or.inl rfl) (pe_lst pa_nil))
      (pss_cons (ps_for PassesOwn.never rfl (pi_range1 (by rfl) T.n_range (pa_cons (pv 1) pa_nil)) (pg_name (i := 3) sc__law_names.nd rfl (Or.inl rfl))
      (pss_one (ps_expr (pe_bm PySem.F.plainAttrs_list PySem.F.slot_list_append PySem.F.type_list_append mt_append (pv 2) (pa_cons (pe_call G__law_new_name (hr.mono (by decide)) (by rfl) g__law_new_name k__law_new_name b__law_new_name .nil pass0 (pa_cons (pv 0) (pa_cons (pv 2) pa_nil))) pa_nil)))))
      (pss_one (ps_ret (pv 2))))), ?_⟩
    refine ⟨Nat.zero_le _, fun u hu => ?_⟩
    have us : u ≠ s := hS.ne hu
    have ua : u ≠ a := hS.nea hu
    refine ⟨_, rfl, _, rfl, by omega, by omega, ?_⟩
    refine for_range (lo := 0) (n := ((m : Int)).toNat) (fun i σ H' => ∃ (xs : List Str) (v : Option V), σ = [some (.ref s), some (.int m), some (.ref u), v] ∧ H' u = some (.lst (xs.map V.str)) ∧ xs.length = i ∧ Nms xs ∧ Ext s H H' ∧ Src H' s a (c + 8 * (m - i))) ?_ ?_ ?_
    · exact ⟨[], none, rfl, upd_same, rfl, ⟨List.nodup_nil, (fun _ h => by cases h)⟩, Ext.new hu, (hS.new hu).mono (by omega)⟩
    · rintro i σ H' hi ⟨xs, v, rfl, hx, hl, hA, hE, hS'⟩
      refine ⟨_, rfl, .inl ⟨rfl, _, SqL.of hx⟩, _, rfl, _, rfl, s, a, u, xs, c + 8 * (m - (i + 1)), rfl, SqL.of hx, us, by omega, by rw [show c + 8 * (m - (i + 1)) + 8 = c + 8 * (m - i) by omega]; exact hS', fun x H2 hN hl2 hnew hE2 hS2 => ?_⟩
      refine ⟨u, _, _, rfl, rfl, hE2 _ _ us hx, ?_, ?_⟩
      · rw [List.length_map]; exact small1000 (by omega)
      · refine ⟨xs ++ [x], _, rfl, by rw [upd_same, List.map_append]; rfl, by rw [List.length_append]; simp [hl], ⟨?_, fun y hy => ?_⟩, ?_, hS2.put us ua⟩
        · rw [List.nodup_append]
          exact ⟨hA.1, by simp, fun a ha b hb e => by rw [List.mem_singleton.mp hb] at e; exact hnew (e ▸ ha)⟩
        · rcases List.mem_append.mp hy with h | h
          · exact hA.2 y h
          · rw [List.mem_singleton.mp h]; exact ⟨hN, hl2⟩
        · intro b o hb hH
          rw [upd_ne (ne_of_none hH hu)]; exact hE2 _ _ hb (hE _ _ hb hH)
    · rintro σ H' ⟨xs, v, rfl, hx, hl, hA, hE, hS'⟩
      exact ⟨_, rfl, q u xs H' hu hx (by omega) hA hE (hS'.mono (by omega))⟩
end

end Z
namespace Z
open PySem L2 SX
section
variable {P : Program} {w : World} {K : PySem.W.Frag} {mg : Str → Option Value} {base : Heap}
theorem ok__law_board (D : Df K mg "_law_board" s__law_board ["source", "words"]) (T : Tx mg)  (C__law_draw : Cal P w K mg base "_law_draw" ["source", "many"] 2 sp__law_draw) (C__law_pick : Cal P w K mg base "_law_pick" ["source", "row"] 3 (sp3__law_pick K)) : Cal P w K mg base "_law_board" ["source", "words"] 4 (sp2__law_board K) := by
  obtain ⟨f__law_draw, fd__law_draw, G__law_draw, g__law_draw, k__law_draw, b__law_draw⟩ := C__law_draw
  obtain ⟨f__law_pick, fd__law_pick, G__law_pick, g__law_pick, k__law_pick, b__law_pick⟩ := C__law_pick
  obtain ⟨f, fd, F, gf, bf⟩ := D
  refine ⟨f, fd, F.ok sc__law_board (fun vs H Q E h => ?_) (fun cdv A outer s₀ H vs Q E hr h => ?_), gf, F.kp, bf⟩
  · obtain ⟨s, a, u, us, c, rfl, _⟩ := h; rfl
  · obtain ⟨s, a, u, us, c, rfl, hU, hus, hW, hS, q⟩ := h
    refine ⟨_, (pss_cons (ps_set (i := 2) sc__law_board.nd rfl (Or.inl rfl) (pe_op op_add pe_int (pe_call G__law_draw (hr.mono (by decide)) (by rfl) g__law_draw k__law_draw b__law_draw .nil pass0 (pa_cons (pv 0) (pa_cons pe_int pa_nil)))))
      (pss_one (ps_ret (pe_join pe_str (pe_lc (own := [("k", 3)]) (g := gName 3) (tt := tYes) rfl sc__law_board.nd (pi_range1 (by rfl) T.n_range (pa_cons (pv 2) pa_nil)) (blkOk_by (own := [("k", 3)]) (N := N__law_board) (sc := defScope s__law_board) (by decide +kernel)) (fun _ _ _ _ _ => pg_name (i := 3) sc__law_board.nd rfl (Or.inl rfl)) (fun _ _ _ _ _ => pts_nil) (fun _ _ _ _ _ => (pe_call G__law_pick (hr.mono (by decide)) (by rfl) g__law_pick k__law_pick b__law_pick .nil pass0 (pa_cons (pv 0) (pa_cons (pv 1) pa_nil))))))))), ?_⟩
    obtain ⟨un, ul, uA⟩ := hW
    refine ⟨_, rfl, s, a, _, c + 9, rfl, by decide, by decide, hS, fun v H1 v0 v1 x1 S1 => ?_⟩
    refine ⟨_, _, rfl, rfl, ?_⟩
    refine ⟨⟨_, rfl⟩, _, rfl, _, rfl, by omega, by omega, fun D hD => ?_⟩
    refine lc_strs (n := (1 + v).toNat) (d := 1) (c := c) (fun x => Nm (tl x) ∧ (tl x).length ≤ 8) hD (S1.mono (by omega)) (by omega) (fun _ => rfl) (fun i c' Hx R hi hE' hS' k => ?_) (fun xs H3 hx3 hl3 hA3 hE3 hS3 => ?_)
    · refine ⟨_, rfl, _, rfl, .inl ⟨s, a, u, us.map V.str, c', rfl, hE'.seqL hus (x1.seqL hus hU), hus, fun e => un (List.map_eq_nil_iff.mp e), by rw [List.length_map]; omega, hS', fun w H4 wm x4 S4 => ?_⟩⟩
      obtain ⟨z, zm, rfl⟩ := List.mem_map.mp wm
      exact k z H4 (uA z zm) x4 S4
    · have hs := sum_len (n := 8) (xs := xs) fun x m => (hA3 x m).2
      refine ⟨_, D, xs, rfl, rfl, .inl (SqL.of hx3), ?_, ?_⟩
      · show _ + xs.length * 1 ≤ _; omega
      refine q _ H3 ?_ ?_ ?_ (x1.trans hE3) hS3
      · rw [tl_joinS]
        intro ch hc
        rcases joinL_mem hc with e | ⟨l, m, e⟩
        · rw [List.mem_singleton.mp e]; exact .inr (.inr rfl)
        · obtain ⟨x, hx, rfl⟩ := List.mem_map.mp m
          exact (hA3 x hx).1.2.bdc ch e
      · rw [tl_joinS]
        refine joinL_ne (fun e => ?_) (fun l m => ?_)
        · have := List.map_eq_nil_iff.mp e
          rw [this] at hl3; simp at hl3; omega
        · obtain ⟨x, hx, rfl⟩ := List.mem_map.mp m
          exact (hA3 x hx).1.ne
      · rw [tl_joinS]
        refine Nat.le_trans (joinL_len (n := 8) fun l m => ?_) ?_
        · obtain ⟨x, hx, rfl⟩ := List.mem_map.mp m
          exact (hA3 x hx).2
        · rw [List.length_map]; show xs.length * (8 + 1) ≤ 30; omega
end
section
variable {P : Program} {w : World} {K : PySem.W.Frag} {mg : Str → Option Value} {base : Heap}
theorem ok__law_boards (D : Df K mg "_law_boards" s__law_boards ["source", "words", "most"]) (T : Tx mg)  (C__law_board : Cal P w K mg base "_law_board" ["source", "words"] 4 (sp2__law_board K)) (C__law_draw : Cal P w K mg base "_law_draw" ["source", "many"] 2 sp__law_draw) : Cal P w K mg base "_law_boards" ["source", "words", "most"] 5 (sp2__law_boards K) := by
  obtain ⟨f__law_board, fd__law_board, G__law_board, g__law_board, k__law_board, b__law_board⟩ := C__law_board
  obtain ⟨f__law_draw, fd__law_draw, G__law_draw, g__law_draw, k__law_draw, b__law_draw⟩ := C__law_draw
  obtain ⟨f, fd, F, gf, bf⟩ := D
  refine ⟨f, fd, F.ok sc__law_boards (fun vs H Q E h => ?_) (fun cdv A outer s₀ H vs Q E hr h => ?_), gf, F.kp, bf⟩
  · obtain ⟨s, a, u, us, m, c, rfl, _⟩ := h; rfl
  · obtain ⟨s, a, u, us, m, c, rfl, hU, hus, hW, m0, m1, hS, q⟩ := h
    refine ⟨_, (pss_cons (ps_set (i := 3) sc__law_boards.nd rfl (Or.inl rfl) (pe_lst pa_nil))
      (pss_cons (ps_for PassesOwn.never rfl (pi_range1 (by rfl) T.n_range (pa_cons (pe_op op_add pe_int (pe_call G__law_draw (hr.mono (by decide)) (by rfl) g__law_draw k__law_draw b__law_draw .nil pass0 (pa_cons (pv 0) (pa_cons (pv 2) pa_nil)))) pa_nil)) (pg_name (i := 4) sc__law_boards.nd rfl (Or.inl rfl))
      (pss_cons (ps_set (i := 5) sc__law_boards.nd rfl (Or.inl rfl) (pe_call G__law_board (hr.mono (by decide)) (by rfl) g__law_board k__law_board b__law_board .nil pass0 (pa_cons (pv 0) (pa_cons (pv 1) pa_nil))))
        (pss_one (ps_if (pt_cmpR op_notIn_seq (pv 5) (pv 3) (by rfl))
        (pss_one (ps_expr (pe_bm PySem.F.plainAttrs_list PySem.F.slot_list_append PySem.F.type_list_append mt_append (pv 3) (pa_cons (pv 5) pa_nil))))
        pss_nil))))
      (pss_one (ps_ret (pe_callTy call_tuple_of (by rfl) T.n_tuple (by decide +kernel) (pa_cons (pv 3) pa_nil)))))), ?_⟩
    refine ⟨Nat.zero_le _, fun L hL => ?_⟩
    have Ls := hS.ne hL
    have La := hS.nea hL
    refine ⟨_, rfl, _, rfl, s, a, m, c + 190, rfl, m0, by omega, (hS.new hL).mono (by omega), fun v H1 v0 v1 x1 S1 => ?_⟩
    refine ⟨_, _, rfl, rfl, _, rfl, by omega, by omega, ?_⟩
    refine for_range (lo := 0) (n := (1 + v).toNat) (fun i σ H' => ∃ (bs : List Str) (v4 v5 : Option V), σ = [some (.ref s), some (.ref u), some (.int m), some (.ref L), v4, v5] ∧ H' L = some (.lst (bs.map V.str)) ∧ bs.length ≤ i ∧ (∀ x ∈ bs, Bdc (tl x) ∧ (tl x).length ≤ 30) ∧ Ext s H H' ∧ Src H' s a (c + (190 - 15 * i))) ?_ ?_ ?_
    · exact ⟨[], _, _, rfl, x1 _ _ Ls upd_same, Nat.le_refl _, (fun _ h => by cases h), (Ext.new hL).trans x1, S1.mono (by omega)⟩
    · rintro i σ H' hi ⟨bs, v4, v5, rfl, hl, l1, hB, hE, hS'⟩
      refine ⟨_, rfl, _, rfl, s, a, u, us, c + (190 - 15 * i) - 10, rfl, hE.seqL hus hU, hus, hW, hS'.mono (by omega), fun x H2 xB xn xl x2 S2 => ?_⟩
      have hl2 := x2 _ _ Ls hl
      refine ⟨_, rfl, _, rfl, L, _, rfl, .inl (SqL.of hl2), rfl, flat_strs bs, _, rfl, ite2 (fun _ => ?_) (fun _ => ⟨bs, _, _, rfl, hl2, by omega, hB, hE.trans x2, S2.mono (by omega)⟩)⟩
      refine ⟨_, rfl, .inl ⟨rfl, _, SqL.of hl2⟩, _, rfl, L, _, _, rfl, rfl, hl2, ?_, ?_⟩
      · rw [List.length_map]; exact small1000 (by omega)
      · refine ⟨bs ++ [x], _, _, rfl, by rw [upd_same, List.map_append]; rfl, by rw [List.length_append]; show _ + 1 ≤ _; omega, fun y hy => ?_, fun b o hb hh => ?_, (S2.put Ls La).mono (by omega)⟩
        · rcases List.mem_append.mp hy with h | h
          · exact hB y h
          · rw [List.mem_singleton.mp h]; exact ⟨xB, xl⟩
        · rw [upd_ne (ne_of_none hh hL)]; exact x2 _ _ hb (hE _ _ hb hh)
    · rintro σ H' ⟨bs, v4, v5, rfl, hl, l1, hB, hE, hS'⟩
      refine ⟨_, rfl, L, _, rfl, .inl ⟨SqL.of hl, fun t ht => ?_⟩⟩
      exact q t bs _ upd_same (by omega) hB (hE.trans (Ext.new ht)) ((hS'.new ht).mono (by omega))
end

end Z
namespace Z
open PySem L2 SX
section
variable {P : Program} {w : World} {K : PySem.W.Frag} {mg : Str → Option Value} {base : Heap}
theorem ok_words_of (D : Df K mg "words_of" s_words_of ["row"]) (T : Tx mg)  : Cal P w K mg base "words_of" ["row"] 1 sp_words_of := by
  obtain ⟨t_DIGITS, h_DIGITS⟩ := T.c_DIGITS
  obtain ⟨t_LETTERS, h_LETTERS⟩ := T.c_LETTERS
  obtain ⟨f, fd, F, gf, bf⟩ := D
  refine ⟨f, fd, F.ok sc_words_of (fun vs H Q E h => ?_) (fun cdv A outer s H vs Q E hr h => ?_), gf, F.kp, bf⟩
  · obtain ⟨x, rfl, _⟩ := h; rfl
  · obtain ⟨x, rfl, hA, hl, q⟩ := h
    refine ⟨_, (pss_cons (ps_set (i := 1) sc_words_of.nd rfl (Or.inl rfl) (pe_lst pa_nil))
      (pss_cons (ps_set (i := 2) sc_words_of.nd rfl (Or.inl rfl) pe_str)
      (pss_cons (ps_for PassesOwn.never rfl (pi_str (pe_op op_add_str (pe_lower (pv 0)) pe_str)) (pg_name (i := 3) sc_words_of.nd rfl (Or.inl rfl))
      (pss_one (ps_if (PW.pt (pw_or (pt_cmpR op_in_sign (pv 3) (pe_glob (v := .str "abcdefghijklmnopqrstuvwxyz") (by rfl) h_LETTERS ⟨_, rfl⟩) (by rfl)) (pw_or1 (pt_cmpR op_in_sign (pv 3) (pe_glob (v := .str "0123456789") (by rfl) h_DIGITS ⟨_, rfl⟩) (by rfl)))))
        (pss_one (ps_set (i := 2) sc_words_of.nd rfl (Or.inl rfl) (pe_op op_add_str (pv 2) (pv 3))))
        (pss_one (ps_if (pt_cmpR op_ne (pv 2) pe_str (nomark _))
          (pss_cons (ps_expr (pe_bm PySem.F.plainAttrs_list PySem.F.slot_list_append PySem.F.type_list_append mt_append (pv 1) (pa_cons (pv 2) pa_nil)))
            (pss_one (ps_set (i := 2) sc_words_of.nd rfl (Or.inl rfl) pe_str)))
          pss_nil)))))
      (pss_one (ps_ret (pe_callTy call_tuple_of (by rfl) T.n_tuple (by decide +kernel) (pa_cons (pv 1) pa_nil))))))), ?_⟩
    have hlow : tl (Txt.lower x) = (tl x).map PyProof.Rows.lo1 := congrArg tl (lower_S (a := tl x) hA.all128)
    have hlo : tl (Txt.lower x ++ Str.ofString " ") = (tl x).map PyProof.Rows.lo1 ++ [32] := by rw [tl_app, hlow]; rfl
    have hlx : x.length ≤ 1000 := by rw [tl_len]; exact hl
    refine ⟨Nat.zero_le _, fun L hL => ?_⟩
    refine ⟨_, rfl, ⟨_, rfl⟩, x, rfl, rfl, Nat.le_trans hlx (by decide), _, _, rfl, rfl, ?_, _, rfl, ?_⟩
    · rw [tl_len, tl_len, hlow, List.length_map]; exact Nat.le_trans (show (tl x).length + 1 ≤ 1001 by omega) (by decide)
    have hn : (tl (Txt.lower x ++ Str.ofString " ")).length ≤ 1001 := by rw [hlo, List.length_append, List.length_map]; simp; omega
    refine for_str (l := tl (Txt.lower x ++ Str.ofString " ")) (fun i σ H' => ∃ (ws : List Str) (wd : Str) (v : Option V), σ = [some (.str x), some (.ref L), some (.str wd), v] ∧ Same H H' ∧ H' L = some (.lst (ws.map V.str)) ∧
      (ws.map tl, tl wd) = ((tl (Txt.lower x ++ Str.ofString " ")).take i).foldl wst ([], []) ∧ ws.length ≤ i ∧ (tl wd).length ≤ i ∧ i ≤ 1001) ?_ ?_ ?_
    · exact ⟨[], Str.ofString "", none, rfl, same_new hL, upd_same, rfl, Nat.le_refl _, Nat.le_refl _, Nat.zero_le _⟩
    · rintro i ch σ H' hi ⟨ws, wd, v, rfl, hS, hW, hf, l1, l2, l3⟩
      have hi1 : i < 1001 := Nat.lt_of_lt_of_le (List.getElem?_eq_some_iff.mp hi).1 hn
      have hstep := fold_take (f := wst) (a := (([] : List (List Nat)), ([] : List Nat))) hi
      rw [← hf] at hstep
      refine ⟨_, rfl, ch, _, rfl, rfl, _, rfl, ?_⟩
      rw [in_abc]
      have push : wlow ch = true → (ws.map tl, tl (wd ++ S [ch])) = ((tl (Txt.lower x ++ Str.ofString " ")).take (i + 1)).foldl wst ([], []) := fun e => by
        rw [hstep]; unfold wst; rw [if_pos e, tl_app]
      have room : wd.length + (S [ch]).length ≤ sizeLine := by rw [tl_len]; exact Nat.le_trans (show (tl wd).length + 1 ≤ 1002 by omega) (by decide)
      refine ite2 (fun c1 => ?_) (fun c1 => ?_)
      · refine iteT ⟨_, rfl, _, rfl, _, _, rfl, rfl, room, ?_⟩
        exact ⟨ws, _, _, rfl, hS, hW, push (by unfold wlow; rw [c1]; rfl), by omega, by rw [tl_app, List.length_append]; show _ + 1 ≤ _; omega, by omega⟩
      · refine ⟨_, rfl, ch, _, rfl, rfl, _, rfl, ?_⟩
        rw [in_012]
        refine ite2 (fun c2 => ?_) (fun c2 => ?_)
        · refine ⟨_, rfl, _, rfl, _, _, rfl, rfl, room, ?_⟩
          exact ⟨ws, _, _, rfl, hS, hW, push (by unfold wlow; rw [c2]; exact Bool.or_true _), by omega, by rw [tl_app, List.length_append]; show _ + 1 ≤ _; omega, by omega⟩
        · have hw : ¬ wlow ch = true := by unfold wlow; rw [Bool.or_eq_true]; exact fun h => h.elim c1 c2
          have hst : ((tl (Txt.lower x ++ Str.ofString " ")).take (i + 1)).foldl wst ([], []) = (if tl wd ≠ [] then (ws.map tl ++ [tl wd], []) else (ws.map tl, tl wd)) := by
            rw [hstep]; unfold wst; rw [if_neg hw]
          refine ⟨_, rfl, rfl, _, rfl, ?_⟩
          by_cases e : wd = Str.ofString ""
          · subst e
            refine iteNS rfl ⟨ws, _, _, rfl, hS, hW, ?_, by omega, by omega, by omega⟩
            rw [hst]; rfl
          · have e2 : tl wd ≠ [] := fun h => e (tl_ext h)
            have : decide (V.str wd = V.str (Str.ofString "")) = false := decide_eq_false fun h => e (V.str.inj h)
            rw [this]
            refine iteT ⟨_, rfl, .inl ⟨rfl, _, SqL.of hW⟩, _, rfl, L, _, _, rfl, rfl, hW, ?_, ?_⟩
            · rw [List.length_map]; exact Nat.lt_of_le_of_lt (show ws.length ≤ 1001 by omega) (by decide)
            · refine ⟨ws ++ [wd], _, _, rfl, ?_, by rw [upd_same, List.map_append]; rfl, ?_, by rw [List.length_append]; show _ + 1 ≤ _; omega, Nat.zero_le _, by omega⟩
              · intro b o hb
                rw [upd_ne (ne_of_none hb hL)]; exact hS _ _ hb
              · rw [hst, if_pos e2, List.map_append]; rfl
    · rintro σ H' ⟨ws, wd, v, rfl, hS, hW, hf, l1, l2, l3⟩
      rw [fold_all] at hf
      refine ⟨_, rfl, L, _, rfl, .inl ⟨SqL.of hW, fun p hp => ?_⟩⟩
      refine q p _ (Same.free hS hp) (hS.trans (same_new hp)) ?_
      rw [upd_same]
      have : words (tl x) = ws.map tl := by unfold words; rw [← hlo, ← hf]
      rw [this, List.map_map]; rfl
end
end Z
namespace Z
open PySem L2 SX
theorem cutV_mid {xs : List V} {i j : Int} (h : 0 ≤ i) (h2 : 0 ≤ j) : cutV xs (some i) (some j) = (xs.take j.toNat).drop i.toNat := by
  unfold cutV
  rw [sIx_pos h, sIx_pos h2]
  rw [List.drop_take]
  by_cases c : i.toNat ≤ xs.length
  · rw [Nat.min_eq_left c]
    by_cases d : j.toNat ≤ xs.length
    · rw [Nat.min_eq_left d]
    · rw [Nat.min_eq_right (by omega), List.take_of_length_le (by rw [List.length_drop]; exact Nat.le_refl _), List.take_of_length_le (by rw [List.length_drop]; omega)]
  · rw [Nat.min_eq_right (a := i.toNat) (by omega), List.drop_of_length_le (Nat.le_refl _), List.drop_of_length_le (l := xs) (i := i.toNat) (by omega)]
    simp
theorem in2 (p a b : Str) : inV (V.str p) [V.str a, V.str b] = decide (p = a ∨ p = b) := by
  have : [V.str a, V.str b] = [a, b].map V.str := rfl
  rw [this, inV_strs]
  simp
theorem par64 : ∀ (l acc r : List Nat), 64 ∉ l → TL.par [64] acc (l ++ 64 :: r) = some (acc ++ l, r)
  | [], acc, r, _ => by
    show TL.par [64] acc (64 :: r) = _
    unfold TL.par
    simp [TL.pre]
  | x :: l, acc, r, h => by
    have hx : x ≠ 64 := fun e => h (by simp [e])
    show TL.par [64] acc (x :: (l ++ 64 :: r)) = _
    unfold TL.par
    rw [if_neg (by simp [TL.pre]; exact fun e => hx e)]
    rw [par64 l (acc ++ [x]) r (fun m => h (List.mem_cons_of_mem _ m))]
    simp
def sp70_saddr (K : PySem.W.Frag) : Sp := fun vs H Q _ => ∃ (n : Nt), vs = [.str n.au] ∧ n.ok ∧ ∀ (v : V) (H' : Hp), Same H H' → (∃ t, v = .ref t ∧ SqT K H' t [.str n.pe, .str n.pl]) → Q v H'
theorem tl_au (n : Nt) : tl n.au = tl n.pe ++ 64 :: tl n.pl := by
  unfold Nt.au
  rw [tl_app, tl_app]
  show (tl n.pe ++ [64]) ++ tl n.pl = _
  rw [List.append_assoc]; rfl
theorem au_len {n : Nt} (h : n.ok) : n.au.length ≤ 141 := by
  rw [tl_len, tl_au, List.length_append, List.length_cons]
  have := h.2.2.1
  have := h.2.2.2.1
  omega
theorem part_au {n : Nt} (h : n.ok) : Txt.partition n.au (Str.ofString "@") = (n.pe, Str.ofString "@", n.pl) := by
  have e := partition_some (a := tl n.au) (b := [64]) (by decide) (by rw [tl_au]; exact par64 (tl n.pe) [] (tl n.pl) h.1)
  rw [S_tl, List.nil_append, S_tl, S_tl] at e
  exact e
section
variable {P : Program} {w : World} {K : PySem.W.Frag} {mg : Str → Option Value} {base : Heap}
theorem ok_split_address (D : Df K mg "split_address" s_split_address ["address"]) (T : Tx mg)   : Cal P w K mg base "split_address" ["address"] 1 (sp70_saddr K) := by
  obtain ⟨f, fd, F, gf, bf⟩ := D
  refine ⟨f, fd, F.ok sc_split_address (fun vs H Q E h => ?_) (fun cdv A outer s₀ H vs Q E hr h => ?_), gf, F.kp, bf⟩
  · obtain ⟨n, rfl, _⟩ := h; rfl
  · obtain ⟨n, rfl, ok, q⟩ := h
    refine ⟨_, (pss_cons (ps_asg (pe_partition (pv 0) pe_str) (pg_tup rfl (pgs_cons (pg_name (i := 1) sc_split_address.nd rfl (Or.inl rfl)) (pgs_cons (pg_name (i := 2) sc_split_address.nd rfl (Or.inl rfl)) (pgs_cons (pg_name (i := 3) sc_split_address.nd rfl (Or.inl rfl)) pgs_nil)))))
      (pss_one (ps_ret (pe_tup (pa_cons (pv 1) (pa_cons (pv 3) pa_nil)))))), ?_⟩
    have small : ∀ n : Nat, n ≤ 30000 → n ≤ sizeLine := fun n h => Nat.le_trans h (by decide)
    refine ⟨_, rfl, ⟨_, rfl⟩, n.au, Str.ofString "@", rfl, rfl, rfl, small _ (by have := au_len ok; omega), fun t ht => ?_⟩
    rw [part_au ok]
    refine ⟨t, _, rfl, SqT.of upd_same, rfl, _, _, rfl, _, _, rfl, _, _, rfl, rfl, ?_⟩
    refine ⟨_, rfl, _, rfl, by show 2 ≤ sizeLine; decide, fun B hB => ?_⟩
    exact q _ _ ((same_new ht).trans (same_new hB)) ⟨B, rfl, SqT.of upd_same⟩
end
section
variable {P : Program} {w : World} {K : PySem.W.Frag} {mg : Str → Option Value} {base : Heap}
theorem ok_is_from (D : Df K mg "is_from" s_is_from ["person", "place", "author"]) (T : Tx mg)  (C_split_address : Cal P w K mg base "split_address" ["address"] 1 (sp70_saddr K)) : Cal P w K mg base "is_from" ["person", "place", "author"] 2 (sp70_from K) := by
  obtain ⟨f_split_address, fd_split_address, G_split_address, g_split_address, k_split_address, b_split_address⟩ := C_split_address
  obtain ⟨f, fd, F, gf, bf⟩ := D
  refine ⟨f, fd, F.ok sc_is_from (fun vs H Q E h => ?_) (fun cdv A outer s₀ H vs Q E hr h => ?_), gf, F.kp, bf⟩
  · obtain ⟨p, s, n, rfl, _⟩ := h; rfl
  · obtain ⟨p, s, n, rfl, ok, q⟩ := h
    refine ⟨_, (pss_cons (ps_asg (pe_call G_split_address (hr.mono (by decide)) (by rfl) g_split_address k_split_address b_split_address .nil pass0 (pa_cons (pv 2) pa_nil)) (pg_tup rfl (pgs_cons (pg_name (i := 3) sc_is_from.nd rfl (Or.inl rfl)) (pgs_cons (pg_name (i := 4) sc_is_from.nd rfl (Or.inl rfl)) pgs_nil))))
      (pss_one (ps_ret (pe_and (pe_cmpR op_in_seq (pv 0) (pe_tup (pa_cons pe_str (pa_cons (pv 3) pa_nil))) (by rfl)) (pe_one (pe_cmpR op_in_seq (pv 1) (pe_tup (pa_cons pe_str (pa_cons (pv 4) pa_nil))) (by rfl))))))), ?_⟩
    refine ⟨_, rfl, n, rfl, ok, fun v H1 m1 hv => ?_⟩
    obtain ⟨t, rfl, ht⟩ := hv
    refine ⟨t, _, rfl, ht, rfl, _, _, rfl, _, _, rfl, rfl, ?_⟩
    refine ⟨_, rfl, _, rfl, by show 2 ≤ sizeLine; decide, fun a ha => ⟨a, _, rfl, .inr (SqT.of upd_same), rfl, rfl, _, rfl, ?_⟩⟩
    have m2 := m1.trans (same_new (o := HO.tup [V.str (Str.ofString "*"), V.str n.pe]) ha)
    refine ite2 (fun c1 => ?_) (fun c1 => q false _ m2 ⟨(fun h => by cases h), fun h => absurd ?_ c1⟩)
    · have c1' : p = star ∨ p = n.pe := by
        have : inV (V.str p) [V.str star, V.str n.pe] = true := c1
        rw [in2] at this
        exact of_decide_eq_true this
      refine ⟨_, rfl, _, rfl, by show 2 ≤ sizeLine; decide, fun b hb => ⟨b, _, rfl, .inr (SqT.of upd_same), rfl, rfl, ?_⟩⟩
      have m3 := m2.trans (same_new (o := HO.tup [V.str (Str.ofString "*"), V.str n.pl]) hb)
      refine q _ _ m3 ?_
      show inV (V.str s) [V.str star, V.str n.pl] = true ↔ _
      rw [in2, decide_eq_true_iff]
      exact ⟨fun h => ⟨c1', h⟩, fun h => h.2⟩
    · show inV (V.str p) [V.str star, V.str n.pe] = true
      rw [in2] <;> exact decide_eq_true h.1
end
def nearI (row : List (List Nat)) (a b : List Nat) (k i : Nat) : Prop := ∃ x y, x < i ∧ y < i ∧ row[x]? = some a ∧ row[y]? = some b ∧ x ≠ y ∧ x ≤ y + k ∧ y ≤ x + k
theorem nearI_all {row : List (List Nat)} {a b : List Nat} {k : Nat} : nearI row a b k row.length ↔ nearR row a b k :=
  ⟨fun ⟨x, y, _, _, h⟩ => ⟨x, y, h⟩, fun ⟨x, y, h1, h2, h⟩ => ⟨x, y, (List.getElem?_eq_some_iff.mp h1).1, (List.getElem?_eq_some_iff.mp h2).1, h1, h2, h⟩⟩
theorem mem_cut {row : List (List Nat)} {b : List Nat} {i m : Nat} : b ∈ (row.take i).drop m ↔ ∃ y, m ≤ y ∧ y < i ∧ row[y]? = some b := by
  rw [List.mem_iff_getElem?]
  constructor
  · rintro ⟨j, hj⟩
    rw [List.getElem?_drop, List.getElem?_take] at hj
    split at hj
    · exact ⟨m + j, by omega, by assumption, hj⟩
    · cases hj
  · rintro ⟨y, h1, h2, h3⟩
    refine ⟨y - m, ?_⟩
    rw [List.getElem?_drop, show m + (y - m) = y by omega, List.getElem?_take, if_pos h2]
    exact h3
theorem near_step {row : List (List Nat)} {a b w : List Nat} {k i : Nat} (hw : row[i]? = some w) : nearI row a b k (i + 1) ↔ nearI row a b k i ∨ (w = a ∧ b ∈ (row.take i).drop (i - k)) ∨ (w = b ∧ a ∈ (row.take i).drop (i - k)) := by
  rw [mem_cut, mem_cut]
  constructor
  · rintro ⟨x, y, hx, hy, h1, h2, ne, k1, k2⟩
    by_cases ex : x = i
    · subst ex
      rw [hw] at h1
      exact .inr (.inl ⟨Option.some.inj h1, y, by omega, by omega, h2⟩)
    · by_cases ey : y = i
      · subst ey
        rw [hw] at h2
        exact .inr (.inr ⟨Option.some.inj h2, x, by omega, by omega, h1⟩)
      · exact .inl ⟨x, y, by omega, by omega, h1, h2, ne, k1, k2⟩
  · rintro (⟨x, y, hx, hy, h⟩ | ⟨e, y, h1, h2, h3⟩ | ⟨e, y, h1, h2, h3⟩)
    · exact ⟨x, y, by omega, by omega, h⟩
    · exact ⟨i, y, by omega, by omega, by rw [hw, e], h3, by omega, by omega, by omega⟩
    · exact ⟨y, i, by omega, by omega, h3, by rw [hw, e], by omega, by omega, by omega⟩
theorem inV_S (x : Str) (l : List (List Nat)) : inV (V.str x) ((l.map S).map V.str) = decide (tl x ∈ l) := by
  rw [inV_strs, decide_eq_decide]
  constructor
  · intro h
    obtain ⟨y, hy, e⟩ := List.mem_map.mp h
    rw [← e, tl_S]; exact hy
  · intro h
    exact List.mem_map.mpr ⟨tl x, h, tl_ext (tl_S _)⟩
theorem eqS {l : List Nat} {x : Str} : (V.str (S l) = V.str x) ↔ l = tl x :=
  ⟨fun h => by rw [← V.str.inj h, tl_S], fun h => by subst h; exact congrArg V.str (tl_ext (tl_S _))⟩
section
variable {P : Program} {w : World} {K : PySem.W.Frag} {mg : Str → Option Value} {base : Heap}
theorem ok_is_near (D : Df K mg "is_near" s_is_near ["words", "name", "other", "most"]) (T : Tx mg)   : Cal P w K mg base "is_near" ["words", "name", "other", "most"] 1 (sp70_near K) := by
  obtain ⟨f, fd, F, gf, bf⟩ := D
  refine ⟨f, fd, F.ok sc_is_near (fun vs H Q E h => ?_) (fun cdv A outer s₀ H vs Q E hr h => ?_), gf, F.kp, bf⟩
  · obtain ⟨t, row, a, b, k, rfl, _⟩ := h; rfl
  · obtain ⟨t, row, a, b, k, rfl, ht, rl, kl, q⟩ := h
    refine ⟨_, (pss_cons (ps_for PassesOwn.never rfl (pi_enumT (by rfl) T.n_enumerate (pa_cons (pv 0) pa_nil)) (pg_tup rfl (pgs_cons (pg_name (i := 4) sc_is_near.nd rfl (Or.inl rfl)) (pgs_cons (pg_name (i := 5) sc_is_near.nd rfl (Or.inl rfl)) pgs_nil)))
      (pss_cons (ps_set (i := 6) sc_is_near.nd rfl (Or.inl rfl) (pe_slice (sl_tupS (K := K) rfl) (pv 0) (po_some (pe_callB (call_max2 rfl) (by rfl) T.n_max (by decide +kernel) (pa_cons (pe_op op_sub (pv 4) (pv 3)) (pa_cons pe_int pa_nil)))) (po_some (pv 4))))
        (pss_one (ps_if (PW.pt (pw_or (PW.pt (pw_and (pt_cmpR op_eq (pv 5) (pv 1) (nomark _)) (pw_and1 (pt_cmpR op_in_seq (pv 2) (pv 6) (by rfl))))) (pw_or1 (PW.pt (pw_and (pt_cmpR op_eq (pv 5) (pv 2) (nomark _)) (pw_and1 (pt_cmpR op_in_seq (pv 1) (pv 6) (by rfl))))))))
        (pss_one (ps_ret pe_bl))
        pss_nil))))
      (pss_one (ps_ret pe_bl))), ?_⟩
    have ll : ((row.map S).map V.str).length = row.length := by rw [List.length_map, List.length_map]
    refine ⟨_, rfl, t, _, rfl, ht, ?_⟩
    refine for_enumT (K := K) (a := t) (xs := (row.map S).map V.str) (fun i σ H' => (∃ v4 v5 v6 : Option V, σ = [some (.ref t), some (.str a), some (.str b), some (.int (k : Nat)), v4, v5, v6]) ∧ Same H H' ∧ ¬ nearI row (tl a) (tl b) k i) ⟨⟨_, _, _, rfl⟩, Same.refl _, fun ⟨x, _, h, _⟩ => by omega⟩ (fun i σ H' h => h.2.1.tup ht) ?_ ?_
    · rintro i x T σ H1 hi ⟨⟨v4, v5, v6, rfl⟩, m1, nn⟩ hT
      obtain ⟨x', hx', rfl⟩ := map_get hi
      rw [List.getElem?_map] at hx'
      obtain ⟨w, hw, rfl⟩ := Option.map_eq_some_iff.mp hx'
      have il := (List.getElem?_eq_some_iff.mp hw).1
      have st := near_step (a := tl a) (b := tl b) (k := k) hw
      have m2 := m1.trans (same_new (o := HO.tup [V.int (i : Nat), V.str (S w)]) hT)
      have ht2 := m2.tup ht
      refine ⟨T, _, rfl, SqT.of upd_same, rfl, _, _, rfl, _, _, rfl, rfl, ?_⟩
      generalize upd H1 T (HO.tup [V.int (i : Nat), V.str (S w)]) = H2 at m2 ht2
      have em : (if (0 : Int) > ((i : Nat) : Int) - ((k : Nat) : Int) then (0 : Int) else ((i : Nat) : Int) - ((k : Nat) : Int)) = ((i - k : Nat) : Int) := by split <;> omega
      refine ⟨_, rfl, _, rfl, _, rfl, _, _, rfl, rfl, _, _, rfl, ((i - k : Nat) : Int), congrArg V.int em, _, rfl, _, rfl, t, _, rfl, ht2, fun p H3 m3 hp => ?_⟩
      rw [cutV_mid (by omega) (by omega), Int.toNat_natCast, Int.toNat_natCast, ← List.map_take, ← List.map_take, ← List.map_drop, ← List.map_drop] at hp
      have m4 := m2.trans m3
      generalize hA : (row.take i).drop (i - k) = ah at hp st
      have yes : nearI row (tl a) (tl b) k (i + 1) → Q (.bl true) H3 := fun h => q true _ m4 ⟨fun _ => by
        obtain ⟨x, y, _, _, h⟩ := h
        exact ⟨x, y, h⟩, fun _ => rfl⟩
      have no : ¬ nearI row (tl a) (tl b) k (i + 1) → (∃ v4 v5 v6 : Option V, [some (V.ref t), some (V.str a), some (V.str b), some (V.int (k : Nat)), some (V.int (i : Nat)), some (V.str (S w)), some (V.ref p)] = [some (.ref t), some (.str a), some (.str b), some (.int (k : Nat)), v4, v5, v6]) ∧ Same H H3 ∧ ¬ nearI row (tl a) (tl b) k (i + 1) := fun h => ⟨⟨_, _, _, rfl⟩, m4, h⟩
      refine ⟨_, rfl, _, rfl, rfl, _, rfl, ite2 (fun c1 => ?_) (fun c1 => iteF ?_)⟩
      · have e1 := eqS.mp (of_decide_eq_true c1)
        refine ⟨_, rfl, _, rfl, p, _, rfl, .inr hp, rfl, flat_strs _, _, rfl, ite2 (fun c2 => ?_) (fun c2 => ?_)⟩
        · have c2' : tl b ∈ ah := by
            have : inV (V.str b) ((ah.map S).map V.str) = true := c2
            rw [inV_S] at this
            exact of_decide_eq_true this
          exact iteT (yes (st.mpr (.inr (.inl ⟨e1, c2'⟩))))
        · have n2 : ¬ tl b ∈ ah := fun h => c2 (by
            show inV (V.str b) ((ah.map S).map V.str) = true
            rw [inV_S]; exact decide_eq_true h)
          refine ⟨_, rfl, _, rfl, rfl, _, rfl, ite2 (fun c3 => ?_) (fun c3 => iteF (no ?_))⟩
          · have e3 := eqS.mp (of_decide_eq_true c3)
            refine ⟨_, rfl, _, rfl, p, _, rfl, .inr hp, rfl, flat_strs _, _, rfl, ite2 (fun c4 => ?_) (fun c4 => no ?_)⟩
            · have c4' : tl a ∈ ah := by
                have : inV (V.str a) ((ah.map S).map V.str) = true := c4
                rw [inV_S] at this
                exact of_decide_eq_true this
              exact yes (st.mpr (.inr (.inr ⟨e3, c4'⟩)))
            · rintro h
              rcases st.mp h with h | h | h
              · exact nn h
              · exact n2 h.2
              · exact c4 (by
                  show inV (V.str a) ((ah.map S).map V.str) = true
                  rw [inV_S]; exact decide_eq_true h.2)
          · rintro h
            rcases st.mp h with h | h | h
            · exact nn h
            · exact n2 h.2
            · exact c3 (decide_eq_true (eqS.mpr h.1))
      · have n1 : ¬ w = tl a := fun h => c1 (decide_eq_true (eqS.mpr h))
        refine ⟨_, rfl, _, rfl, rfl, _, rfl, ite2 (fun c3 => ?_) (fun c3 => iteF (no ?_))⟩
        · have e3 := eqS.mp (of_decide_eq_true c3)
          refine ⟨_, rfl, _, rfl, p, _, rfl, .inr hp, rfl, flat_strs _, _, rfl, ite2 (fun c4 => ?_) (fun c4 => no ?_)⟩
          · have c4' : tl a ∈ ah := by
              have : inV (V.str a) ((ah.map S).map V.str) = true := c4
              rw [inV_S] at this
              exact of_decide_eq_true this
            exact yes (st.mpr (.inr (.inr ⟨e3, c4'⟩)))
          · rintro h
            rcases st.mp h with h | h | h
            · exact nn h
            · exact n1 h.1
            · exact c4 (by
                show inV (V.str a) ((ah.map S).map V.str) = true
                rw [inV_S]; exact decide_eq_true h.2)
        · rintro h
          rcases st.mp h with h | h | h
          · exact nn h
          · exact n1 h.1
          · exact c3 (decide_eq_true (eqS.mpr h.1))
    rintro σ H1 ⟨⟨v4, v5, v6, rfl⟩, m1, nn⟩
    rw [ll, nearI_all] at nn
    exact q false _ m1 ⟨(fun h => by cases h), fun h => absurd h nn⟩
end

end Z
namespace Z
open PySem L2 SX
theorem ne_td : ¬ Str.ofString "data" = Str.ofString "text" := by decide +kernel
theorem ne_tp : ¬ Str.ofString "parts" = Str.ofString "text" := by decide +kernel
theorem ne_dp : ¬ Str.ofString "data" = Str.ofString "parts" := by decide +kernel
theorem txs_step {ps : List Pt} {i : Nat} {p : Pt} (h : ps[i]? = some p) : (ps.take (i + 1)).flatMap txP = (ps.take i).flatMap txP ++ txP p := by
  rw [List.take_add_one, h, List.flatMap_append]
  simp
theorem DVs.app {K : PySem.W.Frag} {H : Hp} : ∀ {ds es : List D} {us ws : List V}, DVs K H ds us → DVs K H es ws → DVs K H (ds ++ es) (us ++ ws)
  | [], _, _, _, h, k => by unfold DVs at h; subst h; exact k
  | d :: ds, _, _, _, h, k => by
    obtain ⟨v, r, rfl, e, t⟩ := h
    exact ⟨v, _, rfl, e, DVs.app t k⟩
theorem ten3 {n : Nat} (h : n ≤ 4) : 4 ^ n ≤ 1000 := Nat.le_trans (Nat.pow_le_pow_right (by decide) h) (by decide)
section
variable {P : Program} {w : World} {K : PySem.W.Frag} {mg : Str → Option Value} {base : Heap}
theorem ok_texts_in_step (D : Df K mg "texts_in" s_texts_in ["part"]) (T : Tx mg)  {n : Nat} (C_texts_in : Cal P w K mg base "texts_in" ["part"] (n + 1) (sp70_texts K n)) : Cal P w K mg base "texts_in" ["part"] (n + 2) (sp70_texts K (n + 1)) := by
  obtain ⟨f_texts_in, fd_texts_in, G_texts_in, g_texts_in, k_texts_in, b_texts_in⟩ := C_texts_in
  obtain ⟨f, fd, F, gf, bf⟩ := D
  refine ⟨f, fd, F.ok sc_texts_in (fun vs H Q E h => ?_) (fun cdv A outer s₀ H vs Q E hr h => ?_), gf, F.kp, bf⟩
  · obtain ⟨p, v, rfl, _⟩ := h; rfl
  · obtain ⟨p, v, rfl, dv, ok, hn, q⟩ := h
    refine ⟨_, (pss_cons (ps_if (pt_cmpR op_eq (pe_ix ix_tup (pv 0) pe_int (fun _ _ => rfl)) pe_str (nomark _))
      (pss_one (ps_ret (pe_lst (pa_cons (pv 0) pa_nil))))
      pss_nil)
      (pss_cons (ps_set (i := 1) sc_texts_in.nd rfl (Or.inl rfl) (pe_lst pa_nil))
      (C8.pss_cut (ps_if (pt_cmpR op_eq (pe_ix ix_tup (pv 0) pe_int (fun _ _ => rfl)) pe_str (nomark _))
      (pss_one (ps_for PassesOwn.never rfl (pi_tup (pe_ix ix_tup (pv 0) pe_int (fun _ _ => rfl))) (pg_name (i := 2) sc_texts_in.nd rfl (Or.inl rfl))
        (pss_one (ps_expr (pe_bm PySem.F.plainAttrs_list PySem.F.slot_list_extend PySem.F.type_list_extend mt_extend (pv 1) (pa_cons (pe_call G_texts_in hr (by rfl) g_texts_in k_texts_in b_texts_in .nil pass0 (pa_cons (pv 2) pa_nil)) pa_nil))))))
      pss_nil)
      (pss_one (ps_ret (pv 1)))))), ?_⟩
    cases p with
    | text co rows =>
      obtain ⟨a, b, rfl, hA, hB⟩ := pt_text dv
      refine ⟨_, rfl, a, _, _, _, rfl, rfl, hA, rfl, rfl, _, rfl, ite2 (fun _ => ?_) (fun cc => absurd (decide_eq_true rfl) cc)⟩
      refine ⟨_, rfl, by show 1 ≤ sizeLine; decide, fun l hl => q l _ _ hl (same_new hl) upd_same ?_⟩
      unfold txP
      refine dlc ?_ dln
      have := dv.tk (TK.same (same_new (o := HO.lst [V.ref a]) hl))
      unfold ptD at this
      exact this
    | data co bs =>
      obtain ⟨a, b, rfl, hA⟩ := pt_data dv
      refine ⟨_, rfl, a, _, _, _, rfl, rfl, hA, rfl, rfl, _, rfl, ite2 (fun cc => absurd (V.str.inj (of_decide_eq_true cc)) ne_td) (fun _ => ?_)⟩
      refine ⟨Nat.zero_le _, fun R hR => ?_⟩
      have n1 := same_new (o := HO.lst []) hR
      refine ⟨fun σ H' => σ = [some (.ref a), some (.ref R), none] ∧ H' = upd H R (.lst []), ?_, ?_⟩
      · exact ⟨_, rfl, a, _, _, _, rfl, rfl, n1.tup hA, rfl, rfl, _, rfl, ite2 (fun cc => absurd (V.str.inj (of_decide_eq_true cc)) ne_dp) (fun _ => ⟨rfl, rfl⟩)⟩
      rintro σ H' ⟨rfl, rfl⟩
      refine ⟨_, rfl, q R [] _ hR n1 upd_same ?_⟩
      unfold txP
      exact dln
    | parts ps =>
      obtain ⟨a, b, ws, rfl, hA, hB, dw⟩ := pt_parts dv
      have wl := dw.map_len
      refine ⟨_, rfl, a, _, _, _, rfl, rfl, hA, rfl, rfl, _, rfl, ite2 (fun cc => absurd (V.str.inj (of_decide_eq_true cc)) ne_tp) (fun _ => ?_)⟩
      refine ⟨Nat.zero_le _, fun R hR => ?_⟩
      have n1 := same_new (o := HO.lst []) hR
      have fin : ∀ (H' : Hp) (us : List V), H' R = some (.lst us) → DVs K H' ((ps.flatMap txP).map txD) us → Same H H' → Q (.ref R) H' := fun H' us h1 h2 h3 => q R us H' hR h3 h1 (by
        unfold txP
        rw [txPs_map]; exact h2)
      refine ⟨fun σ H' => ∃ (v2 : Option V) (us : List V), σ = [some (.ref a), some (.ref R), v2] ∧ H' R = some (.lst us) ∧ DVs K H' ((ps.flatMap txP).map txD) us ∧ Same H H', ?_, ?_⟩
      · refine ⟨_, rfl, a, _, _, _, rfl, rfl, n1.tup hA, rfl, rfl, _, rfl, ite2 (fun _ => ?_) (fun cc => absurd (decide_eq_true rfl) cc)⟩
        refine ⟨_, rfl, a, _, _, _, rfl, rfl, n1.tup hA, rfl, b, rfl, ⟨_, n1.tup hB⟩, ?_⟩
        refine for_tup (K := K) (a := b) (xs := ws) (fun i σ H' => ∃ (v2 : Option V) (us : List V), σ = [some (.ref a), some (.ref R), v2] ∧ H' R = some (.lst us) ∧ DVs K H' (((ps.take i).flatMap txP).map txD) us ∧ us.length ≤ 1000 * i ∧ Same H H') ⟨none, [], rfl, upd_same, dln, Nat.le_refl _, n1⟩ (fun i σ H' _ h => by obtain ⟨_, _, _, _, _, _, m⟩ := h; exact m.tup hB) ?_ ?_
        · rintro i x σ H1 hi ⟨v2, us, rfl, h1, d1, l1, m1⟩
          obtain ⟨p, hp, dp⟩ := dw.map_get hi
          have okp := ok.2 p (List.mem_of_getElem? hp)
          have il := (List.getElem?_eq_some_iff.mp hp).1
          have pl := ok.1
          have tl1 := (okP_tx n p okp).1
          have tn := ten3 (n := n) (by omega)
          refine ⟨_, rfl, .inl ⟨rfl, _, SqL.of h1⟩, _, rfl, p, x, rfl, dp.tk (TK.same m1), okp, by omega, fun r us2 H2 hr2 m2 h2 d2 => ?_⟩
          have ul2 := d2.map_len
          have h1' := m2 _ _ h1
          have T3 : TK K H2 (upd H2 R (.lst (us ++ us2))) := tk_put h1'
          refine ⟨R, r, _, _, rfl, rfl, h1', h2, by rw [ul2]; exact Nat.le_trans (show _ ≤ 30000 by omega) (by decide), ?_⟩
          refine ⟨_, us ++ us2, rfl, upd_same, ?_, by rw [List.length_append, ul2]; omega, sput (m1.trans m2) hR⟩
          rw [txs_step hp, List.map_append]
          exact DVs.app ((d1.tk (TK.same m2)).tk T3) (d2.tk T3)
        rintro σ H1 ⟨v2, us, rfl, h1, d1, l1, m1⟩
        rw [wl, List.take_length] at d1
        exact ⟨v2, us, rfl, h1, d1, m1⟩
      rintro σ H1 ⟨v2, us, rfl, h1, d1, m1⟩
      exact ⟨_, rfl, fin H1 us h1 d1 m1⟩
end
theorem ok_texts_in {P : Program} {w : World} {K : PySem.W.Frag} {mg : Str → Option Value} {base : Heap} (D : Df K mg "texts_in" s_texts_in ["part"]) (T : Tx mg) : ∀ n, Cal P w K mg base "texts_in" ["part"] (n + 1) (sp70_texts K n) := by
  intro n
  induction n with
  | zero =>
    obtain ⟨f, fd, F, gf, bf⟩ := D
    exact ⟨f, fd, ⟨fun vs H Q E h => by obtain ⟨_, _, _, _, h, _⟩ := h; exact h.elim, fun A outer s H args us vs Q E _ _ _ _ h => by obtain ⟨_, _, _, _, h, _⟩ := h; exact h.elim⟩, gf, F.kp, bf⟩
  | succ n ih => exact ok_texts_in_step D T ih

end Z
namespace Z
open PySem L2 SX
theorem tx_at {K : PySem.W.Frag} {H : Hp} {t : Str × List Str} {v : V} (h : DV K H (txD t) v) : ∃ a b, v = .ref a ∧ SqT K H a [.str (Str.ofString "text"), .str t.1, .ref b] ∧ SqT K H b (t.2.map V.str) :=
  pt_text (co := t.1) (rows := t.2) (by unfold ptD; exact h)
theorem row_at {K : PySem.W.Frag} {H : Hp} {row : List (List Nat)} {v : V} (h : DV K H (rwD row) v) : ∃ t, v = .ref t ∧ SqT K H t ((row.map S).map V.str) := by
  obtain ⟨t, us, rfl, hT, d⟩ := h
  rw [dvs_str_inv d] at hT
  exact ⟨t, rfl, hT⟩
theorem rowsN_few {n : Nt} (h : n.ok) : (rowsN n).length ≤ 10001 ∧ ∀ row ∈ rowsN n, row.length ≤ 2000 := by
  have r := rowsP_few h.2.2.2.2.1 (by decide)
  constructor
  · unfold rowsN
    rw [List.length_map, List.length_cons]
    omega
  · intro row hr
    obtain ⟨x, hx, rfl⟩ := List.mem_map.mp hr
    have wl := words_len (tl x)
    rcases List.mem_cons.mp hx with e | k
    · have := h.2.2.2.2.2.2
      rw [e] at wl ⊢
      omega
    · have := (r.2.2 x k).2
      omega
section
variable {P : Program} {w : World} {K : PySem.W.Frag} {mg : Str → Option Value} {base : Heap}
theorem ok_rows_of_words (D : Df K mg "rows_of_words" s_rows_of_words ["notice"]) (T : Tx mg)  (C_texts_in : Cal P w K mg base "texts_in" ["part"] 5 (sp70_texts K 4)) (C_words_of : Cal P w K mg base "words_of" ["row"] 1 sp_words_of) : Cal P w K mg base "rows_of_words" ["notice"] 6 (sp70_rows K) := by
  obtain ⟨f_texts_in, fd_texts_in, G_texts_in, g_texts_in, k_texts_in, b_texts_in⟩ := C_texts_in
  obtain ⟨f_words_of, fd_words_of, G_words_of, g_words_of, k_words_of, b_words_of⟩ := C_words_of
  obtain ⟨f, fd, F, gf, bf⟩ := D
  refine ⟨f, fd, F.ok sc_rows_of_words (fun vs H Q E h => ?_) (fun cdv A outer s₀ H vs Q E hr h => ?_), gf, F.kp, bf⟩
  · obtain ⟨n, v, rfl, _⟩ := h; rfl
  · obtain ⟨n, v, rfl, nt, ok, q⟩ := h
    refine ⟨_, (pss_cons (ps_setLc2 (i := 1) (own := [("part", 2), ("row", 3)]) (vs1 := [3]) (g := gName 2) (tt := tYes) (g1 := gName 3) (tt1 := tYes) rfl sc_rows_of_words.nd rfl rfl (sw_true rfl rfl rfl (by decide +kernel)) (pi_list (pe_call G_texts_in (hr.mono (by decide)) (by rfl) g_texts_in k_texts_in b_texts_in .nil pass0 (pa_cons (pe_ix ix_tup (pv 0) pe_int (fun _ _ => rfl)) pa_nil))) (blkOk_by (own := [("part", 2), ("row", 3)]) (N := N_rows_of_words) (sc := defScope s_rows_of_words) (by decide +kernel)) (by decide) (fun _ _ _ _ _ => pg_name (i := 2) sc_rows_of_words.nd rfl (Or.inl rfl)) (fun _ _ _ _ _ => pts_nil) (fun _ _ _ _ _ => pi_tupQ (K := K) rfl (pe_ix (ix_tupQ (K := K) rfl) (pv 2) pe_int (fun _ _ => rfl))) (fun _ _ _ _ _ => pg_name (i := 3) sc_rows_of_words.nd rfl (Or.inl rfl)) (fun _ _ _ _ _ => pts_nil) (fun _ _ _ _ _ => (pv 3)))
      (pss_one (ps_ret (pe_callTy call_tuple_of (by rfl) T.n_tuple (by decide +kernel) (pa_cons (pe_lc (own := [("row", 3)]) (g := gName 3) (tt := tYes) rfl sc_rows_of_words.nd (pi_list (pe_op L2.op_cat (pe_lst (pa_cons (pe_ix ix_tup (pv 0) pe_int (fun _ _ => rfl)) pa_nil)) (pv 1))) (blkOk_by (own := [("row", 3)]) (N := N_rows_of_words) (sc := defScope s_rows_of_words) (by decide +kernel)) (fun _ _ _ _ _ => pg_name (i := 3) sc_rows_of_words.nd rfl (Or.inl rfl)) (fun _ _ _ _ _ => pts_nil) (fun _ _ _ _ _ => (pe_call G_words_of (hr.mono (by decide)) (by rfl) g_words_of k_words_of b_words_of .nil pass0 (pa_cons (pv 3) pa_nil)))) pa_nil))))), ?_⟩
    obtain ⟨a, v0, v1, v4, v6, v7, v8, u, rfl, hA, dv⟩ := nt
    obtain ⟨_, _, _, _, okp, sA, sl⟩ := id ok
    have few := rowsP_few okp (by decide)
    have small : ∀ n : Nat, n ≤ 30000 → n < sizeLine := fun n h => Nat.lt_of_le_of_lt h (by decide)
    refine ⟨_, rfl, a, _, _, _, rfl, rfl, hA, rfl, n.bo, u, rfl, dv, okp, by decide, fun r us H1 hr1 m1 h1 d1 => ⟨r, rfl, ⟨_, SqL.of h1⟩, fun D hD => ?_⟩⟩
    have ul := d1.map_len
    refine lc2_list (K := K) (a := r) (xs := us) (fun i H' => H' D = some (.lst ((((txP n.bo).take i).flatMap (·.2)).map V.str)) ∧ Same H1 H') ⟨upd_same, same_new hD⟩ (fun i H' _ h => h.2.seq (SqL.of h1)) ?_ ?_
    · rintro i x H2 hi ⟨h2, m2⟩
      obtain ⟨t, ht, dt⟩ := d1.map_get hi
      obtain ⟨ta, tb, rfl, hTa, hTb⟩ := tx_at dt
      have et : (txP n.bo).take (i + 1) = (txP n.bo).take i ++ [t] := by rw [List.take_add_one, ht]; rfl
      have bound : ∀ j, (((txP n.bo).take i).flatMap (·.2)).length + (t.2.take j).length ≤ 10000 := fun j => by
        have e1 : rowsP n.bo = (((txP n.bo).take i).flatMap (·.2)) ++ t.2 ++ (((txP n.bo).drop (i + 1)).flatMap (·.2)) := by
          unfold rowsP
          have : txP n.bo = (txP n.bo).take i ++ [t] ++ (txP n.bo).drop (i + 1) := by rw [← et, List.take_append_drop]
          conv => lhs; rw [this]
          rw [List.flatMap_append, List.flatMap_append]
          simp
        have := few.1
        rw [e1, List.length_append, List.length_append] at this
        rw [List.length_take]
        omega
      refine ⟨rfl, _, rfl, ta, _, _, _, rfl, rfl, m2.tup hTa, rfl, tb, rfl, ⟨_, m2.tup hTb⟩, ?_⟩
      refine in_tup (K := K) (a := tb) (xs := t.2.map V.str) (fun j H' => H' D = some (.lst (((((txP n.bo).take i).flatMap (·.2)) ++ t.2.take j).map V.str)) ∧ Same H1 H') ⟨by rw [List.take_zero, List.append_nil]; exact h2, m2⟩ (fun j H' h => h.2.tup hTb) ?_ ?_
      · rintro j y H3 hj ⟨h3, m3⟩
        obtain ⟨z, hz, rfl⟩ := map_get hj
        refine ⟨rfl, _, rfl, _, h3, by rw [List.length_map, List.length_append]; exact small _ (by have := bound j; omega), ?_, sput m3 hD⟩
        rw [upd_same, List.take_add_one, hz, ← List.append_assoc, List.map_append (l₂ := Option.toList (some z))]; rfl
      rintro H3 ⟨h3, m3⟩
      rw [List.length_map, List.take_length] at h3
      refine ⟨?_, m3⟩
      rw [et, List.flatMap_append]
      simpa using h3
    rintro H2 ⟨h2, m2⟩
    rw [ul, List.take_length] at h2
    have h2' : H2 D = some (.lst ((rowsP n.bo).map V.str)) := h2
    have m12 := m1.trans m2
    refine ⟨_, rfl, a, _, _, _, rfl, rfl, m12.tup hA, rfl, by show 1 ≤ sizeLine; decide, fun l hl => ?_⟩
    have n3 := same_new (o := HO.lst [V.str n.su]) hl
    refine ⟨_, rfl, l, D, _, _, rfl, rfl, upd_same, n3 _ _ h2', by rw [List.length_map]; exact Nat.le_of_lt (small _ (show 1 + _ ≤ _ by omega)), fun p hp => ?_⟩
    have n4 := same_new (o := HO.lst ([V.str n.su] ++ (rowsP n.bo).map V.str)) hp
    have hp4 : (upd (upd H2 l (HO.lst [V.str n.su])) p (HO.lst ([V.str n.su] ++ (rowsP n.bo).map V.str))) p = some (.lst ((n.su :: rowsP n.bo).map V.str)) := upd_same
    have m4 := m12.trans (n3.trans n4)
    generalize upd (upd H2 l (HO.lst [V.str n.su])) p (HO.lst ([V.str n.su] ++ (rowsP n.bo).map V.str)) = H4 at hp4 m4
    refine ⟨p, rfl, ⟨_, SqL.of hp4⟩, fun E hE => ?_⟩
    refine lc_list (K := K) (a := p) (xs := (n.su :: rowsP n.bo).map V.str) (fun i H' => ∃ ws, H' E = some (.lst ws) ∧ DVs K H' (((n.su :: rowsP n.bo).take i).map fun x => rwD (words (tl x))) ws ∧ Same H4 H') ⟨[], upd_same, dln, same_new hE⟩ (fun i H' _ h => by obtain ⟨_, _, _, m⟩ := h; exact m.seq (SqL.of hp4)) ?_ ?_
    · rintro i x H5 hi ⟨ws, h5, d5, m5⟩
      obtain ⟨z, hz, rfl⟩ := map_get hi
      have il := (List.getElem?_eq_some_iff.mp hz).1
      rw [List.length_cons] at il
      have zb : Asc (tl z) ∧ (tl z).length ≤ 130 := by
        rcases List.mem_cons.mp (List.mem_of_getElem? hz) with e | k
        · rw [e]; exact ⟨sA, sl⟩
        · exact few.2.2 z k
      refine ⟨rfl, _, rfl, z, rfl, zb.1, by omega, fun t H6 ht m6 h6 => ?_⟩
      have h5' := m6 _ _ h5
      have T7 : TK K H6 (upd H6 E (.lst (ws ++ [V.ref t]))) := tk_put h5'
      refine ⟨_, h5', by rw [d5.map_len, List.length_take]; exact small _ (by omega), ws ++ [V.ref t], upd_same, ?_, sput (m5.trans m6) hE⟩
      rw [List.take_add_one, hz]
      refine DVs.snoc (f := fun x => rwD (words (tl x))) (x := z) ((d5.tk (TK.same m6)).tk T7) ?_
      refine ⟨t, _, rfl, T7 _ _ (SqT.of h6), ?_⟩
      have := DVs.strs (K := K) (H := upd H6 E (.lst (ws ++ [V.ref t]))) ((words (tl z)).map S)
      rw [show ((words (tl z)).map S).map V.str = (words (tl z)).map fun l => V.str (S l) from List.map_map] at this
      exact this
    rintro H5 ⟨ws, h5, d5, m5⟩
    rw [List.length_map, List.take_length] at d5
    refine ⟨E, _, rfl, .inl ⟨SqL.of h5, fun T hT => ?_⟩⟩
    have n6 := same_new (o := HO.tup ws) hT
    refine q T ws _ ((m4.trans m5).trans n6) (SqT.of upd_same) ?_
    have d6 := d5.tk (TK.same n6)
    unfold rowsN
    rw [List.map_map]
    exact d6
end

end Z
namespace Z
open PySem L2 SX
section
variable {K : PySem.W.Frag} {H : Hp}
theorem q_word {w : Str} {v : V} (h : DV K H (qyD (.word w)) v) : ∃ a, v = .ref a ∧ SqT K H a [.str (Str.ofString "word"), .str w] := by
  obtain ⟨a, vs, rfl, hA, v1, r1, rfl, e1, v2, r2, rfl, e2, e3⟩ := h
  unfold DV at e1 e2
  unfold DVs at e3
  subst e1 e2 e3
  exact ⟨a, rfl, hA⟩
theorem q_near {x y : Str} {k : Nat} {v : V} (h : DV K H (qyD (.near x y k)) v) : ∃ a, v = .ref a ∧ SqT K H a [.str (Str.ofString "near"), .str x, .str y, .int (k : Nat)] := by
  obtain ⟨a, vs, rfl, hA, v1, r1, rfl, e1, v2, r2, rfl, e2, v3, r3, rfl, e3, v4, r4, rfl, e4, e5⟩ := h
  unfold DV at e1 e2 e3 e4
  unfold DVs at e5
  subst e1 e2 e3 e4 e5
  exact ⟨a, rfl, hA⟩
theorem q_by {x y : Str} {v : V} (h : DV K H (qyD (.by_ x y)) v) : ∃ a, v = .ref a ∧ SqT K H a [.str (Str.ofString "by"), .str x, .str y] := by
  obtain ⟨a, vs, rfl, hA, v1, r1, rfl, e1, v2, r2, rfl, e2, v3, r3, rfl, e3, e5⟩ := h
  unfold DV at e1 e2 e3
  unfold DVs at e5
  subst e1 e2 e3 e5
  exact ⟨a, rfl, hA⟩
theorem q_before {n : Int} {v : V} (h : DV K H (qyD (.before n)) v) : ∃ a, v = .ref a ∧ SqT K H a [.str (Str.ofString "before"), .int n] := by
  obtain ⟨a, vs, rfl, hA, v1, r1, rfl, e1, v2, r2, rfl, e2, e3⟩ := h
  unfold DV at e1 e2
  unfold DVs at e3
  subst e1 e2 e3
  exact ⟨a, rfl, hA⟩
theorem q_not {q : Qy} {v : V} (h : DV K H (qyD (.not q)) v) : ∃ a u, v = .ref a ∧ SqT K H a [.str (Str.ofString "not"), u] ∧ DV K H (qyD q) u := by
  obtain ⟨a, vs, rfl, hA, v1, r1, rfl, e1, v2, r2, rfl, e2, e3⟩ := h
  unfold DV at e1
  unfold DVs at e3
  subst e1 e3
  exact ⟨a, v2, rfl, hA, e2⟩
theorem q_and {q r : Qy} {v : V} (h : DV K H (qyD (.and q r)) v) : ∃ a u w, v = .ref a ∧ SqT K H a [.str (Str.ofString "and"), u, w] ∧ DV K H (qyD q) u ∧ DV K H (qyD r) w := by
  obtain ⟨a, vs, rfl, hA, v1, r1, rfl, e1, v2, r2, rfl, e2, v3, r3, rfl, e3, e5⟩ := h
  unfold DV at e1
  unfold DVs at e5
  subst e1 e5
  exact ⟨a, v2, v3, rfl, hA, e2, e3⟩
theorem q_or {q r : Qy} {v : V} (h : DV K H (qyD (.or q r)) v) : ∃ a u w, v = .ref a ∧ SqT K H a [.str (Str.ofString "or"), u, w] ∧ DV K H (qyD q) u ∧ DV K H (qyD r) w := by
  obtain ⟨a, vs, rfl, hA, v1, r1, rfl, e1, v2, r2, rfl, e2, v3, r3, rfl, e3, e5⟩ := h
  unfold DV at e1
  unfold DVs at e5
  subst e1 e5
  exact ⟨a, v2, v3, rfl, hA, e2, e3⟩
end
theorem any_snoc {α : Type} {p : α → Prop} {l : List α} {i : Nat} {x : α} {bs : List Bool} {c : Bool} (h : bs.any id = true ↔ ∃ y ∈ l.take i, p y) (hx : l[i]? = some x) (hc : c = true ↔ p x) : (bs ++ [c]).any id = true ↔ ∃ y ∈ l.take (i + 1), p y := by
  rw [List.any_append, Bool.or_eq_true, h, List.take_add_one, hx]
  constructor
  · rintro (⟨y, hy, hp⟩ | hc')
    · exact ⟨y, List.mem_append_left _ hy, hp⟩
    · exact ⟨x, List.mem_append_right _ (by simp), hc.mp (by simpa using hc')⟩
  · rintro ⟨y, hy, hp⟩
    rcases List.mem_append.mp hy with k | k
    · exact .inl ⟨y, k, hp⟩
    · have : y = x := by simpa using k
      subst this
      exact .inr (by simpa using hc.mpr hp)
section
variable {P : Program} {w : World} {K : PySem.W.Frag} {mg : Str → Option Value} {base : Heap}
theorem ok_fits_basic (D : Df K mg "fits_basic" s_fits_basic ["query", "notice", "rows"]) (T : Tx mg)  (C_is_from : Cal P w K mg base "is_from" ["person", "place", "author"] 2 (sp70_from K)) (C_is_near : Cal P w K mg base "is_near" ["words", "name", "other", "most"] 1 (sp70_near K)) : Cal P w K mg base "fits_basic" ["query", "notice", "rows"] 3 (sp70_basic K) := by
  obtain ⟨f_is_from, fd_is_from, G_is_from, g_is_from, k_is_from, b_is_from⟩ := C_is_from
  obtain ⟨f_is_near, fd_is_near, G_is_near, g_is_near, k_is_near, b_is_near⟩ := C_is_near
  obtain ⟨f, fd, F, gf, bf⟩ := D
  refine ⟨f, fd, F.ok sc_fits_basic (fun vs H Q E h => ?_) (fun cdv A outer s₀ H vs Q E hr h => ?_), gf, F.kp, bf⟩
  · obtain ⟨q0, n, v, u, r, us, rfl, _⟩ := h; rfl
  · obtain ⟨q0, n, v, u, r, us, rfl, dq, bq, okq, nt, ok, hR, dR, q⟩ := h
    refine ⟨_, (pss_cons (ps_set (i := 3) sc_fits_basic.nd rfl (Or.inl rfl) (pe_ix ix_tup (pv 0) pe_int (fun _ _ => rfl)))
      (pss_cons (ps_if (pt_cmpR op_eq (pv 3) pe_str (nomark _))
      (pss_one (ps_ret (pe_callB (cr_any rfl) (by rfl) T.n_any (by decide +kernel) (pa_cons (pe_lc (own := [("words", 4)]) (g := gName 4) (tt := tYes) rfl sc_fits_basic.nd (pi_tup (pv 2)) (blkOk_by (own := [("words", 4)]) (N := N_fits_basic) (sc := defScope s_fits_basic) (by decide +kernel)) (fun _ _ _ _ _ => pg_name (i := 4) sc_fits_basic.nd rfl (Or.inl rfl)) (fun _ _ _ _ _ => pts_nil) (fun _ _ _ _ _ => (pe_cmpR (in_seqQ (K := K) rfl) (pe_ix (ix_tupQ (K := K) rfl) (pv 0) pe_int (fun _ _ => rfl)) (pv 4) (by rfl)))) pa_nil))))
      pss_nil)
      (pss_cons (ps_if (pt_cmpR op_eq (pv 3) pe_str (nomark _))
      (pss_one (ps_ret (pe_callB (cr_any rfl) (by rfl) T.n_any (by decide +kernel) (pa_cons (pe_lc (own := [("words", 4)]) (g := gName 4) (tt := tYes) rfl sc_fits_basic.nd (pi_tup (pv 2)) (blkOk_by (own := [("words", 4)]) (N := N_fits_basic) (sc := defScope s_fits_basic) (by decide +kernel)) (fun _ _ _ _ _ => pg_name (i := 4) sc_fits_basic.nd rfl (Or.inl rfl)) (fun _ _ _ _ _ => pts_nil) (fun _ _ _ _ _ => (pe_call G_is_near (hr.mono (by decide)) (by rfl) g_is_near k_is_near b_is_near .nil pass0 (pa_cons (pv 4) (pa_cons (pe_ix (ix_tupQ (K := K) rfl) (pv 0) pe_int (fun _ _ => rfl)) (pa_cons (pe_ix (ix_tupQ (K := K) rfl) (pv 0) pe_int (fun _ _ => rfl)) (pa_cons (pe_ix (ix_tupQ (K := K) rfl) (pv 0) pe_int (fun _ _ => rfl)) pa_nil))))))) pa_nil))))
      pss_nil)
      (pss_cons (ps_if (pt_cmpR op_eq (pv 3) pe_str (nomark _))
      (pss_one (ps_ret (pe_call G_is_from (hr.mono (by decide)) (by rfl) g_is_from k_is_from b_is_from .nil pass0 (pa_cons (pe_ix ix_tup (pv 0) pe_int (fun _ _ => rfl)) (pa_cons (pe_ix ix_tup (pv 0) pe_int (fun _ _ => rfl)) (pa_cons (pe_ix ix_tup (pv 1) pe_int (fun _ _ => rfl)) pa_nil))))))
      pss_nil)
      (pss_one (ps_ret (pe_cmpR op_lt (pe_ix ix_tup (pv 1) pe_int (fun _ _ => rfl)) (pe_ix ix_tup (pv 0) pe_int (fun _ _ => rfl)) (nomark _)))))))), ?_⟩
    have small : ∀ n : Nat, n ≤ 30000 → n < sizeLine := fun n h => Nat.lt_of_le_of_lt h (by decide)
    have few := rowsN_few ok
    have ul := dR.map_len
    obtain ⟨na, v0, v1, v4, v6, v7, v8, bu, rfl, hN, dv⟩ := nt
    cases q0 with
    | word w =>
      obtain ⟨a, rfl, hA⟩ := q_word dq
      refine ⟨_, rfl, a, _, _, _, rfl, rfl, hA, rfl, _, rfl, rfl, _, rfl, ite2 (fun _ => ?_) (fun cc => absurd (decide_eq_true rfl) cc)⟩
      refine ⟨_, rfl, r, rfl, ⟨_, hR⟩, fun D hD => ?_⟩
      refine lc_tup (K := K) (a := r) (xs := us) (fun i H' => ∃ bs : List Bool, H' D = some (.lst (bs.map V.bl)) ∧ (bs.any id = true ↔ ∃ row ∈ (rowsN n).take i, tl w ∈ row) ∧ bs.length = i ∧ Same H H') ⟨[], upd_same, by simp, rfl, same_new hD⟩ (fun i H' _ h => by obtain ⟨_, _, _, _, m⟩ := h; exact m.tup hR) ?_ ?_
      · rintro i x H' hi ⟨bs, h1, hb, bl, m1⟩
        obtain ⟨row, hrow, dr⟩ := dR.map_get hi
        obtain ⟨t, rfl, ht⟩ := row_at dr
        have il := (List.getElem?_eq_some_iff.mp hrow).1
        refine ⟨rfl, _, rfl, a, _, _, _, rfl, rfl, m1.tup hA, rfl, _, rfl, t, _, rfl, .inr (m1.tup ht), rfl, flat_strs _, _, h1, by rw [List.length_map]; exact small _ (by omega), bs ++ [inV (V.str w) ((row.map S).map V.str)], by rw [upd_same, List.map_append]; rfl, any_snoc hb hrow ?_, by rw [List.length_append, bl]; rfl, sput m1 hD⟩
        rw [inV_S, decide_eq_true_iff]
      rintro H' ⟨bs, h1, hb, bl, m1⟩
      rw [ul, List.take_length] at hb
      exact ⟨D, bs, rfl, SqL.of h1, q _ H' m1 hb⟩
    | near x y k =>
      obtain ⟨a, rfl, hA⟩ := q_near dq
      refine ⟨_, rfl, a, _, _, _, rfl, rfl, hA, rfl, _, rfl, rfl, _, rfl, ite2 (fun cc => absurd (V.str.inj (of_decide_eq_true cc)) (by decide +kernel)) (fun _ => ?_)⟩
      refine ⟨_, rfl, rfl, _, rfl, ite2 (fun _ => ?_) (fun cc => absurd (decide_eq_true rfl) cc)⟩
      refine ⟨_, rfl, r, rfl, ⟨_, hR⟩, fun D hD => ?_⟩
      refine lc_tup (K := K) (a := r) (xs := us) (fun i H' => ∃ bs : List Bool, H' D = some (.lst (bs.map V.bl)) ∧ (bs.any id = true ↔ ∃ row ∈ (rowsN n).take i, nearR row (tl x) (tl y) k) ∧ bs.length = i ∧ Same H H') ⟨[], upd_same, by simp, rfl, same_new hD⟩ (fun i H' _ h => by obtain ⟨_, _, _, _, m⟩ := h; exact m.tup hR) ?_ ?_
      · rintro i z H' hi ⟨bs, h1, hb, bl, m1⟩
        obtain ⟨row, hrow, dr⟩ := dR.map_get hi
        obtain ⟨t, rfl, ht⟩ := row_at dr
        have il := (List.getElem?_eq_some_iff.mp hrow).1
        have hA1 := m1.tup hA
        refine ⟨rfl, _, rfl, _, rfl, a, _, _, _, rfl, rfl, hA1, rfl, _, rfl, a, _, _, _, rfl, rfl, hA1, rfl, _, rfl, a, _, _, _, rfl, rfl, hA1, rfl, t, row, x, y, k, rfl, m1.tup ht, few.2 row (List.mem_of_getElem? hrow), okq, fun c H2 m2 hc => ?_⟩
        exact ⟨_, m2 _ _ h1, by rw [List.length_map]; exact small _ (by omega), bs ++ [c], by rw [upd_same, List.map_append]; rfl, any_snoc hb hrow hc, by rw [List.length_append, bl]; rfl, sput (m1.trans m2) hD⟩
      rintro H' ⟨bs, h1, hb, bl, m1⟩
      rw [ul, List.take_length] at hb
      exact ⟨D, bs, rfl, SqL.of h1, q _ H' m1 hb⟩
    | by_ x y =>
      obtain ⟨a, rfl, hA⟩ := q_by dq
      refine ⟨_, rfl, a, _, _, _, rfl, rfl, hA, rfl, _, rfl, rfl, _, rfl, ite2 (fun cc => absurd (V.str.inj (of_decide_eq_true cc)) (by decide +kernel)) (fun _ => ?_)⟩
      refine ⟨_, rfl, rfl, _, rfl, ite2 (fun cc => absurd (V.str.inj (of_decide_eq_true cc)) (by decide +kernel)) (fun _ => ?_)⟩
      refine ⟨_, rfl, rfl, _, rfl, ite2 (fun _ => ?_) (fun cc => absurd (decide_eq_true rfl) cc)⟩
      exact ⟨_, rfl, a, _, _, _, rfl, rfl, hA, rfl, _, rfl, a, _, _, _, rfl, rfl, hA, rfl, _, rfl, na, _, _, _, rfl, rfl, hN, rfl, x, y, n, rfl, ok, fun b H' m hb => q b H' m hb⟩
    | before d =>
      obtain ⟨a, rfl, hA⟩ := q_before dq
      refine ⟨_, rfl, a, _, _, _, rfl, rfl, hA, rfl, _, rfl, rfl, _, rfl, ite2 (fun cc => absurd (V.str.inj (of_decide_eq_true cc)) (by decide +kernel)) (fun _ => ?_)⟩
      refine ⟨_, rfl, rfl, _, rfl, ite2 (fun cc => absurd (V.str.inj (of_decide_eq_true cc)) (by decide +kernel)) (fun _ => ?_)⟩
      refine ⟨_, rfl, rfl, _, rfl, ite2 (fun cc => absurd (V.str.inj (of_decide_eq_true cc)) (by decide +kernel)) (fun _ => ?_)⟩
      exact ⟨_, rfl, na, _, _, _, rfl, rfl, hN, rfl, _, rfl, a, _, _, _, rfl, rfl, hA, rfl, _, _, rfl, rfl, q _ H (Same.refl _) decide_eq_true_iff⟩
    | not q => cases bq
    | and q r => cases bq
    | or q r => cases bq
end
theorem okQ_leaf {d : Nat} {q : Qy} (h : okQ (d + 1) q) (b : isB q = true) : okQ 1 q := by
  cases q with
  | word w => trivial
  | near a b k => exact h
  | by_ p s => trivial
  | before n => trivial
  | not q => cases b
  | and q r => cases b
  | or q r => cases b
section
variable {P : Program} {w : World} {K : PySem.W.Frag} {mg : Str → Option Value} {base : Heap}
theorem ok_fits_rows_step (D : Df K mg "fits_rows" s_fits_rows ["query", "notice", "rows"]) (T : Tx mg)  {n : Nat} (C_fits_basic : Cal P w K mg base "fits_basic" ["query", "notice", "rows"] 3 (sp70_basic K)) (C_fits_rows : Cal P w K mg base "fits_rows" ["query", "notice", "rows"] (n + 3) (sp70_fitsr K n)) : Cal P w K mg base "fits_rows" ["query", "notice", "rows"] (n + 4) (sp70_fitsr K (n + 1)) := by
  obtain ⟨f_fits_basic, fd_fits_basic, G_fits_basic, g_fits_basic, k_fits_basic, b_fits_basic⟩ := C_fits_basic
  obtain ⟨f_fits_rows, fd_fits_rows, G_fits_rows, g_fits_rows, k_fits_rows, b_fits_rows⟩ := C_fits_rows
  obtain ⟨f, fd, F, gf, bf⟩ := D
  refine ⟨f, fd, F.ok sc_fits_rows (fun vs H Q E h => ?_) (fun cdv A outer s₀ H vs Q E hr h => ?_), gf, F.kp, bf⟩
  · obtain ⟨q0, m, v, u, r, us, rfl, _⟩ := h; rfl
  · obtain ⟨q0, m, v, u, r, us, rfl, dq, okq, nt, ok, hR, dR, q⟩ := h
    refine ⟨_, (pss_cons (ps_set (i := 3) sc_fits_rows.nd rfl (Or.inl rfl) (pe_ix ix_tup (pv 0) pe_int (fun _ _ => rfl)))
      (pss_cons (ps_if (pt_cmpR op_eq (pv 3) pe_str (nomark _))
      (pss_one (ps_ret (pe_not (pe_call G_fits_rows hr (by rfl) g_fits_rows k_fits_rows b_fits_rows .nil pass0 (pa_cons (pe_ix ix_tup (pv 0) pe_int (fun _ _ => rfl)) (pa_cons (pv 1) (pa_cons (pv 2) pa_nil)))))))
      pss_nil)
      (pss_cons (ps_if (pt_cmpR op_eq (pv 3) pe_str (nomark _))
      (pss_one (ps_ret (pe_and (pe_call G_fits_rows hr (by rfl) g_fits_rows k_fits_rows b_fits_rows .nil pass0 (pa_cons (pe_ix ix_tup (pv 0) pe_int (fun _ _ => rfl)) (pa_cons (pv 1) (pa_cons (pv 2) pa_nil)))) (pe_one (pe_call G_fits_rows hr (by rfl) g_fits_rows k_fits_rows b_fits_rows .nil pass0 (pa_cons (pe_ix ix_tup (pv 0) pe_int (fun _ _ => rfl)) (pa_cons (pv 1) (pa_cons (pv 2) pa_nil))))))))
      pss_nil)
      (pss_cons (ps_if (pt_cmpR op_eq (pv 3) pe_str (nomark _))
      (pss_one (ps_ret (pe_or (pe_call G_fits_rows hr (by rfl) g_fits_rows k_fits_rows b_fits_rows .nil pass0 (pa_cons (pe_ix ix_tup (pv 0) pe_int (fun _ _ => rfl)) (pa_cons (pv 1) (pa_cons (pv 2) pa_nil)))) (pe_one (pe_call G_fits_rows hr (by rfl) g_fits_rows k_fits_rows b_fits_rows .nil pass0 (pa_cons (pe_ix ix_tup (pv 0) pe_int (fun _ _ => rfl)) (pa_cons (pv 1) (pa_cons (pv 2) pa_nil))))))))
      pss_nil)
      (pss_one (ps_ret (pe_call G_fits_basic (hr.mono (by omega)) (by rfl) g_fits_basic k_fits_basic b_fits_basic .nil pass0 (pa_cons (pv 0) (pa_cons (pv 1) (pa_cons (pv 2) pa_nil)))))))))), ?_⟩
    cases q0 with
    | word w =>
      obtain ⟨a, rfl, hA⟩ := q_word dq
      refine ⟨_, rfl, a, _, _, _, rfl, rfl, hA, rfl, _, rfl, rfl, _, rfl, ite2 (fun cc => absurd (V.str.inj (of_decide_eq_true cc)) (by decide +kernel)) (fun _ => ?_)⟩
      refine ⟨_, rfl, rfl, _, rfl, ite2 (fun cc => absurd (V.str.inj (of_decide_eq_true cc)) (by decide +kernel)) (fun _ => ?_)⟩
      refine ⟨_, rfl, rfl, _, rfl, ite2 (fun cc => absurd (V.str.inj (of_decide_eq_true cc)) (by decide +kernel)) (fun _ => ?_)⟩
      exact ⟨_, rfl, _, rfl, _, rfl, .word w, m, _, u, r, us, rfl, dq, rfl, okQ_leaf okq rfl, nt, ok, hR, dR, q⟩
    | near x y k =>
      obtain ⟨a, rfl, hA⟩ := q_near dq
      refine ⟨_, rfl, a, _, _, _, rfl, rfl, hA, rfl, _, rfl, rfl, _, rfl, ite2 (fun cc => absurd (V.str.inj (of_decide_eq_true cc)) (by decide +kernel)) (fun _ => ?_)⟩
      refine ⟨_, rfl, rfl, _, rfl, ite2 (fun cc => absurd (V.str.inj (of_decide_eq_true cc)) (by decide +kernel)) (fun _ => ?_)⟩
      refine ⟨_, rfl, rfl, _, rfl, ite2 (fun cc => absurd (V.str.inj (of_decide_eq_true cc)) (by decide +kernel)) (fun _ => ?_)⟩
      exact ⟨_, rfl, _, rfl, _, rfl, .near x y k, m, _, u, r, us, rfl, dq, rfl, okQ_leaf okq rfl, nt, ok, hR, dR, q⟩
    | by_ x y =>
      obtain ⟨a, rfl, hA⟩ := q_by dq
      refine ⟨_, rfl, a, _, _, _, rfl, rfl, hA, rfl, _, rfl, rfl, _, rfl, ite2 (fun cc => absurd (V.str.inj (of_decide_eq_true cc)) (by decide +kernel)) (fun _ => ?_)⟩
      refine ⟨_, rfl, rfl, _, rfl, ite2 (fun cc => absurd (V.str.inj (of_decide_eq_true cc)) (by decide +kernel)) (fun _ => ?_)⟩
      refine ⟨_, rfl, rfl, _, rfl, ite2 (fun cc => absurd (V.str.inj (of_decide_eq_true cc)) (by decide +kernel)) (fun _ => ?_)⟩
      exact ⟨_, rfl, _, rfl, _, rfl, .by_ x y, m, _, u, r, us, rfl, dq, rfl, okQ_leaf okq rfl, nt, ok, hR, dR, q⟩
    | before d =>
      obtain ⟨a, rfl, hA⟩ := q_before dq
      refine ⟨_, rfl, a, _, _, _, rfl, rfl, hA, rfl, _, rfl, rfl, _, rfl, ite2 (fun cc => absurd (V.str.inj (of_decide_eq_true cc)) (by decide +kernel)) (fun _ => ?_)⟩
      refine ⟨_, rfl, rfl, _, rfl, ite2 (fun cc => absurd (V.str.inj (of_decide_eq_true cc)) (by decide +kernel)) (fun _ => ?_)⟩
      refine ⟨_, rfl, rfl, _, rfl, ite2 (fun cc => absurd (V.str.inj (of_decide_eq_true cc)) (by decide +kernel)) (fun _ => ?_)⟩
      exact ⟨_, rfl, _, rfl, _, rfl, .before d, m, _, u, r, us, rfl, dq, rfl, okQ_leaf okq rfl, nt, ok, hR, dR, q⟩
    | not q1 =>
      obtain ⟨a, u1, rfl, hA, d1⟩ := q_not dq
      refine ⟨_, rfl, a, _, _, _, rfl, rfl, hA, rfl, _, rfl, rfl, _, rfl, ite2 (fun _ => ?_) (fun cc => absurd (decide_eq_true rfl) cc)⟩
      refine ⟨_, rfl, a, _, _, _, rfl, rfl, hA, rfl, _, rfl, _, rfl, q1, m, u1, u, r, us, rfl, d1, okq, nt, ok, hR, dR, fun c H' mm hc => ⟨c, rfl, q (!c) H' mm ?_⟩⟩
      show (!c) = true ↔ ¬ semQ m q1
      rw [← hc]
      cases c <;> simp
    | and q1 q2 =>
      obtain ⟨a, u1, u2, rfl, hA, d1, d2⟩ := q_and dq
      refine ⟨_, rfl, a, _, _, _, rfl, rfl, hA, rfl, _, rfl, rfl, _, rfl, ite2 (fun cc => absurd (V.str.inj (of_decide_eq_true cc)) (by decide +kernel)) (fun _ => ?_)⟩
      refine ⟨_, rfl, rfl, _, rfl, ite2 (fun _ => ?_) (fun cc => absurd (decide_eq_true rfl) cc)⟩
      refine ⟨_, rfl, a, _, _, _, rfl, rfl, hA, rfl, _, rfl, _, rfl, q1, m, u1, u, r, us, rfl, d1, okq.1, nt, ok, hR, dR, fun c H' mm hc => ⟨c, rfl, ite2 (fun h => ?_) (fun h => q false H' mm ⟨(fun h => by cases h), fun k => absurd (hc.mpr k.1) h⟩)⟩⟩
      refine ⟨_, rfl, a, _, _, _, rfl, rfl, mm.tup hA, rfl, _, rfl, _, rfl, q2, m, u2, u, r, us, rfl, d2.tk (TK.same mm), okq.2, nt.tk (TK.same mm), ok, mm.tup hR, dR.tk (TK.same mm), fun c2 H2 mm2 hc2 => q c2 H2 (mm.trans mm2) ?_⟩
      rw [hc2]
      exact ⟨fun k => ⟨hc.mp h, k⟩, fun k => k.2⟩
    | or q1 q2 =>
      obtain ⟨a, u1, u2, rfl, hA, d1, d2⟩ := q_or dq
      refine ⟨_, rfl, a, _, _, _, rfl, rfl, hA, rfl, _, rfl, rfl, _, rfl, ite2 (fun cc => absurd (V.str.inj (of_decide_eq_true cc)) (by decide +kernel)) (fun _ => ?_)⟩
      refine ⟨_, rfl, rfl, _, rfl, ite2 (fun cc => absurd (V.str.inj (of_decide_eq_true cc)) (by decide +kernel)) (fun _ => ?_)⟩
      refine ⟨_, rfl, rfl, _, rfl, ite2 (fun _ => ?_) (fun cc => absurd (decide_eq_true rfl) cc)⟩
      refine ⟨_, rfl, a, _, _, _, rfl, rfl, hA, rfl, _, rfl, _, rfl, q1, m, u1, u, r, us, rfl, d1, okq.1, nt, ok, hR, dR, fun c H' mm hc => ⟨c, rfl, ite2 (fun h => q true H' mm ⟨fun _ => .inl (hc.mp h), fun _ => rfl⟩) (fun h => ?_)⟩⟩
      refine ⟨_, rfl, a, _, _, _, rfl, rfl, mm.tup hA, rfl, _, rfl, _, rfl, q2, m, u2, u, r, us, rfl, d2.tk (TK.same mm), okq.2, nt.tk (TK.same mm), ok, mm.tup hR, dR.tk (TK.same mm), fun c2 H2 mm2 hc2 => q c2 H2 (mm.trans mm2) ?_⟩
      rw [hc2]
      exact ⟨fun k => .inr k, fun k => k.resolve_left fun k1 => h (hc.mpr k1)⟩
end
theorem ok_fits_rows {P : Program} {w : World} {K : PySem.W.Frag} {mg : Str → Option Value} {base : Heap} (D : Df K mg "fits_rows" s_fits_rows ["query", "notice", "rows"]) (T : Tx mg) (C_fits_basic : Cal P w K mg base "fits_basic" ["query", "notice", "rows"] 3 (sp70_basic K)) : ∀ n, Cal P w K mg base "fits_rows" ["query", "notice", "rows"] (n + 3) (sp70_fitsr K n) := by
  intro n
  induction n with
  | zero =>
    obtain ⟨f, fd, F, gf, bf⟩ := D
    exact ⟨f, fd, ⟨fun vs H Q E h => by obtain ⟨_, _, _, _, _, _, _, _, h, _⟩ := h; exact h.elim, fun A outer s H args us vs Q E _ _ _ _ h => by obtain ⟨_, _, _, _, _, _, _, _, h, _⟩ := h; exact h.elim⟩, gf, F.kp, bf⟩
  | succ n ih => exact ok_fits_rows_step D T C_fits_basic ih

end Z
namespace Z
open PySem L2 SX
section
variable {P : Program} {w : World} {K : PySem.W.Frag} {mg : Str → Option Value} {base : Heap}
theorem ok__law_words_in (D : Df K mg "_law_words_in" s__law_words_in ["row"]) (T : Tx mg)   : Cal P w K mg base "_law_words_in" ["row"] 1 sp70_wordsin := by
  obtain ⟨f, fd, F, gf, bf⟩ := D
  refine ⟨f, fd, F.ok sc__law_words_in (fun vs H Q E h => ?_) (fun cdv A outer s₀ H vs Q E hr h => ?_), gf, F.kp, bf⟩
  · obtain ⟨x, rfl, _⟩ := h; rfl
  · obtain ⟨x, rfl, hA, hl, q⟩ := h
    refine ⟨_, (pss_cons (ps_set (i := 1) sc__law_words_in.nd rfl (Or.inl rfl) (pe_lst pa_nil))
      (pss_cons (ps_set (i := 2) sc__law_words_in.nd rfl (Or.inl rfl) pe_str)
      (pss_cons (ps_for PassesOwn.never rfl (pi_str (pe_op op_add_str (pe_lower (pv 0)) pe_str)) (pg_name (i := 3) sc__law_words_in.nd rfl (Or.inl rfl))
      (pss_one (ps_if (pt_cmpR op_in_sign (pv 3) pe_str (by rfl))
        (pss_one (ps_set (i := 2) sc__law_words_in.nd rfl (Or.inl rfl) (pe_op op_add_str (pv 2) (pv 3))))
        (C8.pss_cut (ps_if (pt_cmpR op_ne (pv 2) pe_str (nomark _))
          (pss_one (ps_expr (pe_bm PySem.F.plainAttrs_list PySem.F.slot_list_append PySem.F.type_list_append mt_append (pv 1) (pa_cons (pv 2) pa_nil))))
          pss_nil)
          (pss_one (ps_set (i := 2) sc__law_words_in.nd rfl (Or.inl rfl) pe_str))))))
      (pss_one (ps_ret (pv 1)))))), ?_⟩
    have hlow : tl (Txt.lower x) = (tl x).map PyProof.Rows.lo1 := congrArg tl (lower_S (a := tl x) hA.all128)
    have hlo : tl (Txt.lower x ++ Str.ofString " ") = (tl x).map PyProof.Rows.lo1 ++ [32] := by rw [tl_app, hlow]; rfl
    have hlx : x.length ≤ 1000 := by rw [tl_len]; exact hl
    refine ⟨Nat.zero_le _, fun L hL => ?_⟩
    refine ⟨_, rfl, ⟨_, rfl⟩, x, rfl, rfl, Nat.le_trans hlx (by decide), _, _, rfl, rfl, ?_, _, rfl, ?_⟩
    · rw [tl_len, tl_len, hlow, List.length_map]; exact Nat.le_trans (show (tl x).length + 1 ≤ 1001 by omega) (by decide)
    have hn : (tl (Txt.lower x ++ Str.ofString " ")).length ≤ 1001 := by rw [hlo, List.length_append, List.length_map]; simp; omega
    refine for_str (l := tl (Txt.lower x ++ Str.ofString " ")) (fun i σ H' => ∃ (ws : List Str) (wd : Str) (v : Option V), σ = [some (.str x), some (.ref L), some (.str wd), v] ∧ Same H H' ∧ H' L = some (.lst (ws.map V.str)) ∧
      (ws.map tl, tl wd) = ((tl (Txt.lower x ++ Str.ofString " ")).take i).foldl wst ([], []) ∧ ws.length ≤ i ∧ (tl wd).length ≤ i ∧ i ≤ 1001) ?_ ?_ ?_
    · exact ⟨[], Str.ofString "", none, rfl, same_new hL, upd_same, rfl, Nat.le_refl _, Nat.le_refl _, Nat.zero_le _⟩
    · rintro i ch σ H' hi ⟨ws, wd, v, rfl, hS, hW, hf, l1, l2, l3⟩
      have hi1 : i < 1001 := Nat.lt_of_lt_of_le (List.getElem?_eq_some_iff.mp hi).1 hn
      have hstep := fold_take (f := wst) (a := (([] : List (List Nat)), ([] : List Nat))) hi
      rw [← hf] at hstep
      refine ⟨_, rfl, ch, _, rfl, rfl, _, rfl, ?_⟩
      rw [in_abc012]
      refine ite2 (fun c1 => ?_) (fun c1 => ?_)
      · have w1 : wlow ch = true := c1
        refine ⟨_, rfl, _, rfl, _, _, rfl, rfl, by rw [tl_len]; exact Nat.le_trans (show (tl wd).length + 1 ≤ 1002 by omega) (by decide), ?_⟩
        refine ⟨ws, _, _, rfl, hS, hW, ?_, by omega, by rw [tl_app, List.length_append]; show _ + 1 ≤ _; omega, by omega⟩
        rw [hstep]; unfold wst; rw [if_pos w1, tl_app]
      have w1 : ¬ wlow ch = true := c1
      have hst : ((tl (Txt.lower x ++ Str.ofString " ")).take (i + 1)).foldl wst ([], []) = (if tl wd ≠ [] then (ws.map tl ++ [tl wd], []) else (ws.map tl, tl wd)) := by
        rw [hstep]; unfold wst; rw [if_neg w1]
      refine ⟨fun σ2 H2 => ∃ (ws2 : List Str) (wd2 : Str), σ2 = [some (.str x), some (.ref L), some (.str wd2), some (.str (S [ch]))] ∧ Same H H2 ∧ H2 L = some (.lst (ws2.map V.str)) ∧ ws2.map tl = (((tl (Txt.lower x ++ Str.ofString " ")).take (i + 1)).foldl wst ([], [])).1 ∧ (((tl (Txt.lower x ++ Str.ofString " ")).take (i + 1)).foldl wst ([], [])).2 = [] ∧ ws2.length ≤ i + 1, ?_, ?_⟩
      · refine ⟨_, rfl, rfl, _, rfl, ?_⟩
        by_cases e : wd = Str.ofString ""
        · subst e
          refine iteNS rfl ⟨ws, _, rfl, hS, hW, ?_, ?_, by omega⟩
          · rw [hst]; rfl
          · rw [hst]; rfl
        · have e2 : tl wd ≠ [] := fun h => e (tl_ext h)
          have : decide (V.str wd = V.str (Str.ofString "")) = false := decide_eq_false fun h => e (V.str.inj h)
          rw [this]
          refine iteT ⟨_, rfl, .inl ⟨rfl, _, SqL.of hW⟩, _, rfl, L, _, _, rfl, rfl, hW, ?_, ?_⟩
          · rw [List.length_map]; exact Nat.lt_of_le_of_lt (show ws.length ≤ 1001 by omega) (by decide)
          · refine ⟨ws ++ [wd], _, rfl, sput hS hL, by rw [upd_same, List.map_append]; rfl, ?_, ?_, by rw [List.length_append]; show _ + 1 ≤ _; omega⟩
            · rw [hst, if_pos e2, List.map_append]; rfl
            · rw [hst, if_pos e2]
      rintro σ2 H2 ⟨ws2, wd2, rfl, hS2, hW2, e1, e2, l4⟩
      exact ⟨ws2, _, _, rfl, hS2, hW2, Prod.ext e1 (show tl (Str.ofString "") = _ by rw [e2]; rfl), l4, Nat.zero_le _, by omega⟩
    · rintro σ H' ⟨ws, wd, v, rfl, hS, hW, hf, l1, l2, l3⟩
      rw [fold_all] at hf
      refine ⟨_, rfl, q L H' hL hS ?_⟩
      have e : words (tl x) = ws.map tl := by unfold words; rw [← hlo, ← hf]
      have e2 : (ws.map tl).map S = ws := List.map_map.trans ((List.map_congr_left fun z _ => tl_ext (tl_S (tl z))).trans (List.map_id' ws))
      rw [hW, e, e2]
end
theorem rows_step {ps : List Pt} {i : Nat} {p : Pt} (h : ps[i]? = some p) : ((ps.take (i + 1)).flatMap rowsP) = (ps.take i).flatMap rowsP ++ rowsP p := by
  rw [List.take_add_one, h, List.flatMap_append]
  simp
theorem rowsP_parts (ps : List Pt) : rowsP (.parts ps) = ps.flatMap rowsP := by
  show (txP (.parts ps)).flatMap (·.2) = ps.flatMap fun p => (txP p).flatMap (·.2)
  rw [show txP (.parts ps) = ps.flatMap txP by unfold txP; exact txPs_map ps, List.flatMap_assoc]
section
variable {P : Program} {w : World} {K : PySem.W.Frag} {mg : Str → Option Value} {base : Heap}
theorem ok__law_rows_in_step (D : Df K mg "_law_rows_in" s__law_rows_in ["part"]) (T : Tx mg)  {n : Nat} (C__law_rows_in : Cal P w K mg base "_law_rows_in" ["part"] (n + 1) (sp70_rowsin K n)) : Cal P w K mg base "_law_rows_in" ["part"] (n + 2) (sp70_rowsin K (n + 1)) := by
  obtain ⟨f__law_rows_in, fd__law_rows_in, G__law_rows_in, g__law_rows_in, k__law_rows_in, b__law_rows_in⟩ := C__law_rows_in
  obtain ⟨f, fd, F, gf, bf⟩ := D
  refine ⟨f, fd, F.ok sc__law_rows_in (fun vs H Q E h => ?_) (fun cdv A outer s₀ H vs Q E hr h => ?_), gf, F.kp, bf⟩
  · obtain ⟨p, v, rfl, _⟩ := h; rfl
  · obtain ⟨p, v, rfl, dv, ok, hn, q⟩ := h
    refine ⟨_, (pss_cons (ps_if (pt_cmpR op_eq (pe_ix ix_tup (pv 0) pe_int (fun _ _ => rfl)) pe_str (nomark _))
      (pss_one (ps_ret (pe_callTy call_list_of (by rfl) T.n_list (by decide +kernel) (pa_cons (pe_ix ix_tup (pv 0) pe_int (fun _ _ => rfl)) pa_nil))))
      pss_nil)
      (pss_cons (ps_set (i := 1) sc__law_rows_in.nd rfl (Or.inl rfl) (pe_lst pa_nil))
      (C8.pss_cut (ps_if (pt_cmpR op_eq (pe_ix ix_tup (pv 0) pe_int (fun _ _ => rfl)) pe_str (nomark _))
      (pss_one (ps_for PassesOwn.never rfl (pi_tup (pe_ix ix_tup (pv 0) pe_int (fun _ _ => rfl))) (pg_name (i := 2) sc__law_rows_in.nd rfl (Or.inl rfl))
        (pss_one (ps_set (i := 1) sc__law_rows_in.nd rfl (Or.inl rfl) (pe_op L2.op_cat (pv 1) (pe_call G__law_rows_in hr (by rfl) g__law_rows_in k__law_rows_in b__law_rows_in .nil pass0 (pa_cons (pv 2) pa_nil)))))))
      pss_nil)
      (pss_one (ps_ret (pv 1)))))), ?_⟩
    cases p with
    | text co rows =>
      obtain ⟨a, b, rfl, hA, hB⟩ := pt_text dv
      refine ⟨_, rfl, a, _, _, _, rfl, rfl, hA, rfl, rfl, _, rfl, ite2 (fun _ => ?_) (fun cc => absurd (decide_eq_true rfl) cc)⟩
      refine ⟨_, rfl, a, _, _, _, rfl, rfl, hA, rfl, b, _, rfl, .inr hB, fun l hl => q l _ hl (same_new hl) ?_⟩
      unfold rowsP txP
      rw [upd_same]
      simp
    | data co bs =>
      obtain ⟨a, b, rfl, hA⟩ := pt_data dv
      refine ⟨_, rfl, a, _, _, _, rfl, rfl, hA, rfl, rfl, _, rfl, ite2 (fun cc => absurd (V.str.inj (of_decide_eq_true cc)) ne_td) (fun _ => ?_)⟩
      refine ⟨Nat.zero_le _, fun R hR => ?_⟩
      have n1 := same_new (o := HO.lst []) hR
      refine ⟨fun σ H' => σ = [some (.ref a), some (.ref R), none] ∧ H' = upd H R (.lst []), ?_, ?_⟩
      · exact ⟨_, rfl, a, _, _, _, rfl, rfl, n1.tup hA, rfl, rfl, _, rfl, ite2 (fun cc => absurd (V.str.inj (of_decide_eq_true cc)) ne_dp) (fun _ => ⟨rfl, rfl⟩)⟩
      rintro σ H' ⟨rfl, rfl⟩
      refine ⟨_, rfl, q R _ hR n1 ?_⟩
      unfold rowsP txP
      exact upd_same
    | parts ps =>
      obtain ⟨a, b, ws, rfl, hA, hB, dw⟩ := pt_parts dv
      have wl := dw.map_len
      refine ⟨_, rfl, a, _, _, _, rfl, rfl, hA, rfl, rfl, _, rfl, ite2 (fun cc => absurd (V.str.inj (of_decide_eq_true cc)) ne_tp) (fun _ => ?_)⟩
      refine ⟨Nat.zero_le _, fun R0 hR0 => ?_⟩
      have n1 := same_new (o := HO.lst []) hR0
      refine ⟨fun σ H' => ∃ (v2 : Option V) (R : Addr), σ = [some (.ref a), some (.ref R), v2] ∧ H R = none ∧ H' R = some (.lst ((ps.flatMap rowsP).map V.str)) ∧ Same H H', ?_, ?_⟩
      · refine ⟨_, rfl, a, _, _, _, rfl, rfl, n1.tup hA, rfl, rfl, _, rfl, ite2 (fun _ => ?_) (fun cc => absurd (decide_eq_true rfl) cc)⟩
        refine ⟨_, rfl, a, _, _, _, rfl, rfl, n1.tup hA, rfl, b, rfl, ⟨_, n1.tup hB⟩, ?_⟩
        refine for_tup (K := K) (a := b) (xs := ws) (fun i σ H' => ∃ (v2 : Option V) (R : Addr), σ = [some (.ref a), some (.ref R), v2] ∧ H R = none ∧ H' R = some (.lst (((ps.take i).flatMap rowsP).map V.str)) ∧ ((ps.take i).flatMap rowsP).length ≤ 10000 * i ∧ Same H H') ⟨none, R0, rfl, hR0, upd_same, Nat.le_refl _, n1⟩ (fun i σ H' _ h => by obtain ⟨_, _, _, _, _, _, m⟩ := h; exact m.tup hB) ?_ ?_
        · rintro i x σ H1 hi ⟨v2, R, rfl, hR, h1, l1, m1⟩
          obtain ⟨p, hp, dp⟩ := dw.map_get hi
          have okp := ok.2 p (List.mem_of_getElem? hp)
          have il := (List.getElem?_eq_some_iff.mp hp).1
          have pl := ok.1
          have few := (rowsP_few okp (by omega)).1
          refine ⟨_, rfl, _, rfl, p, x, rfl, dp.tk (TK.same m1), okp, by omega, fun r H2 hr2 m2 h2 => ?_⟩
          have h1' := m2 _ _ h1
          refine ⟨R, r, _, _, rfl, rfl, h1', h2, by rw [List.length_map, List.length_map]; exact Nat.le_trans (show _ ≤ 200000 by omega) (by decide), fun t ht => ?_⟩
          have m3 := (m1.trans m2)
          refine ⟨_, t, rfl, Same.free m3 ht, by rw [upd_same, rows_step hp, List.map_append], by rw [rows_step hp, List.length_append]; omega, m3.trans (same_new ht)⟩
        rintro σ H1 ⟨v2, R, rfl, hR, h1, l1, m1⟩
        rw [wl, List.take_length] at h1
        exact ⟨v2, R, rfl, hR, h1, m1⟩
      rintro σ H1 ⟨v2, R, rfl, hR, h1, m1⟩
      exact ⟨_, rfl, q R H1 hR m1 (by rw [rowsP_parts]; exact h1)⟩
end
theorem ok__law_rows_in {P : Program} {w : World} {K : PySem.W.Frag} {mg : Str → Option Value} {base : Heap} (D : Df K mg "_law_rows_in" s__law_rows_in ["part"]) (T : Tx mg) : ∀ n, Cal P w K mg base "_law_rows_in" ["part"] (n + 1) (sp70_rowsin K n) := by
  intro n
  induction n with
  | zero =>
    obtain ⟨f, fd, F, gf, bf⟩ := D
    exact ⟨f, fd, ⟨fun vs H Q E h => by obtain ⟨_, _, _, _, h, _⟩ := h; exact h.elim, fun A outer s H args us vs Q E _ _ _ _ h => by obtain ⟨_, _, _, _, h, _⟩ := h; exact h.elim⟩, gf, F.kp, bf⟩
  | succ n ih => exact ok__law_rows_in_step D T ih
def refsOf : List V → List Addr
  | [] => []
  | .ref a :: r => a :: refsOf r
  | _ :: r => refsOf r
theorem refsOf_app : ∀ us ws : List V, refsOf (us ++ ws) = refsOf us ++ refsOf ws
  | [], _ => rfl
  | v :: us, ws => by
    have := refsOf_app us ws
    cases v <;> simp [refsOf, this]
theorem LsAt.off {H : Hp} {s E : Addr} {o : HO} : ∀ {rs : List (List (List Nat))} {us : List V}, LsAt H s rs us → E ∉ refsOf us → LsAt (upd H E o) s rs us
  | [], _, h, _ => h
  | row :: r, _, h, n => by
    obtain ⟨a, t, rfl, ne, h1, h2⟩ := h
    have n1 : a ≠ E := fun e => n (by simp [refsOf, e])
    have n2 : E ∉ refsOf t := fun m => n (by simp [refsOf, m])
    exact ⟨a, t, rfl, ne, by rw [upd_ne n1]; exact h1, LsAt.off h2 n2⟩
section
variable {P : Program} {w : World} {K : PySem.W.Frag} {mg : Str → Option Value} {base : Heap}
theorem ok__law_split (D : Df K mg "_law_split" s__law_split ["notice"]) (T : Tx mg)  (C__law_rows_in : Cal P w K mg base "_law_rows_in" ["part"] 5 (sp70_rowsin K 4)) (C__law_words_in : Cal P w K mg base "_law_words_in" ["row"] 1 sp70_wordsin) : Cal P w K mg base "_law_split" ["notice"] 6 (sp70_split K) := by
  obtain ⟨f__law_rows_in, fd__law_rows_in, G__law_rows_in, g__law_rows_in, k__law_rows_in, b__law_rows_in⟩ := C__law_rows_in
  obtain ⟨f__law_words_in, fd__law_words_in, G__law_words_in, g__law_words_in, k__law_words_in, b__law_words_in⟩ := C__law_words_in
  obtain ⟨f, fd, F, gf, bf⟩ := D
  refine ⟨f, fd, F.ok sc__law_split (fun vs H Q E h => ?_) (fun cdv A outer s₀ H vs Q E hr h => ?_), gf, F.kp, bf⟩
  · obtain ⟨n, v, rfl, _⟩ := h; rfl
  · obtain ⟨n, v, rfl, nt, ok, q⟩ := h
    refine ⟨_, (pss_one (ps_ret (pe_lc (own := [("row", 1)]) (g := gName 1) (tt := tYes) rfl sc__law_split.nd (pi_list (pe_op L2.op_cat (pe_lst (pa_cons (pe_ix ix_tup (pv 0) pe_int (fun _ _ => rfl)) pa_nil)) (pe_call G__law_rows_in (hr.mono (by decide)) (by rfl) g__law_rows_in k__law_rows_in b__law_rows_in .nil pass0 (pa_cons (pe_ix ix_tup (pv 0) pe_int (fun _ _ => rfl)) pa_nil)))) (blkOk_by (own := [("row", 1)]) (N := N__law_split) (sc := defScope s__law_split) (by decide +kernel)) (fun _ _ _ _ _ => pg_name (i := 1) sc__law_split.nd rfl (Or.inl rfl)) (fun _ _ _ _ _ => pts_nil) (fun _ _ _ _ _ => (pe_call G__law_words_in (hr.mono (by decide)) (by rfl) g__law_words_in k__law_words_in b__law_words_in .nil pass0 (pa_cons (pv 1) pa_nil)))))), ?_⟩
    obtain ⟨a, v0, v1, v4, v6, v7, v8, u, rfl, hA, dv⟩ := nt
    obtain ⟨_, _, _, _, okp, sA, sl⟩ := id ok
    have few := rowsP_few okp (by decide)
    have small : ∀ n : Nat, n ≤ 30000 → n < sizeLine := fun n h => Nat.lt_of_le_of_lt h (by decide)
    refine ⟨_, rfl, a, _, _, _, rfl, rfl, hA, rfl, by show 1 ≤ sizeLine; decide, fun l hl => ?_⟩
    have n1 := same_new (o := HO.lst [V.str n.su]) hl
    refine ⟨_, rfl, a, _, _, _, rfl, rfl, n1.tup hA, rfl, n.bo, u, rfl, dv.tk (TK.same n1), okp, by decide, fun r H2 hr2 m2 h2 => ?_⟩
    refine ⟨l, r, _, _, rfl, rfl, m2 _ _ upd_same, h2, by rw [List.length_map]; exact Nat.le_of_lt (small _ (show 1 + _ ≤ _ by omega)), fun p hp => ?_⟩
    have n4 := same_new (o := HO.lst ([V.str n.su] ++ (rowsP n.bo).map V.str)) hp
    have hp4 : (upd H2 p (HO.lst ([V.str n.su] ++ (rowsP n.bo).map V.str))) p = some (.lst ((n.su :: rowsP n.bo).map V.str)) := upd_same
    have m4 := (n1.trans m2).trans n4
    generalize upd H2 p (HO.lst ([V.str n.su] ++ (rowsP n.bo).map V.str)) = H4 at hp4 m4
    refine ⟨p, rfl, ⟨_, SqL.of hp4⟩, fun E hE => ?_⟩
    refine lc_list (K := K) (a := p) (xs := (n.su :: rowsP n.bo).map V.str) (fun i H' => ∃ ws, H' E = some (.lst ws) ∧ (∀ s, (∃ o, H s = some o) → LsAt H' s (((n.su :: rowsP n.bo).take i).map fun x => words (tl x)) ws) ∧ ws.length = i ∧ E ∉ refsOf ws ∧ Same H4 H') ⟨[], upd_same, fun _ _ => rfl, rfl, by simp [refsOf], same_new hE⟩ (fun i H' _ h => by obtain ⟨_, _, _, _, _, m⟩ := h; exact m.seq (SqL.of hp4)) ?_ ?_
    · rintro i x H5 hi ⟨ws, h5, d5, wl5, ne5, m5⟩
      obtain ⟨z, hz, rfl⟩ := map_get hi
      have il := (List.getElem?_eq_some_iff.mp hz).1
      rw [List.length_cons] at il
      have zb : Asc (tl z) ∧ (tl z).length ≤ 130 := by
        rcases List.mem_cons.mp (List.mem_of_getElem? hz) with e | k
        · rw [e]; exact ⟨sA, sl⟩
        · exact few.2.2 z k
      refine ⟨rfl, _, rfl, z, rfl, zb.1, by omega, fun t H6 ht m6 h6 => ?_⟩
      have h5' := m6 _ _ h5
      have tE : t ≠ E := fun e => by rw [e, h5] at ht; cases ht
      refine ⟨_, h5', by rw [wl5]; exact small _ (by omega), ws ++ [V.ref t], upd_same, fun s hs => ?_, by rw [List.length_append, wl5]; rfl, ?_, sput (m5.trans m6) hE⟩
      · obtain ⟨os, hs'⟩ := hs
        have ts : t ≠ s := fun e => by rw [e, m5 _ _ (m4 _ _ hs')] at ht; cases ht
        have d6 := (d5 s ⟨os, hs'⟩).ext (Ext.of m6)
        rw [List.take_add_one, hz, List.map_append]
        refine LsAt.snoc (row := words (tl z)) ts (by rw [upd_ne tE]; exact h6) ?_
        exact d6.off ne5
      · rw [refsOf_app]
        intro m
        rcases List.mem_append.mp m with k | k
        · exact ne5 k
        · exact tE (by have : E = t := by simpa [refsOf] using k
                       exact this.symm)
    rintro H5 ⟨ws, h5, d5, _, _, m5⟩
    rw [List.length_map, List.take_length] at d5
    exact q E ws H5 (Same.free m4 hE) (m4.trans m5) h5 d5
end

end Z
namespace Z
open PySem L2 SX
theorem spl_none : ∀ {l acc : List Nat}, 64 ∉ l → TL.spl [64] 0 acc l = [acc ++ l]
  | [], acc, _ => by rw [TL.spl_nil, List.append_nil]
  | c :: r, acc, h => by
    have hc : c ≠ 64 := fun e => h (by simp [e])
    rw [TL.spl_miss (by simp [TL.pre]; exact fun e => hc e), spl_none (fun m => h (List.mem_cons_of_mem _ m)), List.append_assoc]; rfl
theorem spl_two : ∀ {l acc r : List Nat}, 64 ∉ l → 64 ∉ r → TL.spl [64] 0 acc (l ++ 64 :: r) = [acc ++ l, r]
  | [], acc, r, _, hr => by
    show TL.spl [64] 0 acc (64 :: r) = _
    rw [TL.spl_hit (by simp [TL.pre])]
    show acc :: TL.spl [64] 0 [] r = _
    rw [spl_none hr, List.append_nil]; rfl
  | c :: l, acc, r, h, hr => by
    have hc : c ≠ 64 := fun e => h (by simp [e])
    show TL.spl [64] 0 acc (c :: (l ++ 64 :: r)) = _
    rw [TL.spl_miss (by simp [TL.pre]; exact fun e => hc e), spl_two (fun m => h (List.mem_cons_of_mem _ m)) hr, List.append_assoc]; rfl
theorem split_au {n : Nt} (h : n.ok) : Txt.split n.au (Str.ofString "@") = [n.pe, n.pl] := by
  have e : Txt.split n.au (Str.ofString "@") = (TL.spl [64] 0 [] (tl n.au)).map S := split_S (a := tl n.au) (b := [64]) (by decide) (by decide)
  rw [e, tl_au, spl_two h.1 h.2.1, List.nil_append]
  show [S (tl n.pe), S (tl n.pl)] = _
  rw [S_tl, S_tl]
def nearX (row : List (List Nat)) (a b : List Nat) (k i : Nat) : Prop := ∃ x y, x < i ∧ row[x]? = some a ∧ row[y]? = some b ∧ x ≠ y ∧ x ≤ y + k ∧ y ≤ x + k
theorem nearX_all {row : List (List Nat)} {a b : List Nat} {k : Nat} : nearX row a b k row.length ↔ nearR row a b k :=
  ⟨fun ⟨x, y, _, h⟩ => ⟨x, y, h⟩, fun ⟨x, y, h1, h⟩ => ⟨x, y, (List.getElem?_eq_some_iff.mp h1).1, h1, h⟩⟩
theorem eqS2 {l : List Nat} {x : Str} : (V.str (S l) = V.str x) ↔ l = tl x := eqS
section
variable {P : Program} {w : World} {K : PySem.W.Frag} {mg : Str → Option Value} {base : Heap}
theorem ok__law_apart (D : Df K mg "_law_apart" s__law_apart ["rows", "one", "other", "most"]) (T : Tx mg)   : Cal P w K mg base "_law_apart" ["rows", "one", "other", "most"] 1 (sp70_apart K) := by
  obtain ⟨f, fd, F, gf, bf⟩ := D
  refine ⟨f, fd, F.ok sc__law_apart (fun vs H Q E h => ?_) (fun cdv A outer s₀ H vs Q E hr h => ?_), gf, F.kp, bf⟩
  · obtain ⟨s, r, us, rs, a, b, k, rfl, _⟩ := h; rfl
  · obtain ⟨s, r, us, rs, a, b, k, rfl, hr0, hL, rl, kl, q⟩ := h
    refine ⟨_, (pss_cons (ps_for PassesOwn.never rfl (pi_list (pv 0)) (pg_name (i := 4) sc__law_apart.nd rfl (Or.inl rfl))
      (pss_one (ps_for PassesOwn.never rfl (pi_range1 (by rfl) T.n_range (pa_cons (pe_callB call_len_seq (by rfl) T.n_len PySem.boot_len (pa_cons (pv 4) pa_nil)) pa_nil)) (pg_name (i := 5) sc__law_apart.nd rfl (Or.inl rfl))
        (pss_one (ps_for PassesOwn.never rfl (pi_range2 (by rfl) T.n_range (pa_cons (pe_callB (call_max2 rfl) (by rfl) T.n_max (by decide +kernel) (pa_cons pe_int (pa_cons (pe_op op_sub (pv 5) (pv 3)) pa_nil))) (pa_cons (pe_callB (call_min2 rfl) (by rfl) T.n_min (by decide +kernel) (pa_cons (pe_callB call_len_seq (by rfl) T.n_len PySem.boot_len (pa_cons (pv 4) pa_nil)) (pa_cons (pe_op op_add (pe_op op_add (pv 5) (pv 3)) pe_int) pa_nil))) pa_nil))) (pg_name (i := 6) sc__law_apart.nd rfl (Or.inl rfl))
          (pss_one (ps_if (PW.pt (pw_and (pt_cmpR op_ne (pv 6) (pv 5) (nomark _)) (pw_and (pt_cmpR op_eq (pe_ix ix_list (pv 4) (pv 5) (fun _ _ => rfl)) (pv 1) (nomark _)) (pw_and1 (pt_cmpR op_eq (pe_ix ix_list (pv 4) (pv 6) (fun _ _ => rfl)) (pv 2) (nomark _))))))
            (pss_one (ps_ret pe_bl))
            pss_nil)))))))
      (pss_one (ps_ret pe_bl))), ?_⟩
    refine ⟨_, rfl, r, rfl, ⟨_, SqL.of hr0⟩, ?_⟩
    refine for_list (K := K) (a := r) (xs := us) (fun i σ H' => (∃ v4 v5 v6 : Option V, σ = [some (.ref r), some (.str a), some (.str b), some (.int (k : Nat)), v4, v5, v6]) ∧ H' = H ∧ ¬ ∃ row ∈ rs.take i, nearR row (tl a) (tl b) k) ⟨⟨_, _, _, rfl⟩, rfl, fun ⟨_, h, _⟩ => by simp at h⟩ (fun i σ H' _ h => by rw [h.2.1]; exact SqL.of hr0) ?_ ?_
    · rintro i x σ H1 hi ⟨⟨v4, v5, v6, rfl⟩, rfl, nn⟩
      obtain ⟨row, ra, hrow, rfl, hra⟩ := hL.get hi
      have rm := List.mem_of_getElem? hrow
      have rlen := rl row rm
      have ll : ((row.map S).map V.str).length = row.length := by rw [List.length_map, List.length_map]
      have yes : nearR row (tl a) (tl b) k → Q (.bl true) H1 := fun h => q true _ (Same.refl _) ⟨fun _ => ⟨row, rm, h⟩, fun _ => rfl⟩
      refine ⟨_, rfl, ra, _, rfl, .inl (SqL.of hra), _, rfl, by rw [ll]; omega, by rw [ll]; omega, ?_⟩
      refine for_range (lo := 0) (n := ((((row.map S).map V.str).length : Nat) : Int).toNat) (fun x σ H' => (∃ v5 v6 : Option V, σ = [some (.ref r), some (.str a), some (.str b), some (.int (k : Nat)), some (.ref ra), v5, v6]) ∧ H' = H1 ∧ ¬ nearX row (tl a) (tl b) k x) ⟨⟨_, _, rfl⟩, rfl, fun ⟨x, _, h, _⟩ => by omega⟩ ?_ ?_
      · rintro x σ H2 hx ⟨⟨v5, v6, rfl⟩, rfl, nx⟩
        rw [Int.toNat_natCast, ll] at hx
        obtain ⟨w, hw⟩ : ∃ w, row[x]? = some w := ⟨_, List.getElem?_eq_getElem hx⟩
        have elo : (if (0 : Int) + ((x : Nat) : Int) - ((k : Nat) : Int) > 0 then (0 : Int) + ((x : Nat) : Int) - ((k : Nat) : Int) else 0) = ((x - k : Nat) : Int) := by split <;> omega
        have ehi : (if (0 : Int) + ((x : Nat) : Int) + ((k : Nat) : Int) + 1 < ((((row.map S).map V.str).length : Nat) : Int) then (0 : Int) + ((x : Nat) : Int) + ((k : Nat) : Int) + 1 else ((((row.map S).map V.str).length : Nat) : Int)) = ((min row.length (x + k + 1) : Nat) : Int) := by rw [ll]; split <;> omega
        have atx : ∀ (y : Nat) (u : List Nat), row[y]? = some u → atI ((row.map S).map V.str) (0 + ((y : Nat) : Int)) = some (.str (S u)) := fun y u h => atI_pos (by omega) (by rw [show ((0 : Int) + ((y : Nat) : Int)).toNat = y by omega, List.getElem?_map, List.getElem?_map, h]; rfl)
        refine ⟨_, rfl, _, rfl, _, _, rfl, rfl, _, _, rfl, _, rfl, ra, _, rfl, .inl (SqL.of hra), _, rfl, _, rfl, _, _, rfl, rfl, _, _, rfl, rfl, _, _, rfl, ((x - k : Nat) : Int), ((min row.length (x + k + 1) : Nat) : Int), ?_, ⟨by omega, by omega, by omega, by omega⟩, ?_⟩
        · show [V.int (if _ > _ then _ else _), V.int (if _ < _ then _ else _)] = _
          rw [elo, ehi]
        refine for_range (lo := ((x - k : Nat) : Int)) (n := (((min row.length (x + k + 1) : Nat) : Int) - ((x - k : Nat) : Int)).toNat) (fun y σ H' => (∃ v6 : Option V, σ = [some (.ref r), some (.str a), some (.str b), some (.int (k : Nat)), some (.ref ra), some (.int (0 + ((x : Nat) : Int))), v6]) ∧ H' = H2 ∧ ¬ ∃ z, x - k ≤ z ∧ z < x - k + y ∧ z ≠ x ∧ w = tl a ∧ row[z]? = some (tl b)) ⟨⟨_, rfl⟩, rfl, fun ⟨z, h1, h2, _⟩ => by omega⟩ ?_ ?_
        · rintro y σ H3 hy ⟨⟨v6, rfl⟩, rfl, ny⟩
          have ylt : x - k + y < row.length := by omega
          obtain ⟨u, hu⟩ : ∃ u, row[x - k + y]? = some u := ⟨_, List.getElem?_eq_getElem ylt⟩
          have au : atI ((row.map S).map V.str) (((x - k : Nat) : Int) + ((y : Nat) : Int)) = some (.str (S u)) := by
            rw [show ((x - k : Nat) : Int) + ((y : Nat) : Int) = 0 + ((x - k + y : Nat) : Int) by omega]
            exact atx _ _ hu
          have go : ¬ (x - k + y ≠ x ∧ w = tl a ∧ u = tl b) → (∃ v6 : Option V, [some (V.ref r), some (V.str a), some (V.str b), some (V.int (k : Nat)), some (V.ref ra), some (V.int (0 + ((x : Nat) : Int))), some (V.int (((x - k : Nat) : Int) + ((y : Nat) : Int)))] = [some (.ref r), some (.str a), some (.str b), some (.int (k : Nat)), some (.ref ra), some (.int (0 + ((x : Nat) : Int))), v6]) ∧ H3 = H3 ∧ ¬ ∃ z, x - k ≤ z ∧ z < x - k + (y + 1) ∧ z ≠ x ∧ w = tl a ∧ row[z]? = some (tl b) := fun h => by
            refine ⟨⟨_, rfl⟩, rfl, ?_⟩
            rintro ⟨z, h1, h2, h3, h4, h5⟩
            by_cases e : z = x - k + y
            · subst e
              rw [hu] at h5
              exact h ⟨h3, h4, Option.some.inj h5⟩
            · exact ny ⟨z, h1, by omega, h3, h4, h5⟩
          refine ⟨_, rfl, _, rfl, rfl, _, rfl, ?_⟩
          by_cases e1 : x - k + y = x
          · have : (!decide (V.int (((x - k : Nat) : Int) + ((y : Nat) : Int)) = V.int (0 + ((x : Nat) : Int)))) = false := by
              rw [decide_eq_true (congrArg V.int (by omega))]; rfl
            rw [this]
            exact iteF (iteF (go fun h => h.1 e1))
          · have : (!decide (V.int (((x - k : Nat) : Int) + ((y : Nat) : Int)) = V.int (0 + ((x : Nat) : Int)))) = true := by
              rw [decide_eq_false (fun h => e1 (by have := V.int.inj h; omega))]; rfl
            rw [this]
            refine iteT ?_
            refine ⟨_, rfl, _, rfl, ra, _, _, _, rfl, rfl, SqL.of hra, atx x w hw, _, rfl, rfl, _, rfl, ite2 (fun c2 => ?_) (fun c2 => iteF (go fun h => c2 (decide_eq_true (eqS.mpr h.2.1))))⟩
            refine ⟨_, rfl, _, rfl, ra, _, _, _, rfl, rfl, SqL.of hra, au, _, rfl, rfl, _, rfl, ite2 (fun c3 => ?_) (fun c3 => go fun h => c3 (decide_eq_true (eqS.mpr h.2.2)))⟩
            have e2 := eqS.mp (of_decide_eq_true c2)
            have e3 := eqS.mp (of_decide_eq_true c3)
            exact yes ⟨x, x - k + y, by rw [hw, e2], by rw [hu, e3], fun h => e1 h.symm, by omega, by omega⟩
        rintro σ H3 ⟨⟨v6, rfl⟩, rfl, ny⟩
        refine ⟨⟨_, _, rfl⟩, rfl, ?_⟩
        rintro ⟨x', y', h1, h2, h3, h4, h5, h6⟩
        by_cases e : x' = x
        · subst e
          rw [hw] at h2
          have yl := (List.getElem?_eq_some_iff.mp h3).1
          exact ny ⟨y', by omega, by omega, fun h => h4 h.symm, Option.some.inj h2, h3⟩
        · exact nx ⟨x', y', by omega, h2, h3, h4, h5, h6⟩
      rintro σ H2 ⟨⟨v5, v6, rfl⟩, rfl, nx⟩
      rw [Int.toNat_natCast, ll, nearX_all] at nx
      refine ⟨⟨_, _, _, rfl⟩, rfl, ?_⟩
      rintro ⟨row', hm, hn⟩
      rw [List.take_add_one, hrow] at hm
      rcases List.mem_append.mp hm with h | h
      · exact nn ⟨row', h, hn⟩
      · have : row' = row := by simpa using h
        rw [this] at hn
        exact nx hn
    rintro σ H1 ⟨⟨v4, v5, v6, rfl⟩, rfl, nn⟩
    rw [hL.len, List.take_length] at nn
    exact q false _ (Same.refl _) ⟨(fun h => by cases h), fun h => absurd h nn⟩
end
theorem bls_flat (bs : List Bool) : (bs.map V.bl).all flatV = true := by
  induction bs with
  | nil => rfl
  | cons b r ih => rw [List.map_cons, List.all_cons, ih]; rfl
theorem bls_in (bs : List Bool) : inV (V.bl true) (bs.map V.bl) = bs.any id := by
  induction bs with
  | nil => rfl
  | cons b r ih =>
    unfold inV at *
    rw [List.map_cons, List.any_cons, ih, List.any_cons]
    cases b <;> rfl
section
variable {P : Program} {w : World} {K : PySem.W.Frag} {mg : Str → Option Value} {base : Heap}
theorem ok__law_query_fits_step (D : Df K mg "_law_query_fits" s__law_query_fits ["query", "notice", "rows"]) (T : Tx mg)  {n : Nat} (C__law_apart : Cal P w K mg base "_law_apart" ["rows", "one", "other", "most"] 1 (sp70_apart K)) (C__law_query_fits : Cal P w K mg base "_law_query_fits" ["query", "notice", "rows"] (n + 1) (sp70_lfits K n)) : Cal P w K mg base "_law_query_fits" ["query", "notice", "rows"] (n + 2) (sp70_lfits K (n + 1)) := by
  obtain ⟨f__law_apart, fd__law_apart, G__law_apart, g__law_apart, k__law_apart, b__law_apart⟩ := C__law_apart
  obtain ⟨f__law_query_fits, fd__law_query_fits, G__law_query_fits, g__law_query_fits, k__law_query_fits, b__law_query_fits⟩ := C__law_query_fits
  obtain ⟨f, fd, F, gf, bf⟩ := D
  refine ⟨f, fd, F.ok sc__law_query_fits (fun vs H Q E h => ?_) (fun cdv A outer s₀ H vs Q E hr h => ?_), gf, F.kp, bf⟩
  · obtain ⟨s, q0, m, v, u, r, us, rfl, _⟩ := h; rfl
  · obtain ⟨s, q0, m, v, u, r, us, rfl, dq, okq, nt, ok, hR, hL, q⟩ := h
    refine ⟨_, (pss_cons (ps_set (i := 3) sc__law_query_fits.nd rfl (Or.inl rfl) (pe_ix ix_tup (pv 0) pe_int (fun _ _ => rfl)))
      (pss_cons (ps_if (pt_cmpR op_eq (pv 3) pe_str (nomark _))
      (pss_one (ps_ret (pe_not (pe_call G__law_query_fits hr (by rfl) g__law_query_fits k__law_query_fits b__law_query_fits .nil pass0 (pa_cons (pe_ix ix_tup (pv 0) pe_int (fun _ _ => rfl)) (pa_cons (pv 1) (pa_cons (pv 2) pa_nil)))))))
      pss_nil)
      (pss_cons (ps_if (pt_cmpR op_eq (pv 3) pe_str (nomark _))
      (pss_one (ps_ret (pe_and (pe_call G__law_query_fits hr (by rfl) g__law_query_fits k__law_query_fits b__law_query_fits .nil pass0 (pa_cons (pe_ix ix_tup (pv 0) pe_int (fun _ _ => rfl)) (pa_cons (pv 1) (pa_cons (pv 2) pa_nil)))) (pe_one (pe_call G__law_query_fits hr (by rfl) g__law_query_fits k__law_query_fits b__law_query_fits .nil pass0 (pa_cons (pe_ix ix_tup (pv 0) pe_int (fun _ _ => rfl)) (pa_cons (pv 1) (pa_cons (pv 2) pa_nil))))))))
      pss_nil)
      (pss_cons (ps_if (pt_cmpR op_eq (pv 3) pe_str (nomark _))
      (pss_one (ps_ret (pe_or (pe_call G__law_query_fits hr (by rfl) g__law_query_fits k__law_query_fits b__law_query_fits .nil pass0 (pa_cons (pe_ix ix_tup (pv 0) pe_int (fun _ _ => rfl)) (pa_cons (pv 1) (pa_cons (pv 2) pa_nil)))) (pe_one (pe_call G__law_query_fits hr (by rfl) g__law_query_fits k__law_query_fits b__law_query_fits .nil pass0 (pa_cons (pe_ix ix_tup (pv 0) pe_int (fun _ _ => rfl)) (pa_cons (pv 1) (pa_cons (pv 2) pa_nil))))))))
      pss_nil)
      (pss_cons (ps_if (pt_cmpR op_eq (pv 3) pe_str (nomark _))
      (pss_one (ps_ret (pe_cmpR op_lt (pe_ix ix_tup (pv 1) pe_int (fun _ _ => rfl)) (pe_ix ix_tup (pv 0) pe_int (fun _ _ => rfl)) (nomark _))))
      pss_nil)
      (pss_cons (ps_if (pt_cmpR op_eq (pv 3) pe_str (nomark _))
      (pss_cons (ps_set (i := 4) sc__law_query_fits.nd rfl (Or.inl rfl) (pe_split (pe_ix ix_tup (pv 1) pe_int (fun _ _ => rfl)) pe_str))
        (pss_one (ps_ret (pe_and (pe_cmpR op_in_seq (pe_ix ix_tup (pv 0) pe_int (fun _ _ => rfl)) (pe_tup (pa_cons pe_str (pa_cons (pe_ix ix_list (pv 4) pe_int (fun _ _ => rfl)) pa_nil))) (by rfl)) (pe_one (pe_cmpR op_in_seq (pe_ix ix_tup (pv 0) pe_int (fun _ _ => rfl)) (pe_tup (pa_cons pe_str (pa_cons (pe_ix ix_list (pv 4) pe_int (fun _ _ => rfl)) pa_nil))) (by rfl)))))))
      pss_nil)
      (pss_cons (ps_if (pt_cmpR op_eq (pv 3) pe_str (nomark _))
      (pss_one (ps_ret (pe_cmpR op_in_seq pe_bl (pe_lc (own := [("row", 5)]) (g := gName 5) (tt := tYes) rfl sc__law_query_fits.nd (pi_list (pv 2)) (blkOk_by (own := [("row", 5)]) (N := N__law_query_fits) (sc := defScope s__law_query_fits) (by decide +kernel)) (fun _ _ _ _ _ => pg_name (i := 5) sc__law_query_fits.nd rfl (Or.inl rfl)) (fun _ _ _ _ _ => pts_nil) (fun _ _ _ _ _ => (pe_cmpR (in_seqQ (K := K) rfl) (pe_ix (ix_tupQ (K := K) rfl) (pv 0) pe_int (fun _ _ => rfl)) (pv 5) (by rfl)))) (by rfl))))
      pss_nil)
      (pss_one (ps_ret (pe_call G__law_apart (hr.mono (by omega)) (by rfl) g__law_apart k__law_apart b__law_apart .nil pass0 (pa_cons (pv 2) (pa_cons (pe_ix ix_tup (pv 0) pe_int (fun _ _ => rfl)) (pa_cons (pe_ix ix_tup (pv 0) pe_int (fun _ _ => rfl)) (pa_cons (pe_ix ix_tup (pv 0) pe_int (fun _ _ => rfl)) pa_nil)))))))))))))), ?_⟩
    have small : ∀ n : Nat, n ≤ 30000 → n < sizeLine := fun n h => Nat.lt_of_le_of_lt h (by decide)
    have few := rowsN_few ok
    obtain ⟨na, v0, v1, v4, v6, v7, v8, bu, rfl, hN, dv⟩ := id nt
    have keep : ∀ {H' : Hp}, Same H H' → H' r = some (.lst us) ∧ LsAt H' s (rowsN m) us := fun mm => ⟨mm _ _ hR, hL.ext (Ext.of mm)⟩
    cases q0 with
    | word w =>
      obtain ⟨a, rfl, hA⟩ := q_word dq
      refine ⟨_, rfl, a, _, _, _, rfl, rfl, hA, rfl, _, rfl, rfl, _, rfl, ite2 (fun cc => absurd (V.str.inj (of_decide_eq_true cc)) (by decide +kernel)) (fun _ => ?_)⟩
      refine ⟨_, rfl, rfl, _, rfl, ite2 (fun cc => absurd (V.str.inj (of_decide_eq_true cc)) (by decide +kernel)) (fun _ => ?_)⟩
      refine ⟨_, rfl, rfl, _, rfl, ite2 (fun cc => absurd (V.str.inj (of_decide_eq_true cc)) (by decide +kernel)) (fun _ => ?_)⟩
      refine ⟨_, rfl, rfl, _, rfl, ite2 (fun cc => absurd (V.str.inj (of_decide_eq_true cc)) (by decide +kernel)) (fun _ => ?_)⟩
      refine ⟨_, rfl, rfl, _, rfl, ite2 (fun cc => absurd (V.str.inj (of_decide_eq_true cc)) (by decide +kernel)) (fun _ => ?_)⟩
      refine ⟨_, rfl, rfl, _, rfl, ite2 (fun _ => ?_) (fun cc => absurd (decide_eq_true rfl) cc)⟩
      refine ⟨_, rfl, r, rfl, ⟨_, SqL.of hR⟩, fun D hD => ?_⟩
      refine lc_list (K := K) (a := r) (xs := us) (fun i H' => ∃ bs : List Bool, H' D = some (.lst (bs.map V.bl)) ∧ (bs.any id = true ↔ ∃ row ∈ (rowsN m).take i, tl w ∈ row) ∧ bs.length = i ∧ Same H H') ⟨[], upd_same, by simp, rfl, same_new hD⟩ (fun i H' _ h => by obtain ⟨_, _, _, _, mm⟩ := h; exact mm.seq (SqL.of hR)) ?_ ?_
      · rintro i x H' hi ⟨bs, h1, hb, bl, m1⟩
        obtain ⟨row, ra, hrow, rfl, hra⟩ := hL.get hi
        have il := (List.getElem?_eq_some_iff.mp hrow).1
        refine ⟨rfl, _, rfl, a, _, _, _, rfl, rfl, m1.tup hA, rfl, _, rfl, ra, _, rfl, .inl (SqL.of (m1 _ _ hra)), rfl, flat_strs _, _, h1, by rw [List.length_map]; exact small _ (by omega), bs ++ [inV (V.str w) ((row.map S).map V.str)], by rw [upd_same, List.map_append]; rfl, any_snoc hb hrow ?_, by rw [List.length_append, bl]; rfl, sput m1 hD⟩
        rw [inV_S, decide_eq_true_iff]
      rintro H' ⟨bs, h1, hb, bl, m1⟩
      rw [hL.len, List.take_length] at hb
      refine ⟨D, _, rfl, .inl (SqL.of h1), rfl, bls_flat bs, q _ H' m1 ?_⟩
      show inV (V.bl true) (bs.map V.bl) = true ↔ _
      rw [bls_in]
      exact hb
    | near x y k =>
      obtain ⟨a, rfl, hA⟩ := q_near dq
      refine ⟨_, rfl, a, _, _, _, rfl, rfl, hA, rfl, _, rfl, rfl, _, rfl, ite2 (fun cc => absurd (V.str.inj (of_decide_eq_true cc)) (by decide +kernel)) (fun _ => ?_)⟩
      refine ⟨_, rfl, rfl, _, rfl, ite2 (fun cc => absurd (V.str.inj (of_decide_eq_true cc)) (by decide +kernel)) (fun _ => ?_)⟩
      refine ⟨_, rfl, rfl, _, rfl, ite2 (fun cc => absurd (V.str.inj (of_decide_eq_true cc)) (by decide +kernel)) (fun _ => ?_)⟩
      refine ⟨_, rfl, rfl, _, rfl, ite2 (fun cc => absurd (V.str.inj (of_decide_eq_true cc)) (by decide +kernel)) (fun _ => ?_)⟩
      refine ⟨_, rfl, rfl, _, rfl, ite2 (fun cc => absurd (V.str.inj (of_decide_eq_true cc)) (by decide +kernel)) (fun _ => ?_)⟩
      refine ⟨_, rfl, rfl, _, rfl, ite2 (fun cc => absurd (V.str.inj (of_decide_eq_true cc)) (by decide +kernel)) (fun _ => ?_)⟩
      exact ⟨_, rfl, _, rfl, a, _, _, _, rfl, rfl, hA, rfl, _, rfl, a, _, _, _, rfl, rfl, hA, rfl, _, rfl, a, _, _, _, rfl, rfl, hA, rfl, s, r, us, rowsN m, x, y, k, rfl, hR, hL, few.2, okq, q⟩
    | by_ x y =>
      obtain ⟨a, rfl, hA⟩ := q_by dq
      refine ⟨_, rfl, a, _, _, _, rfl, rfl, hA, rfl, _, rfl, rfl, _, rfl, ite2 (fun cc => absurd (V.str.inj (of_decide_eq_true cc)) (by decide +kernel)) (fun _ => ?_)⟩
      refine ⟨_, rfl, rfl, _, rfl, ite2 (fun cc => absurd (V.str.inj (of_decide_eq_true cc)) (by decide +kernel)) (fun _ => ?_)⟩
      refine ⟨_, rfl, rfl, _, rfl, ite2 (fun cc => absurd (V.str.inj (of_decide_eq_true cc)) (by decide +kernel)) (fun _ => ?_)⟩
      refine ⟨_, rfl, rfl, _, rfl, ite2 (fun cc => absurd (V.str.inj (of_decide_eq_true cc)) (by decide +kernel)) (fun _ => ?_)⟩
      refine ⟨_, rfl, rfl, _, rfl, ite2 (fun _ => ?_) (fun cc => absurd (decide_eq_true rfl) cc)⟩
      refine ⟨_, rfl, na, _, _, _, rfl, rfl, hN, rfl, ⟨_, rfl⟩, m.au, Str.ofString "@", rfl, rfl, rfl, Nat.le_of_lt (small _ (by have := au_len ok; omega)), fun B hB => ?_⟩
      rw [split_au ok]
      have m1 := same_new (o := HO.lst ([m.pe, m.pl].map V.str)) hB
      have hB1 : (upd H B (HO.lst ([m.pe, m.pl].map V.str))) B = some (.lst [V.str m.pe, V.str m.pl]) := upd_same
      have hA1 := m1.tup hA
      generalize upd H B (HO.lst ([m.pe, m.pl].map V.str)) = H1 at m1 hB1 hA1
      refine ⟨_, rfl, a, _, _, _, rfl, rfl, hA1, rfl, _, rfl, B, _, _, _, rfl, rfl, SqL.of hB1, rfl, by show 2 ≤ sizeLine; decide, fun t ht => ⟨t, _, rfl, .inr (SqT.of upd_same), rfl, rfl, _, rfl, ?_⟩⟩
      have n2 := same_new (o := HO.tup [V.str (Str.ofString "*"), V.str m.pe]) ht
      refine ite2 (fun c1 => ?_) (fun c1 => q false _ (m1.trans n2) ⟨(fun h => by cases h), fun h => absurd ?_ c1⟩)
      · have c1' : x = star ∨ x = m.pe := by
          have : inV (V.str x) [V.str star, V.str m.pe] = true := c1
          rw [in2] at this
          exact of_decide_eq_true this
        refine ⟨_, rfl, a, _, _, _, rfl, rfl, n2.tup hA1, rfl, _, rfl, B, _, _, _, rfl, rfl, SqL.of (n2 _ _ hB1), rfl, by show 2 ≤ sizeLine; decide, fun b hb => ⟨b, _, rfl, .inr (SqT.of upd_same), rfl, rfl, ?_⟩⟩
        have m3 := (m1.trans n2).trans (same_new (o := HO.tup [V.str (Str.ofString "*"), V.str m.pl]) hb)
        refine q _ _ m3 ?_
        show inV (V.str y) [V.str star, V.str m.pl] = true ↔ _
        rw [in2, decide_eq_true_iff]
        exact ⟨fun h => ⟨c1', h⟩, fun h => h.2⟩
      · show inV (V.str x) [V.str star, V.str m.pe] = true
        rw [in2] <;> exact decide_eq_true h.1
    | before d =>
      obtain ⟨a, rfl, hA⟩ := q_before dq
      refine ⟨_, rfl, a, _, _, _, rfl, rfl, hA, rfl, _, rfl, rfl, _, rfl, ite2 (fun cc => absurd (V.str.inj (of_decide_eq_true cc)) (by decide +kernel)) (fun _ => ?_)⟩
      refine ⟨_, rfl, rfl, _, rfl, ite2 (fun cc => absurd (V.str.inj (of_decide_eq_true cc)) (by decide +kernel)) (fun _ => ?_)⟩
      refine ⟨_, rfl, rfl, _, rfl, ite2 (fun cc => absurd (V.str.inj (of_decide_eq_true cc)) (by decide +kernel)) (fun _ => ?_)⟩
      refine ⟨_, rfl, rfl, _, rfl, ite2 (fun _ => ?_) (fun cc => absurd (decide_eq_true rfl) cc)⟩
      exact ⟨_, rfl, na, _, _, _, rfl, rfl, hN, rfl, _, rfl, a, _, _, _, rfl, rfl, hA, rfl, _, _, rfl, rfl, q _ H (Same.refl _) decide_eq_true_iff⟩
    | not q1 =>
      obtain ⟨a, u1, rfl, hA, d1⟩ := q_not dq
      refine ⟨_, rfl, a, _, _, _, rfl, rfl, hA, rfl, _, rfl, rfl, _, rfl, ite2 (fun _ => ?_) (fun cc => absurd (decide_eq_true rfl) cc)⟩
      refine ⟨_, rfl, a, _, _, _, rfl, rfl, hA, rfl, _, rfl, _, rfl, s, q1, m, u1, _, r, us, rfl, d1, okq, nt, ok, hR, hL, fun c H' mm hc => ⟨c, rfl, q (!c) H' mm ?_⟩⟩
      show (!c) = true ↔ ¬ semQ m q1
      rw [← hc]
      cases c <;> simp
    | and q1 q2 =>
      obtain ⟨a, u1, u2, rfl, hA, d1, d2⟩ := q_and dq
      refine ⟨_, rfl, a, _, _, _, rfl, rfl, hA, rfl, _, rfl, rfl, _, rfl, ite2 (fun cc => absurd (V.str.inj (of_decide_eq_true cc)) (by decide +kernel)) (fun _ => ?_)⟩
      refine ⟨_, rfl, rfl, _, rfl, ite2 (fun _ => ?_) (fun cc => absurd (decide_eq_true rfl) cc)⟩
      refine ⟨_, rfl, a, _, _, _, rfl, rfl, hA, rfl, _, rfl, _, rfl, s, q1, m, u1, _, r, us, rfl, d1, okq.1, nt, ok, hR, hL, fun c H' mm hc => ⟨c, rfl, ite2 (fun h => ?_) (fun h => q false H' mm ⟨(fun h => by cases h), fun k => absurd (hc.mpr k.1) h⟩)⟩⟩
      refine ⟨_, rfl, a, _, _, _, rfl, rfl, mm.tup hA, rfl, _, rfl, _, rfl, s, q2, m, u2, _, r, us, rfl, d2.tk (TK.same mm), okq.2, nt.tk (TK.same mm), ok, (keep mm).1, (keep mm).2, fun c2 H2 mm2 hc2 => q c2 H2 (mm.trans mm2) ?_⟩
      rw [hc2]
      exact ⟨fun k => ⟨hc.mp h, k⟩, fun k => k.2⟩
    | or q1 q2 =>
      obtain ⟨a, u1, u2, rfl, hA, d1, d2⟩ := q_or dq
      refine ⟨_, rfl, a, _, _, _, rfl, rfl, hA, rfl, _, rfl, rfl, _, rfl, ite2 (fun cc => absurd (V.str.inj (of_decide_eq_true cc)) (by decide +kernel)) (fun _ => ?_)⟩
      refine ⟨_, rfl, rfl, _, rfl, ite2 (fun cc => absurd (V.str.inj (of_decide_eq_true cc)) (by decide +kernel)) (fun _ => ?_)⟩
      refine ⟨_, rfl, rfl, _, rfl, ite2 (fun _ => ?_) (fun cc => absurd (decide_eq_true rfl) cc)⟩
      refine ⟨_, rfl, a, _, _, _, rfl, rfl, hA, rfl, _, rfl, _, rfl, s, q1, m, u1, _, r, us, rfl, d1, okq.1, nt, ok, hR, hL, fun c H' mm hc => ⟨c, rfl, ite2 (fun h => q true H' mm ⟨fun _ => .inl (hc.mp h), fun _ => rfl⟩) (fun h => ?_)⟩⟩
      refine ⟨_, rfl, a, _, _, _, rfl, rfl, mm.tup hA, rfl, _, rfl, _, rfl, s, q2, m, u2, _, r, us, rfl, d2.tk (TK.same mm), okq.2, nt.tk (TK.same mm), ok, (keep mm).1, (keep mm).2, fun c2 H2 mm2 hc2 => q c2 H2 (mm.trans mm2) ?_⟩
      rw [hc2]
      exact ⟨fun k => .inr k, fun k => k.resolve_left fun k1 => h (hc.mpr k1)⟩
end
theorem ok__law_query_fits {P : Program} {w : World} {K : PySem.W.Frag} {mg : Str → Option Value} {base : Heap} (D : Df K mg "_law_query_fits" s__law_query_fits ["query", "notice", "rows"]) (T : Tx mg) (C__law_apart : Cal P w K mg base "_law_apart" ["rows", "one", "other", "most"] 1 (sp70_apart K)) : ∀ n, Cal P w K mg base "_law_query_fits" ["query", "notice", "rows"] (n + 1) (sp70_lfits K n) := by
  intro n
  induction n with
  | zero =>
    obtain ⟨f, fd, F, gf, bf⟩ := D
    exact ⟨f, fd, ⟨fun vs H Q E h => by obtain ⟨_, _, _, _, _, _, _, _, _, h, _⟩ := h; exact h.elim, fun A outer s H args us vs Q E _ _ _ _ h => by obtain ⟨_, _, _, _, _, _, _, _, _, h, _⟩ := h; exact h.elim⟩, gf, F.kp, bf⟩
  | succ n ih => exact ok__law_query_fits_step D T C__law_apart ih

end Z
namespace Z
open PySem L2 SX
section
variable {P : Program} {w : World} {K : PySem.W.Frag} {mg : Str → Option Value} {base : Heap}
theorem ok_Index____init__ {A_Index : Addr} (D : DfI K A_Index "Index.__init__" s_Index____init__ ["self"]) (T : Tx mg) (O : To K mg A_Index)   : CalI P w K mg base A_Index ["self"] 1 (sp71_init K A_Index) := by
  obtain ⟨f, fd, F, gf, bf⟩ := D
  refine ⟨f, fd, F.ok sc_Index____init__ (fun vs H Q E h => ?_) (fun cdv A outer s₀ H vs Q E hr h => ?_), gf, bf⟩
  · obtain ⟨p, dx, rfl, _⟩ := h; rfl
  · obtain ⟨p, dx, rfl, hp, q⟩ := h
    refine ⟨_, (pss_one (ps_fld (pv 0) pe_dnewT rfl)), ?_⟩
    refine fun d hd => ⟨_, rfl, ?_⟩
    have pd : p ≠ d := ne_of_none hp hd
    refine ⟨p, A_Index, dx, _, rfl, by rw [upd_ne pd]; exact hp, O.c_Index, O.n_Index_entries, by decide, ?_⟩
    refine q d _ hd (fun b o nb hb => ?_) upd_same (by rw [upd_ne pd.symm]; exact upd_same)
    have b1 : b ≠ p := fun e => nb (by rw [e]; simp)
    rw [upd_ne b1, upd_ne (ne_of_none hb hd)]; exact hb
end
section
variable {P : Program} {w : World} {K : PySem.W.Frag} {mg : Str → Option Value} {base : Heap}
theorem ok_Index__put {A_Index : Addr} (D : DfM K A_Index "put" "Index.put" s_Index__put ["self", "notice"]) (T : Tx mg) (O : To K mg A_Index)  (C_rows_of_words : Cal P w K mg base "rows_of_words" ["notice"] 6 (sp70_rows K)) : CalM P w K mg base A_Index "put" ["self", "notice"] 7 (sp71_iput K A_Index) := by
  obtain ⟨f_rows_of_words, fd_rows_of_words, G_rows_of_words, g_rows_of_words, k_rows_of_words, b_rows_of_words⟩ := C_rows_of_words
  obtain ⟨f, fd, F, gf, bf⟩ := D
  refine ⟨f, fd, F.ok sc_Index__put (fun vs H Q E h => ?_) (fun cdv A outer s₀ H vs Q E hr h => ?_), gf, bf⟩
  · obtain ⟨p, d, dx, es, kvs, e, rfl, _⟩ := h; rfl
  · obtain ⟨p, d, dx, es, kvs, e, rfl, hp, hd, ev, el, ni, ok, q⟩ := h
    refine ⟨_, (pss_one (ps_if (pt_cmp (pc_dnotin (hu_of hr) (pe_ix ix_tup (pv 1) pe_int (fun _ _ => rfl)) (pe_fld (pv 0) rfl)))
      (pss_one (ps_dput (hu_of hr) (pe_fld (pv 0) rfl) (pe_ix ix_tup (pv 1) pe_int (fun _ _ => rfl)) (pe_tup (pa_cons (pv 1) (pa_cons (pe_call G_rows_of_words (hr.mono (by decide)) (by rfl) g_rows_of_words k_rows_of_words b_rows_of_words .nil pass0 (pa_cons (pv 1) pa_nil)) pa_nil))) rfl))
      pss_nil)), ?_⟩
    have small : ∀ n : Nat, n ≤ 30000 → n < sizeLine := fun n h => Nat.lt_of_le_of_lt h (by decide)
    obtain ⟨na, v0, v4, v6, v7, v8, bu, ev0, hN, dv, ht⟩ := id ni
    rw [ev0]
    refine ⟨_, rfl, na, _, _, _, rfl, rfl, hN, rfl, _, rfl, p, A_Index, dx, _, _, rfl, hp, O.c_Index, O.n_Index_entries, rfl, d, _, rfl, DGet.t (k := idk e.nm e.k) hd ht, _, rfl, ?_⟩
    have hk := ev.has (k := e.key)
    cases hc : (valV kvs (idk e.nm e.k)).isSome with
    | true =>
      have hin : putP es e = es := by
        unfold putP
        rw [if_pos (any_key.mpr (hk.mp hc))]
      exact iteF (q kvs H (ExtL.refl _ _) TT.refl hd (by rw [hin]; exact ev))
    | false =>
      have hin : putP es e = es ++ [e] := by
        unfold putP
        rw [if_neg (fun z => by
          have := hk.mpr (any_key.mp z)
          rw [show valV kvs e.key = valV kvs (idk e.nm e.k) from rfl, hc] at this
          cases this)]
      have hv : valV kvs (idk e.nm e.k) = none := Option.isSome_eq_false_iff.mp hc |> Option.isNone_iff_eq_none.mp
      refine iteT ⟨_, rfl, _, rfl, e.n, _, rfl, (ev0 ▸ ni.nt), ok, fun r us H1 m1 h1 d1 => ?_⟩
      refine ⟨by show 2 ≤ sizeLine; decide, fun b hb => ?_⟩
      have m2 := same_new (o := HO.tup [V.ref na, V.ref r]) hb
      have mm := m1.trans m2
      have hd2 := mm _ _ hd
      refine ⟨_, rfl, p, A_Index, dx, _, _, rfl, mm _ _ hp, O.c_Index, O.n_Index_entries, rfl, _, rfl, na, _, _, _, rfl, rfl, mm.tup hN, rfl, d, _, rfl, DPut.t (k := idk e.nm e.k) hd2 (mm _ _ ht) (small _ (by rw [ev.len]; omega)), ?_⟩
      rw [putK_new _ hv]
      have T3 : TT K (upd H1 b (HO.tup [V.ref na, V.ref r])) (upd (upd H1 b (HO.tup [V.ref na, V.ref r])) d (.dT (kvs ++ [(idk e.nm e.k, V.ref b)]))) := TT.over hd2 (fun _ e => by cases e) (fun _ _ e => by cases e)
      have T := (TT.same (K := K) mm).trans T3
      refine q _ _ ((ExtL.of mm).trans (ExtL.put (by simp))) T upd_same ?_
      rw [hin]
      exact (ev.tk T.1).snoc ⟨rfl, b, r, us, rfl, by rw [ev0]; exact T3.1 _ _ (SqT.of upd_same), T3.1 _ _ (m2.tup h1), (d1.tk (TK.same m2)).tk T3.1⟩
end
section
variable {P : Program} {w : World} {K : PySem.W.Frag} {mg : Str → Option Value} {base : Heap}
theorem ok_Index__drop {A_Index : Addr} (D : DfM K A_Index "drop" "Index.drop" s_Index__drop ["self", "id"]) (T : Tx mg) (O : To K mg A_Index)   : CalM P w K mg base A_Index "drop" ["self", "id"] 1 (sp71_idrop K A_Index) := by
  obtain ⟨f, fd, F, gf, bf⟩ := D
  refine ⟨f, fd, F.ok sc_Index__drop (fun vs H Q E h => ?_) (fun cdv A outer s₀ H vs Q E hr h => ?_), gf, bf⟩
  · obtain ⟨p, d, dx, t, es, kvs, nm, k, rfl, _⟩ := h; rfl
  · obtain ⟨p, d, dx, t, es, kvs, nm, k, rfl, hp, hd, ev, ht, q⟩ := h
    refine ⟨_, (pss_one (ps_expr (pe_bm PySem.F.plainAttrs_dict PySem.F.slot_dict_pop PySem.F.type_dict_pop (L2.DX.mt_popT (hu_of hr)) (pe_fld (pv 0) rfl) (pa_cons (pv 1) (pa_cons pe_non pa_nil))))), ?_⟩
    have ev2 := ev.drop (k := idk nm k)
    refine ⟨_, rfl, p, A_Index, dx, _, _, rfl, hp, O.c_Index, O.n_Index_entries, rfl, .inr (.inr (.inl ⟨rfl, .inr ⟨kvs, hd⟩⟩)), _, rfl, d, kvs, idk nm k, t, .non, rfl, rfl, hd, ht, fun v hv => ?_, fun hv => ?_⟩
    · have T : TT K H (upd H d (.dT (dropK kvs (idk nm k)))) := TT.over hd (fun _ e => by cases e) (fun _ _ e => by cases e)
      exact q _ _ (ExtL.put (by simp)) T upd_same (ev2.tk T.1)
    · have hn : ∀ e ∈ es, e.key ≠ idk nm k := fun e m z => by
        have := (ev.has (k := idk nm k)).mpr (by rw [← z]; exact List.mem_map_of_mem m)
        rw [hv] at this
        cases this
      exact q kvs H (ExtL.refl _ _) TT.refl hd (by rw [dropP_none hn]; exact ev)
end
section
variable {P : Program} {w : World} {K : PySem.W.Frag} {mg : Str → Option Value} {base : Heap}
theorem ok_Index__found {A_Index : Addr} (D : DfM K A_Index "found" "Index.found" s_Index__found ["self", "query"]) (T : Tx mg) (O : To K mg A_Index)  (C_fits_rows : Cal P w K mg base "fits_rows" ["query", "notice", "rows"] 17 (sp70_fitsr K 14)) : CalM P w K mg base A_Index "found" ["self", "query"] 18 (sp71_ifound K A_Index) := by
  obtain ⟨f_fits_rows, fd_fits_rows, G_fits_rows, g_fits_rows, k_fits_rows, b_fits_rows⟩ := C_fits_rows
  obtain ⟨f, fd, F, gf, bf⟩ := D
  refine ⟨f, fd, F.ok sc_Index__found (fun vs H Q E h => ?_) (fun cdv A outer s₀ H vs Q E hr h => ?_), gf, bf⟩
  · obtain ⟨M, p, d, i, es, q0, v, rfl, _⟩ := h; rfl
  · obtain ⟨M, p, d, i, es, q0, v, rfl, ix, el, dq, okq, q⟩ := h
    refine ⟨_, (pss_cons (ps_set (i := 2) sc_Index__found.nd rfl (Or.inl rfl) (pe_callTy (cr_listValsT rfl) (by rfl) T.n_list (by decide +kernel) (pa_cons (pe_bm0 PySem.F.plainAttrs_dict PySem.F.slot_dict_values PySem.F.type_dict_values mt_valuesT (pe_fld (pv 0) rfl)) pa_nil)))
      (pss_cons (ps_setLc (i := 3) (own := [("notice", 4), ("rows", 5)]) (g := gTup K 2 (gCons (gName 4) (gCons (gName 5) gNil))) rfl sc_Index__found.nd rfl rfl (sw_true rfl rfl rfl (by decide +kernel)) (pi_list (pv 2)) (blkOk_by (own := [("notice", 4), ("rows", 5)]) (N := N_Index__found) (sc := defScope s_Index__found) (by decide +kernel)) (fun _ _ _ _ _ => (pg_tup rfl (pgs_cons (pg_name (i := 4) sc_Index__found.nd rfl (Or.inl rfl)) (pgs_cons (pg_name (i := 5) sc_Index__found.nd rfl (Or.inl rfl)) pgs_nil)))) (fun _ _ _ _ _ => pts_one (pt_val (pe_call G_fits_rows (hr.mono (by decide)) (by rfl) g_fits_rows k_fits_rows b_fits_rows .nil pass0 (pa_cons (pv 1) (pa_cons (pv 4) (pa_cons (pv 5) pa_nil)))))) (fun _ _ _ _ _ => (pe_tup (pa_cons (pe_ix (ix_tupQ (K := K) rfl) (pv 4) pe_int (fun _ _ => rfl)) (pa_cons (pe_ix (ix_tupQ (K := K) rfl) (pv 4) pe_int (fun _ _ => rfl)) pa_nil)))))
      (pss_one (ps_ret (pe_callTy call_tuple_of (by rfl) T.n_tuple (by decide +kernel) (pa_cons (pe_lc (own := [("_", 6), ("id", 7)]) (g := gTup K 2 (gCons (gName 6) (gCons (gName 7) gNil))) (tt := tYes) rfl sc_Index__found.nd (pi_list (pe_callB (cr_sortDDQ (K := K) rfl (room65 hr)) (by rfl) T.n_sorted (by decide +kernel) (pa_cons (pv 3) pa_nil))) (blkOk_by (own := [("_", 6), ("id", 7)]) (N := N_Index__found) (sc := defScope s_Index__found) (by decide +kernel)) (fun _ _ _ _ _ => (pg_tup rfl (pgs_cons (pg_name (i := 6) sc_Index__found.nd rfl (Or.inl rfl)) (pgs_cons (pg_name (i := 7) sc_Index__found.nd rfl (Or.inl rfl)) pgs_nil)))) (fun _ _ _ _ _ => pts_nil) (fun _ _ _ _ _ => (pv 7))) pa_nil)))))), ?_⟩
    have small : ∀ n : Nat, n ≤ 30000 → n < sizeLine := fun n h => Nat.lt_of_le_of_lt h (by decide)
    obtain ⟨⟨dx, hp⟩, ⟨kvs, hd, ev⟩, hi, pe, nd, pm⟩ := ix
    have kl := ev.len
    refine ⟨_, rfl, p, A_Index, dx, _, _, rfl, hp, O.c_Index, O.n_Index_entries, rfl, .inr (.inr (.inl ⟨rfl, .inr ⟨kvs, hd⟩⟩)), d, kvs, rfl, rfl, hd, fun vw hvw => ?_⟩
    have n1 := same_new (o := valuesO vw d) hvw
    refine ⟨vw, d, kvs, rfl, upd_same, n1 _ _ hd, fun L hL => ?_⟩
    have n2 := same_new (o := HO.lst (kvs.map (·.2))) hL
    have m2 := n1.trans n2
    have hL2 : (upd (upd H vw (valuesO vw d)) L (HO.lst (kvs.map (·.2)))) L = some (.lst (kvs.map (·.2))) := upd_same
    have ev2 := ev.tk (TK.same (K := K) m2)
    have pe2 : ∀ e ∈ es, PeAt K _ M e := fun e m => (pe e m).keep (ExtL.of (ms := []) m2) (fun a h => by cases h) (TT.same m2)
    have dq2 := dq.tk (TK.same m2)
    generalize (upd (upd H vw (valuesO vw d)) L (HO.lst (kvs.map (·.2)))) = H2 at m2 hL2 ev2 pe2 dq2 n2
    refine ⟨_, rfl, L, rfl, ⟨_, SqL.of hL2⟩, fun D hD => ?_⟩
    refine lc_list (K := K) (a := L) (xs := kvs.map (·.2)) (fun j H' => ∃ ws, H' D = some (.lst ws) ∧ DVs K H' (((es.take j).filter fun e => semB q0 e.n).map Pe.pd) ws ∧ ws.length ≤ j ∧ Same H2 H') ⟨[], upd_same, dln, Nat.le_refl _, same_new hD⟩ (fun j H' _ h => by obtain ⟨_, _, _, _, m⟩ := h; exact SqL.of (m _ _ hL2)) ?_ ?_
    · rintro j x H3 hj ⟨ws, h3, d3, wl, m3⟩
      obtain ⟨kv, hkv, rfl⟩ := map_get hj
      obtain ⟨e, he, ea⟩ := ev2.get hkv
      obtain ⟨_, b, rt, us, hb0, hb, hrt, dus⟩ := ea
      have em := List.mem_of_getElem? he
      have il := (List.getElem?_eq_some_iff.mp he).1
      obtain ⟨ok, _, ni, _⟩ := pe2 e em
      have T3 := TT.same (K := K) m3
      have ni3 := ni.tt T3
      rw [hb0]
      refine ⟨b, _, rfl, m3.tup hb, rfl, _, _, rfl, _, _, rfl, rfl, rfl, ?_⟩
      refine ⟨_, rfl, _, rfl, _, rfl, q0, e.n, _, e.v, rt, us, rfl, dq2.tk T3.1, okq, ni3.nt, ok.1, m3.tup hrt, dus.tk T3.1, fun c H4 m4 hc => ?_⟩
      have T4 := TT.same (K := K) m4
      have d4 := d3.tk T4.1
      have ec : c = semB q0 e.n := by rw [Bool.eq_iff_iff, hc, semB_iff]
      refine ⟨c, rfl, ?_⟩
      have m34 := m3.trans m4
      rw [List.take_add_one, he, show (some e).toList = [e] from rfl, List.filter_append, List.filter_cons, ← ec]
      cases c with
      | false =>
        refine iteF ⟨ws, m4 _ _ h3, ?_, by omega, m34⟩
        rw [if_neg Bool.false_ne_true, List.filter_nil, List.append_nil]; exact d4
      | true =>
        obtain ⟨na, v0, v4, v6, v7, v8, bu, ev0, hN, dv, ht⟩ := ni3.tt T4
        rw [ev0]
        refine iteT ⟨_, rfl, na, _, _, _, rfl, rfl, hN, rfl, _, rfl, na, _, _, _, rfl, rfl, hN, rfl, by show 2 ≤ sizeLine; decide, fun pr hpr => ?_⟩
        have n5 := same_new (o := HO.tup [V.int e.n.da, V.ref e.t]) hpr
        refine ⟨ws, n5 _ _ (m4 _ _ h3), small _ (by omega), ws ++ [V.ref pr], upd_same, ?_, by rw [List.length_append]; show _ + 1 ≤ _; omega, sput (m34.trans n5) hD⟩
        have T6 : TK K (upd H4 pr (HO.tup [V.int e.n.da, V.ref e.t])) _ := tk_put (o := HO.lst (ws ++ [V.ref pr])) (n5 _ _ (m4 _ _ h3))
        rw [if_pos rfl, List.filter_nil]
        have dp : DV K _ (Pe.pd e) (.ref pr) := ⟨pr, _, rfl, SqT.of upd_same, dlc (dli _) (dlc ((NiAt.id ⟨na, v0, v4, v6, v7, v8, bu, rfl, hN, dv, ht⟩).tk (TK.same n5)) dln)⟩
        exact DVs.snoc ((d4.tk (TK.same n5)).tk T6) (dp.tk T6)
    rintro H3 ⟨ws, h3, d3, wl, m3⟩
    rw [List.length_map, kl, List.take_length] at d3
    have fl : (es.filter fun e => semB q0 e.n).length ≤ es.length := List.length_filter_le _ _
    refine ⟨_, rfl, D, ws, _, _, Pe.pd, rfl, SqL.of h3, d3, pd_alike, pd_sort, fun b _ => pd_deep b, fun ys S hS dS => ?_⟩
    have n4 := same_new (o := HO.lst ys) hS
    have m4 := m3.trans n4
    have hS4 : (upd H3 S (HO.lst ys)) S = some (.lst ys) := upd_same
    have dS4 := dS.tk (TK.same n4)
    generalize (upd H3 S (HO.lst ys)) = H4 at m4 hS4 dS4
    refine ⟨S, rfl, ⟨_, SqL.of hS4⟩, fun R hR => ?_⟩
    have Ll := fdL_len (q := q0) (es := es)
    have dS5 : DVs K H4 ((fdL q0 es).map Pe.pd) ys := dS4
    have yl := dS5.map_len
    refine lc_list (K := K) (a := S) (xs := ys) (fun j H' => ∃ zs, H' R = some (.lst zs) ∧ DVs K H' (((fdL q0 es).take j).map Pe.id) zs ∧ Same H4 H') ⟨[], upd_same, dln, same_new hR⟩ (fun j H' _ h => by obtain ⟨_, _, _, m⟩ := h; exact SqL.of (m _ _ hS4)) ?_ ?_
    · rintro j x H5 hj ⟨zs, h5, d5, m5⟩
      obtain ⟨e, he, de⟩ := dS5.map_get hj
      have il := (List.getElem?_eq_some_iff.mp he).1
      obtain ⟨a, vs, rfl, hA, v1, r1, rfl, e1, v2, r2, rfl, e2, e3⟩ := de
      unfold DVs at e3
      subst e3
      refine ⟨a, _, rfl, m5.tup hA, rfl, _, _, rfl, _, _, rfl, rfl, rfl, ?_⟩
      refine ⟨_, rfl, zs, h5, small _ (by rw [d5.map_len, List.length_take]; omega), zs ++ [v2], upd_same, ?_, sput m5 hR⟩
      have T6 : TK K H5 _ := tk_put (o := HO.lst (zs ++ [v2])) h5
      exact id_snoc he (d5.tk T6) ((e2.tk (TK.same m5)).tk T6)
    rintro H5 ⟨zs, h5, d5, m5⟩
    rw [yl, List.take_length] at d5
    refine ⟨R, zs, rfl, .inl ⟨SqL.of h5, fun u hu => ?_⟩⟩
    have n6 := same_new (o := HO.tup zs) hu
    exact q _ _ (m2.trans (m4.trans (m5.trans n6))) ⟨u, zs, rfl, SqT.of upd_same, d5.tk (TK.same n6)⟩
end

end Z
namespace Z
open PySem L2 SX
section
variable {P : Program} {w : World} {K : PySem.W.Frag} {mg : Str → Option Value} {base : Heap}
theorem ok__law_found_due (D : Df K mg "_law_found_due" s__law_found_due ["inside", "query"]) (T : Tx mg)  (C__law_query_fits : Cal P w K mg base "_law_query_fits" ["query", "notice", "rows"] 15 (sp70_lfits K 14)) : Cal P w K mg base "_law_found_due" ["inside", "query"] 16 (sp71_fdue K) := by
  obtain ⟨f__law_query_fits, fd__law_query_fits, G__law_query_fits, g__law_query_fits, k__law_query_fits, b__law_query_fits⟩ := C__law_query_fits
  obtain ⟨f, fd, F, gf, bf⟩ := D
  refine ⟨f, fd, F.ok sc__law_found_due (fun vs H Q E h => ?_) (fun cdv A outer s₀ H vs Q E hr h => ?_), gf, F.kp, bf⟩
  · obtain ⟨M, s, i, es, q0, v, rfl, _⟩ := h; rfl
  · obtain ⟨M, s, i, es, q0, v, rfl, hi, pe, sm, el, dq, okq, q⟩ := h
    refine ⟨_, (pss_cons (ps_setLc (i := 2) (own := [("pair", 3)]) (g := gName 3) rfl sc__law_found_due.nd rfl rfl (sw_true rfl rfl rfl (by decide +kernel)) (pi_list (pv 0)) (blkOk_by (own := [("pair", 3)]) (N := N__law_found_due) (sc := defScope s__law_found_due) (by decide +kernel)) (fun _ _ _ _ _ => pg_name (i := 3) sc__law_found_due.nd rfl (Or.inl rfl)) (fun _ _ _ _ _ => pts_one (pt_val (pe_call G__law_query_fits (hr.mono (by decide)) (by rfl) g__law_query_fits k__law_query_fits b__law_query_fits .nil pass0 (pa_cons (pv 1) (pa_cons (pe_ix (ix_tupQ (K := K) rfl) (pv 3) pe_int (fun _ _ => rfl)) (pa_cons (pe_ix (ix_tupQ (K := K) rfl) (pv 3) pe_int (fun _ _ => rfl)) pa_nil)))))) (fun _ _ _ _ _ => (pe_tup (pa_cons (pe_ix (ix_tupQ (K := K) rfl) (pe_ix (ix_tupQ (K := K) rfl) (pv 3) pe_int (fun _ _ => rfl)) pe_int (fun _ _ => rfl)) (pa_cons (pe_ix (ix_tupQ (K := K) rfl) (pe_ix (ix_tupQ (K := K) rfl) (pv 3) pe_int (fun _ _ => rfl)) pe_int (fun _ _ => rfl)) pa_nil)))))
      (pss_one (ps_ret (pe_callTy call_tuple_of (by rfl) T.n_tuple (by decide +kernel) (pa_cons (pe_lc (own := [("pair", 3)]) (g := gName 3) (tt := tYes) rfl sc__law_found_due.nd (pi_list (pe_callB (cr_sortDDQ (K := K) rfl (room65 hr)) (by rfl) T.n_sorted (by decide +kernel) (pa_cons (pv 2) pa_nil))) (blkOk_by (own := [("pair", 3)]) (N := N__law_found_due) (sc := defScope s__law_found_due) (by decide +kernel)) (fun _ _ _ _ _ => pg_name (i := 3) sc__law_found_due.nd rfl (Or.inl rfl)) (fun _ _ _ _ _ => pts_nil) (fun _ _ _ _ _ => (pe_ix (ix_tupQ (K := K) rfl) (pv 3) pe_int (fun _ _ => rfl)))) pa_nil))))), ?_⟩
    have small : ∀ n : Nat, n ≤ 30000 → n < sizeLine := fun n h => Nat.lt_of_le_of_lt h (by decide)
    refine ⟨_, rfl, i, rfl, ⟨_, SqL.of hi⟩, fun D hD => ?_⟩
    refine lc_list (K := K) (a := i) (xs := es.map fun e => V.ref e.pa) (fun j H' => ∃ ws, H' D = some (.lst ws) ∧ DVs K H' (((es.take j).filter fun e => semB q0 e.n).map Pe.pd) ws ∧ ws.length ≤ j ∧ Same H H') ⟨[], upd_same, dln, Nat.le_refl _, same_new hD⟩ (fun j H' _ h => by obtain ⟨_, _, _, _, m⟩ := h; exact m.seq (SqL.of hi)) ?_ ?_
    · rintro j x H3 hj ⟨ws, h3, d3, wl, m3⟩
      obtain ⟨e, he, rfl⟩ := map_get hj
      have em := List.mem_of_getElem? he
      have il := (List.getElem?_eq_some_iff.mp he).1
      obtain ⟨ok, hpa, ni, us, hr0, _, lm⟩ := pe e em
      have T3 := TT.same (K := K) m3
      have ni3 := ni.tt T3
      have hpa3 := T3.1 _ _ hpa
      refine ⟨rfl, _, rfl, _, rfl, e.pa, _, _, _, rfl, rfl, hpa3, rfl, _, rfl, e.pa, _, _, _, rfl, rfl, hpa3, rfl, s, q0, e.n, v, e.v, e.r, us, rfl, dq.tk T3.1, okq, ni3.nt, ok.1, m3 _ _ hr0, (lm.ls sm).ext (Ext.of m3), fun c H4 m4 hc => ?_⟩
      have T4 := TT.same (K := K) m4
      have d4 := d3.tk T4.1
      have ec : c = semB q0 e.n := by rw [Bool.eq_iff_iff, hc, semB_iff]
      refine ⟨c, rfl, ?_⟩
      have m34 := m3.trans m4
      rw [List.take_add_one, he, show (some e).toList = [e] from rfl, List.filter_append, List.filter_cons, ← ec]
      cases c with
      | false =>
        refine iteF ⟨ws, m4 _ _ h3, ?_, by omega, m34⟩
        rw [if_neg Bool.false_ne_true, List.filter_nil, List.append_nil]; exact d4
      | true =>
        obtain ⟨na, v0, v4, v6, v7, v8, bu, ev0, hN, dv, ht⟩ := ni3.tt T4
        have hpa4 := T4.1 _ _ hpa3
        rw [ev0] at hpa4
        refine iteT ⟨_, rfl, e.pa, _, _, _, rfl, rfl, hpa4, rfl, na, _, _, _, rfl, rfl, hN, rfl, _, rfl, e.pa, _, _, _, rfl, rfl, hpa4, rfl, na, _, _, _, rfl, rfl, hN, rfl, by show 2 ≤ sizeLine; decide, fun pr hpr => ?_⟩
        have n5 := same_new (o := HO.tup [V.int e.n.da, V.ref e.t]) hpr
        refine ⟨ws, n5 _ _ (m4 _ _ h3), small _ (by omega), ws ++ [V.ref pr], upd_same, ?_, by rw [List.length_append]; show _ + 1 ≤ _; omega, sput (m34.trans n5) hD⟩
        have T6 : TK K (upd H4 pr (HO.tup [V.int e.n.da, V.ref e.t])) _ := tk_put (o := HO.lst (ws ++ [V.ref pr])) (n5 _ _ (m4 _ _ h3))
        rw [if_pos rfl, List.filter_nil]
        have dp : DV K _ (Pe.pd e) (.ref pr) := ⟨pr, _, rfl, SqT.of upd_same, dlc (dli _) (dlc ((NiAt.id ⟨na, v0, v4, v6, v7, v8, bu, rfl, hN, dv, ht⟩).tk (TK.same n5)) dln)⟩
        exact DVs.snoc ((d4.tk (TK.same n5)).tk T6) (dp.tk T6)
    rintro H3 ⟨ws, h3, d3, wl, m3⟩
    rw [List.length_map, List.take_length] at d3
    refine ⟨_, rfl, D, ws, _, _, Pe.pd, rfl, SqL.of h3, d3, pd_alike, pd_sort, fun b _ => pd_deep b, fun ys S hS dS => ?_⟩
    have n4 := same_new (o := HO.lst ys) hS
    have m4 := m3.trans n4
    have hS4 : (upd H3 S (HO.lst ys)) S = some (.lst ys) := upd_same
    have dS4 := dS.tk (TK.same n4)
    generalize (upd H3 S (HO.lst ys)) = H4 at m4 hS4 dS4
    refine ⟨S, rfl, ⟨_, SqL.of hS4⟩, fun R hR => ?_⟩
    have Ll := fdL_len (q := q0) (es := es)
    have dS5 : DVs K H4 ((fdL q0 es).map Pe.pd) ys := dS4
    have yl := dS5.map_len
    refine lc_list (K := K) (a := S) (xs := ys) (fun j H' => ∃ zs, H' R = some (.lst zs) ∧ DVs K H' (((fdL q0 es).take j).map Pe.id) zs ∧ Same H4 H') ⟨[], upd_same, dln, same_new hR⟩ (fun j H' _ h => by obtain ⟨_, _, _, m⟩ := h; exact SqL.of (m _ _ hS4)) ?_ ?_
    · rintro j x H5 hj ⟨zs, h5, d5, m5⟩
      obtain ⟨e, he, de⟩ := dS5.map_get hj
      have il := (List.getElem?_eq_some_iff.mp he).1
      obtain ⟨a, vs, rfl, hA, v1, r1, rfl, e1, v2, r2, rfl, e2, e3⟩ := de
      unfold DVs at e3
      subst e3
      refine ⟨rfl, _, rfl, a, _, _, _, rfl, rfl, m5.tup hA, rfl, zs, h5, small _ (by rw [d5.map_len, List.length_take]; omega), zs ++ [v2], upd_same, ?_, sput m5 hR⟩
      have T6 : TK K H5 _ := tk_put (o := HO.lst (zs ++ [v2])) h5
      exact id_snoc he (d5.tk T6) ((e2.tk (TK.same m5)).tk T6)
    rintro H5 ⟨zs, h5, d5, m5⟩
    rw [yl, List.take_length] at d5
    refine ⟨R, zs, rfl, .inl ⟨SqL.of h5, fun u hu => ?_⟩⟩
    have n6 := same_new (o := HO.tup zs) hu
    exact q _ _ (m4.trans (m5.trans n6)) ⟨u, zs, rfl, SqT.of upd_same, d5.tk (TK.same n6)⟩
end
section
variable {P : Program} {w : World} {K : PySem.W.Frag} {mg : Str → Option Value} {base : Heap}
theorem ok__law_asked (D : Df K mg "_law_asked" s__law_asked ["index", "inside", "query"]) (T : Tx mg) {A_Index : Addr} (O : To K mg A_Index)  (C_Index__found : CalM P w K mg base A_Index "found" ["self", "query"] 18 (sp71_ifound K A_Index)) (C__law_found_due : Cal P w K mg base "_law_found_due" ["inside", "query"] 16 (sp71_fdue K)) (C__law_same : Cal P w K mg base "_law_same" ["actual", "due"] 4 (sp__law_same K 3)) : Cal P w K mg base "_law_asked" ["index", "inside", "query"] 19 (sp71_asked K A_Index) := by
  obtain ⟨f_Index__found, fd_Index__found, G_Index__found, h_Index__found, b_Index__found⟩ := C_Index__found
  obtain ⟨f__law_found_due, fd__law_found_due, G__law_found_due, g__law_found_due, k__law_found_due, b__law_found_due⟩ := C__law_found_due
  obtain ⟨f__law_same, fd__law_same, G__law_same, g__law_same, k__law_same, b__law_same⟩ := C__law_same
  obtain ⟨f, fd, F, gf, bf⟩ := D
  refine ⟨f, fd, F.ok sc__law_asked (fun vs H Q E h => ?_) (fun cdv A outer s₀ H vs Q E hr h => ?_), gf, F.kp, bf⟩
  · obtain ⟨M, s, p, d, i, es, q0, v, rfl, _⟩ := h; rfl
  · obtain ⟨M, s, p, d, i, es, q0, v, rfl, ix, sm, el, dq, okq, q⟩ := h
    refine ⟨_, (pss_cons (ps_set (i := 3) sc__law_asked.nd rfl (Or.inl rfl) (pe_call G__law_found_due (hr.mono (by decide)) (by rfl) g__law_found_due k__law_found_due b__law_found_due .nil pass0 (pa_cons (pv 1) (pa_cons (pv 2) pa_nil))))
      (pss_one (ps_ret (pe_and (pe_call G__law_same (hr.mono (by decide)) (by rfl) g__law_same k__law_same b__law_same .nil pass0 (pa_cons (pe_meth (pv 0) O.c_Index h_Index__found G_Index__found (hr.mono (by decide)) b_Index__found .nil pass0 (pa_cons (pv 2) pa_nil)) (pa_cons (pv 3) pa_nil))) (pe_one (pe_call G__law_same (hr.mono (by decide)) (by rfl) g__law_same k__law_same b__law_same .nil pass0 (pa_cons (pe_meth (pv 0) O.c_Index h_Index__found G_Index__found (hr.mono (by decide)) b_Index__found .nil pass0 (pa_cons (pv 2) pa_nil)) (pa_cons (pv 3) pa_nil)))))))), ?_⟩
    obtain ⟨dx, hp⟩ := ix.ob
    refine ⟨_, rfl, _, rfl, M, s, i, es, q0, v, rfl, ix.li, ix.pe, sm, el, dq, okq, fun u H1 m1 d1 => ?_⟩
    have keep : ∀ {H' : Hp}, Same H H' → IxAt K A_Index H' M p d i es := fun m => ix.keep (ExtL.of (ms := []) m) (fun a h => by cases h) (TT.same m) (by simp) (by simp)
    refine ⟨_, rfl, p, dx, _, rfl, m1 _ _ hp, rfl, _, rfl, M, p, d, i, es, q0, v, rfl, keep m1, el, dq.tk (TK.same m1), okq, fun u2 H2 m2 d2 => ?_⟩
    refine ⟨_, rfl, fndD q0 es, u2, u, rfl, d2, d1.tk (TK.same m2), dl_fd el, true, rfl, ?_⟩
    have m12 := m1.trans m2
    refine iteT ⟨_, rfl, p, dx, _, rfl, m12 _ _ hp, rfl, _, rfl, M, p, d, i, es, q0, v, rfl, keep m12, el, dq.tk (TK.same m12), okq, fun u3 H3 m3 d3 => ?_⟩
    exact ⟨_, rfl, fndD q0 es, u3, u, rfl, d3, d1.tk (TK.same (m2.trans m3)), dl_fd el, q H3 (m12.trans m3)⟩
end

end Z
namespace Z
open PySem L2 SX
theorem erase_map {α β : Type} {f : α → β} : ∀ {l : List α} {j : Nat}, (l.map f).eraseIdx j = (l.eraseIdx j).map f
  | [], _ => by simp
  | _ :: _, 0 => rfl
  | x :: r, j + 1 => by
    show f x :: (r.map f).eraseIdx j = f x :: (r.eraseIdx j).map f
    rw [erase_map]
section
variable {P : Program} {w : World} {K : PySem.W.Frag} {mg : Str → Option Value} {base : Heap}
theorem ok__law_put (D : Df K mg "_law_put" s__law_put ["index", "inside", "chosen"]) (T : Tx mg) {A_Index : Addr} (O : To K mg A_Index)  (C_Index__put : CalM P w K mg base A_Index "put" ["self", "notice"] 7 (sp71_iput K A_Index)) : Cal P w K mg base "_law_put" ["index", "inside", "chosen"] 8 (sp71_put K A_Index) := by
  obtain ⟨f_Index__put, fd_Index__put, G_Index__put, h_Index__put, b_Index__put⟩ := C_Index__put
  obtain ⟨f, fd, F, gf, bf⟩ := D
  refine ⟨f, fd, F.ok sc__law_put (fun vs H Q E h => ?_) (fun cdv A outer s₀ H vs Q E hr h => ?_), gf, F.kp, bf⟩
  · obtain ⟨M, p, d, i, es, e, rfl, _⟩ := h; rfl
  · obtain ⟨M, p, d, i, es, e, rfl, ix, pa, dM, iM, di, el, q⟩ := h
    refine ⟨_, (C8.pss_cut (ps_if (pt_cmpR (op_notInDDQ (K := K) rfl (room65 hr)) (pe_ix ix_tup (pe_ix ix_tup (pv 2) pe_int (fun _ _ => rfl)) pe_int (fun _ _ => rfl)) (pe_lc (own := [("pair", 3)]) (g := gName 3) (tt := tYes) rfl sc__law_put.nd (pi_list (pv 1)) (blkOk_by (own := [("pair", 3)]) (N := N__law_put) (sc := defScope s__law_put) (by decide +kernel)) (fun _ _ _ _ _ => pg_name (i := 3) sc__law_put.nd rfl (Or.inl rfl)) (fun _ _ _ _ _ => pts_nil) (fun _ _ _ _ _ => (pe_ix (ix_tupQ (K := K) rfl) (pe_ix (ix_tupQ (K := K) rfl) (pv 3) pe_int (fun _ _ => rfl)) pe_int (fun _ _ => rfl)))) (by rfl))
      (pss_one (ps_expr (pe_bm PySem.F.plainAttrs_list PySem.F.slot_list_append PySem.F.type_list_append mt_append (pv 1) (pa_cons (pv 2) pa_nil))))
      pss_nil)
      (pss_one (ps_ret (pe_cmpR op_isN (pe_meth (pv 0) O.c_Index h_Index__put G_Index__put (hr.mono (by decide)) b_Index__put .nil pass0 (pa_cons (pe_ix ix_tup (pv 2) pe_int (fun _ _ => rfl)) pa_nil)) pe_non (nomark _))))), ?_⟩
    have small : ∀ n : Nat, n ≤ 30000 → n < sizeLine := fun n h => Nat.lt_of_le_of_lt h (by decide)
    obtain ⟨ok, hpa, ni, us, hr0, hr1, lm⟩ := id pa
    obtain ⟨na, v0, v4, v6, v7, v8, bu, ev0, hN, dv, ht⟩ := id ni
    rw [ev0] at hpa
    have hi := ix.li
    refine ⟨fun σ2 H2 => σ2 = [some (.ref p), some (.ref i), some (.ref e.pa), none] ∧ ExtL [i] H H2 ∧ TT K H H2 ∧ H2 i = some (.lst ((putP es e).map fun e => V.ref e.pa)), ?_, ?_⟩
    · refine ⟨_, rfl, e.pa, _, _, _, rfl, rfl, hpa, rfl, na, _, _, _, rfl, rfl, hN, rfl, _, rfl, i, rfl, ⟨_, SqL.of hi⟩, fun D hD => ?_⟩
      have iD : i ≠ D := ne_of_none hi hD
      refine lc_list (K := K) (a := i) (xs := es.map fun e => V.ref e.pa) (fun j H' => ∃ zs, H' D = some (.lst zs) ∧ DVs K H' ((es.take j).map Pe.id) zs ∧ Same H H') ⟨[], upd_same, dln, same_new hD⟩ (fun j H' _ h => by obtain ⟨_, _, _, m⟩ := h; exact m.seq (SqL.of hi)) ?_ ?_
      · rintro j x H3 hj ⟨zs, h3, d3, m3⟩
        obtain ⟨e', he, rfl⟩ := map_get hj
        have em := List.mem_of_getElem? he
        have il := (List.getElem?_eq_some_iff.mp he).1
        obtain ⟨_, hpa', ni', _⟩ := ix.pe e' em
        have T3 := TT.same (K := K) m3
        obtain ⟨na', w0, w4, w6, w7, w8, bu', ev', hN', dv', ht'⟩ := ni'.tt T3
        have hpa3 := T3.1 _ _ hpa'
        rw [ev'] at hpa3
        refine ⟨rfl, _, rfl, e'.pa, _, _, _, rfl, rfl, hpa3, rfl, na', _, _, _, rfl, rfl, hN', rfl, zs, h3, small _ (by rw [d3.map_len, List.length_take]; omega), zs ++ [V.ref e'.t], upd_same, ?_, sput m3 hD⟩
        have T6 : TK K H3 _ := tk_put (o := HO.lst (zs ++ [V.ref e'.t])) h3
        exact id_snoc he (d3.tk T6) ((NiAt.id ⟨na', w0, w4, w6, w7, w8, bu', rfl, hN', dv', ht'⟩).tk T6)
      rintro H3 ⟨zs, h3, d3, m3⟩
      rw [List.length_map, List.take_length] at d3
      refine ⟨e.id, D, zs, _, ni.id.tk (TK.same m3), rfl, SqL.of h3, d3, id_okd ok.2.1, id_okl fun e' m => (ix.pe e' m).1, ?_⟩
      have hany : ((es.map Pe.id).any fun z => eqD z e.id) = es.any fun x => decide (x.key = e.key) := by
        rw [List.any_map]
        refine congrArg (List.any es) (funext fun x => ?_)
        rw [Bool.eq_iff_iff, decide_eq_true_iff]
        exact id_eqD
      have hi3 := m3 _ _ hi
      rw [if_pos rfl, hany]
      refine ⟨_, rfl, ?_⟩
      cases hc : es.any fun x => decide (x.key = e.key) with
      | true =>
        have hp : putP es e = es := if_pos hc
        exact iteF ⟨rfl, ExtL.of m3, TT.same m3, by rw [hp]; exact hi3⟩
      | false =>
        have hp : putP es e = es ++ [e] := if_neg (by rw [hc]; exact Bool.false_ne_true)
        refine iteT ⟨_, rfl, .inl ⟨rfl, _, SqL.of hi3⟩, _, rfl, i, _, _, rfl, rfl, hi3, small _ (by rw [List.length_map]; omega), rfl, (ExtL.of m3).trans (ExtL.put (by simp)), (TT.same m3).trans (TT.put hi3), ?_⟩
        rw [upd_same, hp, List.map_append]; rfl
    rintro σ2 H2 ⟨rfl, x2, T2, hi2⟩
    obtain ⟨dx, hp⟩ := ix.ob
    obtain ⟨kvs, hd, ev⟩ := ix.di
    have pi : p ≠ i := fun z => ix.pm (by rw [z]; exact iM)
    have hd2 := x2 _ _ (by simpa using di) hd
    refine ⟨_, rfl, p, dx, _, rfl, x2 _ _ (by simpa using pi) hp, rfl, _, rfl, e.pa, _, _, _, rfl, rfl, T2.1 _ _ hpa, rfl, p, d, dx, es, kvs, e, by rw [ev0]; rfl, x2 _ _ (by simpa using pi) hp, hd2, ev.tk T2.1, el, ni.tt T2, ok.1, fun kvs' H3 x3 T3 hd3 ev3 => ?_⟩
    refine ⟨rfl, ?_⟩
    rw [show decide ((V.non : V) = V.non) = true from decide_eq_true rfl]
    have pd : p ≠ d := fun z => ix.pm (by rw [z]; exact dM)
    have x23 : ExtL [d, i] H H3 := (x2.mono (by simp)).trans (x3.mono (by simp))
    have T23 := T2.trans T3
    refine q H3 x23 T23 ⟨⟨dx, x3 _ _ (by simpa using pd) (x2 _ _ (by simpa using pi) hp)⟩, ⟨kvs', hd3, ev3⟩, x3 _ _ (by simpa using di.symm) hi2, fun e' m => ?_, putP_nd ix.nd, ix.pm⟩
    have sub : ∀ a ∈ [d, i], a ∈ M := by simp [dM, iM]
    rcases putP_mem m with h | h
    · exact (ix.pe e' h).keep x23 sub T23
    · rw [h]; exact pa.keep x23 sub T23
end
section
variable {P : Program} {w : World} {K : PySem.W.Frag} {mg : Str → Option Value} {base : Heap}
theorem ok__law_deed (D : Df K mg "_law_deed" s__law_deed ["source", "index", "inside", "pool"]) (T : Tx mg) {A_Index : Addr} (O : To K mg A_Index)  (C_Index__drop : CalM P w K mg base A_Index "drop" ["self", "id"] 1 (sp71_idrop K A_Index)) (C__law_draw : Cal P w K mg base "_law_draw" ["source", "many"] 2 sp__law_draw) (C__law_pick : Cal P w K mg base "_law_pick" ["source", "row"] 3 (sp3__law_pick K)) (C__law_put : Cal P w K mg base "_law_put" ["index", "inside", "chosen"] 8 (sp71_put K A_Index)) : Cal P w K mg base "_law_deed" ["source", "index", "inside", "pool"] 9 (sp71_deed K A_Index) := by
  obtain ⟨f_Index__drop, fd_Index__drop, G_Index__drop, h_Index__drop, b_Index__drop⟩ := C_Index__drop
  obtain ⟨f__law_draw, fd__law_draw, G__law_draw, g__law_draw, k__law_draw, b__law_draw⟩ := C__law_draw
  obtain ⟨f__law_pick, fd__law_pick, G__law_pick, g__law_pick, k__law_pick, b__law_pick⟩ := C__law_pick
  obtain ⟨f__law_put, fd__law_put, G__law_put, g__law_put, k__law_put, b__law_put⟩ := C__law_put
  obtain ⟨f, fd, F, gf, bf⟩ := D
  refine ⟨f, fd, F.ok sc__law_deed (fun vs H Q E h => ?_) (fun cdv A outer s₀ H vs Q E hr h => ?_), gf, F.kp, bf⟩
  · obtain ⟨M, s, a, p, d, i, P, es, ps, c, rfl, _⟩ := h; rfl
  · obtain ⟨M, s, a, p, d, i, P, es, ps, c, rfl, ix, hP, nP, pne, pl, pe, sM, dM, iM, di, ns, nal, el, hS, q⟩ := h
    refine ⟨_, (pss_cons (ps_set (i := 4) sc__law_deed.nd rfl (Or.inl rfl) (pe_call G__law_pick (hr.mono (by decide)) (by rfl) g__law_pick k__law_pick b__law_pick .nil pass0 (pa_cons (pv 0) (pa_cons (pv 3) pa_nil))))
      (pss_cons (ps_set (i := 5) sc__law_deed.nd rfl (Or.inl rfl) (pe_ix ix_tup (pe_ix ix_tup (pv 4) pe_int (fun _ _ => rfl)) pe_int (fun _ _ => rfl)))
      (pss_cons (ps_if (pt_cmpR op_eq (pe_call G__law_draw (hr.mono (by decide)) (by rfl) g__law_draw k__law_draw b__law_draw .nil pass0 (pa_cons (pv 0) (pa_cons pe_int pa_nil))) pe_int (nomark _))
      (pss_one (ps_ret (pe_call G__law_put (hr.mono (by decide)) (by rfl) g__law_put k__law_put b__law_put .nil pass0 (pa_cons (pv 1) (pa_cons (pv 2) (pa_cons (pv 4) pa_nil))))))
      pss_nil)
      (pss_cons (ps_if (pt_cmpR op_eq (pe_call G__law_draw (hr.mono (by decide)) (by rfl) g__law_draw k__law_draw b__law_draw .nil pass0 (pa_cons (pv 0) (pa_cons pe_int pa_nil))) pe_int (nomark _))
      (pss_one (ps_ret (pe_cmpR op_isN (pe_meth (pv 1) O.c_Index h_Index__drop G_Index__drop (hr.mono (by decide)) b_Index__drop .nil pass0 (pa_cons (pe_tup (pa_cons (pe_ix ix_tup (pv 5) pe_int (fun _ _ => rfl)) (pa_cons (pe_op op_add (pe_ix ix_tup (pv 5) pe_int (fun _ _ => rfl)) pe_int) pa_nil))) pa_nil)) pe_non (nomark _))))
      pss_nil)
      (C8.pss_cut (ps_for PassesOwn.never rfl (pi_range1 (by rfl) T.n_range (pa_cons (pe_callB call_len_seq (by rfl) T.n_len PySem.boot_len (pa_cons (pv 2) pa_nil)) pa_nil)) (pg_name (i := 6) sc__law_deed.nd rfl (Or.inl rfl))
      (pss_one (ps_if (pt_cmpR (op_eqDDQ (K := K) rfl (room65 hr)) (pe_ix ix_tup (pe_ix ix_tup (pe_ix ix_list (pv 2) (pv 6) (fun _ _ => rfl)) pe_int (fun _ _ => rfl)) pe_int (fun _ _ => rfl)) (pv 5) (nomark _))
        (pss_cons (ps_expr (pe_bm PySem.F.plainAttrs_list PySem.F.slot_list_pop PySem.F.type_list_pop mt_popAt (pv 2) (pa_cons (pv 6) pa_nil)))
          (pss_one ps_break))
        pss_nil)))
      (pss_one (ps_ret (pe_cmpR op_isN (pe_meth (pv 1) O.c_Index h_Index__drop G_Index__drop (hr.mono (by decide)) b_Index__drop .nil pass0 (pa_cons (pv 5) pa_nil)) pe_non (nomark _))))))))), ?_⟩
    have small : ∀ n : Nat, n ≤ 30000 → n < sizeLine := fun n h => Nat.lt_of_le_of_lt h (by decide)
    have nP' : P ≠ d ∧ P ≠ i ∧ P ≠ s := by simpa using nP
    have ns' : s ≠ d ∧ s ≠ i := by simpa using ns
    have na' : a ≠ d ∧ a ≠ i := by simpa using nal
    have subM : ∀ b ∈ [s, d, i], b ∈ M := by simp [sM, dM, iM]
    refine ⟨_, rfl, _, rfl, .inl ⟨s, a, P, _, c + 9, rfl, SqL.of hP, nP'.2.2, by simpa using pne, by rw [List.length_map]; omega, hS, fun v H1 vm x1 S1 => ?_⟩⟩
    obtain ⟨e, em, rfl⟩ := List.mem_map.mp vm
    have T1 := TT.ext (K := K) x1 hS
    have y1 : ExtL [s] H H1 := ExtL.ofExt x1 (by simp)
    have s1 : ∀ b ∈ [s], b ∈ M := by simp [sM]
    have ix1 := ix.keep y1 s1 T1 (by simpa using ns'.1.symm) (by simpa using ns'.2.symm)
    have pa1 := (pe e em).keep y1 s1 T1
    obtain ⟨ok, hpa, ni, us, hr0, hr1, lm⟩ := id pa1
    obtain ⟨na, v0, v4, v6, v7, v8, bu, ev0, hN, dv, ht⟩ := id ni
    rw [ev0] at hpa
    refine ⟨_, rfl, e.pa, _, _, _, rfl, rfl, hpa, rfl, na, _, _, _, rfl, rfl, hN, rfl, ?_⟩
    refine ⟨_, rfl, s, a, _, c + 8, rfl, by decide, by decide, S1, fun w2 H2 _ _ x2 S2 => ?_⟩
    have T12 := TT.ext (K := K) x2 S1
    have y2 : ExtL [s] H1 H2 := ExtL.ofExt x2 (by simp)
    have T2 := T1.trans T12
    have z2 : ExtL [s] H H2 := y1.trans y2
    have z2' : ExtL [s, d, i] H H2 := z2.mono (by simp)
    have ix2 := ix1.keep y2 s1 T12 (by simpa using ns'.1.symm) (by simpa using ns'.2.symm)
    have pa2 := pa1.keep y2 s1 T12
    refine ⟨rfl, _, rfl, ite2 (fun _ => ?_) (fun _ => ?_)⟩
    · refine ⟨_, rfl, _, rfl, _, rfl, M, p, d, i, es, e, rfl, ix2, pa2, dM, iM, di, by omega, fun H3 x3 T3 ix3 => ?_⟩
      exact q _ H3 putP_len (z2'.trans (x3.mono (by simp))) (T2.trans T3) ix3 ((S2.extL x3 (by simpa using ns') (by simpa using na')).mono (by omega))
    refine ⟨_, rfl, s, a, _, c + 7, rfl, by decide, by decide, S2, fun w3 H3 _ _ x3 S3 => ?_⟩
    have T23 := TT.ext (K := K) x3 S2
    have y3 : ExtL [s] H2 H3 := ExtL.ofExt x3 (by simp)
    have T3 := T2.trans T23
    have z3' : ExtL [s, d, i] H H3 := z2'.trans (y3.mono (by simp))
    have ix3 := ix2.keep y3 s1 T23 (by simpa using ns'.1.symm) (by simpa using ns'.2.symm)
    have pa3 := pa2.keep y3 s1 T23
    have ht3 := (T12.trans T23).2 _ _ ht
    obtain ⟨dx, hp3⟩ := ix3.ob
    obtain ⟨kvs, hd3, ev3⟩ := ix3.di
    have hi3 := ix3.li
    have pM := ix.pm
    have pd : p ≠ d := fun z => pM (by rw [z]; exact dM)
    have pi : p ≠ i := fun z => pM (by rw [z]; exact iM)
    refine ⟨rfl, _, rfl, ite2 (fun _ => ?_) (fun _ => ?_)⟩
    · refine ⟨_, rfl, p, dx, _, rfl, hp3, rfl, _, rfl, e.t, _, _, _, rfl, rfl, SqT.of ht3, rfl, _, rfl, e.t, _, _, _, rfl, rfl, SqT.of ht3, rfl, _, _, rfl, rfl, by show 2 ≤ sizeLine; decide, fun t2 ht2 => ?_⟩
      have n4 := same_new (o := HO.tup [V.str e.nm, V.int (e.k + 1000)]) ht2
      have T4 := TT.same (K := K) n4
      refine ⟨p, d, dx, t2, es, kvs, e.nm, e.k + 1000, rfl, n4 _ _ hp3, n4 _ _ hd3, ev3.tk T4.1, upd_same, fun kvs' H5 x5 T5 hd5 ev5 => ?_⟩
      refine ⟨rfl, ?_⟩
      rw [show decide ((V.non : V) = V.non) = true from decide_eq_true rfl]
      have hn : ∀ e' ∈ es, e'.key ≠ idk e.nm (e.k + 1000) := fun e' m z => by
        have h1 := (idk_inj z).2
        have h2 := (ix.pe e' m).1.2.2.2
        have h3 := ok.2.2.1
        omega
      rw [dropP_none hn] at ev5
      have x35 : ExtL [d] H3 H5 := (ExtL.of n4).trans x5
      have T35 := T4.trans T5
      have d1 : ∀ b ∈ [d], b ∈ M := by simp [dM]
      refine q es H5 (by omega) (z3'.trans (x35.mono (by simp))) (T3.trans T35) ⟨⟨dx, x35 _ _ (by simpa using pd) hp3⟩, ⟨kvs', hd5, ev5⟩, x35 _ _ (by simpa using di.symm) hi3, fun e' m => (ix3.pe e' m).keep x35 d1 T35, ix.nd, pM⟩ ((S3.extL x35 (by simpa using ns'.1) (by simpa using na'.1)).mono (by omega))
    refine ⟨fun σ2 H2 => (∃ v6 : Option V, σ2 = [some (.ref s), some (.ref p), some (.ref i), some (.ref P), some (.ref e.pa), some (.ref e.t), v6]) ∧ ExtL [i] H3 H2 ∧ TT K H3 H2 ∧ H2 i = some (.lst ((dropP es e.key).map fun e => V.ref e.pa)), ?_, ?_⟩
    · refine ⟨_, rfl, i, _, rfl, .inl (SqL.of hi3), _, rfl, by rw [List.length_map]; omega, by rw [List.length_map]; omega, ?_⟩
      have ul2 : (es.map fun e => V.ref e.pa).length = es.length := by rw [List.length_map]
      refine for_range (lo := 0) (n := (((es.map fun e => V.ref e.pa).length : Nat) : Int).toNat) (fun j σ H' => (∃ v6 : Option V, σ = [some (.ref s), some (.ref p), some (.ref i), some (.ref P), some (.ref e.pa), some (.ref e.t), v6]) ∧ (∀ e' ∈ es.take j, e'.key ≠ e.key) ∧ H' = H3) ⟨⟨_, rfl⟩, (fun _ h => by simp at h), rfl⟩ ?_ ?_
      · rintro j σ H' hj ⟨⟨v6', rfl⟩, hn, rfl⟩
        rw [Int.toNat_natCast, ul2] at hj
        obtain ⟨e', he⟩ : ∃ e', es[j]? = some e' := ⟨_, List.getElem?_eq_getElem hj⟩
        have em' := List.mem_of_getElem? he
        obtain ⟨ok', hpa', ni', _⟩ := ix3.pe e' em'
        obtain ⟨na', w0, w4, w6, w7, w8, bu', ev', hN', dv', ht'⟩ := id ni'
        rw [ev'] at hpa'
        have aj : atI (es.map fun e => V.ref e.pa) (0 + ((j : Nat) : Int)) = some (.ref e'.pa) := atI_pos (by omega) (by rw [show ((0 : Int) + ((j : Nat) : Int)).toNat = j by omega, List.getElem?_map, he]; rfl)
        refine ⟨_, rfl, _, rfl, i, _, _, _, rfl, rfl, SqL.of hi3, aj, e'.pa, _, _, _, rfl, rfl, hpa', rfl, na', _, _, _, rfl, rfl, hN', rfl, _, rfl, e'.id, e.id, ni'.id, pa3.2.2.1.id, id_okd ok'.2.1, id_okd ok.2.1, _, rfl, ?_⟩
        cases hc : eqD e'.id e.id with
        | true =>
          have ek : e'.key = e.key := id_eqD.mp hc
          have hj2 : j < (es.map fun e => V.ref e.pa).length := by rw [ul2]; exact hj
          have sx : seqIndex? (0 + ((j : Nat) : Int)) (es.map fun e => V.ref e.pa).length = some j := by
            have h := seqIndex_of (k := 0 + ((j : Nat) : Int)) (n := (es.map fun e => V.ref e.pa).length) (by omega) (by omega)
            rwa [show ((0 : Int) + ((j : Nat) : Int)).toNat = j by omega] at h
          refine iteT ⟨_, rfl, .inl ⟨rfl, _, SqL.of hi3⟩, _, rfl, i, _, _, j, _, rfl, rfl, hi3, by omega, by omega, sx, List.getElem?_eq_getElem hj2, ?_⟩
          refine ⟨⟨_, rfl⟩, ExtL.put (by simp), TT.put hi3, ?_⟩
          rw [upd_same, ← ek, ← dropP_at ix.nd he, erase_map]
        | false =>
          refine iteF ⟨⟨_, rfl⟩, fun x hx => ?_, rfl⟩
          rw [List.take_add_one, he] at hx
          rcases List.mem_append.mp hx with h | h
          · exact hn x h
          · have : x = e' := by simpa using h
            subst this
            exact fun z => by
              rw [show eqD x.id e.id = true from id_eqD.mpr z] at hc
              cases hc
      rintro σ H' ⟨⟨v6', rfl⟩, hn, rfl⟩
      rw [Int.toNat_natCast, ul2, List.take_length] at hn
      exact ⟨⟨_, rfl⟩, ExtL.refl _ _, TT.refl, by rw [dropP_none hn]; exact hi3⟩
    rintro σ2 H4 ⟨⟨v6', rfl⟩, x4, T4, hi4⟩
    have hp4 := x4 _ _ (by simpa using pi) hp3
    refine ⟨_, rfl, p, dx, _, rfl, hp4, rfl, _, rfl, p, d, dx, e.t, es, kvs, e.nm, e.k, rfl, hp4, x4 _ _ (by simpa using di) hd3, ev3.tk T4.1, T4.2 _ _ ht3, fun kvs' H5 x5 T5 hd5 ev5 => ?_⟩
    refine ⟨rfl, ?_⟩
    rw [show decide ((V.non : V) = V.non) = true from decide_eq_true rfl]
    have x35 : ExtL [d, i] H3 H5 := (x4.mono (by simp)).trans (x5.mono (by simp))
    have T35 := T4.trans T5
    have di1 : ∀ b ∈ [d, i], b ∈ M := by simp [dM, iM]
    have dl := dropP_len (es := es) (k := e.key)
    refine q (dropP es e.key) H5 (by omega) (z3'.trans (x35.mono (by simp))) (T3.trans T35) ⟨⟨dx, x5 _ _ (by simpa using pd) hp4⟩, ⟨kvs', hd5, ev5⟩, x5 _ _ (by simpa using di.symm) hi4, fun e' m => (ix3.pe e' (List.mem_filter.mp m).1).keep x35 di1 T35, dropP_nd ix.nd, pM⟩ ((S3.extL x35 (by simpa using ns') (by simpa using na')).mono (by omega))
end

end Z
namespace Z
open PySem L2 SX
def txt4 : List Str := [Str.ofString "", Str.ofString "", Str.ofString " ", Str.ofString "- "]
def joint6 : List Str := [Str.ofString " ", Str.ofString " ", Str.ofString "-", Str.ofString ", ", Str.ofString "  ", Str.ofString ""]
theorem txt4_ok : ∀ t ∈ txt4, Asc (tl t) ∧ (tl t).length ≤ 2 := fun t tm => by
  have : txt4.all (fun z => (tl z).all (fun x => decide (32 ≤ x) && decide (x ≤ 126)) && decide ((tl z).length ≤ 2)) = true := by decide +kernel
  have := List.all_eq_true.mp this t tm
  rw [Bool.and_eq_true] at this
  exact ⟨Asc.by_ this.1, of_decide_eq_true this.2⟩
theorem joint6_ok : ∀ t ∈ joint6, Asc (tl t) ∧ (tl t).length ≤ 2 := fun t tm => by
  have : joint6.all (fun z => (tl z).all (fun x => decide (32 ≤ x) && decide (x ≤ 126)) && decide ((tl z).length ≤ 2)) = true := by decide +kernel
  have := List.all_eq_true.mp this t tm
  rw [Bool.and_eq_true] at this
  exact ⟨Asc.by_ this.1, of_decide_eq_true this.2⟩
def sp71_phrase (K : PySem.W.Frag) : Sp := fun vs H Q _ => ∃ (s a u : Addr) (us : List Str) (most c : Nat), vs = [.ref s, .ref u, .int (most : Nat)] ∧ SqL K H u (us.map V.str) ∧ u ≠ s ∧ Wds us ∧ 0 < most ∧ most ≤ 6 ∧ Src H s a (c + 50) ∧ ∀ (x : Str) (H' : Hp), Asc (tl x) → (tl x).length ≤ 130 → Ext s H H' → Src H' s a c → Q (.str x) H'
section
variable {P : Program} {w : World} {K : PySem.W.Frag} {mg : Str → Option Value} {base : Heap}
theorem ok__law_phrase (D : Df K mg "_law_phrase" s__law_phrase ["source", "words", "most"]) (T : Tx mg)  (C__law_draw : Cal P w K mg base "_law_draw" ["source", "many"] 2 sp__law_draw) (C__law_pick : Cal P w K mg base "_law_pick" ["source", "row"] 3 (sp3__law_pick K)) : Cal P w K mg base "_law_phrase" ["source", "words", "most"] 4 (sp71_phrase K) := by
  obtain ⟨f__law_draw, fd__law_draw, G__law_draw, g__law_draw, k__law_draw, b__law_draw⟩ := C__law_draw
  obtain ⟨f__law_pick, fd__law_pick, G__law_pick, g__law_pick, k__law_pick, b__law_pick⟩ := C__law_pick
  obtain ⟨f, fd, F, gf, bf⟩ := D
  refine ⟨f, fd, F.ok sc__law_phrase (fun vs H Q E h => ?_) (fun cdv A outer s₀ H vs Q E hr h => ?_), gf, F.kp, bf⟩
  · obtain ⟨s, a, u, us, most, c, rfl, _⟩ := h; rfl
  · obtain ⟨s, a, u, us, most, c, rfl, hU, Us, hW, m0, m6, hS, q⟩ := h
    refine ⟨_, (pss_cons (ps_set (i := 3) sc__law_phrase.nd rfl (Or.inl rfl) (pe_ix ix_list (pe_lst (pa_cons pe_str (pa_cons pe_str (pa_cons pe_str (pa_cons pe_str pa_nil))))) (pe_call G__law_draw (hr.mono (by decide)) (by rfl) g__law_draw k__law_draw b__law_draw .nil pass0 (pa_cons (pv 0) (pa_cons pe_int pa_nil))) (fun _ _ => rfl)))
      (pss_cons (ps_for PassesOwn.never rfl (pi_range1 (by rfl) T.n_range (pa_cons (pe_call G__law_draw (hr.mono (by decide)) (by rfl) g__law_draw k__law_draw b__law_draw .nil pass0 (pa_cons (pv 0) (pa_cons (pv 2) pa_nil))) pa_nil)) (pg_name (i := 4) sc__law_phrase.nd rfl (Or.inl rfl))
      (pss_cons (ps_set (i := 5) sc__law_phrase.nd rfl (Or.inl rfl) (pe_call G__law_pick (hr.mono (by decide)) (by rfl) g__law_pick k__law_pick b__law_pick .nil pass0 (pa_cons (pv 0) (pa_cons (pv 1) pa_nil))))
        (C8.pss_cut (ps_if (pt_cmpR op_eq (pe_call G__law_draw (hr.mono (by decide)) (by rfl) g__law_draw k__law_draw b__law_draw .nil pass0 (pa_cons (pv 0) (pa_cons pe_int pa_nil))) pe_int (nomark _))
        (pss_one (ps_set (i := 5) sc__law_phrase.nd rfl (Or.inl rfl) (pe_upper (pv 5))))
        pss_nil)
        (pss_one (ps_set (i := 3) sc__law_phrase.nd rfl (Or.inl rfl) (pe_op op_add_str (pe_op op_add_str (pv 3) (pv 5)) (pe_ix ix_list (pe_lst (pa_cons pe_str (pa_cons pe_str (pa_cons pe_str (pa_cons pe_str (pa_cons pe_str (pa_cons pe_str pa_nil))))))) (pe_call G__law_draw (hr.mono (by decide)) (by rfl) g__law_draw k__law_draw b__law_draw .nil pass0 (pa_cons (pv 0) (pa_cons pe_int pa_nil))) (fun _ _ => rfl))))))))
      (pss_one (ps_ret (pv 3))))), ?_⟩
    have small : ∀ n : Nat, n ≤ 30000 → n ≤ sizeLine := fun n h => Nat.le_trans h (by decide)
    obtain ⟨wn, wl, wA⟩ := hW
    refine ⟨by show 4 ≤ sizeLine; decide, fun l hl => ?_⟩
    have S1 := hS.new (o := HO.lst (txt4.map V.str)) hl
    refine ⟨_, rfl, s, a, _, c + 49, rfl, by decide, by decide, S1, fun v H1 v0 v1 x1 S2 => ?_⟩
    obtain ⟨t, tm, et⟩ := strs_at txt4 v0 v1
    have tok := txt4_ok t tm
    refine ⟨l, _, _, _, rfl, rfl, SqL.of (x1 _ _ (hS.ne hl) upd_same), et, ?_⟩
    have hU1 := x1.seqL Us ((same_new (o := HO.lst (txt4.map V.str)) hl).seq hU)
    have xE : Ext s H H1 := (Ext.new hl).trans x1
    refine ⟨_, rfl, _, rfl, s, a, _, c + 48, rfl, by omega, by omega, S2, fun m H2 mm0 mm1 x2 S3 => ?_⟩
    refine ⟨_, rfl, by omega, by omega, ?_⟩
    refine for_range (lo := 0) (n := m.toNat) (fun i σ H' => ∃ (x : Str) (v4 v5 : Option V), σ = [some (.ref s), some (.ref u), some (.int (most : Nat)), some (.str x), v4, v5] ∧ Asc (tl x) ∧ (tl x).length ≤ 2 + 10 * i ∧ Ext s H H' ∧ Src H' s a (c + 48 - 5 * i) ∧ i ≤ 6) ⟨t, none, none, rfl, tok.1, by have := tok.2; omega, xE.trans x2, S3, by omega⟩ ?_ ?_
    · rintro i σ H' hi ⟨x, v4, v5, rfl, xA, xl, xe, S', i6⟩
      have hU' := xe.seqL Us hU
      have i5 : i ≤ 5 := by omega
      refine ⟨_, rfl, _, rfl, .inl ⟨s, a, u, us.map V.str, c + 48 - 5 * i - 1, rfl, hU', Us, by simpa using wn, by rw [List.length_map]; omega, S'.mono (by omega), fun w H3 wm x3 S4 => ?_⟩⟩
      obtain ⟨w, wmm, rfl⟩ := List.mem_map.mp wm
      have wok := wA w wmm
      have xe3 := xe.trans x3
      refine ⟨fun σ2 H2 => ∃ y : Str, σ2 = [some (.ref s), some (.ref u), some (.int (most : Nat)), some (.str x), some (.int (0 + ((i : Nat) : Int))), some (.str y)] ∧ Asc (tl y) ∧ (tl y).length ≤ 8 ∧ Ext s H H2 ∧ Src H2 s a (c + 48 - 5 * i - 2), ?_, ?_⟩
      · refine ⟨_, rfl, s, a, _, c + 48 - 5 * i - 2, rfl, by decide, by decide, S4.mono (by omega), fun way H4 w0 w1 x4 S5 => ?_⟩
        refine ⟨rfl, _, rfl, ite2 (fun _ => ?_) (fun _ => ⟨w, rfl, wok.1.2.asc, wok.2, xe3.trans x4, S5⟩)⟩
        refine ⟨_, rfl, ⟨_, rfl⟩, w, rfl, rfl, (by rw [tl_len]; exact Nat.le_trans wok.2 (by decide)), _, rfl, asc_upper wok.1.2.asc, by rw [len_upper wok.1.2.asc]; exact wok.2, xe3.trans x4, S5⟩
      rintro σ2 H7 ⟨y2, rfl, y2A, y2l, xe7, S7⟩
      refine ⟨_, rfl, _, rfl, _, _, rfl, rfl, small _ (by rw [tl_len, tl_len y2]; omega), by show 6 ≤ sizeLine; decide, fun p hp => ?_⟩
      have S8 := (S7.new (o := HO.lst (joint6.map V.str)) hp).mono (d := c + 48 - 5 * i - 4 + 1) (by omega)
      refine ⟨_, rfl, s, a, _, c + 48 - 5 * i - 4, rfl, by decide, by decide, S8, fun jv H9 j0 j1 x9 S9 => ?_⟩
      obtain ⟨t2, t2m, et2⟩ := strs_at joint6 j0 j1
      have t2ok := joint6_ok t2 t2m
      refine ⟨p, _, _, _, rfl, rfl, SqL.of (x9 _ _ (S7.ne hp) upd_same), et2, ?_⟩
      refine ⟨_, _, rfl, rfl, small _ (by rw [tl_len, tl_len t2, tl_app, List.length_append]; omega), _, _, _, rfl, ?_, ?_, xe7.trans ((Ext.new hp).trans x9), S9.mono (by omega), by omega⟩
      · rw [tl_app, tl_app]; exact Asc.app (Asc.app xA y2A) t2ok.1
      · rw [tl_app, tl_app, List.length_append, List.length_append]; omega
    rintro σ H' ⟨x, v4, v5, rfl, xA, xl, xe, S', i6⟩
    exact ⟨_, rfl, q _ H' xA (by omega) xe (S'.mono (by omega))⟩
end
def coT : List Str := [Str.ofString "plain", Str.ofString "quoted"]
theorem pt_data_mk {K : PySem.W.Frag} {H : Hp} {co : Str} {bs : List Nat} {a b : Addr} (hA : SqT K H a [.str (Str.ofString "data"), .str co, .ref b]) (hB : SqT K H b (bs.map fun b => V.int (b : Nat))) : DV K H (ptD (.data co bs)) (.ref a) := by
  unfold ptD
  refine ⟨a, _, rfl, hA, dlc (dls _) (dlc (dls _) (dlc ⟨b, _, rfl, hB, ?_⟩ dln))⟩
  exact DVs.of_all fun x _ => dli _
theorem okT {n : Nat} {co : Str} {rows : List Str} (h1 : rows.length ≤ 10) (h2 : ∀ x ∈ rows, Asc (tl x) ∧ (tl x).length ≤ 130) : okP (n + 1) (.text co rows) := ⟨h1, h2⟩
theorem okPs {n : Nat} {ps : List Pt} (h1 : ps.length ≤ 4) (h2 : ∀ p ∈ ps, okP n p) : okP (n + 1) (.parts ps) := ⟨h1, h2⟩
def sp71_body (K : PySem.W.Frag) : Sp := fun vs H Q _ => ∃ (s a u : Addr) (us : List Str) (c : Nat), vs = [.ref s, .ref u] ∧ SqL K H u (us.map V.str) ∧ u ≠ s ∧ Wds us ∧ Src H s a (c + 600) ∧ ∀ (v : V) (p : Pt) (H' : Hp), DV K H' (ptD p) v → okP 4 p → Ext s H H' → Src H' s a c → Q v H'
section
variable {P : Program} {w : World} {K : PySem.W.Frag} {mg : Str → Option Value} {base : Heap}
theorem ok__law_searched_body (D : Df K mg "_law_searched_body" s__law_searched_body ["source", "words"]) (T : Tx mg)  (C__law_draw : Cal P w K mg base "_law_draw" ["source", "many"] 2 sp__law_draw) (C__law_phrase : Cal P w K mg base "_law_phrase" ["source", "words", "most"] 4 (sp71_phrase K)) : Cal P w K mg base "_law_searched_body" ["source", "words"] 5 (sp71_body K) := by
  obtain ⟨f__law_draw, fd__law_draw, G__law_draw, g__law_draw, k__law_draw, b__law_draw⟩ := C__law_draw
  obtain ⟨f__law_phrase, fd__law_phrase, G__law_phrase, g__law_phrase, k__law_phrase, b__law_phrase⟩ := C__law_phrase
  obtain ⟨f, fd, F, gf, bf⟩ := D
  refine ⟨f, fd, F.ok sc__law_searched_body (fun vs H Q E h => ?_) (fun cdv A outer s₀ H vs Q E hr h => ?_), gf, F.kp, bf⟩
  · obtain ⟨s, a, u, us, c, rfl, _⟩ := h; rfl
  · obtain ⟨s, a, u, us, c, rfl, hU, Us, hW, hS, q⟩ := h
    refine ⟨_, (pss_cons (ps_setLc (i := 2) (own := [("k", 5)]) (g := gName 5) (tt := tYes) rfl sc__law_searched_body.nd rfl rfl (sw_true rfl rfl rfl (by decide +kernel)) (pi_range1 (by rfl) T.n_range (pa_cons (pe_call G__law_draw (hr.mono (by decide)) (by rfl) g__law_draw k__law_draw b__law_draw .nil pass0 (pa_cons (pv 0) (pa_cons pe_int pa_nil))) pa_nil)) (blkOk_by (own := [("k", 5)]) (N := N__law_searched_body) (sc := defScope s__law_searched_body) (by decide +kernel)) (fun _ _ _ _ _ => pg_name (i := 5) sc__law_searched_body.nd rfl (Or.inl rfl)) (fun _ _ _ _ _ => pts_nil) (fun _ _ _ _ _ => (pe_call G__law_phrase (hr.mono (by decide)) (by rfl) g__law_phrase k__law_phrase b__law_phrase .nil pass0 (pa_cons (pv 0) (pa_cons (pv 1) (pa_cons pe_int pa_nil))))))
      (pss_cons (ps_set (i := 3) sc__law_searched_body.nd rfl (Or.inl rfl) (pe_tup (pa_cons pe_str (pa_cons (pe_ix ix_list (pe_lst (pa_cons pe_str (pa_cons pe_str pa_nil))) (pe_call G__law_draw (hr.mono (by decide)) (by rfl) g__law_draw k__law_draw b__law_draw .nil pass0 (pa_cons (pv 0) (pa_cons pe_int pa_nil))) (fun _ _ => rfl)) (pa_cons (pe_callTy call_tuple_of (by rfl) T.n_tuple (by decide +kernel) (pa_cons (pv 2) pa_nil)) pa_nil)))))
      (pss_cons (ps_set (i := 4) sc__law_searched_body.nd rfl (Or.inl rfl) (pe_call G__law_draw (hr.mono (by decide)) (by rfl) g__law_draw k__law_draw b__law_draw .nil pass0 (pa_cons (pv 0) (pa_cons pe_int pa_nil))))
      (pss_cons (ps_if (pt_cmpR op_eq (pv 4) pe_int (nomark _))
      (pss_one (ps_ret (pe_tup (pa_cons pe_str (pa_cons pe_str (pa_cons (pe_callTy call_tuple_of (by rfl) T.n_tuple (by decide +kernel) (pa_cons (pe_lc (own := [("sign", 6)]) (g := gName 6) (tt := tYes) rfl sc__law_searched_body.nd (pi_str (pe_ix ix_list (pv 1) pe_int (fun _ _ => rfl))) (blkOk_by (own := [("sign", 6)]) (N := N__law_searched_body) (sc := defScope s__law_searched_body) (by decide +kernel)) (fun _ _ _ _ _ => pg_name (i := 6) sc__law_searched_body.nd rfl (Or.inl rfl)) (fun _ _ _ _ _ => pts_nil) (fun _ _ _ _ _ => (pe_callB call_ord (by rfl) T.n_ord (by decide +kernel) (pa_cons (pv 6) pa_nil)))) pa_nil)) pa_nil))))))
      pss_nil)
      (pss_cons (ps_if (pt_cmpR op_eq (pv 4) pe_int (nomark _))
      (pss_one (ps_ret (pe_tup (pa_cons pe_str (pa_cons (pe_tup (pa_cons (pv 3) (pa_cons (pe_tup (pa_cons pe_str (pa_cons pe_str (pa_cons (pe_tup (pa_cons (pe_call G__law_phrase (hr.mono (by decide)) (by rfl) g__law_phrase k__law_phrase b__law_phrase .nil pass0 (pa_cons (pv 0) (pa_cons (pv 1) (pa_cons pe_int pa_nil)))) pa_nil)) pa_nil)))) pa_nil))) pa_nil)))))
      pss_nil)
      (pss_one (ps_ret (pv 3)))))))), ?_⟩
    have small : ∀ n : Nat, n ≤ 30000 → n < sizeLine := fun n h => Nat.lt_of_le_of_lt h (by decide)
    obtain ⟨wn, wl, wA⟩ := id hW
    refine ⟨_, rfl, s, a, _, c + 590, rfl, by decide, by decide, hS.mono (by omega), fun v H1 v0 v1 x1 S1 => ?_⟩
    refine ⟨_, rfl, by omega, by omega, fun D hD => ?_⟩
    have hU1 := x1.seqL Us hU
    refine lc_strs (n := v.toNat) (d := 50) (c := c + 300) (fun x => Asc (tl x) ∧ (tl x).length ≤ 130) hD (S1.mono (by omega)) (by omega) (fun _ => rfl) (fun i c' Hx R hi hE' hS' k => ?_) (fun xs H2 hx2 hl2 hA2 hE2 hS2 => ?_)
    · exact ⟨_, rfl, _, rfl, s, a, u, us, 6, c', rfl, hE'.seqL Us hU1, Us, hW, by decide, by decide, hS', fun x H' xA xl xe S' => k x H' ⟨xA, xl⟩ xe S'⟩
    refine ⟨by show 2 ≤ sizeLine; decide, fun l hl => ?_⟩
    have n3 := same_new (o := HO.lst (coT.map V.str)) hl
    have S3 := (hS2.ext n3).mono (d := c + 299 + 1) (by omega)
    refine ⟨_, rfl, s, a, _, c + 299, rfl, by decide, by decide, S3, fun v2 H4 v20 v21 x4 S4 => ?_⟩
    obtain ⟨co, com, eco⟩ := strs_at coT v20 v21
    refine ⟨l, _, _, _, rfl, rfl, SqL.of (x4 _ _ (hS2.ne hl) upd_same), eco, ?_⟩
    have Ds := S1.ne hD
    have hx4 := x4 _ _ Ds (n3 _ _ hx2)
    refine ⟨_, rfl, D, _, rfl, .inl ⟨SqL.of hx4, fun T hT => ?_⟩⟩
    have n5 := same_new (o := HO.tup (xs.map V.str)) hT
    refine ⟨by show 3 ≤ sizeLine; decide, fun p hp => ?_⟩
    have n6 := same_new (o := HO.tup [V.str (Str.ofString "text"), V.str co, V.ref T]) hp
    have d6 : DV K _ (ptD (.text co xs)) (.ref p) := pt_text_mk (SqT.of upd_same) (n6.tup (SqT.of upd_same))
    have xE6 := x1.trans (hE2.trans ((Ext.of n3).trans (x4.trans (Ext.of (n5.trans n6)))))
    have S6 := (S4.ext n5).ext n6
    have xl : xs.length ≤ 10 := by omega
    generalize upd (upd H4 T (HO.tup (xs.map V.str))) p (HO.tup [V.str (Str.ofString "text"), V.str co, V.ref T]) = H6 at d6 xE6 S6
    refine ⟨_, rfl, s, a, _, c + 200, rfl, by decide, by decide, S6.mono (by omega), fun way H7 w0 w1 x7 S7 => ?_⟩
    have d7 := d6.tk (tkE x7 S6)
    have xE7 := xE6.trans x7
    have hU7 := xE7.seqL Us hU
    obtain ⟨wd, hwd⟩ : ∃ w0, us[0]? = some w0 := ⟨us[0]'(List.length_pos_iff.mpr wn), List.getElem?_eq_getElem _⟩
    have wm0 := wA wd (List.mem_of_getElem? hwd)
    have a0 : atI (us.map V.str) (0 : Int) = some (.str wd) := atI_nat (j := 0) (by rw [List.getElem?_map, hwd]; rfl)
    refine ⟨_, rfl, rfl, _, rfl, ite2 (fun _ => ?_) (fun _ => ?_)⟩
    · refine ⟨_, rfl, u, _, _, _, rfl, rfl, hU7, a0, wd, rfl, fun E hE => ?_⟩
      refine lc_str (l := tl wd) (fun i H' => ∃ zs : List Nat, H' E = some (.lst (zs.map fun z => V.int (z : Nat))) ∧ zs.length = i ∧ Same H7 H') ⟨[], upd_same, rfl, same_new hE⟩ ?_ ?_
      · rintro i ch H16 hi ⟨zs2, h16, zl2, m16⟩
        have il := (List.getElem?_eq_some_iff.mp hi).1
        exact ⟨rfl, _, rfl, _, rfl, rfl, zs2.map (fun z => V.int (z : Nat)), h16, by rw [List.length_map]; have := wm0.2; exact small _ (by omega), zs2 ++ [_], by rw [upd_same, List.map_append]; rfl, by rw [List.length_append, zl2]; rfl, sput m16 hE⟩
      rintro H8 ⟨zs, h8, zl, m8⟩
      refine ⟨E, _, rfl, .inl ⟨SqL.of h8, fun T2 hT2 => ?_⟩⟩
      have n9 := same_new (o := HO.tup (zs.map fun z => V.int (z : Nat))) hT2
      refine ⟨by show 3 ≤ sizeLine; decide, fun p2 hp2 => ?_⟩
      have n10 := same_new (o := HO.tup [V.str (Str.ofString "data"), V.str (Str.ofString "pairs"), V.ref T2]) hp2
      have mm := m8.trans (n9.trans n10)
      exact q _ (.data (Str.ofString "pairs") zs) _ (pt_data_mk (SqT.of upd_same) (n10.tup (SqT.of upd_same))) True.intro (xE7.trans (Ext.of mm)) ((S7.ext mm).mono (by omega))
    refine ⟨_, rfl, rfl, _, rfl, ite2 (fun _ => ?_) (fun _ => ?_)⟩
    · refine ⟨_, rfl, _, rfl, _, rfl, s, a, u, us, 4, c + 100, rfl, hU7, Us, hW, by decide, by decide, S7.mono (by omega), fun x H8 xA xl8 x8 S8 => ?_⟩
      refine ⟨by show 1 ≤ sizeLine; decide, fun p1 hp1 => ?_⟩
      have n9 := same_new (o := HO.tup [V.str x]) hp1
      refine ⟨by show 3 ≤ sizeLine; decide, fun p2 hp2 => ?_⟩
      have n10 := same_new (o := HO.tup [V.str (Str.ofString "text"), V.str (Str.ofString "plain"), V.ref p1]) hp2
      have T8 : TK K H7 _ := tkE x8 S7
      have d10 : DV K _ (ptD (.text (Str.ofString "plain") [x])) (.ref p2) := pt_text_mk (SqT.of upd_same) (n10.tup (SqT.of upd_same))
      refine ⟨by show 2 ≤ sizeLine; decide, fun p3 hp3 => ?_⟩
      have n11 := same_new (o := HO.tup [V.ref p, V.ref p2]) hp3
      refine ⟨by show 2 ≤ sizeLine; decide, fun p4 hp4 => ?_⟩
      have n12 := same_new (o := HO.tup [V.str (Str.ofString "parts"), V.ref p3]) hp4
      have nn := n9.trans n10
      have mm := n11.trans n12
      refine q _ (.parts [.text co xs, .text (Str.ofString "plain") [x]]) _ (pt_parts_mk (SqT.of upd_same) (n12.tup (SqT.of upd_same)) (dlc (((d7.tk T8).tk (TK.same nn)).tk (TK.same mm)) (dlc (d10.tk (TK.same mm)) dln))) (okPs (by simp) fun z hz => ?_) ((xE7.trans x8).trans (Ext.of (nn.trans mm))) ((S8.ext (nn.trans mm)).mono (by omega))
      simp only [List.mem_cons, List.not_mem_nil, or_false] at hz
      rcases hz with rfl | rfl
      · exact okT xl hA2
      · exact okT (by simp) fun z hz => by rw [List.mem_singleton.mp hz]; exact ⟨xA, xl8⟩
    exact ⟨_, rfl, q _ _ H7 d7 (okT xl hA2) xE7 (S7.mono (by omega))⟩
end

end Z
namespace Z
open PySem L2 SX
theorem vals_at (xs : List V) {v : Int} (h0 : 0 ≤ v) (h1 : v < (xs.length : Int)) : ∃ x, x ∈ xs ∧ atI xs v = some x := by
  have h : v.toNat < xs.length := by omega
  exact ⟨xs[v.toNat], List.getElem_mem h, at_of (j := v.toNat) (by omega) (List.getElem?_eq_getElem h)⟩
theorem ints_at (zs : List Int) {v : Int} (h0 : 0 ≤ v) (h1 : v < (zs.length : Int)) : ∃ z, z ∈ zs ∧ atI (zs.map V.int) v = some (.int z) := by
  have h : v.toNat < zs.length := by omega
  exact ⟨zs[v.toNat], List.getElem_mem h, at_of (j := v.toNat) (by omega) (by rw [List.getElem?_map, List.getElem?_eq_getElem h]; rfl)⟩
theorem low64 {l : List Nat} (h : Low l) : 64 ∉ l := fun m => by have := h 64 m; omega
theorem app_len {x y : Str} (h : (tl x).length + (tl y).length ≤ 30000) : x.length + y.length ≤ sizeLine := by
  rw [tl_len, tl_len y]; exact Nat.le_trans h (by decide)
def sp70_words (K : PySem.W.Frag) : Sp := fun vs H Q _ => ∃ (s a : Addr) (c : Nat), vs = [.ref s] ∧ Src H s a (c + 100) ∧ ∀ (u : Addr) (us : List Str) (H' : Hp), H u = none → H' u = some (.lst (us.map V.str)) → Wds us → 2 ≤ us.length → Ext s H H' → Src H' s a c → Q (.ref u) H'
section
variable {P : Program} {w : World} {K : PySem.W.Frag} {mg : Str → Option Value} {base : Heap}
theorem ok__law_words (D : Df K mg "_law_words" s__law_words ["source"]) (T : Tx mg)  (C__law_draw : Cal P w K mg base "_law_draw" ["source", "many"] 2 sp__law_draw) (C__law_names : Cal P w K mg base "_law_names" ["source", "many"] 4 (sp9__law_names K)) : Cal P w K mg base "_law_words" ["source"] 5 (sp70_words K) := by
  obtain ⟨f__law_draw, fd__law_draw, G__law_draw, g__law_draw, k__law_draw, b__law_draw⟩ := C__law_draw
  obtain ⟨f__law_names, fd__law_names, G__law_names, g__law_names, k__law_names, b__law_names⟩ := C__law_names
  obtain ⟨f, fd, F, gf, bf⟩ := D
  refine ⟨f, fd, F.ok sc__law_words (fun vs H Q E h => ?_) (fun cdv A outer s₀ H vs Q E hr h => ?_), gf, F.kp, bf⟩
  · obtain ⟨s, a, c, rfl, _⟩ := h; rfl
  · obtain ⟨s, a, c, rfl, hS, q⟩ := h
    refine ⟨_, (pss_one (ps_ret (pe_call G__law_names (hr.mono (by decide)) (by rfl) g__law_names k__law_names b__law_names .nil pass0 (pa_cons (pv 0) (pa_cons (pe_op op_add pe_int (pe_call G__law_draw (hr.mono (by decide)) (by rfl) g__law_draw k__law_draw b__law_draw .nil pass0 (pa_cons (pv 0) (pa_cons pe_int pa_nil)))) pa_nil))))), ?_⟩
    refine ⟨_, rfl, _, rfl, s, a, _, c + 99, rfl, by decide, by decide, hS, fun v H1 v0 v1 x1 S1 => ?_⟩
    obtain ⟨m, rfl⟩ := Int.eq_ofNat_of_zero_le v0
    refine ⟨_, _, rfl, rfl, s, a, m + 2, c + 50, ?_, by omega, S1.mono (by omega), fun u us H2 hu h2 ul uA x2 S2 => ?_⟩
    · show [V.ref s, V.int (2 + (m : Int))] = [V.ref s, V.int ((m + 2 : Nat) : Int)]
      rw [show ((m + 2 : Nat) : Int) = 2 + (m : Int) by omega]
    · have hu0 : H u = none := ext_free x1 S1 hu
      exact q u us H2 hu0 h2 ⟨fun e => by rw [e] at ul; simp at ul, by omega, uA.2⟩ (by omega) (x1.trans x2) (S2.mono (by omega))
end
structure It where
  t : Addr
  nm : Str
  k : Int
def ItAt (H : Hp) (e : It) : Prop := H e.t = some (.tup [.str e.nm, .int e.k]) ∧ Low (tl e.nm) ∧ (tl e.nm).length ≤ 8 ∧ 0 ≤ e.k ∧ e.k ≤ 100
theorem ItAt.tt {K : PySem.W.Frag} {H H' : Hp} {e : It} (h : ItAt H e) (T : TT K H H') : ItAt H' e := ⟨T.2 _ _ h.1, h.2⟩
structure Ni where
  v : V
  n : Nt
  t : Addr
  nm : Str
  k : Int
def NoAt (K : PySem.W.Frag) (H : Hp) (e : Ni) : Prop := NiAt K H e.v e.n e.t e.nm e.k ∧ e.n.ok ∧ Low (tl e.nm) ∧ 0 ≤ e.k ∧ e.k ≤ 100
theorem NoAt.tt {K : PySem.W.Frag} {H H' : Hp} {e : Ni} (h : NoAt K H e) (T : TT K H H') : NoAt K H' e := ⟨h.1.tt T, h.2⟩
def sp71_pool (K : PySem.W.Frag) : Sp := fun vs H Q _ => ∃ (s a u n : Addr) (us ns : List Str) (c : Nat), vs = [.ref s, .ref u, .ref n] ∧ H u = some (.lst (us.map V.str)) ∧ u ≠ s ∧ Wds us ∧ H n = some (.lst (ns.map V.str)) ∧ n ≠ s ∧ Nms ns ∧ ns ≠ [] ∧ ns.length ≤ 9 ∧ Src H s a (c + 20000) ∧
  ∀ (P : Addr) (es : List Ni) (H' : Hp), H P = none → H' P = some (.lst (es.map fun e => e.v)) → (∀ e ∈ es, NoAt K H' e) → es ≠ [] → es.length ≤ 8 → Ext s H H' → Src H' s a c → Q (.ref P) H'
section
variable {P : Program} {w : World} {K : PySem.W.Frag} {mg : Str → Option Value} {base : Heap}
theorem ok__law_pool (D : Df K mg "_law_pool" s__law_pool ["source", "words", "names"]) (T : Tx mg)  (C__law_boards : Cal P w K mg base "_law_boards" ["source", "words", "most"] 5 (sp2__law_boards K)) (C__law_draw : Cal P w K mg base "_law_draw" ["source", "many"] 2 sp__law_draw) (C__law_phrase : Cal P w K mg base "_law_phrase" ["source", "words", "most"] 4 (sp71_phrase K)) (C__law_pick : Cal P w K mg base "_law_pick" ["source", "row"] 3 (sp3__law_pick K)) (C__law_searched_body : Cal P w K mg base "_law_searched_body" ["source", "words"] 5 (sp71_body K)) : Cal P w K mg base "_law_pool" ["source", "words", "names"] 6 (sp71_pool K) := by
  obtain ⟨f__law_boards, fd__law_boards, G__law_boards, g__law_boards, k__law_boards, b__law_boards⟩ := C__law_boards
  obtain ⟨f__law_draw, fd__law_draw, G__law_draw, g__law_draw, k__law_draw, b__law_draw⟩ := C__law_draw
  obtain ⟨f__law_phrase, fd__law_phrase, G__law_phrase, g__law_phrase, k__law_phrase, b__law_phrase⟩ := C__law_phrase
  obtain ⟨f__law_pick, fd__law_pick, G__law_pick, g__law_pick, k__law_pick, b__law_pick⟩ := C__law_pick
  obtain ⟨f__law_searched_body, fd__law_searched_body, G__law_searched_body, g__law_searched_body, k__law_searched_body, b__law_searched_body⟩ := C__law_searched_body
  obtain ⟨f, fd, F, gf, bf⟩ := D
  refine ⟨f, fd, F.ok sc__law_pool (fun vs H Q E h => ?_) (fun cdv A outer s₀ H vs Q E hr h => ?_), gf, F.kp, bf⟩
  · obtain ⟨s, a, u, n, us, ns, c, rfl, _⟩ := h; rfl
  · obtain ⟨s, a, u, n, us, ns, c, rfl, hU, Us, hW, hN, Ns, nms, nne, nl, hS, q⟩ := h
    refine ⟨_, (pss_cons (ps_set (i := 3) sc__law_pool.nd rfl (Or.inl rfl) (pe_lst pa_nil))
      (pss_cons (ps_for PassesOwn.never rfl (pi_range1 (by rfl) T.n_range (pa_cons (pe_ix ix_list (pe_lst (pa_cons pe_int (pa_cons pe_int (pa_cons pe_int (pa_cons pe_int (pa_cons pe_int pa_nil)))))) (pe_call G__law_draw (hr.mono (by decide)) (by rfl) g__law_draw k__law_draw b__law_draw .nil pass0 (pa_cons (pv 0) (pa_cons pe_int pa_nil))) (fun _ _ => rfl)) pa_nil)) (pg_name (i := 4) sc__law_pool.nd rfl (Or.inl rfl))
      (pss_one (ps_expr (pe_bm PySem.F.plainAttrs_list PySem.F.slot_list_append PySem.F.type_list_append mt_append (pv 3) (pa_cons (pe_tup (pa_cons (pe_call G__law_pick (hr.mono (by decide)) (by rfl) g__law_pick k__law_pick b__law_pick .nil pass0 (pa_cons (pv 0) (pa_cons (pv 2) pa_nil))) (pa_cons (pe_ix ix_list (pe_lst (pa_cons pe_int (pa_cons pe_int (pa_cons pe_int (pa_cons pe_int (pa_cons pe_int (pa_cons pe_int pa_nil))))))) (pe_call G__law_draw (hr.mono (by decide)) (by rfl) g__law_draw k__law_draw b__law_draw .nil pass0 (pa_cons (pv 0) (pa_cons pe_int pa_nil))) (fun _ _ => rfl)) pa_nil))) pa_nil)))))
      (pss_cons (ps_set (i := 5) sc__law_pool.nd rfl (Or.inl rfl) (pe_lst pa_nil))
      (pss_cons (ps_for PassesOwn.never rfl (pi_range1 (by rfl) T.n_range (pa_cons (pe_op op_add pe_int (pe_call G__law_draw (hr.mono (by decide)) (by rfl) g__law_draw k__law_draw b__law_draw .nil pass0 (pa_cons (pv 0) (pa_cons pe_int pa_nil)))) pa_nil)) (pg_name (i := 4) sc__law_pool.nd rfl (Or.inl rfl))
      (pss_cons (ps_set (i := 6) sc__law_pool.nd rfl (Or.inl rfl) (pe_call G__law_pick (hr.mono (by decide)) (by rfl) g__law_pick k__law_pick b__law_pick .nil pass0 (pa_cons (pv 0) (pa_cons (pv 3) pa_nil))))
        (pss_cons (ps_set (i := 7) sc__law_pool.nd rfl (Or.inl rfl) (pe_op op_add_str (pe_op op_add_str (pe_call G__law_pick (hr.mono (by decide)) (by rfl) g__law_pick k__law_pick b__law_pick .nil pass0 (pa_cons (pv 0) (pa_cons (pe_lst (pa_cons pe_str (pa_cons pe_str (pa_cons (pe_ix ix_list (pv 1) pe_int (fun _ _ => rfl)) pa_nil)))) pa_nil))) pe_str) (pe_ix ix_tup (pv 6) pe_int (fun _ _ => rfl))))
        (pss_cons (ps_set (i := 8) sc__law_pool.nd rfl (Or.inl rfl) (pe_ix ix_list (pe_lst (pa_cons pe_int (pa_cons pe_int (pa_cons pe_int (pa_cons pe_int (pa_cons pe_int pa_nil)))))) (pe_call G__law_draw (hr.mono (by decide)) (by rfl) g__law_draw k__law_draw b__law_draw .nil pass0 (pa_cons (pv 0) (pa_cons pe_int pa_nil))) (fun _ _ => rfl)))
        (pss_cons (ps_set (i := 9) sc__law_pool.nd rfl (Or.inl rfl) (pe_ix ix_list (pe_lst (pa_cons (pe_tup (pa_cons pe_str pa_nil)) (pa_cons (pe_tup (pa_cons pe_str (pa_cons (pe_tup (pa_cons (pe_ix ix_tup (pv 6) pe_int (fun _ _ => rfl)) (pa_cons pe_int pa_nil))) pa_nil))) (pa_cons (pe_tup (pa_cons pe_str (pa_cons (pe_tup (pa_cons (pe_ix ix_tup (pv 6) pe_int (fun _ _ => rfl)) (pa_cons pe_int pa_nil))) pa_nil))) pa_nil)))) (pe_call G__law_draw (hr.mono (by decide)) (by rfl) g__law_draw k__law_draw b__law_draw .nil pass0 (pa_cons (pv 0) (pa_cons pe_int pa_nil))) (fun _ _ => rfl)))
        (pss_cons (ps_set (i := 10) sc__law_pool.nd rfl (Or.inl rfl) (pe_tup (pa_cons pe_str (pa_cons (pv 6) (pa_cons (pv 7) (pa_cons (pv 8) (pa_cons (pe_call G__law_boards (hr.mono (by decide)) (by rfl) g__law_boards k__law_boards b__law_boards .nil pass0 (pa_cons (pv 0) (pa_cons (pv 1) (pa_cons pe_int pa_nil)))) (pa_cons (pe_call G__law_phrase (hr.mono (by decide)) (by rfl) g__law_phrase k__law_phrase b__law_phrase .nil pass0 (pa_cons (pv 0) (pa_cons (pv 1) (pa_cons pe_int pa_nil)))) pa_nil))))))))
        (pss_one (ps_expr (pe_bm PySem.F.plainAttrs_list PySem.F.slot_list_append PySem.F.type_list_append mt_append (pv 5) (pa_cons (pe_op (op_cat (K := K) rfl) (pv 10) (pe_tup (pa_cons (pe_tup pa_nil) (pa_cons (pv 9) (pa_cons (pe_tup pa_nil) (pa_cons (pe_call G__law_searched_body (hr.mono (by decide)) (by rfl) g__law_searched_body k__law_searched_body b__law_searched_body .nil pass0 (pa_cons (pv 0) (pa_cons (pv 1) pa_nil))) pa_nil)))))) pa_nil))))))))))
      (pss_one (ps_ret (pv 5))))))), ?_⟩
    have small : ∀ n : Nat, n ≤ 30000 → n < sizeLine := fun n h => Nat.lt_of_le_of_lt h (by decide)
    obtain ⟨wn, wl, wA⟩ := id hW
    obtain ⟨w0, hw0⟩ : ∃ w0, us[0]? = some w0 := ⟨us[0]'(List.length_pos_iff.mpr wn), List.getElem?_eq_getElem _⟩
    have wm0 := wA w0 (List.mem_of_getElem? hw0)
    have a0 : atI (us.map V.str) (0 : Int) = some (.str w0) := atI_nat (j := 0) (by rw [List.getElem?_map, hw0]; rfl)
    refine ⟨Nat.zero_le _, fun I hI => ?_⟩
    have n1 := same_new (o := HO.lst []) hI
    have Is := hS.ne hI
    have Ia := hS.nea hI
    have S1 := hS.ext n1
    refine ⟨by show 5 ≤ sizeLine; decide, fun l hl => ?_⟩
    have n2 := same_new (o := HO.lst ([1, 2, 3, 4, 9].map V.int)) hl
    have S2 := (S1.ext n2).mono (d := c + 19998 + 1) (by omega)
    refine ⟨_, rfl, s, a, _, c + 19998, rfl, by decide, by decide, S2, fun iv H3 i0 i1 x3 S3 => ?_⟩
    obtain ⟨m, mm, em⟩ := ints_at [1, 2, 3, 4, 9] i0 i1
    have mb : 1 ≤ m ∧ m ≤ 9 := by
      simp only [List.mem_cons, List.not_mem_nil, or_false] at mm
      omega
    refine ⟨l, _, _, _, rfl, rfl, SqL.of (x3 _ _ (S1.ne hl) upd_same), em, ?_⟩
    have hI3 := x3 _ _ Is (n2 _ _ (upd_same (H := H) (a := I) (o := HO.lst [])))
    have xE3 : Ext s H H3 := (Ext.of (n1.trans n2)).trans x3
    refine ⟨_, rfl, by omega, by omega, ?_⟩
    refine for_range (lo := 0) (n := m.toNat) (fun i σ H' => ∃ (v4 : Option V) (is : List It), σ = [some (.ref s), some (.ref u), some (.ref n), some (.ref I), v4, none, none, none, none, none, none] ∧ H' I = some (.lst (is.map fun e => V.ref e.t)) ∧ (∀ e ∈ is, ItAt H' e) ∧ is.length = i ∧ Ext s H H' ∧ Src H' s a (c + 19990 - 10 * i)) ⟨none, [], rfl, hI3, (fun _ h => by cases h), rfl, xE3, S3.mono (by omega)⟩ ?_ ?_
    · rintro i σ H4 hi ⟨v4, is, rfl, hI4, it4, il, xE4, S4⟩
      refine ⟨_, rfl, .inl ⟨rfl, _, SqL.of hI4⟩, ?_⟩
      refine ⟨_, rfl, _, rfl, .inl ⟨s, a, n, ns.map V.str, c + 19990 - 10 * i - 1, rfl, SqL.of (xE4 _ _ Ns hN), Ns, by simpa using nne, by rw [List.length_map]; omega, S4.mono (by omega), fun v1 H5 vm x5 S5 => ?_⟩⟩
      obtain ⟨pl, plm, rfl⟩ := List.mem_map.mp vm
      have plk := nms.2 pl plm
      refine ⟨by show 6 ≤ sizeLine; decide, fun l6 hl6 => ?_⟩
      have n6 := same_new (o := HO.lst ([1, 2, 9, 10, 11, 100].map V.int)) hl6
      have S6 := (S5.ext n6).mono (d := c + 19990 - 10 * i - 3 + 1) (by omega)
      refine ⟨_, rfl, s, a, _, c + 19990 - 10 * i - 3, rfl, by decide, by decide, S6, fun kv H7 k0 k1 x7 S7 => ?_⟩
      obtain ⟨k, km, ek⟩ := ints_at [1, 2, 9, 10, 11, 100] k0 k1
      have kb : 0 ≤ k ∧ k ≤ 100 := by
        simp only [List.mem_cons, List.not_mem_nil, or_false] at km
        omega
      refine ⟨l6, _, _, _, rfl, rfl, SqL.of (x7 _ _ (S5.ne hl6) upd_same), ek, by show 2 ≤ sizeLine; decide, fun t ht => ?_⟩
      have n8 := same_new (o := HO.tup [V.str pl, V.int k]) ht
      have hI8 := n8 _ _ (x7 _ _ Is (n6 _ _ (x5 _ _ Is hI4)))
      have T8 : TT K H4 _ := (TT.ext x5 S4).trans ((TT.same n6).trans ((TT.ext x7 S6).trans (TT.same n8)))
      refine ⟨I, _, _, rfl, rfl, hI8, small _ (by rw [List.length_map]; omega), ?_⟩
      have T9 := TT.put (K := K) (o := HO.lst ((is.map fun e => V.ref e.t) ++ [V.ref t])) hI8
      have ht9 := T9.2 t [V.str pl, V.int k] upd_same
      refine ⟨_, is ++ [⟨t, pl, k⟩], rfl, by rw [upd_same, List.map_append]; rfl, fun e he => ?_, by rw [List.length_append, il]; rfl, ext_keep hI (xE4.trans (x5.trans ((Ext.of n6).trans (x7.trans (Ext.of n8))))), ((S7.ext n8).put Is Ia).mono (by omega)⟩
      rcases List.mem_append.mp he with h | h
      · exact ((it4 e h).tt T8).tt T9
      · rw [List.mem_singleton.mp h]
        exact ⟨ht9, plk.1.2, plk.2, kb.1, kb.2⟩
    rintro σ H4 ⟨v4, is, rfl, hI4, it4, il, xE4, S4⟩
    have ine : is ≠ [] := fun e => by rw [e] at il; simp at il; omega
    have il9 : is.length ≤ 9 := by omega
    have S4 := S4.mono (d := c + 19000) (by omega)
    refine ⟨Nat.zero_le _, fun P hP => ?_⟩
    have n5 := same_new (o := HO.lst []) hP
    have IP : I ≠ P := ne_of_none hI4 hP
    have Ps := S4.ne hP
    have Pa := S4.nea hP
    have hP0 : H P = none := ext_free xE4 S4 hP
    have S5 := S4.ext n5
    refine ⟨_, rfl, s, a, _, c + 18990, rfl, by decide, by decide, S5.mono (by omega), fun dv H6 d0 d1 x6 S6 => ?_⟩
    refine ⟨_, _, rfl, rfl, _, rfl, by omega, by omega, ?_⟩
    have hI6 := x6 _ _ Is (n5 _ _ hI4)
    have hP6 := x6 _ _ Ps (upd_same (H := H4) (a := P) (o := HO.lst []))
    have T6 : TT K H4 H6 := (TT.same n5).trans (TT.ext x6 S5)
    have it6 : ∀ e ∈ is, ItAt H6 e := fun e m => (it4 e m).tt T6
    have xE6 : Ext s H H6 := xE4.trans ((Ext.of n5).trans x6)
    refine for_range (lo := 0) (n := (2 + dv).toNat) (fun i σ H' => ∃ (v4 v6 v7 v8 v9 v10 : Option V) (es : List Ni), σ = [some (.ref s), some (.ref u), some (.ref n), some (.ref I), v4, some (.ref P), v6, v7, v8, v9, v10] ∧ H' I = some (.lst (is.map fun e => V.ref e.t)) ∧ (∀ e ∈ is, ItAt H' e) ∧ H' P = some (.lst (es.map fun e => e.v)) ∧ (∀ e ∈ es, NoAt K H' e) ∧ es.length = i ∧ i ≤ 8 ∧ Ext s H H' ∧ Src H' s a (c + 18900 - 1500 * i)) ⟨_, none, none, none, none, none, [], rfl, hI6, it6, hP6, (fun _ h => by cases h), rfl, by omega, xE6, S6.mono (by omega)⟩ ?_ ?_
    rotate_left
    · rintro σ H7 ⟨v4, v6, v7, v8, v9, v10, es, rfl, _, _, hP7, no7, el, i8, xE7, S7⟩
      refine ⟨_, rfl, q P es H7 hP0 hP7 no7 (fun e => by rw [e] at el; simp at el; omega) (by omega) xE7 (S7.mono (by omega))⟩
    rintro i σ H7 hi ⟨v4', v6', v7', v8', v9', v10', es, rfl, hI7, it7, hP7, no7, el, i8, xE7, S7⟩
    have i7 : i ≤ 7 := by omega
    obtain ⟨b, hb⟩ : ∃ b, b = c + 18900 - 1500 * (i + 1) := ⟨_, rfl⟩
    have S7 := S7.mono (d := b + 1500) (by omega)
    refine ⟨_, rfl, _, rfl, .inl ⟨s, a, I, is.map (fun e => V.ref e.t), b + 1499, rfl, SqL.of hI7, Is, by simpa using ine, by rw [List.length_map]; omega, S7, fun v1 H8 vm x8 S8 => ?_⟩⟩
    obtain ⟨e, em, rfl⟩ := List.mem_map.mp vm
    have T8 := TT.ext (K := K) x8 S7
    obtain ⟨ht8, eL, e8, ek0, ek1⟩ := (it7 e em).tt T8
    have xE8 := xE7.trans x8
    -- author
    refine ⟨_, rfl, _, rfl, u, _, _, _, rfl, rfl, SqL.of (xE8 _ _ Us hU), a0, by show 3 ≤ sizeLine; decide, fun l hl => ?_⟩
    have n9 := same_new (o := HO.lst ([Str.ofString "ann", Str.ofString "b2", w0].map V.str)) hl
    have S9 := (S8.ext n9).mono (d := b + 1497 + 1) (by omega)
    refine .inl ⟨s, a, l, [Str.ofString "ann", Str.ofString "b2", w0].map V.str, b + 1497, rfl, SqL.of upd_same, S8.ne hl, by simp, by show 3 ≤ 100000; decide, S9, fun v3 H10 vm3 x10 S10 => ?_⟩
    obtain ⟨pe, pem, rfl⟩ := List.mem_map.mp vm3
    have pek : Low (tl pe) ∧ (tl pe).length ≤ 8 := by
      simp only [List.mem_cons, List.not_mem_nil, or_false] at pem
      rcases pem with rfl | rfl | rfl
      · exact ⟨(by intro c hc; revert c hc; decide +kernel), by decide +kernel⟩
      · exact ⟨(by intro c hc; revert c hc; decide +kernel), by decide +kernel⟩
      · exact ⟨wm0.1.2, wm0.2⟩
    have T10 : TT K H7 H10 := T8.trans ((TT.same n9).trans (TT.ext x10 S9))
    have T8_10 : TT K H8 H10 := (TT.same n9).trans (TT.ext x10 S9)
    have xE10 : Ext s H H10 := xE8.trans ((Ext.of n9).trans x10)
    have ht10 := T8_10.2 _ _ ht8
    refine ⟨_, _, rfl, rfl, app_len (show _ + 1 ≤ _ by omega), _, rfl, e.t, _, _, _, rfl, rfl, SqT.of ht10, rfl, _, _, rfl, rfl, app_len (by rw [tl_app, List.length_append]; show _ + 1 + _ ≤ _; omega), ?_⟩
    -- date
    refine ⟨by show 5 ≤ sizeLine; decide, fun l2 hl2 => ?_⟩
    have n11 := same_new (o := HO.lst ([0, 7, 7, 10, 9999999].map V.int)) hl2
    have S11 := (S10.ext n11).mono (d := b + 1490 + 1) (by omega)
    refine ⟨_, rfl, s, a, _, b + 1490, rfl, by decide, by decide, S11, fun iv H12 i0 i1 x12 S12 => ?_⟩
    obtain ⟨da, _, eda⟩ := ints_at [0, 7, 7, 10, 9999999] i0 i1
    refine ⟨l2, _, _, _, rfl, rfl, SqL.of (x12 _ _ (S10.ne hl2) upd_same), eda, ?_⟩
    have T12 : TT K H10 H12 := (TT.same n11).trans (TT.ext x12 S11)
    have ht12 := T12.2 _ _ ht10
    have xE12 : Ext s H H12 := xE10.trans ((Ext.of n11).trans x12)
    -- kind
    refine ⟨by show 1 ≤ sizeLine; decide, fun t1 ht1 => ?_⟩
    have m1 := same_new (o := HO.tup [V.str (Str.ofString "post")]) ht1
    refine ⟨_, rfl, e.t, _, _, _, rfl, rfl, SqT.of (m1 _ _ ht12), rfl, by show 2 ≤ sizeLine; decide, fun t2 ht2 => ?_⟩
    have m2 := same_new (o := HO.tup [V.str e.nm, V.int 3]) ht2
    refine ⟨by show 2 ≤ sizeLine; decide, fun t3 ht3 => ?_⟩
    have m3 := same_new (o := HO.tup [V.str (Str.ofString "strike"), V.ref t2]) ht3
    refine ⟨_, rfl, e.t, _, _, _, rfl, rfl, SqT.of (m3 _ _ (m2 _ _ (m1 _ _ ht12))), rfl, by show 2 ≤ sizeLine; decide, fun t4 ht4 => ?_⟩
    have m4 := same_new (o := HO.tup [V.str e.nm, V.int 4]) ht4
    refine ⟨by show 2 ≤ sizeLine; decide, fun t5 ht5 => ?_⟩
    have m5 := same_new (o := HO.tup [V.str (Str.ofString "replace"), V.ref t4]) ht5
    refine ⟨by show 3 ≤ sizeLine; decide, fun l3 hl3 => ?_⟩
    have m6 := same_new (o := HO.lst [V.ref t1, V.ref t3, V.ref t5]) hl3
    have nn := ((((m1.trans m2).trans m3).trans m4).trans m5).trans m6
    have hl14 : (upd (upd (upd (upd (upd (upd H12 t1 (HO.tup [V.str (Str.ofString "post")])) t2 (HO.tup [V.str e.nm, V.int 3])) t3 (HO.tup [V.str (Str.ofString "strike"), V.ref t2])) t4 (HO.tup [V.str e.nm, V.int 4])) t5 (HO.tup [V.str (Str.ofString "replace"), V.ref t4])) l3 (HO.lst [V.ref t1, V.ref t3, V.ref t5])) l3 = some (.lst [V.ref t1, V.ref t3, V.ref t5]) := upd_same
    have S14 := (S12.ext nn).mono (d := b + 1480 + 1) (by omega)
    have l3s : l3 ≠ s := (S12.ext (((((m1.trans m2).trans m3).trans m4).trans m5))).ne hl3
    have xE14 := xE12.trans (Ext.of nn)
    have T14 : TT K H10 _ := T12.trans (TT.same nn)
    have y14 : Ext s H7 _ := (x8.trans ((Ext.of n9).trans x10)).trans (((Ext.of n11).trans x12).trans (Ext.of nn))
    generalize upd (upd (upd (upd (upd (upd H12 t1 (HO.tup [V.str (Str.ofString "post")])) t2 (HO.tup [V.str e.nm, V.int 3])) t3 (HO.tup [V.str (Str.ofString "strike"), V.ref t2])) t4 (HO.tup [V.str e.nm, V.int 4])) t5 (HO.tup [V.str (Str.ofString "replace"), V.ref t4])) l3 (HO.lst [V.ref t1, V.ref t3, V.ref t5]) = H14 at hl14 S14 xE14 T14 y14
    refine ⟨_, rfl, s, a, _, b + 1480, rfl, by decide, by decide, S14, fun kv H15 k0 k1 x15 S15 => ?_⟩
    obtain ⟨kd, _, ekd⟩ := vals_at [V.ref t1, V.ref t3, V.ref t5] k0 k1
    refine ⟨l3, _, _, _, rfl, rfl, SqL.of (x15 _ _ l3s hl14), ekd, ?_⟩
    have xE15 := xE14.trans x15
    have T15 : TT K H7 H15 := T10.trans (T14.trans (TT.ext x15 S14))
    -- first
    refine ⟨_, rfl, _, rfl, _, rfl, _, rfl, _, rfl, s, a, u, us, 2, b + 1100, rfl, SqL.of (xE15 _ _ Us hU), Us, hW, by decide, by decide, S15.mono (by omega), fun tb bds H16 hb' _ _ x16 S16 => ?_⟩
    have xE16 := xE15.trans x16
    refine ⟨_, rfl, _, rfl, s, a, u, us, 6, b + 1000, rfl, SqL.of (xE16 _ _ Us hU), Us, hW, by decide, by decide, S16.mono (by omega), fun su H17 suA sul x17 S17 => ?_⟩
    have xE17 := xE16.trans x17
    have T17 : TT K H7 H17 := T15.trans ((TT.ext x16 S15).trans (TT.ext x17 S16))
    refine ⟨by show 6 ≤ sizeLine; decide, fun f hf => ?_⟩
    have j1 := same_new (o := HO.tup [V.str (Str.ofString "notice"), V.ref e.t, V.str (pe ++ Str.ofString "@" ++ e.nm), V.int da, V.ref tb, V.str su]) hf
    have xE18 := xE17.trans (Ext.of j1)
    have y18 := ((y14.trans x15).trans (x16.trans x17)).trans (Ext.of j1)
    have hP18 := y18 _ _ Ps hP7
    have hI18 := y18 _ _ Is hI7
    have T18 := T17.trans (TT.same j1)
    have hf18 : SqT K (upd H17 f (HO.tup [V.str (Str.ofString "notice"), V.ref e.t, V.str (pe ++ Str.ofString "@" ++ e.nm), V.int da, V.ref tb, V.str su])) f [V.str (Str.ofString "notice"), V.ref e.t, V.str (pe ++ Str.ofString "@" ++ e.nm), V.int da, V.ref tb, V.str su] := SqT.of upd_same
    have S18 := S17.ext j1
    have ht18 := T18.2 _ _ (it7 e em).1
    generalize upd H17 f (HO.tup [V.str (Str.ofString "notice"), V.ref e.t, V.str (pe ++ Str.ofString "@" ++ e.nm), V.int da, V.ref tb, V.str su]) = H18 at xE18 y18 hP18 hI18 T18 hf18 S18 ht18
    refine ⟨_, rfl, .inl ⟨rfl, _, SqL.of hP18⟩, _, rfl, by show 0 ≤ sizeLine; decide, fun e1 he1 => ?_⟩
    have j2 := same_new (o := HO.tup []) he1
    refine ⟨_, rfl, by show 0 ≤ sizeLine; decide, fun e2 he2 => ?_⟩
    have j3 := same_new (o := HO.tup []) he2
    have xE20 := xE18.trans (Ext.of (j2.trans j3))
    have S20 := S18.ext (j2.trans j3)
    refine ⟨_, rfl, _, rfl, s, a, u, us, b + 10, rfl, SqL.of (xE20 _ _ Us hU), Us, hW, S20.mono (by omega), fun bv bo H22 db okb x22 S22 => ?_⟩
    refine ⟨by show 4 ≤ sizeLine; decide, fun g hg => ?_⟩
    have n23 := same_new (o := HO.tup [V.ref e1, kd, V.ref e2, bv]) hg
    have T23 : TT K H18 _ := (TT.same (j2.trans j3)).trans ((TT.ext x22 S20).trans (TT.same n23))
    refine ⟨f, g, _, _, rfl, rfl, T23.1 _ _ hf18, SqT.of upd_same, by show 6 + 4 ≤ sizeLine; decide, fun r H24 m24 hr24 => ?_⟩
    have y24 : Ext s H18 H24 := (Ext.of (j2.trans j3)).trans (x22.trans (Ext.of (n23.trans m24)))
    have T24 := T23.trans (TT.same m24)
    have hP24 := y24 _ _ Ps hP18
    refine ⟨P, _, _, rfl, rfl, hP24, small _ (by rw [List.length_map]; omega), ?_⟩
    have T25 := TT.put (K := K) (o := HO.lst ((es.map fun e => e.v) ++ [V.ref r])) hP24
    have ni : NiAt K H24 (V.ref r) ⟨pe, e.nm, da, su, bo⟩ e.t e.nm e.k := ⟨r, _, _, _, _, _, bv, rfl, hr24, db.tk (TK.same (n23.trans m24)), T24.2 _ _ ht18⟩
    have nok : (⟨pe, e.nm, da, su, bo⟩ : Nt).ok := ⟨low64 pek.1, low64 eL, by have := pek.2; show (tl pe).length ≤ 70; omega, by show (tl e.nm).length ≤ 70; omega, okb, suA, sul⟩
    have S24 := ((S22.ext (n23.trans m24)).put (o := HO.lst ((es.map fun e => e.v) ++ [V.ref r])) Ps Pa).mono (d := b) (by omega)
    rw [hb] at S24
    refine ⟨_, _, _, _, _, _, es ++ [⟨.ref r, ⟨pe, e.nm, da, su, bo⟩, e.t, e.nm, e.k⟩], rfl, by rw [upd_ne IP]; exact y24 _ _ Is hI18, fun e' m' => ((it7 e' m').tt (T18.trans T24)).tt T25, by rw [upd_same, List.map_append]; rfl, fun e' m' => ?_, by rw [List.length_append, el]; rfl, by omega, ext_keep hP0 (xE18.trans y24), S24⟩
    rcases List.mem_append.mp m' with h | h
    · exact ((no7 e' h).tt (T18.trans T24)).tt T25
    · rw [List.mem_singleton.mp h]
      exact ⟨ni.tt T25, nok, eL, ek0, ek1⟩
end

end Z
namespace Z
open PySem L2 SX
/-! ### queries in a list -/
def Lv (K : PySem.W.Frag) (m : Nat) (H : Hp) (L : Addr) (ls : List Qy) : Prop := ∃ ws, H L = some (.lst ws) ∧ DVs K H (ls.map qyD) ws ∧ ∀ q ∈ ls, okQ m q
theorem Lv.ext {K : PySem.W.Frag} {m : Nat} {H H' : Hp} {L s a : Addr} {ls : List Qy} {c : Nat} (h : Lv K m H L ls) (x : Ext s H H') (n : L ≠ s) (S : Src H s a c) : Lv K m H' L ls := by
  obtain ⟨ws, h1, h2, h3⟩ := h
  exact ⟨ws, x _ _ n h1, h2.tk (tkE x S), h3⟩
theorem Lv.same {K : PySem.W.Frag} {m : Nat} {H H' : Hp} {L : Addr} {ls : List Qy} (h : Lv K m H L ls) (x : Same H H') : Lv K m H' L ls := by
  obtain ⟨ws, h1, h2, h3⟩ := h
  exact ⟨ws, x _ _ h1, h2.tk (TK.same x), h3⟩
theorem Lv.snoc {K : PySem.W.Frag} {m : Nat} {H : Hp} {L : Addr} {ls : List Qy} {ws : List V} {q : Qy} {v : V} (h1 : H L = some (.lst ws)) (h2 : DVs K H (ls.map qyD) ws) (h3 : ∀ q ∈ ls, okQ m q) (d : DV K H (qyD q) v) (ok : okQ m q) : Lv K m (upd H L (.lst (ws ++ [v]))) L (ls ++ [q]) := by
  have T := tk_put (K := K) (o := HO.lst (ws ++ [v])) h1
  exact ⟨_, upd_same, DVs.snoc (h2.tk T) (d.tk T), fun z hz => (List.mem_append.mp hz).elim (h3 z) fun e => by rw [List.mem_singleton.mp e]; exact ok⟩
theorem Lv.pick {K : PySem.W.Frag} {m : Nat} {H : Hp} {ls : List Qy} {ws : List V} {v : V} (h2 : DVs K H (ls.map qyD) ws) (h3 : ∀ q ∈ ls, okQ m q) (hv : v ∈ ws) : ∃ q, DV K H (qyD q) v ∧ okQ m q := by
  obtain ⟨i, hi⟩ := List.mem_iff_getElem?.mp hv
  obtain ⟨q, hq, d⟩ := h2.map_get hi
  exact ⟨q, d, h3 q (List.mem_of_getElem? hq)⟩
theorem near_mk {K : PySem.W.Frag} {H : Hp} {x y : Str} {k : Nat} {a : Addr} (h : SqT K H a [.str (Str.ofString "near"), .str x, .str y, .int (k : Nat)]) : DV K H (qyD (.near x y k)) (.ref a) := ⟨a, _, rfl, h, dlc (dls _) (dlc (dls _) (dlc (dls _) (dlc (dli _) dln)))⟩
theorem by_mk {K : PySem.W.Frag} {H : Hp} {x y : Str} {a : Addr} (h : SqT K H a [.str (Str.ofString "by"), .str x, .str y]) : DV K H (qyD (.by_ x y)) (.ref a) := ⟨a, _, rfl, h, dlc (dls _) (dlc (dls _) (dlc (dls _) dln))⟩
theorem word_mk {K : PySem.W.Frag} {H : Hp} {x : Str} {a : Addr} (h : SqT K H a [.str (Str.ofString "word"), .str x]) : DV K H (qyD (.word x)) (.ref a) := ⟨a, _, rfl, h, dlc (dls _) (dlc (dls _) dln)⟩
theorem before_mk {K : PySem.W.Frag} {H : Hp} {n : Int} {a : Addr} (h : SqT K H a [.str (Str.ofString "before"), .int n]) : DV K H (qyD (.before n)) (.ref a) := ⟨a, _, rfl, h, dlc (dls _) (dlc (dli _) dln)⟩
theorem not_mk {K : PySem.W.Frag} {H : Hp} {q : Qy} {u : V} {a : Addr} (h : SqT K H a [.str (Str.ofString "not"), u]) (d : DV K H (qyD q) u) : DV K H (qyD (.not q)) (.ref a) := ⟨a, _, rfl, h, dlc (dls _) (dlc d dln)⟩
theorem and_mk {K : PySem.W.Frag} {H : Hp} {q r : Qy} {u v : V} {a : Addr} (h : SqT K H a [.str (Str.ofString "and"), u, v]) (d : DV K H (qyD q) u) (e : DV K H (qyD r) v) : DV K H (qyD (.and q r)) (.ref a) := ⟨a, _, rfl, h, dlc (dls _) (dlc d (dlc e dln))⟩
theorem or_mk {K : PySem.W.Frag} {H : Hp} {q r : Qy} {u v : V} {a : Addr} (h : SqT K H a [.str (Str.ofString "or"), u, v]) (d : DV K H (qyD q) u) (e : DV K H (qyD r) v) : DV K H (qyD (.or q r)) (.ref a) := ⟨a, _, rfl, h, dlc (dls _) (dlc d (dlc e dln))⟩
theorem str_mem {xs : List Str} {v : V} (h : v ∈ xs.map V.str) : ∃ x, v = .str x := by
  obtain ⟨x, _, rfl⟩ := List.mem_map.mp h
  exact ⟨x, rfl⟩
def sp71_leaves (K : PySem.W.Frag) : Sp := fun vs H Q _ => ∃ (s a u n : Addr) (us ns : List Str) (c : Nat), vs = [.ref s, .ref u, .ref n] ∧ H u = some (.lst (us.map V.str)) ∧ u ≠ s ∧ us.length ≤ 9 ∧ us ≠ [] ∧ H n = some (.lst (ns.map V.str)) ∧ n ≠ s ∧ ns.length ≤ 9 ∧ Src H s a (c + 200) ∧
  ∀ (L : Addr) (ls : List Qy) (H' : Hp), H L = none → Lv K 1 H' L ls → ls ≠ [] → ls.length ≤ 60 → Ext s H H' → Src H' s a c → Q (.ref L) H'
section
variable {P : Program} {w : World} {K : PySem.W.Frag} {mg : Str → Option Value} {base : Heap}
theorem ok__law_leaves (D : Df K mg "_law_leaves" s__law_leaves ["source", "words", "names"]) (T : Tx mg)  (C__law_draw : Cal P w K mg base "_law_draw" ["source", "many"] 2 sp__law_draw) (C__law_pick : Cal P w K mg base "_law_pick" ["source", "row"] 3 (sp3__law_pick K)) : Cal P w K mg base "_law_leaves" ["source", "words", "names"] 4 (sp71_leaves K) := by
  obtain ⟨f__law_draw, fd__law_draw, G__law_draw, g__law_draw, k__law_draw, b__law_draw⟩ := C__law_draw
  obtain ⟨f__law_pick, fd__law_pick, G__law_pick, g__law_pick, k__law_pick, b__law_pick⟩ := C__law_pick
  obtain ⟨f, fd, F, gf, bf⟩ := D
  refine ⟨f, fd, F.ok sc__law_leaves (fun vs H Q E h => ?_) (fun cdv A outer s₀ H vs Q E hr h => ?_), gf, F.kp, bf⟩
  · obtain ⟨s, a, u, n, us, ns, c, rfl, _⟩ := h; rfl
  · obtain ⟨s, a, u, n, us, ns, c, rfl, hU, Us, ul, une, hN, Ns, nl, hS, q⟩ := h
    refine ⟨_, (pss_cons (ps_setLc (i := 3) (own := [("name", 7)]) (g := gName 7) (tt := tYes) rfl sc__law_leaves.nd rfl rfl (sw_true rfl rfl rfl (by decide +kernel)) (pi_list (pv 1)) (blkOk_by (own := [("name", 7)]) (N := N__law_leaves) (sc := defScope s__law_leaves) (by decide +kernel)) (fun _ _ _ _ _ => pg_name (i := 7) sc__law_leaves.nd rfl (Or.inl rfl)) (fun _ _ _ _ _ => pts_nil) (fun _ _ _ _ _ => (pe_tup (pa_cons pe_str (pa_cons (pv 7) pa_nil)))))
      (pss_cons (ps_for PassesOwn.never rfl (pi_range1 (by rfl) T.n_range (pa_cons pe_int pa_nil)) (pg_name (i := 4) sc__law_leaves.nd rfl (Or.inl rfl))
      (pss_cons (ps_set (i := 5) sc__law_leaves.nd rfl (Or.inl rfl) (pe_call G__law_pick (hr.mono (by decide)) (by rfl) g__law_pick k__law_pick b__law_pick .nil pass0 (pa_cons (pv 0) (pa_cons (pv 1) pa_nil))))
        (pss_one (ps_expr (pe_bm PySem.F.plainAttrs_list PySem.F.slot_list_append PySem.F.type_list_append mt_append (pv 3) (pa_cons (pe_tup (pa_cons pe_str (pa_cons (pv 5) (pa_cons (pe_call G__law_pick (hr.mono (by decide)) (by rfl) g__law_pick k__law_pick b__law_pick .nil pass0 (pa_cons (pv 0) (pa_cons (pv 1) pa_nil))) (pa_cons (pe_ix ix_list (pe_lst (pa_cons pe_int (pa_cons pe_int (pa_cons pe_int (pa_cons pe_int (pa_cons pe_int pa_nil)))))) (pe_call G__law_draw (hr.mono (by decide)) (by rfl) g__law_draw k__law_draw b__law_draw .nil pass0 (pa_cons (pv 0) (pa_cons pe_int pa_nil))) (fun _ _ => rfl)) pa_nil))))) pa_nil))))))
      (pss_cons (ps_set (i := 6) sc__law_leaves.nd rfl (Or.inl rfl) (pe_call G__law_pick (hr.mono (by decide)) (by rfl) g__law_pick k__law_pick b__law_pick .nil pass0 (pa_cons (pv 0) (pa_cons (pe_lst (pa_cons pe_str (pa_cons pe_str (pa_cons (pe_ix ix_list (pv 1) pe_int (fun _ _ => rfl)) pa_nil)))) pa_nil))))
      (pss_cons (ps_expr (pe_bm PySem.F.plainAttrs_list PySem.F.slot_list_append PySem.F.type_list_append mt_append (pv 3) (pa_cons (pe_tup (pa_cons pe_str (pa_cons (pv 6) (pa_cons (pe_call G__law_pick (hr.mono (by decide)) (by rfl) g__law_pick k__law_pick b__law_pick .nil pass0 (pa_cons (pv 0) (pa_cons (pe_op L2.op_cat (pe_lst (pa_cons pe_str pa_nil)) (pv 2)) pa_nil))) pa_nil)))) pa_nil)))
      (pss_cons (ps_expr (pe_bm PySem.F.plainAttrs_list PySem.F.slot_list_append PySem.F.type_list_append mt_append (pv 3) (pa_cons (pe_tup (pa_cons pe_str (pa_cons (pe_ix ix_list (pe_lst (pa_cons pe_int (pa_cons pe_int (pa_cons pe_int (pa_cons pe_int pa_nil))))) (pe_call G__law_draw (hr.mono (by decide)) (by rfl) g__law_draw k__law_draw b__law_draw .nil pass0 (pa_cons (pv 0) (pa_cons pe_int pa_nil))) (fun _ _ => rfl)) pa_nil))) pa_nil)))
      (pss_one (ps_ret (pv 3)))))))), ?_⟩
    have small : ∀ n : Nat, n ≤ 30000 → n ≤ sizeLine := fun n h => Nat.le_trans h (by decide)
    have smallt : ∀ n : Nat, n ≤ 30000 → n < sizeLine := fun n h => Nat.lt_of_le_of_lt h (by decide)
    obtain ⟨w0, hw0⟩ : ∃ w0, us[0]? = some w0 := ⟨us[0]'(List.length_pos_iff.mpr une), List.getElem?_eq_getElem _⟩
    have a0 : atI (us.map V.str) (0 : Int) = some (.str w0) := atI_nat (j := 0) (by rw [List.getElem?_map, hw0]; rfl)
    refine ⟨_, rfl, u, rfl, ⟨_, SqL.of hU⟩, fun L hL => ?_⟩
    have Ls := hS.ne hL
    have La := hS.nea hL
    refine lc_list (K := K) (a := u) (xs := us.map V.str) (fun i H' => Lv K 1 H' L ((us.take i).map Qy.word) ∧ Same H H') ⟨⟨[], upd_same, dln, fun _ h => by cases h⟩, same_new hL⟩ (fun i H' _ h => h.2.seq (SqL.of hU)) ?_ ?_
    · rintro i x H1 hi ⟨⟨ws, h1, d1, _⟩, m1⟩
      obtain ⟨w, hw, rfl⟩ := map_get hi
      have il := (List.getElem?_eq_some_iff.mp hw).1
      refine ⟨rfl, _, rfl, by show 2 ≤ sizeLine; decide, fun t ht => ?_⟩
      have n2 := same_new (o := HO.tup [V.str (Str.ofString "word"), V.str w]) ht
      refine ⟨ws, n2 _ _ h1, by rw [d1.map_len, List.length_map, List.length_take]; exact smallt _ (by omega), ?_, sput (m1.trans n2) hL⟩
      rw [List.take_add_one, hw, List.map_append]
      refine Lv.snoc (q := .word w) (n2 _ _ h1) (d1.tk (TK.same n2)) (fun z hz => ?_) (word_mk (SqT.of upd_same)) True.intro
      obtain ⟨y, _, rfl⟩ := List.mem_map.mp hz
      exact True.intro
    rintro H1 ⟨lv1, m1⟩
    rw [List.length_map, List.take_length] at lv1
    have S1 := hS.ext m1
    refine ⟨3, rfl, by decide, by decide, ?_⟩
    refine for_range (lo := 0) (n := 3) (fun i σ H' => ∃ (v4 v5 : Option V) (ls : List Qy), σ = [some (.ref s), some (.ref u), some (.ref n), some (.ref L), v4, v5, none, none] ∧ Lv K 1 H' L ls ∧ ls ≠ [] ∧ ls.length ≤ 9 + i ∧ Ext s H H' ∧ Src H' s a (c + 200 - 5 * i) ∧ i ≤ 3) ⟨none, none, us.map Qy.word, rfl, lv1, by simpa using une, by rw [List.length_map]; omega, Ext.of m1, S1, by omega⟩ ?_ ?_
    · rintro i σ H2 hi ⟨v4', v5', ls, rfl, lv2, lne, ll, xe, S2, _⟩
      have hU2 := xe _ _ Us hU
      refine ⟨_, rfl, _, rfl, .inl ⟨s, a, u, us.map V.str, c + 200 - 5 * i - 1, rfl, SqL.of hU2, Us, by simpa using une, by rw [List.length_map]; omega, S2.mono (by omega), fun vv H3 vm x3 S3 => ?_⟩⟩
      obtain ⟨one, rfl⟩ := str_mem vm
      have xe3 := xe.trans x3
      have hU3 := xe3 _ _ Us hU
      have lv3 := lv2.ext x3 Ls S2
      obtain ⟨ws3, hL3, _, _⟩ := id lv3
      refine ⟨_, rfl, .inl ⟨rfl, _, SqL.of hL3⟩, _, rfl, _, rfl, _, rfl, .inl ⟨s, a, u, us.map V.str, c + 200 - 5 * i - 2, rfl, SqL.of hU3, Us, by simpa using une, by rw [List.length_map]; omega, S3.mono (by omega), fun v7 H7 vm7 x7 S7 => ?_⟩⟩
      obtain ⟨other, rfl⟩ := str_mem vm7
      refine ⟨by show 5 ≤ sizeLine; decide, fun l hl => ?_⟩
      have n4 := same_new (o := HO.lst ([1, 1, 2, 4, 9].map V.int)) hl
      have S4 := (S7.ext n4).mono (d := c + 200 - 5 * i - 4 + 1) (by omega)
      refine ⟨_, rfl, s, a, _, c + 200 - 5 * i - 4, rfl, by decide, by decide, S4, fun kv H8 k0 k1 x8 S8 => ?_⟩
      obtain ⟨k, km, ek⟩ := ints_at [1, 1, 2, 4, 9] k0 k1
      have kb : 0 ≤ k ∧ k ≤ 9 := by
        simp only [List.mem_cons, List.not_mem_nil, or_false] at km
        omega
      obtain ⟨k, rfl⟩ := Int.eq_ofNat_of_zero_le kb.1
      have lv8 := ((lv3.ext x7 Ls S3).same n4).ext x8 Ls S4
      obtain ⟨ws8, hL8, d8, ok8⟩ := id lv8
      refine ⟨l, _, _, _, rfl, rfl, SqL.of (x8 _ _ (S7.ne hl) upd_same), ek, by show 4 ≤ sizeLine; decide, fun t ht => ?_⟩
      have n9 := same_new (o := HO.tup [V.str (Str.ofString "near"), V.str one, V.str other, V.int ((k : Nat) : Int)]) ht
      refine ⟨L, _, _, rfl, rfl, n9 _ _ hL8, by rw [d8.map_len]; exact smallt _ (by omega), ?_⟩
      have lv9 := Lv.snoc (q := .near one other k) (n9 _ _ hL8) (d8.tk (TK.same n9)) ok8 (near_mk (SqT.of upd_same)) (show k ≤ 1000 by omega)
      exact ⟨_, _, _, rfl, lv9, by simp, by rw [List.length_append]; show _ + 1 ≤ _; omega, ext_keep hL (xe3.trans (x7.trans ((Ext.of n4).trans (x8.trans (Ext.of n9))))), ((S8.ext n9).put Ls La).mono (by omega), by omega⟩
    rintro σ H2 ⟨v4', v5', ls, rfl, lv2, lne, ll, xe, S2, _⟩
    have hU2 := xe _ _ Us hU
    refine ⟨_, rfl, _, rfl, u, _, _, _, rfl, rfl, SqL.of hU2, a0, by show 3 ≤ sizeLine; decide, fun l hl => ?_⟩
    have n7 := same_new (o := HO.lst ([Str.ofString "*", Str.ofString "ann", w0].map V.str)) hl
    have S7 := (S2.ext n7).mono (d := c + 170 + 1) (by omega)
    refine .inl ⟨s, a, l, [Str.ofString "*", Str.ofString "ann", w0].map V.str, c + 170, rfl, SqL.of upd_same, S2.ne hl, by simp, by show 3 ≤ 100000; decide, S7, fun vv H8 vm x8 S8 => ?_⟩
    obtain ⟨per, rfl⟩ := str_mem vm
    have xe8 := (xe.trans (Ext.of n7)).trans x8
    have lv8 := (lv2.same n7).ext x8 Ls S7
    obtain ⟨ws8, hL8, _, _⟩ := id lv8
    have hN8 := xe8 _ _ Ns hN
    refine ⟨_, rfl, .inl ⟨rfl, _, SqL.of hL8⟩, _, rfl, _, rfl, by show 1 ≤ sizeLine; decide, fun l2 hl2 => ?_⟩
    have n9 := same_new (o := HO.lst [V.str (Str.ofString "*")]) hl2
    refine ⟨_, rfl, l2, n, _, _, rfl, rfl, upd_same, n9 _ _ hN8, small _ (by rw [List.length_map]; show 1 + _ ≤ _; omega), fun p3 hp3 => ?_⟩
    have e9 : [V.str (Str.ofString "*")] ++ ns.map V.str = ([Str.ofString "*"] ++ ns).map V.str := by rw [List.map_append]; rfl
    have n10 := same_new (o := HO.lst ([V.str (Str.ofString "*")] ++ ns.map V.str)) hp3
    have nn10 := n9.trans n10
    have S10 := (S8.ext nn10).mono (d := c + 160 + 1) (by omega)
    have p3s : p3 ≠ s := (S8.ext n9).ne hp3
    refine .inl ⟨s, a, p3, ([Str.ofString "*"] ++ ns).map V.str, c + 160, rfl, SqL.of (by rw [← e9]; exact upd_same), p3s, by simp, by rw [List.length_map, List.length_append]; show 1 + _ ≤ _; omega, S10, fun v11 H11 vm11 x11 S11 => ?_⟩
    obtain ⟨plc, rfl⟩ := str_mem vm11
    have lv11 := (lv8.same nn10).ext x11 Ls S10
    obtain ⟨ws11, hL11, d11, ok11⟩ := id lv11
    refine ⟨by show 3 ≤ sizeLine; decide, fun t ht => ?_⟩
    have n12 := same_new (o := HO.tup [V.str (Str.ofString "by"), V.str per, V.str plc]) ht
    refine ⟨L, _, _, rfl, rfl, n12 _ _ hL11, by rw [d11.map_len]; exact smallt _ (by omega), ?_⟩
    have lv12 := Lv.snoc (q := .by_ per plc) (n12 _ _ hL11) (d11.tk (TK.same n12)) ok11 (by_mk (SqT.of upd_same)) True.intro
    have xe12 := ext_keep (M := L) (o := .lst (ws11 ++ [V.ref t])) hL ((xe8.trans (Ext.of nn10)).trans (x11.trans (Ext.of n12)))
    have S12 := (S11.ext n12).put (o := .lst (ws11 ++ [V.ref t])) Ls La
    generalize upd (upd H11 t (HO.tup [V.str (Str.ofString "by"), V.str per, V.str plc])) L (.lst (ws11 ++ [V.ref t])) = H12 at lv12 xe12 S12
    obtain ⟨ws12, hL12, _, _⟩ := id lv12
    refine ⟨_, rfl, .inl ⟨rfl, _, SqL.of hL12⟩, by show 4 ≤ sizeLine; decide, fun l4 hl4 => ?_⟩
    have n13 := same_new (o := HO.lst ([7, 8, 10, 9999999].map V.int)) hl4
    have S13 := (S12.ext n13).mono (d := c + 100 + 1) (by omega)
    refine ⟨_, rfl, s, a, _, c + 100, rfl, by decide, by decide, S13, fun dv H14 d0 d1 x14 S14 => ?_⟩
    obtain ⟨z, _, ez⟩ := ints_at [7, 8, 10, 9999999] d0 d1
    have lv14 := (lv12.same n13).ext x14 Ls S13
    obtain ⟨ws14, hL14, d14, ok14⟩ := id lv14
    refine ⟨l4, _, _, _, rfl, rfl, SqL.of (x14 _ _ (S12.ne hl4) upd_same), ez, by show 2 ≤ sizeLine; decide, fun t2 ht2 => ?_⟩
    have n15 := same_new (o := HO.tup [V.str (Str.ofString "before"), V.int z]) ht2
    refine ⟨L, _, _, rfl, rfl, n15 _ _ hL14, by rw [d14.map_len, List.length_append]; exact smallt _ (show _ + 1 ≤ _ by omega), ?_⟩
    have lv15 := Lv.snoc (q := .before z) (n15 _ _ hL14) (d14.tk (TK.same n15)) ok14 (before_mk (SqT.of upd_same)) True.intro
    refine ⟨_, rfl, q L _ _ hL lv15 (by simp) (by rw [List.length_append, List.length_append]; show _ + 1 + 1 ≤ _; omega) (ext_keep hL (xe12.trans ((Ext.of n13).trans (x14.trans (Ext.of n15))))) (((S14.ext n15).put Ls La).mono (by omega))⟩
end
def tc : Nat → Nat
  | 0 => 10
  | d + 1 => 10 + 2 * tc d
def sp70_tree (K : PySem.W.Frag) (n : Nat) : Sp := fun vs H Q _ => ∃ (s a L : Addr) (ls : List Qy) (d c : Nat), vs = [.ref s, .ref L, .int (d : Nat)] ∧ d < n ∧ Lv K 1 H L ls ∧ L ≠ s ∧ ls ≠ [] ∧ ls.length ≤ 1000 ∧ Src H s a (c + tc d) ∧
  ∀ (v : V) (q : Qy) (H' : Hp), DV K H' (qyD q) v → okQ (d + 1) q → Ext s H H' → Src H' s a c → Q v H'
def andor : List Str := [Str.ofString "and", Str.ofString "or"]
section
variable {P : Program} {w : World} {K : PySem.W.Frag} {mg : Str → Option Value} {base : Heap}
theorem ok__law_tree_step (D : Df K mg "_law_tree" s__law_tree ["source", "leaves", "depth"]) (T : Tx mg)  {n : Nat} (C__law_draw : Cal P w K mg base "_law_draw" ["source", "many"] 2 sp__law_draw) (C__law_pick : Cal P w K mg base "_law_pick" ["source", "row"] 3 (sp3__law_pick K)) (C__law_tree : Cal P w K mg base "_law_tree" ["source", "leaves", "depth"] (n + 4) (sp70_tree K n)) : Cal P w K mg base "_law_tree" ["source", "leaves", "depth"] (n + 5) (sp70_tree K (n + 1)) := by
  obtain ⟨f__law_draw, fd__law_draw, G__law_draw, g__law_draw, k__law_draw, b__law_draw⟩ := C__law_draw
  obtain ⟨f__law_pick, fd__law_pick, G__law_pick, g__law_pick, k__law_pick, b__law_pick⟩ := C__law_pick
  obtain ⟨f__law_tree, fd__law_tree, G__law_tree, g__law_tree, k__law_tree, b__law_tree⟩ := C__law_tree
  obtain ⟨f, fd, F, gf, bf⟩ := D
  refine ⟨f, fd, F.ok sc__law_tree (fun vs H Q E h => ?_) (fun cdv A outer s₀ H vs Q E hr h => ?_), gf, F.kp, bf⟩
  · obtain ⟨s, a, L, ls, d, c, rfl, _⟩ := h; rfl
  · obtain ⟨s, a, L, ls, d, c, rfl, dn, lv, Ls, lne, ll, hS, q⟩ := h
    refine ⟨_, (pss_cons (ps_set (i := 3) sc__law_tree.nd rfl (Or.inl rfl) (pe_call G__law_draw (hr.mono (by omega)) (by rfl) g__law_draw k__law_draw b__law_draw .nil pass0 (pa_cons (pv 0) (pa_cons pe_int pa_nil))))
      (pss_cons (ps_if (PW.pt (pw_or (pt_cmpR op_eq (pv 2) pe_int (nomark _)) (pw_or1 (pt_cmpR op_eq (pv 3) pe_int (nomark _)))))
      (pss_one (ps_ret (pe_call G__law_pick (hr.mono (by omega)) (by rfl) g__law_pick k__law_pick b__law_pick .nil pass0 (pa_cons (pv 0) (pa_cons (pv 1) pa_nil)))))
      pss_nil)
      (pss_cons (ps_if (pt_cmpR op_eq (pv 3) pe_int (nomark _))
      (pss_one (ps_ret (pe_tup (pa_cons pe_str (pa_cons (pe_call G__law_tree hr (by rfl) g__law_tree k__law_tree b__law_tree .nil pass0 (pa_cons (pv 0) (pa_cons (pv 1) (pa_cons (pe_op op_sub (pv 2) pe_int) pa_nil)))) pa_nil)))))
      pss_nil)
      (pss_cons (ps_set (i := 4) sc__law_tree.nd rfl (Or.inl rfl) (pe_ix ix_list (pe_lst (pa_cons pe_str (pa_cons pe_str pa_nil))) (pe_call G__law_draw (hr.mono (by omega)) (by rfl) g__law_draw k__law_draw b__law_draw .nil pass0 (pa_cons (pv 0) (pa_cons pe_int pa_nil))) (fun _ _ => rfl)))
      (pss_one (ps_ret (pe_tup (pa_cons (pv 4) (pa_cons (pe_call G__law_tree hr (by rfl) g__law_tree k__law_tree b__law_tree .nil pass0 (pa_cons (pv 0) (pa_cons (pv 1) (pa_cons (pe_op op_sub (pv 2) pe_int) pa_nil)))) (pa_cons (pe_call G__law_tree hr (by rfl) g__law_tree k__law_tree b__law_tree .nil pass0 (pa_cons (pv 0) (pa_cons (pv 1) (pa_cons (pe_op op_sub (pv 2) pe_int) pa_nil)))) pa_nil)))))))))), ?_⟩
    have t10 : ∀ d, 10 ≤ tc d := fun d => by cases d <;> (unfold tc; omega)
    have td := t10 d
    refine ⟨_, rfl, s, a, _, c + tc d - 1, rfl, by decide, by decide, hS.mono (by omega), fun way H1 w0 w1 x1 S1 => ?_⟩
    have lv1 := lv.ext x1 Ls hS
    have pick : ∀ vv, vv = [V.ref s, V.ref L] → (sp3__law_pick K) vv H1 Q E := fun vv e => by
      obtain ⟨ws, hL1, d1, ok1⟩ := lv1
      refine .inl ⟨s, a, L, ws, c, e, SqL.of hL1, Ls, fun h => ?_, by rw [d1.map_len]; omega, S1.mono (by omega), fun v H2 vm x2 S2 => ?_⟩
      · rw [h] at d1
        have := d1.map_len
        exact lne (List.length_eq_zero_iff.mp this.symm)
      · obtain ⟨q1, dq, okq⟩ := Lv.pick d1 ok1 vm
        exact q v q1 H2 (dq.tk (tkE x2 S1)) (okQ_mono okq (by omega)) (x1.trans x2) S2
    refine ⟨_, rfl, rfl, _, rfl, ite2 (fun _ => iteT ⟨_, rfl, _, rfl, pick _ rfl⟩) (fun cd => ?_)⟩
    have d0 : d ≠ 0 := fun e => cd (decide_eq_true (by rw [e]; rfl))
    refine ⟨_, rfl, rfl, _, rfl, ite2 (fun _ => ⟨_, rfl, _, rfl, pick _ rfl⟩) (fun _ => ?_)⟩
    obtain ⟨e, rfl⟩ : ∃ e, d = e + 1 := ⟨d - 1, by omega⟩
    have et : tc (e + 1) = 10 + 2 * tc e := rfl
    have ee : ((e + 1 : Nat) : Int) - 1 = ((e : Nat) : Int) := by omega
    refine ⟨_, rfl, rfl, _, rfl, ite2 (fun _ => ?_) (fun _ => ?_)⟩
    · refine ⟨_, rfl, _, rfl, _, rfl, _, _, rfl, rfl, s, a, L, ls, e, c, congrArg (fun z => [V.ref s, V.ref L, V.int z]) ee, by omega, lv1, Ls, lne, ll, S1.mono (by omega), fun v q1 H2 dq okq x2 S2 => ?_⟩
      refine ⟨by show 2 ≤ sizeLine; decide, fun t ht => ?_⟩
      have n3 := same_new (o := HO.tup [V.str (Str.ofString "not"), v]) ht
      exact q _ (.not q1) _ (not_mk (SqT.of upd_same) (dq.tk (TK.same n3))) okq (x1.trans (x2.trans (Ext.of n3))) (S2.ext n3)
    refine ⟨by show 2 ≤ sizeLine; decide, fun l hl => ?_⟩
    have n2 := same_new (o := HO.lst (andor.map V.str)) hl
    have S2 := (S1.ext n2).mono (d := c + 2 * tc e + 1) (by omega)
    refine ⟨_, rfl, s, a, _, c + 2 * tc e, rfl, by decide, by decide, S2, fun iv H3 i0 i1 x3 S3 => ?_⟩
    obtain ⟨word, wm, ew⟩ := strs_at andor i0 i1
    have lv3 := (lv1.same n2).ext x3 Ls S2
    have xe3 := x1.trans ((Ext.of n2).trans x3)
    refine ⟨l, _, _, _, rfl, rfl, SqL.of (x3 _ _ (S1.ne hl) upd_same), ew, ?_⟩
    refine ⟨_, rfl, _, rfl, _, rfl, _, rfl, _, _, rfl, rfl, s, a, L, ls, e, c + tc e, congrArg (fun z => [V.ref s, V.ref L, V.int z]) ee, by omega, lv3, Ls, lne, ll, S3.mono (by omega), fun v q1 H4 dq okq x4 S4 => ?_⟩
    have lv4 := lv3.ext x4 Ls S3
    refine ⟨_, rfl, _, rfl, _, rfl, _, _, rfl, rfl, s, a, L, ls, e, c, congrArg (fun z => [V.ref s, V.ref L, V.int z]) ee, by omega, lv4, Ls, lne, ll, S4, fun v2 q2 H5 dq2 okq2 x5 S5 => ?_⟩
    refine ⟨by show 3 ≤ sizeLine; decide, fun t ht => ?_⟩
    have n6 := same_new (o := HO.tup [V.str word, v, v2]) ht
    have dq6 := (dq.tk (tkE x5 S4)).tk (TK.same n6)
    have dq26 := dq2.tk (TK.same n6)
    have xe6 := (xe3.trans (x4.trans x5)).trans (Ext.of n6)
    simp only [andor, List.mem_cons, List.not_mem_nil, or_false] at wm
    rcases wm with rfl | rfl
    · exact q _ (.and q1 q2) _ (and_mk (SqT.of upd_same) dq6 dq26) ⟨okq, okq2⟩ xe6 (S5.ext n6)
    · exact q _ (.or q1 q2) _ (or_mk (SqT.of upd_same) dq6 dq26) ⟨okq, okq2⟩ xe6 (S5.ext n6)
end
theorem ok__law_tree {P : Program} {w : World} {K : PySem.W.Frag} {mg : Str → Option Value} {base : Heap} (D : Df K mg "_law_tree" s__law_tree ["source", "leaves", "depth"]) (T : Tx mg) (C__law_draw : Cal P w K mg base "_law_draw" ["source", "many"] 2 sp__law_draw) (C__law_pick : Cal P w K mg base "_law_pick" ["source", "row"] 3 (sp3__law_pick K)) : ∀ n, Cal P w K mg base "_law_tree" ["source", "leaves", "depth"] (n + 4) (sp70_tree K n) := by
  intro n
  induction n with
  | zero =>
    obtain ⟨f, fd, F, gf, bf⟩ := D
    exact ⟨f, fd, ⟨fun vs H Q E h => by obtain ⟨_, _, _, _, _, _, _, h, _⟩ := h; exact absurd h (Nat.not_lt_zero _), fun A outer s H args us vs Q E _ _ _ _ h => by obtain ⟨_, _, _, _, _, _, _, h, _⟩ := h; exact absurd h (Nat.not_lt_zero _)⟩, gf, F.kp, bf⟩
  | succ n ih => exact ok__law_tree_step D T C__law_draw C__law_pick ih

end Z
namespace Z
open PySem L2 SX
structure Cor (K : PySem.W.Frag) (A : Addr) (s b D L X Y : Addr) (xv yv : List V) (ps : List Pe) (ls : List Qy) (M : List Addr) (H : Hp) (p d i : Addr) (es : List Pe) (p' d' i' : Addr) (es' : List Pe) : Prop where
  ix : IxAt K A H M p d i es
  iy : IxAt K A H M p' d' i' es'
  hD : H D = some (.lst (ps.map fun e => V.ref e.pa))
  pe : ∀ e ∈ ps, PeAt K H M e
  lv : Lv K 1 H L ls
  hX : H X = some (.lst xv)
  hY : H Y = some (.lst yv)
  mm : s ∈ M ∧ d ∈ M ∧ i ∈ M ∧ d' ∈ M ∧ i' ∈ M
  n1 : d ≠ i ∧ s ≠ d ∧ s ≠ i ∧ b ≠ d ∧ b ≠ i
  n2 : d' ≠ i' ∧ s ≠ d' ∧ s ≠ i' ∧ b ≠ d' ∧ b ≠ i'
  n3 : d' ≠ d ∧ d' ≠ i ∧ i' ≠ d ∧ i' ≠ i
  nD : D ≠ s ∧ D ≠ d ∧ D ≠ i ∧ D ≠ d' ∧ D ≠ i'
  nL : L ≠ s ∧ L ≠ d ∧ L ≠ i ∧ L ≠ d' ∧ L ≠ i'
  nX : X ≠ s ∧ X ≠ d ∧ X ≠ i ∧ X ≠ d' ∧ X ≠ i'
  nY : Y ≠ s ∧ Y ≠ d ∧ Y ≠ i ∧ Y ≠ d' ∧ Y ≠ i'
section
variable {K : PySem.W.Frag} {A s b D L X Y : Addr} {xv yv : List V} {ps : List Pe} {ls : List Qy} {M : List Addr} {H H' : Hp} {p d i : Addr} {es es2 : List Pe} {p' d' i' : Addr} {es' : List Pe}
theorem Cor.symm (c : Cor K A s b D L X Y xv yv ps ls M H p d i es p' d' i' es') : Cor K A s b D L X Y xv yv ps ls M H p' d' i' es' p d i es := by
  obtain ⟨a1, a2, a3, a4, a5, a6, a7, ⟨m1, m2, m3, m4, m5⟩, a9, a10, ⟨b1, b2, b3, b4⟩, ⟨c1, c2, c3, c4, c5⟩, ⟨e1, e2, e3, e4, e5⟩, ⟨f1, f2, f3, f4, f5⟩, ⟨g1, g2, g3, g4, g5⟩⟩ := c
  exact ⟨a2, a1, a3, a4, a5, a6, a7, ⟨m1, m4, m5, m2, m3⟩, a10, a9, ⟨b1.symm, b3.symm, b2.symm, b4.symm⟩, ⟨c1, c4, c5, c2, c3⟩, ⟨e1, e4, e5, e2, e3⟩, ⟨f1, f4, f5, f2, f3⟩, ⟨g1, g4, g5, g2, g3⟩⟩
theorem Cor.step (c : Cor K A s b D L X Y xv yv ps ls M H p d i es p' d' i' es') (x : ExtL [s, d, i] H H') (T : TT K H H') (ix2 : IxAt K A H' M p d i es2) : Cor K A s b D L X Y xv yv ps ls M H' p d i es2 p' d' i' es' := by
  obtain ⟨a1, a2, a3, a4, ⟨ws, l1, l2, l3⟩, a6, a7, ⟨m1, m2, m3, m4, m5⟩, a9, ⟨h1, h2, h3, h4⟩, ⟨b1, b2, b3, b4⟩, ⟨c1, c2, c3, c4, c5⟩, ⟨e1, e2, e3, e4, e5⟩, ⟨f1, f2, f3, f4, f5⟩, ⟨g1, g2, g3, g4, g5⟩⟩ := c
  have sub : ∀ a ∈ [s, d, i], a ∈ M := by simp [m1, m2, m3]
  exact ⟨ix2, a2.keep x sub T (by simp [b1, b2, h2.symm]) (by simp [b3, b4, h3.symm]), x _ _ (by simp [c1, c2, c3]) a3, fun e m => (a4 e m).keep x sub T, ⟨ws, x _ _ (by simp [e1, e2, e3]) l1, l2.tk T.1, l3⟩, x _ _ (by simp [f1, f2, f3]) a6, x _ _ (by simp [g1, g2, g3]) a7, ⟨m1, m2, m3, m4, m5⟩, a9, ⟨h1, h2, h3, h4⟩, ⟨b1, b2, b3, b4⟩, ⟨c1, c2, c3, c4, c5⟩, ⟨e1, e2, e3, e4, e5⟩, ⟨f1, f2, f3, f4, f5⟩, ⟨g1, g2, g3, g4, g5⟩⟩
theorem Cor.ext {z : Nat} (c : Cor K A s b D L X Y xv yv ps ls M H p d i es p' d' i' es') (x : Ext s H H') (S : Src H s b z) : Cor K A s b D L X Y xv yv ps ls M H' p d i es p' d' i' es' := by
  have T := TT.ext (K := K) x S
  have y : ExtL [s] H H' := ExtL.ofExt x (by simp)
  exact c.step (y.mono (by simp)) T (c.ix.keep y (by simp [c.mm.1]) T (by simp [c.n1.2.1.symm]) (by simp [c.n1.2.2.1.symm]))
theorem Cor.same (c : Cor K A s b D L X Y xv yv ps ls M H p d i es p' d' i' es') (x : Same H H') : Cor K A s b D L X Y xv yv ps ls M H' p d i es p' d' i' es' := by
  have T := TT.same (K := K) x
  exact c.step (ExtL.of x) T (c.ix.keep (ExtL.of (ms := []) x) (by simp) T (by simp) (by simp))
end
section
variable {P : Program} {w : World} {K : PySem.W.Frag} {mg : Str → Option Value} {base : Heap}
theorem ok_law {f : Addr} {fd : FuncData} (F : Fun K "law" "law" s_law f fd) (T : Tx mg) {A_Index : Addr} (O : To K mg A_Index)  (C_Index____init__ : CalI P w K mg base A_Index ["self"] 1 (sp71_init K A_Index)) (C_Index__found : CalM P w K mg base A_Index "found" ["self", "query"] 18 (sp71_ifound K A_Index)) (C__law_asked : Cal P w K mg base "_law_asked" ["index", "inside", "query"] 19 (sp71_asked K A_Index)) (C__law_deed : Cal P w K mg base "_law_deed" ["source", "index", "inside", "pool"] 9 (sp71_deed K A_Index)) (C__law_draw : Cal P w K mg base "_law_draw" ["source", "many"] 2 sp__law_draw) (C__law_found_due : Cal P w K mg base "_law_found_due" ["inside", "query"] 16 (sp71_fdue K)) (C__law_leaves : Cal P w K mg base "_law_leaves" ["source", "words", "names"] 4 (sp71_leaves K)) (C__law_names : Cal P w K mg base "_law_names" ["source", "many"] 4 (sp9__law_names K)) (C__law_pool : Cal P w K mg base "_law_pool" ["source", "words", "names"] 6 (sp71_pool K)) (C__law_put : Cal P w K mg base "_law_put" ["index", "inside", "chosen"] 8 (sp71_put K A_Index)) (C__law_same : Cal P w K mg base "_law_same" ["actual", "due"] 4 (sp__law_same K 3)) (C__law_source : Cal P w K mg base "_law_source" ["script"] 2 (sp__law_source K)) (C__law_split : Cal P w K mg base "_law_split" ["notice"] 6 (sp70_split K)) (C__law_tree : Cal P w K mg base "_law_tree" ["source", "leaves", "depth"] 8 (sp70_tree K 4)) (C__law_words : Cal P w K mg base "_law_words" ["source"] 5 (sp70_words K)) : FnOk P w K mg base CX0 20 f fd ["script"] (sp_law K) := by
  obtain ⟨f_Index____init__, fd_Index____init__, G_Index____init__, h_Index____init__, b_Index____init__⟩ := C_Index____init__
  obtain ⟨f_Index__found, fd_Index__found, G_Index__found, h_Index__found, b_Index__found⟩ := C_Index__found
  obtain ⟨f__law_asked, fd__law_asked, G__law_asked, g__law_asked, k__law_asked, b__law_asked⟩ := C__law_asked
  obtain ⟨f__law_deed, fd__law_deed, G__law_deed, g__law_deed, k__law_deed, b__law_deed⟩ := C__law_deed
  obtain ⟨f__law_draw, fd__law_draw, G__law_draw, g__law_draw, k__law_draw, b__law_draw⟩ := C__law_draw
  obtain ⟨f__law_found_due, fd__law_found_due, G__law_found_due, g__law_found_due, k__law_found_due, b__law_found_due⟩ := C__law_found_due
  obtain ⟨f__law_leaves, fd__law_leaves, G__law_leaves, g__law_leaves, k__law_leaves, b__law_leaves⟩ := C__law_leaves
  obtain ⟨f__law_names, fd__law_names, G__law_names, g__law_names, k__law_names, b__law_names⟩ := C__law_names
  obtain ⟨f__law_pool, fd__law_pool, G__law_pool, g__law_pool, k__law_pool, b__law_pool⟩ := C__law_pool
  obtain ⟨f__law_put, fd__law_put, G__law_put, g__law_put, k__law_put, b__law_put⟩ := C__law_put
  obtain ⟨f__law_same, fd__law_same, G__law_same, g__law_same, k__law_same, b__law_same⟩ := C__law_same
  obtain ⟨f__law_source, fd__law_source, G__law_source, g__law_source, k__law_source, b__law_source⟩ := C__law_source
  obtain ⟨f__law_split, fd__law_split, G__law_split, g__law_split, k__law_split, b__law_split⟩ := C__law_split
  obtain ⟨f__law_tree, fd__law_tree, G__law_tree, g__law_tree, k__law_tree, b__law_tree⟩ := C__law_tree
  obtain ⟨f__law_words, fd__law_words, G__law_words, g__law_words, k__law_words, b__law_words⟩ := C__law_words
  refine F.ok sc_law (fun vs H Q E h => ?_) (fun cdv A outer s₀ H vs Q E hr h => ?_)
  · obtain ⟨A0, sc, rfl, _⟩ := h; rfl
  · obtain ⟨A0, sc, rfl, hA, hlen, q⟩ := h
    refine ⟨_, (pss_cons (ps_set (i := 1) sc_law.nd rfl (Or.inl rfl) (pe_call G__law_source (hr.mono (by decide)) (by rfl) g__law_source k__law_source b__law_source .nil pass0 (pa_cons (pv 0) pa_nil)))
      (pss_cons (ps_set (i := 2) sc_law.nd rfl (Or.inl rfl) (pe_call G__law_words (hr.mono (by decide)) (by rfl) g__law_words k__law_words b__law_words .nil pass0 (pa_cons (pv 1) pa_nil)))
      (pss_cons (ps_set (i := 3) sc_law.nd rfl (Or.inl rfl) (pe_call G__law_names (hr.mono (by decide)) (by rfl) g__law_names k__law_names b__law_names .nil pass0 (pa_cons (pv 1) (pa_cons pe_int pa_nil))))
      (pss_cons (ps_setLc (i := 4) (own := [("notice", 13)]) (g := gName 13) (tt := tYes) rfl sc_law.nd rfl rfl (sw_true rfl rfl rfl (by decide +kernel)) (pi_list (pe_call G__law_pool (hr.mono (by decide)) (by rfl) g__law_pool k__law_pool b__law_pool .nil pass0 (pa_cons (pv 1) (pa_cons (pv 2) (pa_cons (pv 3) pa_nil))))) (blkOk_by (own := [("notice", 13)]) (N := N_law) (sc := defScope s_law) (by decide +kernel)) (fun _ _ _ _ _ => pg_name (i := 13) sc_law.nd rfl (Or.inl rfl)) (fun _ _ _ _ _ => pts_nil) (fun _ _ _ _ _ => (pe_tup (pa_cons (pv 13) (pa_cons (pe_call G__law_split (hr.mono (by decide)) (by rfl) g__law_split k__law_split b__law_split .nil pass0 (pa_cons (pv 13) pa_nil)) pa_nil)))))
      (pss_cons (ps_set (i := 5) sc_law.nd rfl (Or.inl rfl) (pe_call G__law_leaves (hr.mono (by decide)) (by rfl) g__law_leaves k__law_leaves b__law_leaves .nil pass0 (pa_cons (pv 1) (pa_cons (pv 2) (pa_cons (pv 3) pa_nil)))))
      (pss_cons (ps_set (i := 6) sc_law.nd rfl (Or.inl rfl) (pe_lst (pa_cons (pe_make0 h_Index____init__ G_Index____init__ (hr.mono (by decide)) (by rfl) O.g_Index b_Index____init__ .nil pass0) (pa_cons (pe_make0 h_Index____init__ G_Index____init__ (hr.mono (by decide)) (by rfl) O.g_Index b_Index____init__ .nil pass0) pa_nil))))
      (pss_cons (ps_set (i := 7) sc_law.nd rfl (Or.inl rfl) (pe_lst (pa_cons (pe_lst pa_nil) (pa_cons (pe_lst pa_nil) pa_nil))))
      (pss_cons (ps_for PassesOwn.never rfl (pi_list (pe_slice sl_list (pv 4) po_none (po_some (pe_call G__law_draw (hr.mono (by decide)) (by rfl) g__law_draw k__law_draw b__law_draw .nil pass0 (pa_cons (pv 1) (pa_cons (pe_op op_add (pe_callB call_len_seq (by rfl) T.n_len PySem.boot_len (pa_cons (pv 4) pa_nil)) pe_int) pa_nil)))))) (pg_name (i := 8) sc_law.nd rfl (Or.inl rfl))
      (pss_one (ps_if (pt_not (pt_val (pe_call G__law_put (hr.mono (by decide)) (by rfl) g__law_put k__law_put b__law_put .nil pass0 (pa_cons (pe_ix ix_list (pv 6) pe_int (fun _ _ => rfl)) (pa_cons (pe_ix ix_list (pv 7) pe_int (fun _ _ => rfl)) (pa_cons (pv 8) pa_nil))))))
        (pss_one (ps_ret pe_bl))
        pss_nil)))
      (pss_cons (ps_for PassesOwn.never rfl (pi_range1 (by rfl) T.n_range (pa_cons (pe_call G__law_draw (hr.mono (by decide)) (by rfl) g__law_draw k__law_draw b__law_draw .nil pass0 (pa_cons (pv 1) (pa_cons pe_int pa_nil))) pa_nil)) (pg_name (i := 9) sc_law.nd rfl (Or.inl rfl))
      (pss_cons (ps_set (i := 10) sc_law.nd rfl (Or.inl rfl) (pe_call G__law_draw (hr.mono (by decide)) (by rfl) g__law_draw k__law_draw b__law_draw .nil pass0 (pa_cons (pv 1) (pa_cons pe_int pa_nil))))
        (pss_cons (ps_if (pt_not (pt_val (pe_call G__law_deed (hr.mono (by decide)) (by rfl) g__law_deed k__law_deed b__law_deed .nil pass0 (pa_cons (pv 1) (pa_cons (pe_ix ix_list (pv 6) (pv 10) (fun _ _ => rfl)) (pa_cons (pe_ix ix_list (pv 7) (pv 10) (fun _ _ => rfl)) (pa_cons (pv 4) pa_nil)))))))
        (pss_one (ps_ret pe_bl))
        pss_nil)
        (pss_cons (ps_set (i := 11) sc_law.nd rfl (Or.inl rfl) (pe_call G__law_tree (hr.mono (by decide)) (by rfl) g__law_tree k__law_tree b__law_tree .nil pass0 (pa_cons (pv 1) (pa_cons (pv 5) (pa_cons pe_int pa_nil)))))
        (pss_cons (ps_if (pt_not (pt_val (pe_call G__law_asked (hr.mono (by decide)) (by rfl) g__law_asked k__law_asked b__law_asked .nil pass0 (pa_cons (pe_ix ix_list (pv 6) (pv 10) (fun _ _ => rfl)) (pa_cons (pe_ix ix_list (pv 7) (pv 10) (fun _ _ => rfl)) (pa_cons (pv 11) pa_nil))))))
        (pss_one (ps_ret pe_bl))
        pss_nil)
        (pss_one (ps_if (pt_not (pt_val (pe_call G__law_same (hr.mono (by decide)) (by rfl) g__law_same k__law_same b__law_same .nil pass0 (pa_cons (pe_meth (pe_ix ix_list (pv 6) (pe_op op_sub pe_int (pv 10)) (fun _ _ => rfl)) O.c_Index h_Index__found G_Index__found (hr.mono (by decide)) b_Index__found .nil pass0 (pa_cons (pv 11) pa_nil)) (pa_cons (pe_call G__law_found_due (hr.mono (by decide)) (by rfl) g__law_found_due k__law_found_due b__law_found_due .nil pass0 (pa_cons (pe_ix ix_list (pv 7) (pe_op op_sub pe_int (pv 10)) (fun _ _ => rfl)) (pa_cons (pv 11) pa_nil))) pa_nil)))))
        (pss_one (ps_ret pe_bl))
        pss_nil)))))))
      (pss_cons (ps_set (i := 12) sc_law.nd rfl (Or.inl rfl) (pe_tup (pa_cons pe_str (pa_cons (pe_ix ix_list (pv 5) pe_int (fun _ _ => rfl)) (pa_cons (pe_tup (pa_cons pe_str (pa_cons (pe_ix ix_list (pv 5) pe_int (fun _ _ => rfl)) pa_nil))) pa_nil)))))
      (pss_cons (ps_for PassesOwn.never rfl (pi_list (pe_op L2.op_cat (pv 5) (pe_lst (pa_cons (pv 12) (pa_cons (pe_tup (pa_cons pe_str (pa_cons (pv 12) pa_nil))) (pa_cons (pe_call G__law_tree (hr.mono (by decide)) (by rfl) g__law_tree k__law_tree b__law_tree .nil pass0 (pa_cons (pv 1) (pa_cons (pv 5) (pa_cons pe_int pa_nil)))) pa_nil)))))) (pg_name (i := 11) sc_law.nd rfl (Or.inl rfl))
      (pss_one (ps_if (PW.pt (pw_or (pt_not (pt_val (pe_call G__law_asked (hr.mono (by decide)) (by rfl) g__law_asked k__law_asked b__law_asked .nil pass0 (pa_cons (pe_ix ix_list (pv 6) pe_int (fun _ _ => rfl)) (pa_cons (pe_ix ix_list (pv 7) pe_int (fun _ _ => rfl)) (pa_cons (pv 11) pa_nil)))))) (pw_or1 (pt_not (pt_val (pe_call G__law_asked (hr.mono (by decide)) (by rfl) g__law_asked k__law_asked b__law_asked .nil pass0 (pa_cons (pe_ix ix_list (pv 6) pe_int (fun _ _ => rfl)) (pa_cons (pe_ix ix_list (pv 7) pe_int (fun _ _ => rfl)) (pa_cons (pv 11) pa_nil)))))))))
        (pss_one (ps_ret pe_bl))
        pss_nil)))
      (pss_one (ps_ret pe_bl))))))))))))), ?_⟩
    have small : ∀ n : Nat, n ≤ 30000 → n ≤ sizeLine := fun n h => Nat.le_trans h (by decide)
    have smallt : ∀ n : Nat, n ≤ 30000 → n < sizeLine := fun n h => Nat.lt_of_le_of_lt h (by decide)
    refine ⟨_, rfl, A0, sc, rfl, hA, hlen, fun s b H1 hs m1 S1 => ?_⟩
    refine ⟨_, rfl, s, b, 1000000, rfl, S1.mono (by decide), fun u us H2 hu hU hW u2 x2 S2 => ?_⟩
    have Us : u ≠ s := S1.ne hu
    obtain ⟨wn, wl, wA⟩ := id hW
    refine ⟨_, rfl, s, b, 2, 900000, rfl, by decide, S2.mono (by decide), fun n ns H3 hn hN nl nms x3 S3 => ?_⟩
    have Ns : n ≠ s := S2.ne hn
    have hU3 := x3 _ _ Us hU
    have nne : ns ≠ [] := fun e => by rw [e] at nl; simp at nl
    -- the pool
    refine ⟨_, rfl, _, rfl, _, rfl, s, b, u, n, us, ns, 800000, rfl, hU3, Us, hW, hN, Ns, nms, nne, by omega, S3.mono (by decide), fun P ns2 H4 hP0 hP no pne pl x4 S4 => ?_⟩
    refine ⟨P, rfl, ⟨_, SqL.of hP⟩, fun D hD => ?_⟩
    have Ds := S4.ne hD
    have Db := S4.nea hD
    obtain ⟨os, hos⟩ : ∃ o, H4 s = some o := ⟨_, S4.lst.choose_spec⟩
    refine lc_list (K := K) (a := P) (xs := ns2.map fun e => e.v) (fun j H' => ∃ ps : List Pe, H' D = some (.lst (ps.map fun e => V.ref e.pa)) ∧ ps.length = j ∧ (∀ e ∈ ps, PeAt K H' [D, s] e) ∧ Same H4 H') ⟨[], upd_same, rfl, (fun _ h => by cases h), same_new hD⟩ (fun j H' _ h => by obtain ⟨_, _, _, _, m⟩ := h; exact m.seq (SqL.of hP)) ?_ ?_
    · rintro j x H5 hj ⟨ps, h5, pl5, pe5, m5⟩
      obtain ⟨e, he, rfl⟩ := map_get hj
      have il := (List.getElem?_eq_some_iff.mp he).1
      have ne5 := (no e (List.mem_of_getElem? he)).tt (TT.same (K := K) m5)
      refine ⟨rfl, _, rfl, _, rfl, e.n, e.v, rfl, ne5.1.nt, ne5.2.1, fun r us6 H6 hr m6 h6 ls6 => ?_⟩
      refine ⟨by show 2 ≤ sizeLine; decide, fun t ht => ?_⟩
      have n7 := same_new (o := HO.tup [e.v, V.ref r]) ht
      have m67 := m6.trans n7
      have rD : r ≠ D := fun z => by rw [z, h5] at hr; cases hr
      have rs : r ≠ s := fun z => by rw [z, m5 _ _ hos] at hr; cases hr
      have hD7 := m67 _ _ h5
      refine ⟨ps.map fun e => V.ref e.pa, hD7, smallt _ (by rw [List.length_map]; omega), ps ++ [⟨t, e.v, e.n, e.t, e.nm, e.k, r⟩], by rw [upd_same, List.map_append]; rfl, by rw [List.length_append, pl5]; rfl, fun z hz => ?_, sput (m5.trans m67) hD⟩
      have T8 := TT.put (K := K) (o := HO.lst ((ps.map fun e => V.ref e.pa) ++ [V.ref t])) hD7
      have x8 : ExtL [D] (upd H6 t (HO.tup [e.v, V.ref r])) (upd (upd H6 t (HO.tup [e.v, V.ref r])) D (HO.lst ((ps.map fun e => V.ref e.pa) ++ [V.ref t]))) := ExtL.put (by simp)
      have sD : ∀ a ∈ [D], a ∈ [D, s] := by simp
      rcases List.mem_append.mp hz with h | h
      · exact ((pe5 z h).keep (ExtL.of (ms := []) m67) (by simp) (TT.same m67)).keep x8 sD T8
      · rw [List.mem_singleton.mp h]
        refine PeAt.keep (K := K) (M := [D, s]) ⟨⟨ne5.2.1, ne5.2.2⟩, SqT.of upd_same, ne5.1.tt (TT.same m67), us6, n7 _ _ h6, by simp [rD, rs], ?_⟩ x8 sD T8
        refine (LmAt.of (M := [D, s]) (s := s) (by simp) fun s' hs' => ?_).ext (ExtL.of n7)
        refine ls6 s' ?_
        rcases List.mem_cons.mp hs' with z | z
        · rw [z]; exact ⟨_, h5⟩
        · rw [List.mem_singleton.mp z]; exact ⟨_, m5 _ _ hos⟩
    rintro H5 ⟨ps, hD5, psl, pe5, m5⟩
    rw [List.length_map] at psl
    have psne : ps ≠ [] := fun e => by rw [e] at psl; exact pne (List.length_eq_zero_iff.mp psl.symm)
    have psl8 : ps.length ≤ 8 := by omega
    have S5 := S4.ext m5
    have xE5 : Ext s H3 H5 := x4.trans (Ext.of m5)
    -- leaves
    refine ⟨_, rfl, _, rfl, _, rfl, s, b, u, n, us, ns, 700000, rfl, xE5 _ _ Us hU3, Us, wl, wn, xE5 _ _ Ns hN, Ns, by omega, S5.mono (by decide), fun L ls H6 hL lv6 lne ll x6 S6 => ?_⟩
    have Ls := S5.ne hL
    have hD6 := x6 _ _ Ds hD5
    have pe6 : ∀ e ∈ ps, PeAt K H6 [D, s] e := fun e m => (pe5 e m).keep (N := [s]) (ExtL.ofExt x6 (by simp)) (by simp) (TT.ext x6 S5)
    -- two indexes
    refine fun p0 dx0 hp0 hdx0 dp0 => ?_
    have j1 := same_new (o := HO.own p0) hdx0
    have jp : (upd H6 dx0 (.own p0)) p0 = none := by rw [upd_ne dp0.symm]; exact hp0
    have j12 := j1.trans (same_new (o := HO.ins A_Index dx0 []) jp)
    refine ⟨p0, dx0, rfl, upd_same, fun d0 H7 hd0 x7 hp7 hd7 => ⟨rfl, ?_⟩⟩
    have m7 : Same H6 H7 := fun b o hb => x7 _ _ (by simpa using ne_of_none hb hp0) (j12 _ _ hb)
    have hd06 : H6 d0 = none := Same.free j12 hd0
    clear x7 j12 jp j1 hd0
    refine fun p1 dx1 hp1 hdx1 dp1 => ?_
    have j1 := same_new (o := HO.own p1) hdx1
    have jp : (upd H7 dx1 (.own p1)) p1 = none := by rw [upd_ne dp1.symm]; exact hp1
    have j12 := j1.trans (same_new (o := HO.ins A_Index dx1 []) jp)
    refine ⟨p1, dx1, rfl, upd_same, fun d1 H8 hd1 x8 hp8 hd8 => ⟨rfl, ?_⟩⟩
    have m8 : Same H7 H8 := fun b o hb => x8 _ _ (by simpa using ne_of_none hb hp1) (j12 _ _ hb)
    have hd17 : H7 d1 = none := Same.free j12 hd1
    clear x8 j12 jp j1 hd1
    refine ⟨by show 2 ≤ sizeLine; decide, fun X hX => ?_⟩
    have m9 := same_new (o := HO.lst [V.ref p0, V.ref p1]) hX
    refine ⟨Nat.zero_le _, fun i0 hi0 => ⟨Nat.zero_le _, fun i1 hi1 => ⟨by show 2 ≤ sizeLine; decide, fun Y hY => ?_⟩⟩⟩
    have m10 := same_new (o := HO.lst []) hi0
    have m11 := same_new (o := HO.lst []) hi1
    have m12 := same_new (o := HO.lst [V.ref i0, V.ref i1]) hY
    have S7 := S6.ext m7
    have S8 := S7.ext m8
    have S9 := S8.ext m9
    have S10 := S9.ext m10
    have S11 := S10.ext m11
    have S12 := S11.ext m12
    have fX9 : (upd H8 X (HO.lst [V.ref p0, V.ref p1])) X = some (.lst [.ref p0, .ref p1]) := upd_same
    have fi10 : (upd (upd H8 X (HO.lst [V.ref p0, V.ref p1])) i0 (HO.lst [])) i0 = some (.lst []) := upd_same
    have fi11 : (upd (upd (upd H8 X (HO.lst [V.ref p0, V.ref p1])) i0 (HO.lst [])) i1 (HO.lst [])) i1 = some (.lst []) := upd_same
    have fY12 : (upd (upd (upd (upd H8 X (HO.lst [V.ref p0, V.ref p1])) i0 (HO.lst [])) i1 (HO.lst [])) Y (HO.lst [V.ref i0, V.ref i1])) Y = some (.lst [.ref i0, .ref i1]) := upd_same
    have pe12 : ∀ e ∈ ps, PeAt K (upd (upd (upd (upd H8 X (HO.lst [V.ref p0, V.ref p1])) i0 (HO.lst [])) i1 (HO.lst [])) Y (HO.lst [V.ref i0, V.ref i1])) [i1, i0, d1, d0, D, s] e := fun e m => by
      have k7 := ((pe6 e m).grow hd06).keep (ExtL.of (ms := []) m7) (by simp) (TT.same m7)
      have k9 := (k7.grow hd17).keep (ExtL.of (ms := []) (m8.trans m9)) (by simp) (TT.same (m8.trans m9))
      have k10 := (k9.grow hi0).keep (ExtL.of (ms := []) m10) (by simp) (TT.same m10)
      exact (k10.grow hi1).keep (ExtL.of (ms := []) (m11.trans m12)) (by simp) (TT.same (m11.trans m12))
    have sy : ∀ a o, H8 a = some o → (upd (upd (upd (upd H8 X (HO.lst [V.ref p0, V.ref p1])) i0 (HO.lst [])) i1 (HO.lst [])) Y (HO.lst [V.ref i0, V.ref i1])) a = some o := m9.trans (m10.trans (m11.trans m12))
    have hD8 := m8 _ _ (m7 _ _ hD6)
    have lv12 := ((lv6.same m7).same m8).same sy
    obtain ⟨lw, hL8, _, _⟩ := (lv6.same m7).same m8
    have hL6 : ∃ o, H6 L = some o := ⟨_, lv6.choose_spec.1⟩
    obtain ⟨oL, hL6⟩ := hL6
    have hL8' := m8 _ _ (m7 _ _ hL6)
    have hs8 := S8.lst.choose_spec
    have hd78 := m8 _ _ hd7
    have hp78 := m8 _ _ hp7
    have c12 : Cor K A_Index s b D L X Y [.ref p0, .ref p1] [.ref i0, .ref i1] ps ls [i1, i0, d1, d0, D, s] (upd (upd (upd (upd H8 X (HO.lst [V.ref p0, V.ref p1])) i0 (HO.lst [])) i1 (HO.lst [])) Y (HO.lst [V.ref i0, V.ref i1])) p0 d0 i0 [] p1 d1 i1 [] := by
      have di0 : ∀ {a o}, H8 a = some o → a ≠ i0 := fun h => ne_of_none (m9 _ _ h) hi0
      have di1 : ∀ {a o}, H8 a = some o → a ≠ i1 := fun h => ne_of_none (m10 _ _ (m9 _ _ h)) hi1
      have dY : ∀ {a o}, H8 a = some o → a ≠ Y := fun h => ne_of_none (m11 _ _ (m10 _ _ (m9 _ _ h))) hY
      have ii : i0 ≠ i1 := ne_of_none fi10 hi1
      have Xi0 : X ≠ i0 := ne_of_none fX9 hi0
      have Xi1 : X ≠ i1 := ne_of_none (m10 _ _ fX9) hi1
      have dd : d0 ≠ d1 := ne_of_none hd7 hd17
      have dX : ∀ {a o}, H8 a = some o → X ≠ a := fun h => (ne_of_none h hX).symm
      have kd : ∀ {p a : Addr} {dx d : Addr} {kv}, H8 p = some (.ins A_Index dx [("_entries", .ref d)]) → H8 a = some (.dT kv) → p ≠ a := fun h k z => by rw [z, k] at h; cases h
      have kl : ∀ {p a : Addr} {dx d : Addr} {kv}, H8 p = some (.ins A_Index dx [("_entries", .ref d)]) → H8 a = some (.lst kv) → p ≠ a := fun h k z => by rw [z, k] at h; cases h
      refine ⟨⟨⟨dx0, sy _ _ hp78⟩, ⟨[], sy _ _ hd78, rfl⟩, m12 _ _ (m11 _ _ fi10), (fun _ h => by cases h), List.nodup_nil, ?_⟩, ⟨⟨dx1, sy _ _ hp8⟩, ⟨[], sy _ _ hd8, rfl⟩, m12 _ _ fi11, (fun _ h => by cases h), List.nodup_nil, ?_⟩, sy _ _ hD8, pe12, lv12, (m12 _ _ (m11 _ _ (m10 _ _ fX9))), fY12, ⟨by simp, by simp, by simp, by simp, by simp⟩, ⟨di0 hd78, (S6.ne hd06).symm, (S9.ne hi0).symm, (S6.nea hd06).symm, (S9.nea hi0).symm⟩, ⟨di1 hd8, (S7.ne hd17).symm, (S10.ne hi1).symm, (S7.nea hd17).symm, (S10.nea hi1).symm⟩, ⟨dd.symm, di0 hd8, (di1 hd78).symm, ii.symm⟩, ⟨Ds, ne_of_none hD6 hd06, di0 hD8, ne_of_none (m7 _ _ hD6) hd17, di1 hD8⟩, ⟨Ls, ne_of_none hL6 hd06, di0 hL8', ne_of_none (m7 _ _ hL6) hd17, di1 hL8'⟩, ⟨S8.ne hX, dX hd78, Xi0, dX hd8, Xi1⟩, ⟨S11.ne hY, (dY hd78).symm, (ne_of_none (m11 _ _ fi10) hY).symm, (dY hd8).symm, (ne_of_none fi11 hY).symm⟩⟩
      · simp [di1 hp78, di0 hp78, kd hp78 hd8, kd hp78 hd78, kl hp78 hD8, kl hp78 hs8]
      · simp [di1 hp8, di0 hp8, kd hp8 hd8, kd hp8 hd78, kl hp8 hD8, kl hp8 hs8]
    generalize [i1, i0, d1, d0, D, s] = M at c12
    generalize (upd (upd (upd (upd H8 X (HO.lst [V.ref p0, V.ref p1])) i0 (HO.lst [])) i1 (HO.lst [])) Y (HO.lst [V.ref i0, V.ref i1])) = H12 at c12 S12
    clear pe12 pe6 pe5 no sy lv12 lv6 fX9 fi10 fi11 fY12 hd78 hp78 hs8 hL8' hL8 hD8 S11 S10 S9 S8 S7 S6 S5 m12 m11 m10 m9 m8 m7
    have S12 := S12.mono (d := 600000) (by decide)
    have aX0 : atI [V.ref p0, V.ref p1] (0 : Int) = some (.ref p0) := atI_nat (j := 0) rfl
    have aX1 : atI [V.ref p0, V.ref p1] (1 : Int) = some (.ref p1) := atI_nat (j := 1) rfl
    have aY0 : atI [V.ref i0, V.ref i1] (0 : Int) = some (.ref i0) := atI_nat (j := 0) rfl
    have aY1 : atI [V.ref i0, V.ref i1] (1 : Int) = some (.ref i1) := atI_nat (j := 1) rfl
    -- the first are put
    refine ⟨_, rfl, _, rfl, _, rfl, D, _, rfl, .inl (SqL.of c12.hD), _, _, rfl, rfl, s, b, _, 599000, rfl, by omega, by rw [List.length_map]; omega, S12.mono (by decide), fun mk H13 mk0 mk1 x13 S13 => ?_⟩
    have c13 := c12.ext x13 S12
    refine ⟨mk, rfl, D, _, rfl, SqL.of c13.hD, fun Z hZ => ?_⟩
    rw [cutV_to mk0, ← List.map_take]
    have n14 := same_new (o := HO.lst ((ps.take mk.toNat).map fun e => V.ref e.pa)) hZ
    have c14 := c13.same n14
    have S14 := S13.ext n14
    have hZ14 : (upd H13 Z (HO.lst ((ps.take mk.toNat).map fun e => V.ref e.pa))) Z = some (.lst ((ps.take mk.toNat).map fun e => V.ref e.pa)) := upd_same
    have zl : (ps.take mk.toNat).length ≤ 8 := by rw [List.length_take]; omega
    have zm : ∀ e ∈ ps.take mk.toNat, e ∈ ps := fun e m => List.mem_of_mem_take m
    have Zd : Z ≠ d0 := by
      obtain ⟨_, h, _⟩ := c13.ix.di
      exact (ne_of_none h hZ).symm
    have Zi : Z ≠ i0 := (ne_of_none c13.ix.li hZ).symm
    generalize ps.take mk.toNat = pz at hZ14 zl zm c14 S14
    generalize upd H13 Z (HO.lst (pz.map fun e => V.ref e.pa)) = H14 at hZ14 c14 S14
    refine ⟨Z, rfl, ⟨_, SqL.of hZ14⟩, ?_⟩
    refine for_list (K := K) (a := Z) (xs := pz.map fun e => V.ref e.pa) (fun j σ H' => ∃ (v8 : Option V) (es : List Pe), σ = [some (.ref A0), some (.ref s), some (.ref u), some (.ref n), some (.ref D), some (.ref L), some (.ref X), some (.ref Y), v8, none, none, none, none, none] ∧ ExtL [d0, i0] H14 H' ∧ Cor K A_Index s b D L X Y [.ref p0, .ref p1] [.ref i0, .ref i1] ps ls M H' p0 d0 i0 es p1 d1 i1 [] ∧ es.length ≤ j ∧ Src H' s b 599000) ⟨none, [], rfl, ExtL.refl _ _, c14, Nat.le_refl _, S14⟩ (fun j σ H' _ h => by obtain ⟨_, _, _, x, _⟩ := h; exact SqL.of (x _ _ (by simp [Zd, Zi]) hZ14)) ?_ ?_
    · rintro j x σ H15 hj ⟨v8, es, rfl, x15, c15, el, S15⟩
      obtain ⟨e, he, rfl⟩ := map_get hj
      have il := (List.getElem?_eq_some_iff.mp he).1
      have em := zm e (List.mem_of_getElem? he)
      refine ⟨_, rfl, X, _, _, _, rfl, rfl, SqL.of c15.hX, aX0, _, rfl, Y, _, _, _, rfl, rfl, SqL.of c15.hY, aY0, _, rfl, M, p0, d0, i0, es, e, rfl, c15.ix, c15.pe e em, c15.mm.2.1, c15.mm.2.2.1, c15.n1.1, by omega, fun H16 x16 T16 ix16 => ⟨_, rfl, iteF ?_⟩⟩
      have pl1 := putP_len (es := es) (e := e)
      exact ⟨_, _, rfl, x15.trans x16, c15.step (x16.mono (by simp)) T16 ix16, by omega, S15.extL x16 (by simp [c15.n1.2.1, c15.n1.2.2.1]) (by simp [c15.n1.2.2.2.1, c15.n1.2.2.2.2])⟩
    rintro σ H15 ⟨v8, es0, rfl, x15, c15, el, S15⟩
    have el : es0.length ≤ 8 := by rw [List.length_map] at el; omega
    clear x15 hZ14 Zd Zi c14 S14 c13 S13 c12 S12
    -- the steps
    refine ⟨_, rfl, s, b, _, 598000, rfl, by decide, by decide, S15.mono (by decide), fun st H16 st0 st1 x16 S16 => ?_⟩
    have c16 := c15.ext x16 S15
    refine ⟨_, rfl, by omega, by omega, ?_⟩
    refine for_range (lo := 0) (n := st.toNat) (fun j σ H' => ∃ (v9 v10 v11 : Option V) (ea eb : List Pe), σ = [some (.ref A0), some (.ref s), some (.ref u), some (.ref n), some (.ref D), some (.ref L), some (.ref X), some (.ref Y), v8, v9, v10, v11, none, none] ∧ Cor K A_Index s b D L X Y [.ref p0, .ref p1] [.ref i0, .ref i1] ps ls M H' p0 d0 i0 ea p1 d1 i1 eb ∧ ea.length ≤ 8 + j ∧ eb.length ≤ 8 + j ∧ j ≤ 11 ∧ Src H' s b (598000 - 1000 * j)) ⟨_, _, _, es0, [], rfl, c16, by omega, by show 0 ≤ _; omega, by omega, S16⟩ ?_ ?_
    · rintro j σ H17 hj ⟨v9, v10, v11, ea, eb, rfl, c17, la, lb, j11, S17⟩
      have j10 : j ≤ 10 := by omega
      refine ⟨_, rfl, s, b, _, 598000 - 1000 * j - 1, rfl, by decide, by decide, S17.mono (by omega), fun kk H18 kk0 kk1 x18 S18 => ?_⟩
      have c18 := c17.ext x18 S17
      obtain ⟨p, d, i, es, p', d', i', es', aX, aY, aX', aY', cor, l1, l2, back⟩ : ∃ p d i es p' d' i' es', atI [V.ref p0, V.ref p1] kk = some (.ref p) ∧ atI [V.ref i0, V.ref i1] kk = some (.ref i) ∧ atI [V.ref p0, V.ref p1] (1 - kk) = some (.ref p') ∧ atI [V.ref i0, V.ref i1] (1 - kk) = some (.ref i') ∧ Cor K A_Index s b D L X Y [.ref p0, .ref p1] [.ref i0, .ref i1] ps ls M H18 p d i es p' d' i' es' ∧ es.length ≤ 8 + j ∧ es'.length ≤ 8 + j ∧ (∀ H' es2, es2.length ≤ 8 + j + 1 → Cor K A_Index s b D L X Y [.ref p0, .ref p1] [.ref i0, .ref i1] ps ls M H' p d i es2 p' d' i' es' → ∃ ea eb, Cor K A_Index s b D L X Y [.ref p0, .ref p1] [.ref i0, .ref i1] ps ls M H' p0 d0 i0 ea p1 d1 i1 eb ∧ ea.length ≤ 8 + (j + 1) ∧ eb.length ≤ 8 + (j + 1)) := by
        rcases (show kk = 0 ∨ kk = 1 by omega) with rfl | rfl
        · exact ⟨p0, d0, i0, ea, p1, d1, i1, eb, aX0, aY0, aX1, aY1, c18, la, lb, fun H' es2 h c => ⟨es2, eb, c, by omega, by omega⟩⟩
        · exact ⟨p1, d1, i1, eb, p0, d0, i0, ea, aX1, aY1, aX0, aY0, c18.symm, lb, la, fun H' es2 h c => ⟨ea, es2, c.symm, by omega, by omega⟩⟩
      refine ⟨_, rfl, _, rfl, _, rfl, X, _, _, _, rfl, rfl, SqL.of cor.hX, aX, _, rfl, _, rfl, Y, _, _, _, rfl, rfl, SqL.of cor.hY, aY, _, rfl, M, s, b, p, d, i, D, es, ps, 598000 - 1000 * j - 100, rfl, cor.ix, cor.hD, by simp [cor.nD.1, cor.nD.2.1, cor.nD.2.2.1], psne, by omega, cor.pe, cor.mm.1, cor.mm.2.1, cor.mm.2.2.1, cor.n1.1, by simp [cor.n1.2.1, cor.n1.2.2.1], by simp [cor.n1.2.2.2.1, cor.n1.2.2.2.2], by omega, S18.mono (by omega), fun es2 H19 l19 x19 T19 ix19 S19 => ⟨_, rfl, iteF ?_⟩⟩
      have cor19 := cor.step x19 T19 ix19
      have lq : es2.length ≤ 8 + j + 1 := by omega
      refine ⟨_, rfl, _, rfl, s, b, L, ls, 2, 598000 - 1000 * j - 500, rfl, by decide, cor19.lv, cor19.nL.1, lne, by omega, S19.mono (by show _ + 70 ≤ _; omega), fun v qq H20 dq okq x20 S20 => ?_⟩
      have cor20 := cor19.ext x20 S19
      have okq := okQ_mono okq (show 2 + 1 ≤ 14 by decide)
      refine ⟨_, rfl, _, rfl, X, _, _, _, rfl, rfl, SqL.of cor20.hX, aX, _, rfl, _, rfl, Y, _, _, _, rfl, rfl, SqL.of cor20.hY, aY, _, rfl, M, s, p, d, i, es2, qq, v, rfl, cor20.ix, cor20.mm.1, by omega, dq, okq, fun H21 m21 => ⟨_, rfl, iteF ?_⟩⟩
      have cor21 := cor20.same m21
      obtain ⟨dx', hp'⟩ := cor21.iy.ob
      refine ⟨_, rfl, _, rfl, _, _, rfl, rfl, X, _, _, _, rfl, rfl, SqL.of cor21.hX, aX', p', dx', _, rfl, hp', rfl, _, rfl, M, p', d', i', es', qq, v, rfl, cor21.iy, by omega, dq.tk (TK.same m21), okq, fun w1 H22 m22 d22 => ?_⟩
      have cor22 := cor21.same m22
      have m2 := m21.trans m22
      refine ⟨_, rfl, _, rfl, _, _, rfl, rfl, Y, _, _, _, rfl, rfl, SqL.of cor22.hY, aY', _, rfl, M, s, i', es', qq, v, rfl, cor22.iy.li, cor22.iy.pe, cor22.mm.1, by omega, dq.tk (TK.same m2), okq, fun w2 H23 m23 d23 => ?_⟩
      have cor23 := cor22.same m23
      refine ⟨fndD qq es', w1, w2, rfl, d22.tk (TK.same m23), d23, dl_fd (by omega), _, rfl, iteF ?_⟩
      obtain ⟨ea2, eb2, cc, k1, k2⟩ := back _ _ lq cor23
      exact ⟨_, _, _, ea2, eb2, rfl, cc, k1, k2, by omega, (S20.ext (m2.trans m23)).mono (by omega)⟩
    rintro σ H17 ⟨v9, v10, v11, ea, eb, rfl, c17, la, lb, j11, S17⟩
    have S17 := S17.mono (d := 580000) (by omega)
    have la : ea.length ≤ 20 := by omega
    have lb : eb.length ≤ 20 := by omega
    -- everything
    obtain ⟨lw, hL17, dL17, okL⟩ := id c17.lv
    obtain ⟨q0, hq0⟩ : ∃ q0, ls[0]? = some q0 := ⟨ls[0]'(List.length_pos_iff.mpr lne), List.getElem?_eq_getElem _⟩
    have lwl := dL17.map_len
    obtain ⟨lf, hlf⟩ : ∃ w, lw[0]? = some w := ⟨_, List.getElem?_eq_getElem (show 0 < lw.length by have := (List.getElem?_eq_some_iff.mp hq0).1; omega)⟩
    have dlf : DV K H17 (qyD q0) lf := by
      obtain ⟨q1, hq1, d⟩ := dL17.map_get hlf
      rw [hq0] at hq1
      cases hq1
      exact d
    have okq0 := okL q0 (List.mem_of_getElem? hq0)
    have aL : atI lw (0 : Int) = some lf := atI_nat (j := 0) hlf
    refine ⟨_, rfl, L, _, _, _, rfl, rfl, SqL.of hL17, aL, _, rfl, L, _, _, _, rfl, rfl, SqL.of hL17, aL, by show 2 ≤ sizeLine; decide, fun t1 ht1 => ?_⟩
    have n18 := same_new (o := HO.tup [V.str (Str.ofString "not"), lf]) ht1
    refine ⟨by show 3 ≤ sizeLine; decide, fun t2 ht2 => ?_⟩
    have n19 := same_new (o := HO.tup [V.str (Str.ofString "or"), lf, V.ref t1]) ht2
    have dN : DV K _ (qyD (.not q0)) (.ref t1) := not_mk (SqT.of upd_same) (dlf.tk (TK.same n18))
    have dE : DV K (upd (upd H17 t1 (HO.tup [V.str (Str.ofString "not"), lf])) t2 (HO.tup [V.str (Str.ofString "or"), lf, V.ref t1])) (qyD (.or q0 (.not q0))) (.ref t2) := or_mk (SqT.of upd_same) (dlf.tk (TK.same (n18.trans n19))) (dN.tk (TK.same n19))
    have c19 := c17.same (n18.trans n19)
    have S19 := S17.ext (n18.trans n19)
    generalize (upd (upd H17 t1 (HO.tup [V.str (Str.ofString "not"), lf])) t2 (HO.tup [V.str (Str.ofString "or"), lf, V.ref t1])) = H19 at dE c19 S19
    refine ⟨_, rfl, _, rfl, _, rfl, by show 2 ≤ sizeLine; decide, fun t3 ht3 => ?_⟩
    have n20 := same_new (o := HO.tup [V.str (Str.ofString "not"), V.ref t2]) ht3
    have dF : DV K (upd H19 t3 (HO.tup [V.str (Str.ofString "not"), V.ref t2])) (qyD (.not (.or q0 (.not q0)))) (.ref t3) := not_mk (SqT.of upd_same) (dE.tk (TK.same n20))
    have dE20 := dE.tk (TK.same n20)
    have c20 := c19.same n20
    have S20 := S19.ext n20
    generalize upd H19 t3 (HO.tup [V.str (Str.ofString "not"), V.ref t2]) = H20 at dF dE20 c20 S20
    refine ⟨_, rfl, _, rfl, s, b, L, ls, 3, 500000, rfl, by decide, c20.lv, c20.nL.1, lne, by omega, S20.mono (by decide), fun v3 q3 H21 dq3 okq3 x21 S21 => ?_⟩
    have T21 := tkE (K := K) x21 S20
    have c21 := c20.ext x21 S20
    refine ⟨by show 3 ≤ sizeLine; decide, fun l hl => ?_⟩
    have n22 := same_new (o := HO.lst [V.ref t2, V.ref t3, v3]) hl
    obtain ⟨lw2, hL21, dL21, _⟩ := id c21.lv
    have lwl2 := dL21.map_len
    refine ⟨L, l, _, _, rfl, rfl, n22 _ _ hL21, upd_same, small _ (show lw2.length + 3 ≤ _ by omega), fun Z hZ => ?_⟩
    have n23 := same_new (o := HO.lst (lw2 ++ [V.ref t2, V.ref t3, v3])) hZ
    have m23 := n22.trans n23
    have hZ23 : (upd (upd H21 l (HO.lst [V.ref t2, V.ref t3, v3])) Z (HO.lst (lw2 ++ [V.ref t2, V.ref t3, v3]))) Z = some (.lst (lw2 ++ [V.ref t2, V.ref t3, v3])) := upd_same
    have c23 := c21.same m23
    have T23 : TK K H21 (upd (upd H21 l (HO.lst [V.ref t2, V.ref t3, v3])) Z (HO.lst (lw2 ++ [V.ref t2, V.ref t3, v3]))) := TK.same m23
    have dq : ∀ x ∈ lw2 ++ [V.ref t2, V.ref t3, v3], ∃ qq, DV K (upd (upd H21 l (HO.lst [V.ref t2, V.ref t3, v3])) Z (HO.lst (lw2 ++ [V.ref t2, V.ref t3, v3]))) (qyD qq) x ∧ okQ 14 qq := by
      have okE : okQ 4 (.not (.or q0 (.not q0))) := ⟨okQ_mono okq0 (by decide), okq0⟩
      intro x hx
      rcases List.mem_append.mp hx with h | h
      · obtain ⟨qq, d, o⟩ := Lv.pick (dL21.tk T23) okL h
        exact ⟨qq, d, okQ_mono o (by decide)⟩
      · simp only [List.mem_cons, List.not_mem_nil, or_false] at h
        rcases h with rfl | rfl | rfl
        · exact ⟨_, (dE20.tk T21).tk T23, okQ_mono (n := 3) (m := 14) (q := .or q0 (.not q0)) okE (by decide)⟩
        · exact ⟨_, (dF.tk T21).tk T23, okQ_mono (n := 4) (m := 14) okE (by decide)⟩
        · exact ⟨q3, dq3.tk T23, okQ_mono okq3 (by decide)⟩
    generalize (upd (upd H21 l (HO.lst [V.ref t2, V.ref t3, v3])) Z (HO.lst (lw2 ++ [V.ref t2, V.ref t3, v3]))) = H23 at hZ23 c23 dq
    generalize lw2 ++ [V.ref t2, V.ref t3, v3] = zs at hZ23 dq
    refine ⟨Z, rfl, ⟨_, SqL.of hZ23⟩, ?_⟩
    refine for_list (K := K) (a := Z) (xs := zs) (fun j σ H' => (∃ v11 : Option V, σ = [some (.ref A0), some (.ref s), some (.ref u), some (.ref n), some (.ref D), some (.ref L), some (.ref X), some (.ref Y), v8, v9, v10, v11, some (.ref t2), none]) ∧ Same H23 H') ⟨⟨_, rfl⟩, Same.refl _⟩ (fun j σ H' _ h => h.2.seq (SqL.of hZ23)) ?_ ?_
    · rintro j x σ H24 hj ⟨⟨v11', rfl⟩, m24⟩
      obtain ⟨qq, dqq, okqq⟩ := dq x (List.mem_of_getElem? hj)
      have c24 := c23.same m24
      refine ⟨_, rfl, X, _, _, _, rfl, rfl, SqL.of c24.hX, aX0, _, rfl, Y, _, _, _, rfl, rfl, SqL.of c24.hY, aY0, _, rfl, M, s, p0, d0, i0, ea, qq, x, rfl, c24.ix, c24.mm.1, by omega, dqq.tk (TK.same m24), okqq, fun H25 m25 => ?_⟩
      have c25 := c24.same m25
      have m245 := m24.trans m25
      refine ⟨_, rfl, ?_⟩
      refine iteF ⟨_, rfl, X, _, _, _, rfl, rfl, SqL.of c25.hX, aX1, _, rfl, Y, _, _, _, rfl, rfl, SqL.of c25.hY, aY1, _, rfl, M, s, p1, d1, i1, eb, qq, x, rfl, c25.iy, c25.mm.1, by omega, dqq.tk (TK.same m245), okqq, fun H26 m26 => ?_⟩
      refine ⟨_, rfl, iteF ?_⟩
      exact ⟨⟨_, rfl⟩, m245.trans m26⟩
    rintro σ H24 _
    exact q _
end

end Z
namespace Z
open PySem L2 SX
set_option maxHeartbeats 0 in
theorem all_mk {l : PySem.W.OpenLaw} {w : World} {K : PySem.W.Frag} {h : Heap} {mg : Str → Option Value} {fa : Addr} (X : K.In h) (G : h.Ns mainGlobals mg) (hfa : mg "law" = some (.ref fa))
    {f0 : Addr} {od0 an0 : Option Addr} {sl0 : Array (Option Value)} {oc0 kV0 dc0 pm0 cd0 ct0 : Value}
    {f1 : Addr} {od1 an1 : Option Addr} {sl1 : Array (Option Value)} {oc1 kV1 dc1 pm1 cd1 ct1 : Value}
    {f2 : Addr} {od2 an2 : Option Addr} {sl2 : Array (Option Value)} {oc2 kV2 dc2 pm2 cd2 ct2 : Value}
    {f3 : Addr} {od3 an3 : Option Addr} {sl3 : Array (Option Value)} {oc3 kV3 dc3 pm3 cd3 ct3 : Value}
    {f4 : Addr} {od4 an4 : Option Addr} {sl4 : Array (Option Value)} {oc4 kV4 dc4 pm4 cd4 ct4 : Value}
    {f5 : Addr} {od5 an5 : Option Addr} {sl5 : Array (Option Value)} {oc5 kV5 dc5 pm5 cd5 ct5 : Value}
    {f6 : Addr} {od6 an6 : Option Addr} {sl6 : Array (Option Value)} {oc6 kV6 dc6 pm6 cd6 ct6 : Value}
    {f7 : Addr} {od7 an7 : Option Addr} {sl7 : Array (Option Value)} {oc7 kV7 dc7 pm7 cd7 ct7 : Value}
    {f8 : Addr} {od8 an8 : Option Addr} {sl8 : Array (Option Value)} {oc8 kV8 dc8 pm8 cd8 ct8 : Value}
    {f9 : Addr} {od9 an9 : Option Addr} {sl9 : Array (Option Value)} {oc9 kV9 dc9 pm9 cd9 ct9 : Value}
    {f10 : Addr} {od10 an10 : Option Addr} {sl10 : Array (Option Value)} {oc10 kV10 dc10 pm10 cd10 ct10 : Value}
    {f11 : Addr} {od11 an11 : Option Addr} {sl11 : Array (Option Value)} {oc11 kV11 dc11 pm11 cd11 ct11 : Value}
    {f12 : Addr} {od12 an12 : Option Addr} {sl12 : Array (Option Value)} {oc12 kV12 dc12 pm12 cd12 ct12 : Value}
    {f13 : Addr} {od13 an13 : Option Addr} {sl13 : Array (Option Value)} {oc13 kV13 dc13 pm13 cd13 ct13 : Value}
    {f14 : Addr} {od14 an14 : Option Addr} {sl14 : Array (Option Value)} {oc14 kV14 dc14 pm14 cd14 ct14 : Value}
    {f15 : Addr} {od15 an15 : Option Addr} {sl15 : Array (Option Value)} {oc15 kV15 dc15 pm15 cd15 ct15 : Value}
    {f16 : Addr} {od16 an16 : Option Addr} {sl16 : Array (Option Value)} {oc16 kV16 dc16 pm16 cd16 ct16 : Value}
    {f17 : Addr} {od17 an17 : Option Addr} {sl17 : Array (Option Value)} {oc17 kV17 dc17 pm17 cd17 ct17 : Value}
    {f18 : Addr} {od18 an18 : Option Addr} {sl18 : Array (Option Value)} {oc18 kV18 dc18 pm18 cd18 ct18 : Value}
    {f19 : Addr} {od19 an19 : Option Addr} {sl19 : Array (Option Value)} {oc19 kV19 dc19 pm19 cd19 ct19 : Value}
    {f20 : Addr} {od20 an20 : Option Addr} {sl20 : Array (Option Value)} {oc20 kV20 dc20 pm20 cd20 ct20 : Value}
    {f21 : Addr} {od21 an21 : Option Addr} {sl21 : Array (Option Value)} {oc21 kV21 dc21 pm21 cd21 ct21 : Value}
    {f22 : Addr} {od22 an22 : Option Addr} {sl22 : Array (Option Value)} {oc22 kV22 dc22 pm22 cd22 ct22 : Value}
    {f23 : Addr} {od23 an23 : Option Addr} {sl23 : Array (Option Value)} {oc23 kV23 dc23 pm23 cd23 ct23 : Value}
    {f24 : Addr} {od24 an24 : Option Addr} {sl24 : Array (Option Value)} {oc24 kV24 dc24 pm24 cd24 ct24 : Value}
    {f25 : Addr} {od25 an25 : Option Addr} {sl25 : Array (Option Value)} {oc25 kV25 dc25 pm25 cd25 ct25 : Value}
    {f26 : Addr} {od26 an26 : Option Addr} {sl26 : Array (Option Value)} {oc26 kV26 dc26 pm26 cd26 ct26 : Value}
    {f27 : Addr} {od27 an27 : Option Addr} {sl27 : Array (Option Value)} {oc27 kV27 dc27 pm27 cd27 ct27 : Value}
    {f28 : Addr} {od28 an28 : Option Addr} {sl28 : Array (Option Value)} {oc28 kV28 dc28 pm28 cd28 ct28 : Value}
    {f29 : Addr} {od29 an29 : Option Addr} {sl29 : Array (Option Value)} {oc29 kV29 dc29 pm29 cd29 ct29 : Value}
    {f30 : Addr} {od30 an30 : Option Addr} {sl30 : Array (Option Value)} {oc30 kV30 dc30 pm30 cd30 ct30 : Value}
    {f31 : Addr} {od31 an31 : Option Addr} {sl31 : Array (Option Value)} {oc31 kV31 dc31 pm31 cd31 ct31 : Value}
    {f32 : Addr} {od32 an32 : Option Addr} {sl32 : Array (Option Value)} {oc32 kV32 dc32 pm32 cd32 ct32 : Value}
    {f33 : Addr} {od33 an33 : Option Addr} {sl33 : Array (Option Value)} {oc33 kV33 dc33 pm33 cd33 ct33 : Value}
    {f34 : Addr} {od34 an34 : Option Addr} {sl34 : Array (Option Value)} {oc34 kV34 dc34 pm34 cd34 ct34 : Value}
    {f35 : Addr} {od35 an35 : Option Addr} {sl35 : Array (Option Value)} {oc35 kV35 dc35 pm35 cd35 ct35 : Value}
    {f36 : Addr} {od36 an36 : Option Addr} {sl36 : Array (Option Value)} {oc36 kV36 dc36 pm36 cd36 ct36 : Value}
    {f37 : Addr} {od37 an37 : Option Addr} {sl37 : Array (Option Value)} {oc37 kV37 dc37 pm37 cd37 ct37 : Value}
    {A_Index : Addr}
    (oG_Index : PySem.W.nsIn K mainGlobals "Index" = some (some (.ref A_Index)))
    (oP_Index : PySem.W.plainGet K A_Index Str.empty = true)
    (oD_Index : PySem.W.hasDictIn K A_Index = true)
    (oO_Index : PySem.W.plainOver K A_Index = true)
    (oS_Index : PySem.W.findIn K (.ref A_Index) "__setattr__" = some (some (.builtin "object.__setattr__")))
    (oM_Index : PySem.W.makesIn K A_Index = true)
    (oK_Index : PySem.W.keepIn K (.ref A_Index) = true)
    (oN_Index__entries : PySem.W.findIn K (.ref A_Index) "_entries" = some none)
    (a0 : PySem.W.nsIn K mainGlobals "split_address" = some (some (.ref f0))) (l0 : K.lookup f0 = some ⟨oc0, od0, .func (PySem.W.fnOf "split_address" "split_address" (defArgs s_split_address) (defBody s_split_address) (defScope s_split_address) .none kV0 dc0 pm0 an0 cd0 ct0), sl0⟩) (c0 : PySem.W.codeIn K cd0 "split_address" = true) (k0 : PySem.W.keepIn K (.ref f0) = true)
    (a1 : PySem.W.nsIn K mainGlobals "words_of" = some (some (.ref f1))) (l1 : K.lookup f1 = some ⟨oc1, od1, .func (PySem.W.fnOf "words_of" "words_of" (defArgs s_words_of) (defBody s_words_of) (defScope s_words_of) .none kV1 dc1 pm1 an1 cd1 ct1), sl1⟩) (c1 : PySem.W.codeIn K cd1 "words_of" = true) (k1 : PySem.W.keepIn K (.ref f1) = true)
    (a2 : PySem.W.nsIn K mainGlobals "is_from" = some (some (.ref f2))) (l2 : K.lookup f2 = some ⟨oc2, od2, .func (PySem.W.fnOf "is_from" "is_from" (defArgs s_is_from) (defBody s_is_from) (defScope s_is_from) .none kV2 dc2 pm2 an2 cd2 ct2), sl2⟩) (c2 : PySem.W.codeIn K cd2 "is_from" = true) (k2 : PySem.W.keepIn K (.ref f2) = true)
    (a3 : PySem.W.nsIn K mainGlobals "texts_in" = some (some (.ref f3))) (l3 : K.lookup f3 = some ⟨oc3, od3, .func (PySem.W.fnOf "texts_in" "texts_in" (defArgs s_texts_in) (defBody s_texts_in) (defScope s_texts_in) .none kV3 dc3 pm3 an3 cd3 ct3), sl3⟩) (c3 : PySem.W.codeIn K cd3 "texts_in" = true) (k3 : PySem.W.keepIn K (.ref f3) = true)
    (a4 : PySem.W.nsIn K mainGlobals "rows_of_words" = some (some (.ref f4))) (l4 : K.lookup f4 = some ⟨oc4, od4, .func (PySem.W.fnOf "rows_of_words" "rows_of_words" (defArgs s_rows_of_words) (defBody s_rows_of_words) (defScope s_rows_of_words) .none kV4 dc4 pm4 an4 cd4 ct4), sl4⟩) (c4 : PySem.W.codeIn K cd4 "rows_of_words" = true) (k4 : PySem.W.keepIn K (.ref f4) = true)
    (a5 : PySem.W.nsIn K mainGlobals "is_near" = some (some (.ref f5))) (l5 : K.lookup f5 = some ⟨oc5, od5, .func (PySem.W.fnOf "is_near" "is_near" (defArgs s_is_near) (defBody s_is_near) (defScope s_is_near) .none kV5 dc5 pm5 an5 cd5 ct5), sl5⟩) (c5 : PySem.W.codeIn K cd5 "is_near" = true) (k5 : PySem.W.keepIn K (.ref f5) = true)
    (a6 : PySem.W.nsIn K mainGlobals "fits_basic" = some (some (.ref f6))) (l6 : K.lookup f6 = some ⟨oc6, od6, .func (PySem.W.fnOf "fits_basic" "fits_basic" (defArgs s_fits_basic) (defBody s_fits_basic) (defScope s_fits_basic) .none kV6 dc6 pm6 an6 cd6 ct6), sl6⟩) (c6 : PySem.W.codeIn K cd6 "fits_basic" = true) (k6 : PySem.W.keepIn K (.ref f6) = true)
    (a7 : PySem.W.nsIn K mainGlobals "fits_rows" = some (some (.ref f7))) (l7 : K.lookup f7 = some ⟨oc7, od7, .func (PySem.W.fnOf "fits_rows" "fits_rows" (defArgs s_fits_rows) (defBody s_fits_rows) (defScope s_fits_rows) .none kV7 dc7 pm7 an7 cd7 ct7), sl7⟩) (c7 : PySem.W.codeIn K cd7 "fits_rows" = true) (k7 : PySem.W.keepIn K (.ref f7) = true)
    (a8 : PySem.W.findIn K (.ref A_Index) "__init__" = some (some (.ref f8)))
    (i8 : PySem.W.isFn K (.ref f8) = true)
    (l8 : K.lookup f8 = some ⟨oc8, od8, .func (PySem.W.fnOf "__init__" "Index.__init__" (defArgs s_Index____init__) (defBody s_Index____init__) (defScope s_Index____init__) .none kV8 dc8 pm8 an8 cd8 ct8), sl8⟩)
    (c8 : PySem.W.codeIn K cd8 "Index.__init__" = true)
    (k8 : PySem.W.keepIn K (.ref f8) = true)
    (a9 : PySem.W.findIn K (.ref A_Index) "put" = some (some (.ref f9)))
    (i9 : PySem.W.isFn K (.ref f9) = true)
    (l9 : K.lookup f9 = some ⟨oc9, od9, .func (PySem.W.fnOf "put" "Index.put" (defArgs s_Index__put) (defBody s_Index__put) (defScope s_Index__put) .none kV9 dc9 pm9 an9 cd9 ct9), sl9⟩)
    (c9 : PySem.W.codeIn K cd9 "Index.put" = true)
    (k9 : PySem.W.keepIn K (.ref f9) = true)
    (a10 : PySem.W.findIn K (.ref A_Index) "drop" = some (some (.ref f10)))
    (i10 : PySem.W.isFn K (.ref f10) = true)
    (l10 : K.lookup f10 = some ⟨oc10, od10, .func (PySem.W.fnOf "drop" "Index.drop" (defArgs s_Index__drop) (defBody s_Index__drop) (defScope s_Index__drop) .none kV10 dc10 pm10 an10 cd10 ct10), sl10⟩)
    (c10 : PySem.W.codeIn K cd10 "Index.drop" = true)
    (k10 : PySem.W.keepIn K (.ref f10) = true)
    (a11 : PySem.W.findIn K (.ref A_Index) "found" = some (some (.ref f11)))
    (i11 : PySem.W.isFn K (.ref f11) = true)
    (l11 : K.lookup f11 = some ⟨oc11, od11, .func (PySem.W.fnOf "found" "Index.found" (defArgs s_Index__found) (defBody s_Index__found) (defScope s_Index__found) .none kV11 dc11 pm11 an11 cd11 ct11), sl11⟩)
    (c11 : PySem.W.codeIn K cd11 "Index.found" = true)
    (k11 : PySem.W.keepIn K (.ref f11) = true)
    (a12 : PySem.W.nsIn K mainGlobals "_law_mix" = some (some (.ref f12))) (l12 : K.lookup f12 = some ⟨oc12, od12, .func (PySem.W.fnOf "_law_mix" "_law_mix" (defArgs s__law_mix) (defBody s__law_mix) (defScope s__law_mix) .none kV12 dc12 pm12 an12 cd12 ct12), sl12⟩) (c12 : PySem.W.codeIn K cd12 "_law_mix" = true) (k12 : PySem.W.keepIn K (.ref f12) = true)
    (a13 : PySem.W.nsIn K mainGlobals "_law_source" = some (some (.ref f13))) (l13 : K.lookup f13 = some ⟨oc13, od13, .func (PySem.W.fnOf "_law_source" "_law_source" (defArgs s__law_source) (defBody s__law_source) (defScope s__law_source) .none kV13 dc13 pm13 an13 cd13 ct13), sl13⟩) (c13 : PySem.W.codeIn K cd13 "_law_source" = true) (k13 : PySem.W.keepIn K (.ref f13) = true)
    (a14 : PySem.W.nsIn K mainGlobals "_law_draw" = some (some (.ref f14))) (l14 : K.lookup f14 = some ⟨oc14, od14, .func (PySem.W.fnOf "_law_draw" "_law_draw" (defArgs s__law_draw) (defBody s__law_draw) (defScope s__law_draw) .none kV14 dc14 pm14 an14 cd14 ct14), sl14⟩) (c14 : PySem.W.codeIn K cd14 "_law_draw" = true) (k14 : PySem.W.keepIn K (.ref f14) = true)
    (a15 : PySem.W.nsIn K mainGlobals "_law_pick" = some (some (.ref f15))) (l15 : K.lookup f15 = some ⟨oc15, od15, .func (PySem.W.fnOf "_law_pick" "_law_pick" (defArgs s__law_pick) (defBody s__law_pick) (defScope s__law_pick) .none kV15 dc15 pm15 an15 cd15 ct15), sl15⟩) (c15 : PySem.W.codeIn K cd15 "_law_pick" = true) (k15 : PySem.W.keepIn K (.ref f15) = true)
    (a16 : PySem.W.nsIn K mainGlobals "_law_new_name" = some (some (.ref f16))) (l16 : K.lookup f16 = some ⟨oc16, od16, .func (PySem.W.fnOf "_law_new_name" "_law_new_name" (defArgs s__law_new_name) (defBody s__law_new_name) (defScope s__law_new_name) .none kV16 dc16 pm16 an16 cd16 ct16), sl16⟩) (c16 : PySem.W.codeIn K cd16 "_law_new_name" = true) (k16 : PySem.W.keepIn K (.ref f16) = true)
    (a17 : PySem.W.nsIn K mainGlobals "_law_names" = some (some (.ref f17))) (l17 : K.lookup f17 = some ⟨oc17, od17, .func (PySem.W.fnOf "_law_names" "_law_names" (defArgs s__law_names) (defBody s__law_names) (defScope s__law_names) .none kV17 dc17 pm17 an17 cd17 ct17), sl17⟩) (c17 : PySem.W.codeIn K cd17 "_law_names" = true) (k17 : PySem.W.keepIn K (.ref f17) = true)
    (a18 : PySem.W.nsIn K mainGlobals "_law_words" = some (some (.ref f18))) (l18 : K.lookup f18 = some ⟨oc18, od18, .func (PySem.W.fnOf "_law_words" "_law_words" (defArgs s__law_words) (defBody s__law_words) (defScope s__law_words) .none kV18 dc18 pm18 an18 cd18 ct18), sl18⟩) (c18 : PySem.W.codeIn K cd18 "_law_words" = true) (k18 : PySem.W.keepIn K (.ref f18) = true)
    (a19 : PySem.W.nsIn K mainGlobals "_law_board" = some (some (.ref f19))) (l19 : K.lookup f19 = some ⟨oc19, od19, .func (PySem.W.fnOf "_law_board" "_law_board" (defArgs s__law_board) (defBody s__law_board) (defScope s__law_board) .none kV19 dc19 pm19 an19 cd19 ct19), sl19⟩) (c19 : PySem.W.codeIn K cd19 "_law_board" = true) (k19 : PySem.W.keepIn K (.ref f19) = true)
    (a20 : PySem.W.nsIn K mainGlobals "_law_boards" = some (some (.ref f20))) (l20 : K.lookup f20 = some ⟨oc20, od20, .func (PySem.W.fnOf "_law_boards" "_law_boards" (defArgs s__law_boards) (defBody s__law_boards) (defScope s__law_boards) .none kV20 dc20 pm20 an20 cd20 ct20), sl20⟩) (c20 : PySem.W.codeIn K cd20 "_law_boards" = true) (k20 : PySem.W.keepIn K (.ref f20) = true)
    (a21 : PySem.W.nsIn K mainGlobals "_law_is_int" = some (some (.ref f21))) (l21 : K.lookup f21 = some ⟨oc21, od21, .func (PySem.W.fnOf "_law_is_int" "_law_is_int" (defArgs s__law_is_int) (defBody s__law_is_int) (defScope s__law_is_int) .none kV21 dc21 pm21 an21 cd21 ct21), sl21⟩) (c21 : PySem.W.codeIn K cd21 "_law_is_int" = true) (k21 : PySem.W.keepIn K (.ref f21) = true)
    (a22 : PySem.W.nsIn K mainGlobals "_law_same" = some (some (.ref f22))) (l22 : K.lookup f22 = some ⟨oc22, od22, .func (PySem.W.fnOf "_law_same" "_law_same" (defArgs s__law_same) (defBody s__law_same) (defScope s__law_same) .none kV22 dc22 pm22 an22 cd22 ct22), sl22⟩) (c22 : PySem.W.codeIn K cd22 "_law_same" = true) (k22 : PySem.W.keepIn K (.ref f22) = true)
    (a23 : PySem.W.nsIn K mainGlobals "_law_words_in" = some (some (.ref f23))) (l23 : K.lookup f23 = some ⟨oc23, od23, .func (PySem.W.fnOf "_law_words_in" "_law_words_in" (defArgs s__law_words_in) (defBody s__law_words_in) (defScope s__law_words_in) .none kV23 dc23 pm23 an23 cd23 ct23), sl23⟩) (c23 : PySem.W.codeIn K cd23 "_law_words_in" = true) (k23 : PySem.W.keepIn K (.ref f23) = true)
    (a24 : PySem.W.nsIn K mainGlobals "_law_phrase" = some (some (.ref f24))) (l24 : K.lookup f24 = some ⟨oc24, od24, .func (PySem.W.fnOf "_law_phrase" "_law_phrase" (defArgs s__law_phrase) (defBody s__law_phrase) (defScope s__law_phrase) .none kV24 dc24 pm24 an24 cd24 ct24), sl24⟩) (c24 : PySem.W.codeIn K cd24 "_law_phrase" = true) (k24 : PySem.W.keepIn K (.ref f24) = true)
    (a25 : PySem.W.nsIn K mainGlobals "_law_searched_body" = some (some (.ref f25))) (l25 : K.lookup f25 = some ⟨oc25, od25, .func (PySem.W.fnOf "_law_searched_body" "_law_searched_body" (defArgs s__law_searched_body) (defBody s__law_searched_body) (defScope s__law_searched_body) .none kV25 dc25 pm25 an25 cd25 ct25), sl25⟩) (c25 : PySem.W.codeIn K cd25 "_law_searched_body" = true) (k25 : PySem.W.keepIn K (.ref f25) = true)
    (a26 : PySem.W.nsIn K mainGlobals "_law_pool" = some (some (.ref f26))) (l26 : K.lookup f26 = some ⟨oc26, od26, .func (PySem.W.fnOf "_law_pool" "_law_pool" (defArgs s__law_pool) (defBody s__law_pool) (defScope s__law_pool) .none kV26 dc26 pm26 an26 cd26 ct26), sl26⟩) (c26 : PySem.W.codeIn K cd26 "_law_pool" = true) (k26 : PySem.W.keepIn K (.ref f26) = true)
    (a27 : PySem.W.nsIn K mainGlobals "_law_rows_in" = some (some (.ref f27))) (l27 : K.lookup f27 = some ⟨oc27, od27, .func (PySem.W.fnOf "_law_rows_in" "_law_rows_in" (defArgs s__law_rows_in) (defBody s__law_rows_in) (defScope s__law_rows_in) .none kV27 dc27 pm27 an27 cd27 ct27), sl27⟩) (c27 : PySem.W.codeIn K cd27 "_law_rows_in" = true) (k27 : PySem.W.keepIn K (.ref f27) = true)
    (a28 : PySem.W.nsIn K mainGlobals "_law_split" = some (some (.ref f28))) (l28 : K.lookup f28 = some ⟨oc28, od28, .func (PySem.W.fnOf "_law_split" "_law_split" (defArgs s__law_split) (defBody s__law_split) (defScope s__law_split) .none kV28 dc28 pm28 an28 cd28 ct28), sl28⟩) (c28 : PySem.W.codeIn K cd28 "_law_split" = true) (k28 : PySem.W.keepIn K (.ref f28) = true)
    (a29 : PySem.W.nsIn K mainGlobals "_law_apart" = some (some (.ref f29))) (l29 : K.lookup f29 = some ⟨oc29, od29, .func (PySem.W.fnOf "_law_apart" "_law_apart" (defArgs s__law_apart) (defBody s__law_apart) (defScope s__law_apart) .none kV29 dc29 pm29 an29 cd29 ct29), sl29⟩) (c29 : PySem.W.codeIn K cd29 "_law_apart" = true) (k29 : PySem.W.keepIn K (.ref f29) = true)
    (a30 : PySem.W.nsIn K mainGlobals "_law_query_fits" = some (some (.ref f30))) (l30 : K.lookup f30 = some ⟨oc30, od30, .func (PySem.W.fnOf "_law_query_fits" "_law_query_fits" (defArgs s__law_query_fits) (defBody s__law_query_fits) (defScope s__law_query_fits) .none kV30 dc30 pm30 an30 cd30 ct30), sl30⟩) (c30 : PySem.W.codeIn K cd30 "_law_query_fits" = true) (k30 : PySem.W.keepIn K (.ref f30) = true)
    (a31 : PySem.W.nsIn K mainGlobals "_law_leaves" = some (some (.ref f31))) (l31 : K.lookup f31 = some ⟨oc31, od31, .func (PySem.W.fnOf "_law_leaves" "_law_leaves" (defArgs s__law_leaves) (defBody s__law_leaves) (defScope s__law_leaves) .none kV31 dc31 pm31 an31 cd31 ct31), sl31⟩) (c31 : PySem.W.codeIn K cd31 "_law_leaves" = true) (k31 : PySem.W.keepIn K (.ref f31) = true)
    (a32 : PySem.W.nsIn K mainGlobals "_law_tree" = some (some (.ref f32))) (l32 : K.lookup f32 = some ⟨oc32, od32, .func (PySem.W.fnOf "_law_tree" "_law_tree" (defArgs s__law_tree) (defBody s__law_tree) (defScope s__law_tree) .none kV32 dc32 pm32 an32 cd32 ct32), sl32⟩) (c32 : PySem.W.codeIn K cd32 "_law_tree" = true) (k32 : PySem.W.keepIn K (.ref f32) = true)
    (a33 : PySem.W.nsIn K mainGlobals "_law_found_due" = some (some (.ref f33))) (l33 : K.lookup f33 = some ⟨oc33, od33, .func (PySem.W.fnOf "_law_found_due" "_law_found_due" (defArgs s__law_found_due) (defBody s__law_found_due) (defScope s__law_found_due) .none kV33 dc33 pm33 an33 cd33 ct33), sl33⟩) (c33 : PySem.W.codeIn K cd33 "_law_found_due" = true) (k33 : PySem.W.keepIn K (.ref f33) = true)
    (a34 : PySem.W.nsIn K mainGlobals "_law_asked" = some (some (.ref f34))) (l34 : K.lookup f34 = some ⟨oc34, od34, .func (PySem.W.fnOf "_law_asked" "_law_asked" (defArgs s__law_asked) (defBody s__law_asked) (defScope s__law_asked) .none kV34 dc34 pm34 an34 cd34 ct34), sl34⟩) (c34 : PySem.W.codeIn K cd34 "_law_asked" = true) (k34 : PySem.W.keepIn K (.ref f34) = true)
    (a35 : PySem.W.nsIn K mainGlobals "_law_put" = some (some (.ref f35))) (l35 : K.lookup f35 = some ⟨oc35, od35, .func (PySem.W.fnOf "_law_put" "_law_put" (defArgs s__law_put) (defBody s__law_put) (defScope s__law_put) .none kV35 dc35 pm35 an35 cd35 ct35), sl35⟩) (c35 : PySem.W.codeIn K cd35 "_law_put" = true) (k35 : PySem.W.keepIn K (.ref f35) = true)
    (a36 : PySem.W.nsIn K mainGlobals "_law_deed" = some (some (.ref f36))) (l36 : K.lookup f36 = some ⟨oc36, od36, .func (PySem.W.fnOf "_law_deed" "_law_deed" (defArgs s__law_deed) (defBody s__law_deed) (defScope s__law_deed) .none kV36 dc36 pm36 an36 cd36 ct36), sl36⟩) (c36 : PySem.W.codeIn K cd36 "_law_deed" = true) (k36 : PySem.W.keepIn K (.ref f36) = true)
    (a37 : PySem.W.nsIn K mainGlobals "law" = some (some (.ref f37))) (l37 : K.lookup f37 = some ⟨oc37, od37, .func (PySem.W.fnOf "law" "law" (defArgs s_law) (defBody s_law) (defScope s_law) .none kV37 dc37 pm37 an37 cd37 ct37), sl37⟩) (c37 : PySem.W.codeIn K cd37 "law" = true) (k37 : PySem.W.keepIn K (.ref f37) = true)
    (z_abs : PySem.W.nsIn K mainGlobals "abs" = some none)
    (z_any : PySem.W.nsIn K mainGlobals "any" = some none)
    (z_bool : PySem.W.nsIn K mainGlobals "bool" = some none)
    (z_enumerate : PySem.W.nsIn K mainGlobals "enumerate" = some none)
    (z_int : PySem.W.nsIn K mainGlobals "int" = some none)
    (z_isinstance : PySem.W.nsIn K mainGlobals "isinstance" = some none)
    (z_len : PySem.W.nsIn K mainGlobals "len" = some none)
    (z_list : PySem.W.nsIn K mainGlobals "list" = some none)
    (z_max : PySem.W.nsIn K mainGlobals "max" = some none)
    (z_min : PySem.W.nsIn K mainGlobals "min" = some none)
    (z_ord : PySem.W.nsIn K mainGlobals "ord" = some none)
    (z_range : PySem.W.nsIn K mainGlobals "range" = some none)
    (z_sorted : PySem.W.nsIn K mainGlobals "sorted" = some none)
    (z_str : PySem.W.nsIn K mainGlobals "str" = some none)
    (z_tuple : PySem.W.nsIn K mainGlobals "tuple" = some none)
    {t_LETTERS : Tok} (v_LETTERS : PySem.W.nsIn K mainGlobals "LETTERS" = some (some (.str ("abcdefghijklmnopqrstuvwxyz") t_LETTERS)))
    {t_DIGITS : Tok} (v_DIGITS : PySem.W.nsIn K mainGlobals "DIGITS" = some (some (.str ("0123456789") t_DIGITS))) :
    ∃ fd : FuncData, (∀ (s : Shared) (v : Value), BindsTo s fd ⟨[v], []⟩ [("script", v)]) ∧ ∀ base : Heap, K.In base → base.Ns mainGlobals mg → FnOk l.prog w K mg base CX0 20 fa fd ["script"] (sp_law K) := by
  have e := hfa.symm.trans (PySem.W.mg_of X G a37)
  cases e
  have T : Tx mg := ⟨PySem.W.mg_none_of X G z_abs, PySem.W.mg_none_of X G z_any, PySem.W.mg_none_of X G z_bool, PySem.W.mg_none_of X G z_enumerate, PySem.W.mg_none_of X G z_int, PySem.W.mg_none_of X G z_isinstance, PySem.W.mg_none_of X G z_len, PySem.W.mg_none_of X G z_list, PySem.W.mg_none_of X G z_max, PySem.W.mg_none_of X G z_min, PySem.W.mg_none_of X G z_ord, PySem.W.mg_none_of X G z_range, PySem.W.mg_none_of X G z_sorted, PySem.W.mg_none_of X G z_str, PySem.W.mg_none_of X G z_tuple, ⟨_, PySem.W.mg_of X G v_LETTERS⟩, ⟨_, PySem.W.mg_of X G v_DIGITS⟩⟩
  refine ⟨PySem.W.fnOf "law" "law" (defArgs s_law) (defBody s_law) (defScope s_law) .none kV37 dc37 pm37 an37 cd37 ct37, fun s v => .of_eq rfl, fun base _ _ => ?_⟩
  have D_split_address : Df K mg "split_address" s_split_address ["address"] := ⟨f0, _, fun_mk (st := s_split_address) l0 c0 k0, PySem.W.mg_of X G a0, (fun_mk (st := s_split_address) l0 c0 k0).binds (ps := ["address"]) fun _ _ _ _ _ _ us hl => match us, hl with | [_], _ => rfl⟩
  have D_words_of : Df K mg "words_of" s_words_of ["row"] := ⟨f1, _, fun_mk (st := s_words_of) l1 c1 k1, PySem.W.mg_of X G a1, (fun_mk (st := s_words_of) l1 c1 k1).binds (ps := ["row"]) fun _ _ _ _ _ _ us hl => match us, hl with | [_], _ => rfl⟩
  have D_is_from : Df K mg "is_from" s_is_from ["person", "place", "author"] := ⟨f2, _, fun_mk (st := s_is_from) l2 c2 k2, PySem.W.mg_of X G a2, (fun_mk (st := s_is_from) l2 c2 k2).binds (ps := ["person", "place", "author"]) fun _ _ _ _ _ _ us hl => match us, hl with | [_, _, _], _ => rfl⟩
  have D_texts_in : Df K mg "texts_in" s_texts_in ["part"] := ⟨f3, _, fun_mk (st := s_texts_in) l3 c3 k3, PySem.W.mg_of X G a3, (fun_mk (st := s_texts_in) l3 c3 k3).binds (ps := ["part"]) fun _ _ _ _ _ _ us hl => match us, hl with | [_], _ => rfl⟩
  have D_rows_of_words : Df K mg "rows_of_words" s_rows_of_words ["notice"] := ⟨f4, _, fun_mk (st := s_rows_of_words) l4 c4 k4, PySem.W.mg_of X G a4, (fun_mk (st := s_rows_of_words) l4 c4 k4).binds (ps := ["notice"]) fun _ _ _ _ _ _ us hl => match us, hl with | [_], _ => rfl⟩
  have D_is_near : Df K mg "is_near" s_is_near ["words", "name", "other", "most"] := ⟨f5, _, fun_mk (st := s_is_near) l5 c5 k5, PySem.W.mg_of X G a5, (fun_mk (st := s_is_near) l5 c5 k5).binds (ps := ["words", "name", "other", "most"]) fun _ _ _ _ _ _ us hl => match us, hl with | [_, _, _, _], _ => rfl⟩
  have D_fits_basic : Df K mg "fits_basic" s_fits_basic ["query", "notice", "rows"] := ⟨f6, _, fun_mk (st := s_fits_basic) l6 c6 k6, PySem.W.mg_of X G a6, (fun_mk (st := s_fits_basic) l6 c6 k6).binds (ps := ["query", "notice", "rows"]) fun _ _ _ _ _ _ us hl => match us, hl with | [_, _, _], _ => rfl⟩
  have D_fits_rows : Df K mg "fits_rows" s_fits_rows ["query", "notice", "rows"] := ⟨f7, _, fun_mk (st := s_fits_rows) l7 c7 k7, PySem.W.mg_of X G a7, (fun_mk (st := s_fits_rows) l7 c7 k7).binds (ps := ["query", "notice", "rows"]) fun _ _ _ _ _ _ us hl => match us, hl with | [_, _, _], _ => rfl⟩
  have D_Index____init__ : DfI K A_Index "Index.__init__" s_Index____init__ ["self"] := ⟨f8, _, fun_mk (st := s_Index____init__) l8 c8 k8, ⟨oM_Index, a8, i8, oK_Index⟩, (fun_mk (st := s_Index____init__) l8 c8 k8).binds (ps := ["self"]) fun _ _ _ _ _ _ us hl => match us, hl with | [_], _ => rfl⟩
  have D_Index__put : DfM K A_Index "put" "Index.put" s_Index__put ["self", "notice"] := ⟨f9, _, fun_mk (st := s_Index__put) l9 c9 k9, ⟨a9, i9, k9⟩, (fun_mk (st := s_Index__put) l9 c9 k9).binds (ps := ["self", "notice"]) fun _ _ _ _ _ _ us hl => match us, hl with | [_, _], _ => rfl⟩
  have D_Index__drop : DfM K A_Index "drop" "Index.drop" s_Index__drop ["self", "id"] := ⟨f10, _, fun_mk (st := s_Index__drop) l10 c10 k10, ⟨a10, i10, k10⟩, (fun_mk (st := s_Index__drop) l10 c10 k10).binds (ps := ["self", "id"]) fun _ _ _ _ _ _ us hl => match us, hl with | [_, _], _ => rfl⟩
  have D_Index__found : DfM K A_Index "found" "Index.found" s_Index__found ["self", "query"] := ⟨f11, _, fun_mk (st := s_Index__found) l11 c11 k11, ⟨a11, i11, k11⟩, (fun_mk (st := s_Index__found) l11 c11 k11).binds (ps := ["self", "query"]) fun _ _ _ _ _ _ us hl => match us, hl with | [_, _], _ => rfl⟩
  have D__law_mix : Df K mg "_law_mix" s__law_mix ["seed", "turn"] := ⟨f12, _, fun_mk (st := s__law_mix) l12 c12 k12, PySem.W.mg_of X G a12, (fun_mk (st := s__law_mix) l12 c12 k12).binds (ps := ["seed", "turn"]) fun _ _ _ _ _ _ us hl => match us, hl with | [_, _], _ => rfl⟩
  have D__law_source : Df K mg "_law_source" s__law_source ["script"] := ⟨f13, _, fun_mk (st := s__law_source) l13 c13 k13, PySem.W.mg_of X G a13, (fun_mk (st := s__law_source) l13 c13 k13).binds (ps := ["script"]) fun _ _ _ _ _ _ us hl => match us, hl with | [_], _ => rfl⟩
  have D__law_draw : Df K mg "_law_draw" s__law_draw ["source", "many"] := ⟨f14, _, fun_mk (st := s__law_draw) l14 c14 k14, PySem.W.mg_of X G a14, (fun_mk (st := s__law_draw) l14 c14 k14).binds (ps := ["source", "many"]) fun _ _ _ _ _ _ us hl => match us, hl with | [_, _], _ => rfl⟩
  have D__law_pick : Df K mg "_law_pick" s__law_pick ["source", "row"] := ⟨f15, _, fun_mk (st := s__law_pick) l15 c15 k15, PySem.W.mg_of X G a15, (fun_mk (st := s__law_pick) l15 c15 k15).binds (ps := ["source", "row"]) fun _ _ _ _ _ _ us hl => match us, hl with | [_, _], _ => rfl⟩
  have D__law_new_name : Df K mg "_law_new_name" s__law_new_name ["source", "used"] := ⟨f16, _, fun_mk (st := s__law_new_name) l16 c16 k16, PySem.W.mg_of X G a16, (fun_mk (st := s__law_new_name) l16 c16 k16).binds (ps := ["source", "used"]) fun _ _ _ _ _ _ us hl => match us, hl with | [_, _], _ => rfl⟩
  have D__law_names : Df K mg "_law_names" s__law_names ["source", "many"] := ⟨f17, _, fun_mk (st := s__law_names) l17 c17 k17, PySem.W.mg_of X G a17, (fun_mk (st := s__law_names) l17 c17 k17).binds (ps := ["source", "many"]) fun _ _ _ _ _ _ us hl => match us, hl with | [_, _], _ => rfl⟩
  have D__law_words : Df K mg "_law_words" s__law_words ["source"] := ⟨f18, _, fun_mk (st := s__law_words) l18 c18 k18, PySem.W.mg_of X G a18, (fun_mk (st := s__law_words) l18 c18 k18).binds (ps := ["source"]) fun _ _ _ _ _ _ us hl => match us, hl with | [_], _ => rfl⟩
  have D__law_board : Df K mg "_law_board" s__law_board ["source", "words"] := ⟨f19, _, fun_mk (st := s__law_board) l19 c19 k19, PySem.W.mg_of X G a19, (fun_mk (st := s__law_board) l19 c19 k19).binds (ps := ["source", "words"]) fun _ _ _ _ _ _ us hl => match us, hl with | [_, _], _ => rfl⟩
  have D__law_boards : Df K mg "_law_boards" s__law_boards ["source", "words", "most"] := ⟨f20, _, fun_mk (st := s__law_boards) l20 c20 k20, PySem.W.mg_of X G a20, (fun_mk (st := s__law_boards) l20 c20 k20).binds (ps := ["source", "words", "most"]) fun _ _ _ _ _ _ us hl => match us, hl with | [_, _, _], _ => rfl⟩
  have D__law_is_int : Df K mg "_law_is_int" s__law_is_int ["value"] := ⟨f21, _, fun_mk (st := s__law_is_int) l21 c21 k21, PySem.W.mg_of X G a21, (fun_mk (st := s__law_is_int) l21 c21 k21).binds (ps := ["value"]) fun _ _ _ _ _ _ us hl => match us, hl with | [_], _ => rfl⟩
  have D__law_same : Df K mg "_law_same" s__law_same ["actual", "due"] := ⟨f22, _, fun_mk (st := s__law_same) l22 c22 k22, PySem.W.mg_of X G a22, (fun_mk (st := s__law_same) l22 c22 k22).binds (ps := ["actual", "due"]) fun _ _ _ _ _ _ us hl => match us, hl with | [_, _], _ => rfl⟩
  have D__law_words_in : Df K mg "_law_words_in" s__law_words_in ["row"] := ⟨f23, _, fun_mk (st := s__law_words_in) l23 c23 k23, PySem.W.mg_of X G a23, (fun_mk (st := s__law_words_in) l23 c23 k23).binds (ps := ["row"]) fun _ _ _ _ _ _ us hl => match us, hl with | [_], _ => rfl⟩
  have D__law_phrase : Df K mg "_law_phrase" s__law_phrase ["source", "words", "most"] := ⟨f24, _, fun_mk (st := s__law_phrase) l24 c24 k24, PySem.W.mg_of X G a24, (fun_mk (st := s__law_phrase) l24 c24 k24).binds (ps := ["source", "words", "most"]) fun _ _ _ _ _ _ us hl => match us, hl with | [_, _, _], _ => rfl⟩
  have D__law_searched_body : Df K mg "_law_searched_body" s__law_searched_body ["source", "words"] := ⟨f25, _, fun_mk (st := s__law_searched_body) l25 c25 k25, PySem.W.mg_of X G a25, (fun_mk (st := s__law_searched_body) l25 c25 k25).binds (ps := ["source", "words"]) fun _ _ _ _ _ _ us hl => match us, hl with | [_, _], _ => rfl⟩
  have D__law_pool : Df K mg "_law_pool" s__law_pool ["source", "words", "names"] := ⟨f26, _, fun_mk (st := s__law_pool) l26 c26 k26, PySem.W.mg_of X G a26, (fun_mk (st := s__law_pool) l26 c26 k26).binds (ps := ["source", "words", "names"]) fun _ _ _ _ _ _ us hl => match us, hl with | [_, _, _], _ => rfl⟩
  have D__law_rows_in : Df K mg "_law_rows_in" s__law_rows_in ["part"] := ⟨f27, _, fun_mk (st := s__law_rows_in) l27 c27 k27, PySem.W.mg_of X G a27, (fun_mk (st := s__law_rows_in) l27 c27 k27).binds (ps := ["part"]) fun _ _ _ _ _ _ us hl => match us, hl with | [_], _ => rfl⟩
  have D__law_split : Df K mg "_law_split" s__law_split ["notice"] := ⟨f28, _, fun_mk (st := s__law_split) l28 c28 k28, PySem.W.mg_of X G a28, (fun_mk (st := s__law_split) l28 c28 k28).binds (ps := ["notice"]) fun _ _ _ _ _ _ us hl => match us, hl with | [_], _ => rfl⟩
  have D__law_apart : Df K mg "_law_apart" s__law_apart ["rows", "one", "other", "most"] := ⟨f29, _, fun_mk (st := s__law_apart) l29 c29 k29, PySem.W.mg_of X G a29, (fun_mk (st := s__law_apart) l29 c29 k29).binds (ps := ["rows", "one", "other", "most"]) fun _ _ _ _ _ _ us hl => match us, hl with | [_, _, _, _], _ => rfl⟩
  have D__law_query_fits : Df K mg "_law_query_fits" s__law_query_fits ["query", "notice", "rows"] := ⟨f30, _, fun_mk (st := s__law_query_fits) l30 c30 k30, PySem.W.mg_of X G a30, (fun_mk (st := s__law_query_fits) l30 c30 k30).binds (ps := ["query", "notice", "rows"]) fun _ _ _ _ _ _ us hl => match us, hl with | [_, _, _], _ => rfl⟩
  have D__law_leaves : Df K mg "_law_leaves" s__law_leaves ["source", "words", "names"] := ⟨f31, _, fun_mk (st := s__law_leaves) l31 c31 k31, PySem.W.mg_of X G a31, (fun_mk (st := s__law_leaves) l31 c31 k31).binds (ps := ["source", "words", "names"]) fun _ _ _ _ _ _ us hl => match us, hl with | [_, _, _], _ => rfl⟩
  have D__law_tree : Df K mg "_law_tree" s__law_tree ["source", "leaves", "depth"] := ⟨f32, _, fun_mk (st := s__law_tree) l32 c32 k32, PySem.W.mg_of X G a32, (fun_mk (st := s__law_tree) l32 c32 k32).binds (ps := ["source", "leaves", "depth"]) fun _ _ _ _ _ _ us hl => match us, hl with | [_, _, _], _ => rfl⟩
  have D__law_found_due : Df K mg "_law_found_due" s__law_found_due ["inside", "query"] := ⟨f33, _, fun_mk (st := s__law_found_due) l33 c33 k33, PySem.W.mg_of X G a33, (fun_mk (st := s__law_found_due) l33 c33 k33).binds (ps := ["inside", "query"]) fun _ _ _ _ _ _ us hl => match us, hl with | [_, _], _ => rfl⟩
  have D__law_asked : Df K mg "_law_asked" s__law_asked ["index", "inside", "query"] := ⟨f34, _, fun_mk (st := s__law_asked) l34 c34 k34, PySem.W.mg_of X G a34, (fun_mk (st := s__law_asked) l34 c34 k34).binds (ps := ["index", "inside", "query"]) fun _ _ _ _ _ _ us hl => match us, hl with | [_, _, _], _ => rfl⟩
  have D__law_put : Df K mg "_law_put" s__law_put ["index", "inside", "chosen"] := ⟨f35, _, fun_mk (st := s__law_put) l35 c35 k35, PySem.W.mg_of X G a35, (fun_mk (st := s__law_put) l35 c35 k35).binds (ps := ["index", "inside", "chosen"]) fun _ _ _ _ _ _ us hl => match us, hl with | [_, _, _], _ => rfl⟩
  have D__law_deed : Df K mg "_law_deed" s__law_deed ["source", "index", "inside", "pool"] := ⟨f36, _, fun_mk (st := s__law_deed) l36 c36 k36, PySem.W.mg_of X G a36, (fun_mk (st := s__law_deed) l36 c36 k36).binds (ps := ["source", "index", "inside", "pool"]) fun _ _ _ _ _ _ us hl => match us, hl with | [_, _, _, _], _ => rfl⟩
  have O : To K mg A_Index := { g_Index := PySem.W.mg_of X G oG_Index, c_Index := ⟨oP_Index, oD_Index, oO_Index, oS_Index⟩, n_Index_entries := oN_Index__entries }
  have C_Index____init__ := ok_Index____init__ (P := l.prog) (w := w) (base := base) D_Index____init__ T O 
  have C_split_address := ok_split_address (P := l.prog) (w := w) (base := base) D_split_address T 
  have C_is_from := ok_is_from (P := l.prog) (w := w) (base := base) D_is_from T C_split_address
  have C_is_near := ok_is_near (P := l.prog) (w := w) (base := base) D_is_near T 
  have C_fits_basic := ok_fits_basic (P := l.prog) (w := w) (base := base) D_fits_basic T C_is_from C_is_near
  have C_fits_rows := ok_fits_rows (P := l.prog) (w := w) (base := base) D_fits_rows T C_fits_basic 14
  have C_Index__found := ok_Index__found (P := l.prog) (w := w) (base := base) D_Index__found T O C_fits_rows
  have C__law_apart := ok__law_apart (P := l.prog) (w := w) (base := base) D__law_apart T 
  have C__law_query_fits := ok__law_query_fits (P := l.prog) (w := w) (base := base) D__law_query_fits T C__law_apart 14
  have C__law_found_due := ok__law_found_due (P := l.prog) (w := w) (base := base) D__law_found_due T C__law_query_fits
  have C__law_is_int := ok__law_is_int (P := l.prog) (w := w) (base := base) D__law_is_int T 
  have C__law_same := ok__law_same (P := l.prog) (w := w) (base := base) D__law_same T C__law_is_int 3
  have C__law_asked := ok__law_asked (P := l.prog) (w := w) (base := base) D__law_asked T O C_Index__found C__law_found_due C__law_same
  have C_Index__drop := ok_Index__drop (P := l.prog) (w := w) (base := base) D_Index__drop T O 
  have C__law_mix := ok__law_mix (P := l.prog) (w := w) (base := base) D__law_mix T 
  have C__law_draw := ok__law_draw (P := l.prog) (w := w) (base := base) D__law_draw T C__law_mix
  have C__law_pick := ok__law_pick (P := l.prog) (w := w) (base := base) D__law_pick T C__law_draw
  have C_texts_in := ok_texts_in (P := l.prog) (w := w) (base := base) D_texts_in T  4
  have C_words_of := ok_words_of (P := l.prog) (w := w) (base := base) D_words_of T 
  have C_rows_of_words := ok_rows_of_words (P := l.prog) (w := w) (base := base) D_rows_of_words T C_texts_in C_words_of
  have C_Index__put := ok_Index__put (P := l.prog) (w := w) (base := base) D_Index__put T O C_rows_of_words
  have C__law_put := ok__law_put (P := l.prog) (w := w) (base := base) D__law_put T O C_Index__put
  have C__law_deed := ok__law_deed (P := l.prog) (w := w) (base := base) D__law_deed T O C_Index__drop C__law_draw C__law_pick C__law_put
  have C__law_leaves := ok__law_leaves (P := l.prog) (w := w) (base := base) D__law_leaves T C__law_draw C__law_pick
  have C__law_new_name := ok__law_new_name (P := l.prog) (w := w) (base := base) D__law_new_name T C__law_draw
  have C__law_names := ok__law_names (P := l.prog) (w := w) (base := base) D__law_names T C__law_new_name
  have C__law_board := ok__law_board (P := l.prog) (w := w) (base := base) D__law_board T C__law_draw C__law_pick
  have C__law_boards := ok__law_boards (P := l.prog) (w := w) (base := base) D__law_boards T C__law_board C__law_draw
  have C__law_phrase := ok__law_phrase (P := l.prog) (w := w) (base := base) D__law_phrase T C__law_draw C__law_pick
  have C__law_searched_body := ok__law_searched_body (P := l.prog) (w := w) (base := base) D__law_searched_body T C__law_draw C__law_phrase
  have C__law_pool := ok__law_pool (P := l.prog) (w := w) (base := base) D__law_pool T C__law_boards C__law_draw C__law_phrase C__law_pick C__law_searched_body
  have C__law_source := ok__law_source (P := l.prog) (w := w) (base := base) D__law_source T C__law_mix
  have C__law_rows_in := ok__law_rows_in (P := l.prog) (w := w) (base := base) D__law_rows_in T  4
  have C__law_words_in := ok__law_words_in (P := l.prog) (w := w) (base := base) D__law_words_in T 
  have C__law_split := ok__law_split (P := l.prog) (w := w) (base := base) D__law_split T C__law_rows_in C__law_words_in
  have C__law_tree := ok__law_tree (P := l.prog) (w := w) (base := base) D__law_tree T C__law_draw C__law_pick 4
  have C__law_words := ok__law_words (P := l.prog) (w := w) (base := base) D__law_words T C__law_draw C__law_names
  exact ok_law (fun_mk (st := s_law) l37 c37 k37) T O C_Index____init__ C_Index__found C__law_asked C__law_deed C__law_draw C__law_found_due C__law_leaves C__law_names C__law_pool C__law_put C__law_same C__law_source C__law_split C__law_tree C__law_words
theorem walk {l : PySem.W.OpenLaw} {q : Program} {loose : List Str} {XP : (Str → Option Value) → Heap → Prop} {YP : World → Heap → Prop} {d : DefRec} {K : Params → PySem.W.Frag} (hn : l.most = some 63) (hdf : d.params.defaults = [])
    (hY : ∀ (w : World) (h : Heap), YP w h → (K w.params).In h)
    (F : ∀ (w : World) (mg : Str → Option Value) (fa : Addr) (h : Heap), (K w.params).In h → h.Ns mainGlobals mg → mg d.name = some (.ref fa) →
      ∃ fd : FuncData, (∀ (s : Shared) (u : Value), BindsTo s fd ⟨[u], []⟩ [("script", u)]) ∧ ∀ base : Heap, (K w.params).In base → base.Ns mainGlobals mg → FnOk l.prog w (K w.params) mg base CX0 20 fa fd ["script"] (sp_law (K w.params))) :
    PySem.W.WalkO q loose XP YP l.row.toRowW d [] (fun f vs => PySem.call f vs) :=
  L2.walk_of (n := 63) (k := 20) (x := "script") (CX := fun _ => CX0) (sp := fun w => sp_law (K w.params)) hn (by decide) hdf ⟨rfl, by decide, by decide⟩ hY F (fun _ _ a ns hl _ hS => ⟨a, ns, rfl, hS, hl, fun _ => rfl⟩) fun _ _ _ _ _ z => z
end Z
open PySem PySem.W PyProof.Rows in
set_option maxRecDepth 100000 in
set_option maxHeartbeats 0 in
theorem PySem.Challenge.cw_criermoot_k71_whole_index_holds : PySem.Challenge.rw_criermoot_k71_whole_index.Holds := by
  w_on; o_law; k_head; (case hw => w_witness2)
  k_fill
  refine Z.walk (l := PySem.Challenge.rw_criermoot_k71_whole_index) rfl rfl (fun w h Y => PySem.W.kIn_of Y) ?F
  case F =>
    intro w mg fa h KX G hmg
    refine' Z.all_mk KX G hmg ?oG_Index ?oP_Index ?oD_Index ?oO_Index ?oS_Index ?oM_Index ?oK_Index ?oN_Index__entries ?a0 ?l0 ?c0 ?k0 ?a1 ?l1 ?c1 ?k1 ?a2 ?l2 ?c2 ?k2 ?a3 ?l3 ?c3 ?k3 ?a4 ?l4 ?c4 ?k4 ?a5 ?l5 ?c5 ?k5 ?a6 ?l6 ?c6 ?k6 ?a7 ?l7 ?c7 ?k7 ?a8 ?i8 ?l8 ?c8 ?k8 ?a9 ?i9 ?l9 ?c9 ?k9 ?a10 ?i10 ?l10 ?c10 ?k10 ?a11 ?i11 ?l11 ?c11 ?k11 ?a12 ?l12 ?c12 ?k12 ?a13 ?l13 ?c13 ?k13 ?a14 ?l14 ?c14 ?k14 ?a15 ?l15 ?c15 ?k15 ?a16 ?l16 ?c16 ?k16 ?a17 ?l17 ?c17 ?k17 ?a18 ?l18 ?c18 ?k18 ?a19 ?l19 ?c19 ?k19 ?a20 ?l20 ?c20 ?k20 ?a21 ?l21 ?c21 ?k21 ?a22 ?l22 ?c22 ?k22 ?a23 ?l23 ?c23 ?k23 ?a24 ?l24 ?c24 ?k24 ?a25 ?l25 ?c25 ?k25 ?a26 ?l26 ?c26 ?k26 ?a27 ?l27 ?c27 ?k27 ?a28 ?l28 ?c28 ?k28 ?a29 ?l29 ?c29 ?k29 ?a30 ?l30 ?c30 ?k30 ?a31 ?l31 ?c31 ?k31 ?a32 ?l32 ?c32 ?k32 ?a33 ?l33 ?c33 ?k33 ?a34 ?l34 ?c34 ?k34 ?a35 ?l35 ?c35 ?k35 ?a36 ?l36 ?c36 ?k36 ?a37 ?l37 ?c37 ?k37 ?z_abs ?z_any ?z_bool ?z_enumerate ?z_int ?z_isinstance ?z_len ?z_list ?z_max ?z_min ?z_ord ?z_range ?z_sorted ?z_str ?z_tuple ?v_LETTERS ?v_DIGITS
    (case oG_Index => k_is)
    (case oP_Index => k_is)
    (case oD_Index => k_is)
    (case oO_Index => k_is)
    (case oS_Index => k_is)
    (case oM_Index => k_is)
    (case oK_Index => k_is)
    (case oN_Index__entries => k_is)
    (case a0 => k_is)
    (case l0 => k_is)
    (case c0 => k_is)
    (case k0 => k_is)
    (case a1 => k_is)
    (case l1 => k_is)
    (case c1 => k_is)
    (case k1 => k_is)
    (case a2 => k_is)
    (case l2 => k_is)
    (case c2 => k_is)
    (case k2 => k_is)
    (case a3 => k_is)
    (case l3 => k_is)
    (case c3 => k_is)
    (case k3 => k_is)
    (case a4 => k_is)
    (case l4 => k_is)
    (case c4 => k_is)
    (case k4 => k_is)
    (case a5 => k_is)
    (case l5 => k_is)
    (case c5 => k_is)
    (case k5 => k_is)
    (case a6 => k_is)
    (case l6 => k_is)
    (case c6 => k_is)
    (case k6 => k_is)
    (case a7 => k_is)
    (case l7 => k_is)
    (case c7 => k_is)
    (case k7 => k_is)
    (case a8 => k_is)
    (case i8 => k_is)
    (case l8 => k_is)
    (case c8 => k_is)
    (case k8 => k_is)
    (case a9 => k_is)
    (case i9 => k_is)
    (case l9 => k_is)
    (case c9 => k_is)
    (case k9 => k_is)
    (case a10 => k_is)
    (case i10 => k_is)
    (case l10 => k_is)
    (case c10 => k_is)
    (case k10 => k_is)
    (case a11 => k_is)
    (case i11 => k_is)
    (case l11 => k_is)
    (case c11 => k_is)
    (case k11 => k_is)
    (case a12 => k_is)
    (case l12 => k_is)
    (case c12 => k_is)
    (case k12 => k_is)
    (case a13 => k_is)
    (case l13 => k_is)
    (case c13 => k_is)
    (case k13 => k_is)
    (case a14 => k_is)
    (case l14 => k_is)
    (case c14 => k_is)
    (case k14 => k_is)
    (case a15 => k_is)
    (case l15 => k_is)
    (case c15 => k_is)
    (case k15 => k_is)
    (case a16 => k_is)
    (case l16 => k_is)
    (case c16 => k_is)
    (case k16 => k_is)
    (case a17 => k_is)
    (case l17 => k_is)
    (case c17 => k_is)
    (case k17 => k_is)
    (case a18 => k_is)
    (case l18 => k_is)
    (case c18 => k_is)
    (case k18 => k_is)
    (case a19 => k_is)
    (case l19 => k_is)
    (case c19 => k_is)
    (case k19 => k_is)
    (case a20 => k_is)
    (case l20 => k_is)
    (case c20 => k_is)
    (case k20 => k_is)
    (case a21 => k_is)
    (case l21 => k_is)
    (case c21 => k_is)
    (case k21 => k_is)
    (case a22 => k_is)
    (case l22 => k_is)
    (case c22 => k_is)
    (case k22 => k_is)
    (case a23 => k_is)
    (case l23 => k_is)
    (case c23 => k_is)
    (case k23 => k_is)
    (case a24 => k_is)
    (case l24 => k_is)
    (case c24 => k_is)
    (case k24 => k_is)
    (case a25 => k_is)
    (case l25 => k_is)
    (case c25 => k_is)
    (case k25 => k_is)
    (case a26 => k_is)
    (case l26 => k_is)
    (case c26 => k_is)
    (case k26 => k_is)
    (case a27 => k_is)
    (case l27 => k_is)
    (case c27 => k_is)
    (case k27 => k_is)
    (case a28 => k_is)
    (case l28 => k_is)
    (case c28 => k_is)
    (case k28 => k_is)
    (case a29 => k_is)
    (case l29 => k_is)
    (case c29 => k_is)
    (case k29 => k_is)
    (case a30 => k_is)
    (case l30 => k_is)
    (case c30 => k_is)
    (case k30 => k_is)
    (case a31 => k_is)
    (case l31 => k_is)
    (case c31 => k_is)
    (case k31 => k_is)
    (case a32 => k_is)
    (case l32 => k_is)
    (case c32 => k_is)
    (case k32 => k_is)
    (case a33 => k_is)
    (case l33 => k_is)
    (case c33 => k_is)
    (case k33 => k_is)
    (case a34 => k_is)
    (case l34 => k_is)
    (case c34 => k_is)
    (case k34 => k_is)
    (case a35 => k_is)
    (case l35 => k_is)
    (case c35 => k_is)
    (case k35 => k_is)
    (case a36 => k_is)
    (case l36 => k_is)
    (case c36 => k_is)
    (case k36 => k_is)
    (case a37 => k_is)
    (case l37 => k_is)
    (case c37 => k_is)
    (case k37 => k_is)
    (case z_abs => k_is)
    (case z_any => k_is)
    (case z_bool => k_is)
    (case z_enumerate => k_is)
    (case z_int => k_is)
    (case z_isinstance => k_is)
    (case z_len => k_is)
    (case z_list => k_is)
    (case z_max => k_is)
    (case z_min => k_is)
    (case z_ord => k_is)
    (case z_range => k_is)
    (case z_sorted => k_is)
    (case z_str => k_is)
    (case z_tuple => k_is)
    (case v_LETTERS => k_is)
    (case v_DIGITS => k_is)
