import PyProof.Rows.All
import Wide.All
import OpenK.AllK
import Wide.FinOn
import HandS.Base
import HandS.Call
import HandS.List
import HandS.Comp
import HandS.Ends
import HandS.Dict
import HandS.Iter
import HandS.Text
import HandS.Words
import HandS.WordsList
import HandS.Conv
import HandS.Codes
import HandS.IsInst
import HandS.Replace
import HandS.StrMore
import HandS.TupAny
import HandS.WideBits
import HandS.ForExc
import HandS.ExcInit
import HandS.ExcField
import HandS.ExcIs
import KE.KExcIs
import HandS.Property
import HandS.Sort
import HandS.Deep
import KE.SortData
import KE.DataMinMax
import KE.KSortTupAny
import KE.KDictSum
import KE.KDictItemsList
import KE.KDictCopyH
import PyProof.DictUpdate
import PyProof.Transfer
import HandS.DictTup
import HandS.ExcOwn
import HandS.ExcValue
import PyProof.MinMaxWalk
import KE.KDictList
import PyProof.DictMoreH
import HandS.DictComp
import PyProof.DictFindH
import HandS.Lambda
import HandS.SortKw
import KE.SortKeyHeap
import KE.KSortKey
import PyProof.Rows.TupSub
import PyProof.ListCopy
import KE.GoesEnum
import KE.GoesMore
import HandS.Rev
import HandS.ReplaceLit
import PyProof.Rows.StrCut
import HandS.TupMul
import HandS.RevTup
import KE.KNestM
import KE.KLam
import HandS.EndTab
import PySem.Challenge.RW_criermoot_k49_threads
set_option Elab.async false
set_option linter.all false
set_option maxRecDepth 100000
namespace Z
open PySem L2

/-! ### heaps -/
/-- all that was tracked is as it was, but for what stands at s -/
def Ext (s : Addr) (H H' : Hp) : Prop := ∀ b o, b ≠ s → H b = some o → H' b = some o
theorem Ext.refl (s : Addr) (H : Hp) : Ext s H H := fun _ _ _ h => h
theorem Ext.trans {s : Addr} {H H1 H2 : Hp} (a : Ext s H H1) (b : Ext s H1 H2) : Ext s H H2 := fun c o n h => b c o n (a c o n h)
theorem Ext.of {s : Addr} {H H' : Hp} (a : Same H H') : Ext s H H' := fun c o _ h => a c o h
theorem Ext.new {s p : Addr} {H : Hp} {o : HO} (n : H p = none) : Ext s H (upd H p o) := fun b u _ h => by
  rw [upd_ne (ne_of_none h n)]; exact h
theorem Ext.put {s : Addr} {H : Hp} {o : HO} : Ext s H (upd H s o) := fun b u n h => by
  rw [upd_ne n]; exact h
theorem same_new {p : Addr} {H : Hp} {o : HO} (n : H p = none) : Same H (upd H p o) := fun b u h => by
  rw [upd_ne (ne_of_none h n)]; exact h
theorem Ext.seqT {K : PySem.W.Frag} {s a : Addr} {H H' : Hp} {xs ys : List V} (x : Ext s H H') (hs : H s = some (.lst ys)) (h : SqT K H a xs) : SqT K H' a xs := by
  rcases h with (h | ⟨o, h⟩) | h
  · exact .inl (.inl (x _ _ (fun e => by rw [e, hs] at h; cases h) h))
  · exact .inl (.inr ⟨o, x _ _ (fun e => by rw [e, hs] at h; cases h) h⟩)
  · exact .inr h
theorem Ext.seqL {K : PySem.W.Frag} {s a : Addr} {H H' : Hp} {xs : List V} (x : Ext s H H') (n : a ≠ s) (h : SqL K H a xs) : SqL K H' a xs := by
  rcases h with (h | ⟨o, h⟩) | h
  · exact .inl (.inl (x _ _ n h))
  · exact .inl (.inr ⟨o, x _ _ n h⟩)
  · exact .inr h

theorem and_nn {x : Int} (hx : 0 ≤ x) (k : Nat) : 0 ≤ Builtin.bitAnd x (1 * 2 ^ k - 1) := by
  rw [Int.one_mul, Bits.bitAnd_mask k hx]
  exact Int.emod_nonneg _ (Int.ne_of_gt (Int.pow_pos (by decide)))
/-! ### the source of draws -/
def Src (H : Hp) (s a : Addr) (c : Nat) : Prop := ∃ (ns : List Int) (i b e t : Int),
  H s = some (.lst [.ref a, .int i, .int b, .int e, .int t]) ∧ H a = some (.lst (ns.map V.int)) ∧ a ≠ s ∧ ns.length ≤ 63 ∧ 0 ≤ i ∧ i ≤ 63 ∧ 0 ≤ b ∧ 0 ≤ e ∧ e < 2147483647 ∧ 0 ≤ t ∧ t + c < 4000000000000000000
theorem Src.lst {H : Hp} {s a : Addr} {c : Nat} (h : Src H s a c) : ∃ xs, H s = some (.lst xs) := by
  obtain ⟨_, _, _, _, _, h, _⟩ := h; exact ⟨_, h⟩
theorem Src.mono {H : Hp} {s a : Addr} {c d : Nat} (h : Src H s a c) (l : d ≤ c) : Src H s a d := by
  obtain ⟨ns, i, b, e, t, h1, h2, h3, h4, h5, h6, h7, h8, h9, h10, h11⟩ := h
  exact ⟨ns, i, b, e, t, h1, h2, h3, h4, h5, h6, h7, h8, h9, h10, by omega⟩
theorem Src.ext {H H' : Hp} {s a : Addr} {c : Nat} (h : Src H s a c) (x : Same H H') : Src H' s a c := by
  obtain ⟨ns, i, b, e, t, h1, h2, h3⟩ := h
  exact ⟨ns, i, b, e, t, x _ _ h1, x _ _ h2, h3⟩
theorem Src.new {H : Hp} {s a p : Addr} {o : HO} {c : Nat} (h : Src H s a c) (n : H p = none) : Src (upd H p o) s a c := h.ext (same_new n)
theorem Src.ne {H : Hp} {s a p : Addr} {c : Nat} (h : Src H s a c) (n : H p = none) : p ≠ s := by
  obtain ⟨xs, e⟩ := h.lst
  exact (ne_of_none e n).symm
theorem Src.nea {H : Hp} {s a p : Addr} {c : Nat} (h : Src H s a c) (n : H p = none) : p ≠ a := by
  obtain ⟨ns, i, b, e, t, h1, h2, h3⟩ := h
  exact (ne_of_none h2 n).symm
theorem Src.put {H : Hp} {s a p : Addr} {o : HO} {c : Nat} (h : Src H s a c) (n : p ≠ s) (m : p ≠ a) : Src (upd H p o) s a c := by
  obtain ⟨ns, i, b, e', t, h1, h2, h3⟩ := h
  exact ⟨ns, i, b, e', t, by rw [upd_ne n.symm]; exact h1, by rw [upd_ne m.symm]; exact h2, h3⟩

/-! ### defs and their callers -/
section
variable (P : Program) (w : World) (K : PySem.W.Frag) (mg : Str → Option Value) (base : Heap)
/-- a def as callers use it -/
def Cal (x : Str) (ps : List Str) (k : Nat) (sp : Sp) : Prop := ∃ (f : Addr) (fd : FuncData), FnOk P w K mg base CX0 k f fd ps sp ∧ mg x = some (.ref f) ∧ PySem.W.keepIn K (.ref f) = true ∧ Binds K fd ps []
/-- a def as the top has left it -/
def Df (x : Str) (st : Stmt) (ps : List Str) : Prop := ∃ (f : Addr) (fd : FuncData), Fun K x x st f fd ∧ mg x = some (.ref f) ∧ Binds K fd ps []
end
theorem Cal.mono {P : Program} {w : World} {K : PySem.W.Frag} {mg : Str → Option Value} {base : Heap} {x : Str} {ps : List Str} {j k : Nat} {sp : Sp} (C : Cal P w K mg base x ps j sp) (h : j ≤ k) : Cal P w K mg base x ps k sp := by
  obtain ⟨f, fd, G, g, kp, b⟩ := C
  exact ⟨f, fd, G.mono h, g, kp, b⟩

/-! ### the promises of the drawing defs -/
def sp__law_mix : Sp := fun vs H Q _ => ∃ (x y : Int), vs = [.int x, .int y] ∧ 0 ≤ x ∧ x < 9000000000000000000 ∧ 0 ≤ y ∧ y < 9000000000000000000 ∧ ∀ v : Int, 0 ≤ v → v < 2147483647 → Q (.int v) H
def sp__law_source (K : PySem.W.Frag) : Sp := fun vs H Q _ => ∃ (a : Addr) (ns : List Int), vs = [.ref a] ∧ SqL K H a (ns.map V.int) ∧ ns.length ≤ 63 ∧ ∀ (s b : Addr) (H' : Hp), H s = none → Same H H' → Src H' s b 3000000000000000000 → Q (.ref s) H'
def sp__law_draw : Sp := fun vs H Q _ => ∃ (s a : Addr) (m : Int) (c : Nat), vs = [.ref s, .int m] ∧ 0 < m ∧ m < 1073741824 ∧ Src H s a (c + 1) ∧ ∀ (v : Int) (H' : Hp), 0 ≤ v → v < m → Ext s H H' → Src H' s a c → Q (.int v) H'

/-! ### data -/
inductive D where
  | non | bl (b : Bool) | int (i : Int) | str (x : Str) | tup (xs : List D)
mutual
def DV (K : PySem.W.Frag) (H : Hp) : D → V → Prop
  | .non, v => v = .non
  | .bl b, v => v = .bl b
  | .int i, v => v = .int i
  | .str x, v => v = .str x
  | .tup ds, v => ∃ a vs, v = .ref a ∧ SqT K H a vs ∧ DVs K H ds vs
def DVs (K : PySem.W.Frag) (H : Hp) : List D → List V → Prop
  | [], vs => vs = []
  | d :: ds, vs => ∃ v r, vs = v :: r ∧ DV K H d v ∧ DVs K H ds r
end
mutual
theorem DV.ext {K : PySem.W.Frag} {H H' : Hp} (x : ∀ a xs, SqT K H a xs → SqT K H' a xs) : ∀ {d : D} {v : V}, DV K H d v → DV K H' d v
  | .non, _, h => by unfold DV at *; exact h
  | .bl _, _, h => by unfold DV at *; exact h
  | .int _, _, h => by unfold DV at *; exact h
  | .str _, _, h => by unfold DV at *; exact h
  | .tup ds, v, h => by
    unfold DV at *
    obtain ⟨a, vs, e, q, r⟩ := h
    exact ⟨a, vs, e, x _ _ q, DVs.ext x r⟩
theorem DVs.ext {K : PySem.W.Frag} {H H' : Hp} (x : ∀ a xs, SqT K H a xs → SqT K H' a xs) : ∀ {ds : List D} {vs : List V}, DVs K H ds vs → DVs K H' ds vs
  | [], _, h => by unfold DVs at *; exact h
  | d :: ds, vs, h => by
    unfold DVs at *
    obtain ⟨v, r, e, q, t⟩ := h
    exact ⟨v, r, e, DV.ext x q, DVs.ext x t⟩
end
theorem DVs.len {K : PySem.W.Frag} {H : Hp} : ∀ {ds : List D} {vs : List V}, DVs K H ds vs → vs.length = ds.length
  | [], _, h => by unfold DVs at h; subst h; rfl
  | d :: ds, vs, h => by
    unfold DVs at h
    obtain ⟨v, r, e, q, t⟩ := h
    rw [e, List.length_cons, List.length_cons, DVs.len t]
theorem DVs.get {K : PySem.W.Frag} {H : Hp} : ∀ {ds : List D} {vs : List V} {i : Nat} {d : D}, DVs K H ds vs → ds[i]? = some d → ∃ v, vs[i]? = some v ∧ DV K H d v
  | [], _, i, d, h, e => by simp at e
  | x :: ds, vs, i, d, h, e => by
    unfold DVs at h
    obtain ⟨v, r, e1, q, t⟩ := h
    subst e1
    cases i with
    | zero =>
      have : x = d := by simpa using e
      subst this
      exact ⟨v, rfl, q⟩
    | succ i => exact DVs.get (i := i) t (by simpa using e)
theorem DVs.strs {K : PySem.W.Frag} {H : Hp} : ∀ (xs : List Str), DVs K H (xs.map D.str) (xs.map V.str)
  | [] => by unfold DVs; rfl
  | x :: xs => by
    unfold DVs
    exact ⟨_, _, rfl, by unfold DV; rfl, DVs.strs xs⟩
theorem DVs.ints {K : PySem.W.Frag} {H : Hp} : ∀ (xs : List Int), DVs K H (xs.map D.int) (xs.map V.int)
  | [] => by unfold DVs; rfl
  | x :: xs => by
    unfold DVs
    exact ⟨_, _, rfl, by unfold DV; rfl, DVs.ints xs⟩
/-- tuples lie within fewer than n others -/
def DL : Nat → D → Prop
  | 0, _ => False
  | n + 1, .tup xs => xs.length ≤ 1000000 ∧ ∀ x ∈ xs, DL n x
  | _ + 1, _ => True
theorem TyX.ofT {K : PySem.W.Frag} {H : Hp} {a : Addr} {xs : List V} (h : SqT K H a xs) : TyX K H (.ref a) (.type "tuple") := by
  rcases h with (h | ⟨o, h⟩) | ⟨o, _, _, e, c, _⟩
  · exact .base (.tup h)
  · exact .fTuple h
  · exact .kTuple e c
def sp__law_is_int (K : PySem.W.Frag) : Sp := fun vs H Q _ => ∃ i : Int, vs = [.int i] ∧ Q (.bl true) H
/-- of two values with the same data it tells True -/
def sp__law_same (K : PySem.W.Frag) (n : Nat) : Sp := fun vs H Q _ => ∃ (d : D) (v u : V), vs = [v, u] ∧ DV K H d v ∧ DV K H d u ∧ DL n d ∧ Q (.bl true) H

/-! ### texts by their signs -/
open SX (S S_cat S_len S_inj)
theorem S_lst (l : List Nat) : (S l).cps.toList = l := rfl
theorem S_of (x : Str) : x = S x.cps.toList := (SX.S_tl x).symm
theorem S_app (a b : List Nat) : S a ++ S b = S (a ++ b) := S_cat a b
/-- a for over the signs of a text -/
theorem for_str {l : List Nat} {g : TG} {tb : TS} {D : Ends} {σ : St} {H : Hp} (Pv : Nat → St → Hp → Prop) (h0 : Pv 0 σ H)
    (hs : ∀ i c σ H, l[i]? = some c → Pv i σ H → g (.str (S [c])) σ H fun σ2 H2 => tb { D with nx := Pv (i + 1), ct := Pv (i + 1), bk := D.nx } σ2 H2) (hd : ∀ σ H, Pv l.length σ H → D.nx σ H) :
    ∃ W : Nat → Nat → St → Hp → Prop, (∃ m, W 0 m σ H) ∧ ∀ i m σ H, W i m σ H →
      ((Its (S l)).stop i H ∧ D.nx σ H) ∨ ((Its (S l)).go i H ∧ ∃ N : St → Hp → Prop, (∀ σ' H', N σ' H' → ∃ m', m' < m ∧ W (i + 1) m' σ' H') ∧ ∀ x H', (Its (S l)).yld i H x H' → g x σ H' fun σ2 H2 => tb { D with nx := N, ct := N, bk := D.nx } σ2 H2) := by
  refine ⟨fun i m σ H => m = l.length - i ∧ i ≤ l.length ∧ Pv i σ H, ⟨l.length, by simp, Nat.zero_le _, h0⟩, ?_⟩
  rintro i m σ H ⟨rfl, hi, p⟩
  by_cases hlt : i < l.length
  · refine .inr ⟨by show i < l.toArray.size; simpa using hlt, Pv (i + 1), fun σ' H' p' => ⟨l.length - (i + 1), by omega, rfl, hlt, p'⟩, fun x H' y => ?_⟩
    obtain ⟨e, c, hc, y⟩ := y
    subst e y
    exact hs i c σ _ (by simpa using hc) p
  · have e : i = l.length := by omega
    subst e
    exact .inl ⟨by show l.toArray.size ≤ l.length; simp, hd σ H p⟩
/-- a comprehension over the signs of a text -/
theorem lc_str {l : List Nat} {g : TG} {tt : TT} {te : TE} {vs : List Nat} {σ : St} {H1 : Hp} {D : Addr} {Qd : Hp → Prop} (Pv : Nat → Hp → Prop) (h0 : Pv 0 (upd H1 D (.lst [])))
    (hs : ∀ i c H, l[i]? = some c → Pv i H → g (.str (S [c])) (wipe σ vs) H fun σ2 H2 => wipe σ2 vs = wipe σ vs ∧ tt σ2 H2 fun b H3 =>
      if b = true then te σ2 H3 fun y H4 => ∃ acc, H4 D = some (.lst acc) ∧ acc.length < sizeLine ∧ Pv (i + 1) (upd H4 D (.lst (acc ++ [y]))) else Pv (i + 1) H3) (hd : ∀ H, Pv l.length H → Qd H) :
    ∃ W : Nat → Nat → Hp → Prop, (∃ m, W 0 m (upd H1 D (.lst []))) ∧ ∀ i m H, W i m H →
      ((Its (S l)).stop i H ∧ Qd H) ∨ ((Its (S l)).go i H ∧ ∃ Nx : Hp → Prop, (∀ H', Nx H' → ∃ m', m' < m ∧ W (i + 1) m' H') ∧ ∀ x H', (Its (S l)).yld i H x H' → g x (wipe σ vs) H' fun σ2 H2 => wipe σ2 vs = wipe σ vs ∧ tt σ2 H2 fun b H3 =>
        if b = true then te σ2 H3 fun y H4 => ∃ acc, H4 D = some (.lst acc) ∧ acc.length < sizeLine ∧ Nx (upd H4 D (.lst (acc ++ [y]))) else Nx H3) := by
  refine ⟨fun i m H => m = l.length - i ∧ i ≤ l.length ∧ Pv i H, ⟨l.length, by simp, Nat.zero_le _, h0⟩, ?_⟩
  rintro i m H ⟨rfl, hi, p⟩
  by_cases hlt : i < l.length
  · refine .inr ⟨by show i < l.toArray.size; simpa using hlt, Pv (i + 1), fun H' p' => ⟨l.length - (i + 1), by omega, rfl, hlt, p'⟩, fun x H' y => ?_⟩
    obtain ⟨e, c, hc, y⟩ := y
    subst e y
    exact hs i c _ (by simpa using hc) p
  · have e : i = l.length := by omega
    subst e
    exact .inl ⟨by show l.toArray.size ≤ l.length; simp, hd H p⟩
/-- signs of rows -/
def Asc (l : List Nat) : Prop := ∀ x ∈ l, 32 ≤ x ∧ x ≤ 126
theorem Asc.nil : Asc [] := fun _ h => nomatch h
theorem Asc.app {a b : List Nat} (x : Asc a) (y : Asc b) : Asc (a ++ b) := fun c h => (List.mem_append.mp h).elim (x c) (y c)
theorem Asc.by_ {l : List Nat} (h : l.all (fun x => decide (32 ≤ x) && decide (x ≤ 126)) = true) : Asc l := fun x m => by
  have := List.all_eq_true.mp h x m
  simp at this
  exact this
theorem Asc.all128 {l : List Nat} (h : Asc l) : l.all (· < 128) = true := List.all_eq_true.mpr fun x m => decide_eq_true (by have := h x m; omega)
theorem joinNil : ∀ ls : List (List Nat), TL.joinL [] ls = ls.flatten
  | [] => rfl
  | [x] => by simp [TL.joinL]
  | x :: y :: r => by
    have := joinNil (y :: r)
    simp only [TL.joinL] at *
    rw [List.flatten_cons, ← this]
    simp [TL.joinL]
theorem join_nil (ls : List (List Nat)) : Txt.join (S []) (ls.map S) = S ls.flatten := by
  rw [SX.join_S, joinNil]

/-! ### texts, further -/
abbrev tl (x : Str) : List Nat := x.cps.toList
theorem tl_S (l : List Nat) : tl (S l) = l := rfl
theorem S_tl (x : Str) : S (tl x) = x := rfl
theorem tl_app (x y : Str) : tl (x ++ y) = tl x ++ tl y := TL.tl_append x y
theorem tl_len (x : Str) : x.length = (tl x).length := by show x.cps.size = x.cps.toList.length; simp
theorem tl_ext {x y : Str} (h : tl x = tl y) : x = y := TL.ext_tl h
theorem at_str {x : Str} {i : Int} (h0 : 0 ≤ i) (h1 : i < (x.length : Int)) : ∃ c, x.cps[i.toNat]? = some c ∧ (tl x)[i.toNat]? = some c ∧ c ∈ tl x := by
  have h : i.toNat < (tl x).length := by rw [← tl_len]; omega
  refine ⟨(tl x)[i.toNat], ?_, List.getElem?_eq_getElem h, List.getElem_mem h⟩
  have := List.getElem?_eq_getElem h
  rw [← this]; simp [tl]
/-- small letters and digits -/
def Low (l : List Nat) : Prop := ∀ x ∈ l, (97 ≤ x ∧ x ≤ 122) ∨ (48 ≤ x ∧ x ≤ 57)
theorem Low.nil : Low [] := fun _ h => nomatch h
theorem Low.app {a b : List Nat} (x : Low a) (y : Low b) : Low (a ++ b) := fun c h => (List.mem_append.mp h).elim (x c) (y c)
theorem Low.asc {a : List Nat} (x : Low a) : Asc a := fun c h => by have := x c h; omega
theorem low_num (n : Nat) : Low (TL.numL n) := fun c h => .inr (by have := TL.numL_digits n c h; omega)
theorem num_len : ∀ n : Nat, (TL.numL n).length ≤ n + 1 := fun n => by
  induction n using Nat.strongRecOn with
  | ind n ih =>
    by_cases h : n < 10
    · rw [TL.numL_lt h]; simp
    · rw [TL.numL_step (by omega), List.length_append]
      have := ih (n / 10) (by omega)
      simp; omega
/-- a name: a letter, then letters and digits -/
def Nm (l : List Nat) : Prop := (∃ c r, l = c :: r ∧ 97 ≤ c ∧ c ≤ 122) ∧ Low l
theorem Nm.app {a b : List Nat} (x : Nm a) (y : Low b) : Nm (a ++ b) := by
  obtain ⟨⟨c, r, e, h⟩, l⟩ := x
  exact ⟨⟨c, r ++ b, by rw [e]; rfl, h⟩, l.app y⟩
theorem flat_strs (xs : List Str) : (xs.map V.str).all flatV = true := List.all_eq_true.mpr fun x h => by
  obtain ⟨y, _, rfl⟩ := List.mem_map.mp h; rfl
theorem inV_strs (x : Str) (xs : List Str) : inV (V.str x) (xs.map V.str) = decide (x ∈ xs) := by
  unfold inV
  induction xs with
  | nil => rfl
  | cons y ys ih =>
    rw [List.map_cons, List.any_cons, ih]
    by_cases e : x = y
    · subst e; simp [eqV]
    · have : ¬ y = x := fun h => e h.symm
      simp [eqV, e, this]
def sp__law_new_name (K : PySem.W.Frag) : Sp := fun vs H Q _ => ∃ (s a u : Addr) (us : List Str) (c : Nat), vs = [.ref s, .ref u] ∧ SqL K H u (us.map V.str) ∧ u ≠ s ∧ us.length ≤ 60 ∧ Src H s a (c + 8) ∧
  ∀ (x : Str) (H' : Hp), Nm (tl x) → (tl x).length ≤ 70 → Ext s H H' → Src H' s a c → Q (.str x) H'
def sp__law_names (K : PySem.W.Frag) : Sp := fun vs H Q _ => ∃ (s a : Addr) (m c : Nat), vs = [.ref s, .int m] ∧ m ≤ 60 ∧ Src H s a (c + 8 * m) ∧
  ∀ (u : Addr) (us : List Str) (H' : Hp), H u = none → H' u = some (.lst (us.map V.str)) → us.length = m → (∀ x ∈ us, Nm (tl x) ∧ (tl x).length ≤ 70) → Ext s H H' → Src H' s a c → Q (.ref u) H'
def sp__law_row : Sp := fun vs H Q _ => ∃ (s a : Addr) (m : Int) (c : Nat), vs = [.ref s, .int m] ∧ 0 ≤ m ∧ m ≤ 1000 ∧ Src H s a (c + m.toNat) ∧
  ∀ (x : Str) (H' : Hp), Asc (tl x) → (tl x).length = m.toNat → Ext s H H' → Src H' s a c → Q (.str x) H'

/-! ### rules that name the written part themselves (for the blocks of comprehensions) -/
section
variable {X : Cx} {K : PySem.W.Frag}
/-- len of a text -/
theorem call_lenS : CallR X (.builtin "len") (fun xs H Q => ∃ x : Str, xs = [.str x] ∧ x.length ≤ sizeLine ∧ Q (.int x.length) H) := by
  intro pins s σ H xs us Q I r h
  obtain ⟨x, e, hl, q⟩ := h
  exact call_len pins s σ H xs us Q I r ⟨.str x, x.length, e, ⟨hl, rfl⟩, q⟩
theorem call_lenQ (h : X.K = K) : CallR X (.builtin "len") (fun xs H Q => ∃ p ys, xs = [.ref p] ∧ (SqL K H p ys ∨ SqT K H p ys) ∧ Q (.int ys.length) H) := by
  subst h; exact call_len_seq
theorem ix_listQ (h : X.K = K) : IxR X (rIxL K) := by subst h; exact ix_list
theorem ix_tupQ (h : X.K = K) : IxR X (rIxT K) := by subst h; exact ix_tup
theorem in_seqQ (h : X.K = K) : OpR X (compareOp .In) (rIn K false) := by subst h; exact op_in_seq
theorem notIn_seqQ (h : X.K = K) : OpR X (compareOp .NotIn) (rIn K true) := by subst h; exact op_notIn_seq
theorem isiQ (h : X.K = K) : CallR X (.builtin "isinstance") (rIsi K) := by subst h; exact call_isi
end

/-- texts of one sign each -/
def Ones (p : Nat → Prop) (xs : List Str) : Prop := ∀ x ∈ xs, ∃ c, tl x = [c] ∧ p c
theorem Ones.tail {p : Nat → Prop} {x : Str} {xs : List Str} (h : Ones p (x :: xs)) : Ones p xs := fun y m => h y (List.mem_cons_of_mem _ m)
theorem ones_len {p : Nat → Prop} : ∀ {xs : List Str}, (∀ x ∈ xs, ∃ c, tl x = [c] ∧ p c) → (xs.map (·.length)).sum = xs.length
  | [], _ => rfl
  | x :: xs, h => by
    obtain ⟨c, e, _⟩ := h x List.mem_cons_self
    have : x.length = 1 := by rw [tl_len, e]; rfl
    rw [List.map_cons, List.sum_cons, ones_len (Ones.tail h), List.length_cons, this]
    omega
/-- their only signs -/
def heads (xs : List Str) : List Nat := xs.map fun x => (tl x).headD 0
theorem tl_join0 (xs : List Str) : tl (Txt.join (S []) xs) = (xs.map tl).flatten := by
  have e : xs = (xs.map tl).map S := by rw [List.map_map]; exact (List.map_id _).symm
  have h := join_nil (xs.map tl)
  rw [← e] at h
  show tl (Txt.join (S []) xs) = _
  rw [h]
theorem ones_join {p : Nat → Prop} {xs : List Str} (h : ∀ x ∈ xs, ∃ c, tl x = [c] ∧ p c) : tl (Txt.join (S []) xs) = heads xs := by
  rw [tl_join0]
  induction xs with
  | nil => rfl
  | cons x xs ih =>
    obtain ⟨c, e, _⟩ := h x List.mem_cons_self
    rw [List.map_cons, List.flatten_cons, ih (Ones.tail h), e]
    show c :: heads xs = (tl x).headD 0 :: heads xs
    rw [e]; rfl
theorem ones_all {p : Nat → Prop} {xs : List Str} (h : ∀ x ∈ xs, ∃ c, tl x = [c] ∧ p c) : ∀ c ∈ heads xs, p c := fun c m => by
  obtain ⟨x, hx, e⟩ := List.mem_map.mp m
  obtain ⟨d, e2, hd⟩ := h x hx
  rw [e2] at e
  have : d = c := e
  rw [← this]; exact hd
theorem str0 : Str.ofString "" = S [] := rfl
theorem ones_room {p : Nat → Prop} {xs : List Str} (h : ∀ x ∈ xs, ∃ c, tl x = [c] ∧ p c) : (xs.map (·.length)).sum + xs.length * (Str.ofString "").length = xs.length := by
  rw [ones_len h]; show xs.length + xs.length * 0 = xs.length; omega
theorem ones_joinE {p : Nat → Prop} {xs : List Str} (h : ∀ x ∈ xs, ∃ c, tl x = [c] ∧ p c) : tl (Txt.join (Str.ofString "") xs) = heads xs := ones_join h
theorem ones_asc {xs : List Str} (h : ∀ x ∈ xs, ∃ c, tl x = [c] ∧ 32 ≤ c ∧ c ≤ 126) : Asc (heads xs) := fun c m => ones_all (p := fun c => 32 ≤ c ∧ c ≤ 126) h c m
theorem heads_len (xs : List Str) : (heads xs).length = xs.length := List.length_map _

theorem alpha_mem {c : Nat} (h : c ∈ tl (Str.ofString "abcdefghijklmnopqrstuvwxyz")) : 97 ≤ c ∧ c ≤ 122 := by
  have : (tl (Str.ofString "abcdefghijklmnopqrstuvwxyz")).all (fun c => decide (97 ≤ c) && decide (c ≤ 122)) = true := by decide +kernel
  have := List.all_eq_true.mp this c h
  simp at this; exact this
theorem low_mem {c : Nat} (h : c ∈ tl (Str.ofString "abcdefghijklmnopqrstuvwxyz" ++ Str.ofString "0123456789")) : (97 ≤ c ∧ c ≤ 122) ∨ (48 ≤ c ∧ c ≤ 57) := by
  rw [tl_app] at h
  have : (tl (Str.ofString "abcdefghijklmnopqrstuvwxyz") ++ tl (Str.ofString "0123456789")).all (fun c => (decide (97 ≤ c) && decide (c ≤ 122)) || (decide (48 ≤ c) && decide (c ≤ 57))) = true := by decide +kernel
  have := List.all_eq_true.mp this c h
  simp at this; exact this

theorem log_small {i : Nat} (h : i ≤ 1000000) : (Int.natAbs (0 + (i : Int))).log2 < 1920 := by
  rw [Int.zero_add, Int.natAbs_natCast]
  by_cases e : i = 0
  · subst e; decide
  · rw [Nat.log2_lt e]
    exact Nat.lt_of_le_of_lt h (Nat.lt_of_lt_of_le (by decide : 1000000 < 2 ^ 20) (Nat.pow_le_pow_right (by decide) (by decide)))

theorem fold_take {α β : Type} {f : β → α → β} {a : β} {l : List α} {i : Nat} {c : α} (h : l[i]? = some c) : (l.take (i + 1)).foldl f a = f ((l.take i).foldl f a) c := by
  rw [List.take_add_one, h, List.foldl_append]
  rfl
theorem fold_all {α β : Type} {f : β → α → β} {a : β} {l : List α} : (l.take l.length).foldl f a = l.foldl f a := by rw [List.take_length]
theorem in_abc {c : Nat} : decide (c ∈ (Str.ofString "abcdefghijklmnopqrstuvwxyz").cps.toList) = (decide (97 ≤ c) && decide (c ≤ 122)) := by
  have e : (Str.ofString "abcdefghijklmnopqrstuvwxyz").cps.toList = List.range' 97 26 := by decide +kernel
  rw [e, Bool.eq_iff_iff, decide_eq_true_iff, List.mem_range'_1]
  simp only [Bool.and_eq_true, decide_eq_true_eq]
  omega
theorem in_ABC {c : Nat} : decide (c ∈ (Str.ofString "ABCDEFGHIJKLMNOPQRSTUVWXYZ").cps.toList) = (decide (65 ≤ c) && decide (c ≤ 90)) := by
  have e : (Str.ofString "ABCDEFGHIJKLMNOPQRSTUVWXYZ").cps.toList = List.range' 65 26 := by decide +kernel
  rw [e, Bool.eq_iff_iff, decide_eq_true_iff, List.mem_range'_1]
  simp only [Bool.and_eq_true, decide_eq_true_eq]
  omega
theorem in_012 {c : Nat} : decide (c ∈ (Str.ofString "0123456789").cps.toList) = (decide (48 ≤ c) && decide (c ≤ 57)) := by
  have e : (Str.ofString "0123456789").cps.toList = List.range' 48 10 := by decide +kernel
  rw [e, Bool.eq_iff_iff, decide_eq_true_iff, List.mem_range'_1]
  simp only [Bool.and_eq_true, decide_eq_true_eq]
  omega
theorem in_abc012 {c : Nat} : decide (c ∈ (Str.ofString "abcdefghijklmnopqrstuvwxyz0123456789").cps.toList) = ((decide (97 ≤ c) && decide (c ≤ 122)) || (decide (48 ≤ c) && decide (c ≤ 57))) := by
  have e : (Str.ofString "abcdefghijklmnopqrstuvwxyz0123456789").cps.toList = List.range' 97 26 ++ List.range' 48 10 := by decide +kernel
  rw [e, Bool.eq_iff_iff, decide_eq_true_iff, List.mem_append, List.mem_range'_1, List.mem_range'_1]
  simp only [Bool.and_eq_true, Bool.or_eq_true, decide_eq_true_eq]
  omega
/-- literal texts -/
theorem tl_mapS (ws : List Str) : (ws.map tl).map S = ws := by rw [List.map_map]; exact List.map_id _

theorem strs_at (zs : List Str) {v : Int} (h0 : 0 ≤ v) (h1 : v < (zs.length : Int)) : ∃ z, z ∈ zs ∧ atI (zs.map V.str) v = some (.str z) := by
  have h : v.toNat < zs.length := by omega
  exact ⟨zs[v.toNat], List.getElem_mem h, at_of (j := v.toNat) (by omega) (by rw [List.getElem?_map, List.getElem?_eq_getElem h]; rfl)⟩
theorem tl_upper {x : Str} (h : Asc (tl x)) : tl (Txt.upper x) = (tl x).map PyProof.Rows.up1 := congrArg tl (SX.upper_S (a := tl x) h.all128)
theorem asc_upper {x : Str} (h : Asc (tl x)) : Asc (tl (Txt.upper x)) := by
  rw [tl_upper h]
  intro c hc
  obtain ⟨d, hd, e⟩ := List.mem_map.mp hc
  have := h d hd
  unfold PyProof.Rows.up1 at e
  split at e <;> omega
theorem len_upper {x : Str} (h : Asc (tl x)) : (tl (Txt.upper x)).length = (tl x).length := by rw [tl_upper h, List.length_map]
theorem DL.strs {n : Nat} (xs : List Str) (h : xs.length ≤ 1000000) : DL (n + 2) (.tup (xs.map D.str)) := ⟨by rw [List.length_map]; exact h, fun d m => by obtain ⟨x, _, rfl⟩ := List.mem_map.mp m; exact True.intro⟩
theorem DV.strs {K : PySem.W.Frag} {H : Hp} {p : Addr} {xs : List Str} (h : H p = some (.tup (xs.map V.str))) : DV K H (.tup (xs.map D.str)) (.ref p) := by
  unfold DV
  exact ⟨p, _, rfl, SqT.of h, DVs.strs xs⟩
def sp_law (K : PySem.W.Frag) : Sp := fun vs H Q _ => ∃ (a : Addr) (ns : List Int), vs = [.ref a] ∧ SqL K H a (ns.map V.int) ∧ ns.length ≤ 63 ∧ ∀ H', Q (.bl true) H'
end Z
namespace Z
open PySem L2 SX
/-! ### cuts -/
theorem sIx_pos {n d : Nat} {i : Int} (h : 0 ≤ i) : HT.sIx n d (some i) = min i.toNat n := by
  obtain ⟨k, rfl⟩ := Int.eq_ofNat_of_zero_le h
  rw [HT.sIx_nat]; rfl
theorem cutS_to {z : Str} {i : Int} (h : 0 ≤ i) : tl (cutS z none (some i)) = (tl z).take i.toNat := by
  show ((tl z).drop 0).take (HT.sIx z.length z.length (some i) - 0) = _
  rw [sIx_pos h, List.drop_zero, Nat.sub_zero, tl_len]
  by_cases e : i.toNat ≤ (tl z).length
  · rw [Nat.min_eq_left e]
  · rw [Nat.min_eq_right (by omega), List.take_length, List.take_of_length_le (by omega)]
theorem cutS_from {z : Str} {i : Int} (h : 0 ≤ i) : tl (cutS z (some i) none) = (tl z).drop i.toNat := by
  show ((tl z).drop (HT.sIx z.length 0 (some i))).take (z.length - HT.sIx z.length 0 (some i)) = _
  rw [sIx_pos h, tl_len]
  by_cases e : i.toNat ≤ (tl z).length
  · rw [Nat.min_eq_left e, List.take_of_length_le (by rw [List.length_drop]; omega)]
  · rw [Nat.min_eq_right (by omega), List.drop_of_length_le (l := tl z) (i := i.toNat) (by omega), List.drop_of_length_le (Nat.le_refl _), List.take_nil]
theorem cutS_mid {z : Str} {i j : Int} (h : 0 ≤ i) (h2 : 0 ≤ j) : tl (cutS z (some i) (some j)) = ((tl z).drop i.toNat).take (j.toNat - i.toNat) := by
  show ((tl z).drop (HT.sIx z.length 0 (some i))).take (HT.sIx z.length z.length (some j) - HT.sIx z.length 0 (some i)) = _
  rw [sIx_pos h, sIx_pos h2, tl_len]
  by_cases e : i.toNat ≤ (tl z).length
  · rw [Nat.min_eq_left e]
    by_cases f : j.toNat ≤ (tl z).length
    · rw [Nat.min_eq_left f]
    · rw [Nat.min_eq_right (by omega), List.take_of_length_le (by rw [List.length_drop]; omega), List.take_of_length_le (by rw [List.length_drop]; omega)]
  · rw [Nat.min_eq_right (a := i.toNat) (by omega), List.drop_of_length_le (Nat.le_refl _), List.drop_of_length_le (l := tl z) (i := i.toNat) (by omega)]; simp
theorem cutV_to {xs : List V} {i : Int} (h : 0 ≤ i) : cutV xs none (some i) = xs.take i.toNat := by
  show ((xs.drop 0).take (HT.sIx xs.length xs.length (some i) - 0)) = _
  rw [sIx_pos h, List.drop_zero, Nat.sub_zero]
  by_cases e : i.toNat ≤ xs.length
  · rw [Nat.min_eq_left e]
  · rw [Nat.min_eq_right (by omega), List.take_length, List.take_of_length_le (by omega)]
theorem cutV_from {xs : List V} {i : Int} (h : 0 ≤ i) : cutV xs (some i) none = xs.drop i.toNat := by
  show ((xs.drop (HT.sIx xs.length 0 (some i))).take (xs.length - HT.sIx xs.length 0 (some i))) = _
  rw [sIx_pos h]
  by_cases e : i.toNat ≤ xs.length
  · rw [Nat.min_eq_left e, List.take_of_length_le (by rw [List.length_drop]; omega)]
  · rw [Nat.min_eq_right (by omega), List.drop_of_length_le (l := xs) (i := i.toNat) (by omega), List.drop_of_length_le (Nat.le_refl _), List.take_nil]
/-- the text k times -/
def rep (k : Nat) (l : List Nat) : List Nat := (List.replicate k l).flatten
theorem rep_fold (x : Array Nat) : ∀ (k : Nat) (a : Array Nat), ((List.replicate k x).foldl (· ++ ·) a).toList = a.toList ++ rep k x.toList
  | 0, a => by simp [rep]
  | k + 1, a => by
    rw [List.replicate_succ, List.foldl_cons, rep_fold x k]
    simp [rep, List.replicate_succ]
theorem rep_len (k : Nat) (l : List Nat) : (rep k l).length = k * l.length := by
  induction k with
  | zero => simp [rep]
  | succ k ih => unfold rep at *; rw [List.replicate_succ, List.flatten_cons, List.length_append, ih, Nat.succ_mul]; omega
theorem rep_mem {k : Nat} {l : List Nat} {c : Nat} (h : c ∈ rep k l) : c ∈ l := by
  obtain ⟨x, hx, hc⟩ := List.mem_flatten.mp h
  rw [(List.mem_replicate.mp hx).2] at hc; exact hc
section
variable {X : Cx}
/-- s * k -/
theorem op_mul_str : OpR X (binaryOp .Mult) (fun x y H Q => ∃ (z : Str) (k : Int), x = .str z ∧ y = .int k ∧ k ≤ 100000 ∧ (-100000 ≤ k) ∧ (tl z).length * k.toNat ≤ 10000000 ∧ ∀ r : Str, tl r = rep k.toNat (tl z) → Q (.str r) H) := by
  intro pins s σ H x y v u Q I rx ry h
  obtain ⟨z, k, rfl, rfl, h1, h0, hz, q⟩ := h
  obtain ⟨t, rfl⟩ := rx
  obtain ⟨t', rfl⟩ := ry
  have hz' : z.length * k.toNat ≤ 10000000 := by rw [tl_len]; exact hz
  have small := PyProof.Rows.short24 (n := z.length * k.toNat) (Nat.le_trans hz' (by decide))
  refine P.mul_str ?_ (fun a b => ?_) (fun _ _ => small) ?_
  · rw [decide_eq_false (by omega), decide_eq_false (by omega)]; rfl
  · have hk : 1 ≤ k := by omega
    have hm : (z.length : Int) * k ≤ 10000000 := by
      have : ((z.length * k.toNat : Nat) : Int) ≤ 10000000 := by omega
      rw [Int.natCast_mul, Int.toNat_of_nonneg (by omega)] at this; exact this
    have hle : (z.length : Int) ≤ (2 ^ 63 - 1) / k := by
      rw [Int.le_ediv_iff_mul_le (by omega)]
      exact Int.le_trans hm (by decide)
    omega
  · by_cases hk : k < 1
    · rw [if_pos hk]
      refine ⟨by decide, ?_⟩
      exact ⟨.str Str.empty, H, I.tok _, ⟨_, rfl⟩, q _ (by rw [show k.toNat = 0 by omega]; rfl)⟩
    · rw [if_neg hk]
      by_cases hb : (k == 1 || z.length == 0) = true
      · rw [if_pos hb]
        refine ⟨.str z, H, I, ⟨_, rfl⟩, q _ ?_⟩
        rw [Bool.or_eq_true] at hb
        rcases hb with e | e
        · have : k = 1 := by simpa using e
          subst this; simp [rep]
        · have e : z.length = 0 := by simpa using e
          rw [tl_len] at e
          have : tl z = [] := List.length_eq_zero_iff.mp e
          rw [this]
          exact (List.length_eq_zero_iff.mp (by rw [rep_len]; rfl)).symm
      · rw [if_neg hb]
        have hr : tl (⟨(List.replicate k.toNat z.cps).foldl (· ++ ·) #[]⟩ : Str) = rep k.toNat (tl z) := by
          show ((List.replicate k.toNat z.cps).foldl (· ++ ·) #[]).toList = _
          rw [rep_fold]; simp [tl]
        refine ⟨?_, ?_⟩
        · rw [tl_len, hr, rep_len, Nat.mul_comm]
          exact Nat.le_trans hz (by decide)
        · exact ⟨.str _, H, I.tok _, ⟨_, rfl⟩, q _ hr⟩
end
section
variable {X : Cx} {K : PySem.W.Frag}
/-- t + u, of tuples -/
theorem op_cat (hK : X.K = K) : OpR X (binaryOp .Add) (fun x y H Q => ∃ a b xs ys, x = .ref a ∧ y = .ref b ∧ SqT K H a xs ∧ SqT K H b ys ∧ xs.length + ys.length ≤ sizeLine ∧
    ∀ p H', Same H H' → SqT K H' p (xs ++ ys) → Q (.ref p) H') := by
  subst hK
  intro pins s σ H x y v u Q I rx ry h
  obtain ⟨a, b, xs, ys, e1, e2, ha, hb, hz, q⟩ := h
  refine op_catA pins s σ H x y v u Q I rx ry ⟨a, b, xs, ys, e1, e2, ha, hb, hz, fun e => ?_, fun _ e => ?_, fun _ _ p hp => q p _ (same_new hp) (SqT.of upd_same)⟩
  · subst e; exact q b H (Same.refl _) hb
  · subst e; exact q a H (Same.refl _) (by rw [List.append_nil]; exact ha)
/-- t[lo:hi] of a tuple -/
theorem sl_tupS (hK : X.K = K) : SlR X (fun x lo hi H Q => ∃ a xs, x = .ref a ∧ SqT K H a xs ∧ ∀ p H', Same H H' → SqT K H' p (cutV xs lo hi) → Q (.ref p) H') := by
  subst hK
  intro pins s σ H x v vl vu lo hi sl Q I rx hs pl pu h
  obtain ⟨a, xs, e, hx, q⟩ := h
  refine sl_tupA pins s σ H x v vl vu lo hi sl Q I rx hs pl pu ⟨a, xs, e, hx, fun hw => q a H (Same.refl _) ?_, fun _ p hp => q p _ (same_new hp) (SqT.of upd_same)⟩
  have : cutV xs lo hi = xs := by
    show (xs.drop (HT.sIx xs.length 0 lo)).take (HT.sIx xs.length xs.length hi - HT.sIx xs.length 0 lo) = xs
    rw [hw.1, hw.2, List.drop_zero, Nat.sub_zero, List.take_length]
  rw [this]; exact hx
end
theorem _root_.L2.Same.tup {K : PySem.W.Frag} {H H' : Hp} {a : Addr} {xs : List V} (e : Same H H') (h : SqT K H a xs) : SqT K H' a xs := by
  rcases h with (h | ⟨o, h⟩) | h
  · exact .inl (.inl (e _ _ h))
  · exact .inl (.inr ⟨o, e _ _ h⟩)
  · exact .inr h

/-- a comprehension over a range that makes texts by draws (at most d of them for each) -/
theorem lc_strs {j n d : Nat} {te : TE} {vs : List Nat} {σ : St} {H : Hp} {D s a : Addr} {c : Nat} {Qd : Hp → Prop} (p : Str → Prop) (hD : H D = none) (hS : Src H s a (c + n * d)) (hn : n ≤ 100000)
    (hw : ∀ i : Nat, wipe ((wipe σ vs).set j (some (.int (0 + (i : Int))))) vs = wipe σ vs)
    (hs : ∀ (i c' : Nat) (H1 : Hp) (R : VK), i < n → Ext s H H1 → Src H1 s a (c' + d) → (∀ (x : Str) (H2 : Hp), p x → Ext s H1 H2 → Src H2 s a c' → R (.str x) H2) → te ((wipe σ vs).set j (some (.int (0 + (i : Int))))) H1 R)
    (hd : ∀ (xs : List Str) (H' : Hp), H' D = some (.lst (xs.map V.str)) → xs.length = n → (∀ x ∈ xs, p x) → Ext s H H' → Src H' s a c → Qd H') :
    ∃ W : Nat → Nat → Hp → Prop, (∃ m, W 0 m (upd H D (.lst []))) ∧ ∀ i m H, W i m H →
      ((Itr 0 n).stop i H ∧ Qd H) ∨ ((Itr 0 n).go i H ∧ ∃ Nx : Hp → Prop, (∀ H', Nx H' → ∃ m', m' < m ∧ W (i + 1) m' H') ∧ ∀ x H', (Itr 0 n).yld i H x H' → gName j x (wipe σ vs) H' fun σ2 H2 => wipe σ2 vs = wipe σ vs ∧ tYes σ2 H2 fun b H3 =>
        if b = true then te σ2 H3 fun y H4 => ∃ acc, H4 D = some (.lst acc) ∧ acc.length < sizeLine ∧ Nx (upd H4 D (.lst (acc ++ [y]))) else Nx H3) := by
  have Ds : D ≠ s := hS.ne hD
  have Da : D ≠ a := hS.nea hD
  refine lc_range (lo := 0) (n := n) (fun i H' => ∃ xs : List Str, H' D = some (.lst (xs.map V.str)) ∧ xs.length = i ∧ (∀ x ∈ xs, p x) ∧ Ext s H H' ∧ Src H' s a (c + (n - i) * d)) ?_ ?_ ?_
  · exact ⟨[], upd_same, rfl, (fun _ h => by cases h), Ext.new hD, (hS.new hD).mono (by simp)⟩
  · rintro i H' hi ⟨xs, hx, hl, hA, hE, hS'⟩
    refine ⟨hw i, ?_⟩
    show te _ H' _
    have e : c + (n - i) * d = c + (n - (i + 1)) * d + d := by
      rw [show n - i = n - (i + 1) + 1 by omega, Nat.succ_mul]; omega
    refine hs i (c + (n - (i + 1)) * d) H' _ hi hE (by rw [← e]; exact hS') (fun x H2 hp hE2 hS2 => ?_)
    refine ⟨xs.map V.str, hE2 _ _ Ds hx, ?_, xs ++ [x], by rw [upd_same, List.map_append]; rfl, by rw [List.length_append]; simp [hl], fun y hy => ?_, ?_, hS2.put Ds Da⟩
    · rw [List.length_map]; exact Nat.lt_of_lt_of_le (show xs.length < 100000 by omega) (by decide)
    · rcases List.mem_append.mp hy with h | h
      · exact hA y h
      · rw [List.mem_singleton.mp h]; exact hp
    · intro b o hb hH
      rw [upd_ne (ne_of_none hH hD)]; exact hE2 _ _ hb (hE _ _ hb hH)
  · rintro H' ⟨xs, hx, hl, hA, hE, hS'⟩
    exact hd xs H' hx hl hA hE (hS'.mono (by omega))
theorem atI_pos {α : Type} {xs : List α} {v : Int} {x : α} (h0 : 0 ≤ v) (h : xs[v.toNat]? = some x) : atI xs v = some x := by
  have e : v = (v.toNat : Int) := by omega
  rw [e]; exact atI_nat h
/-- any item of a list of texts -/
def sp__law_pick (K : PySem.W.Frag) : Sp := fun vs H Q _ =>
  (∃ (s a r : Addr) (xs : List V) (c : Nat), vs = [.ref s, .ref r] ∧ SqL K H r xs ∧ r ≠ s ∧ xs ≠ [] ∧ xs.length ≤ 100000 ∧ Src H s a (c + 1) ∧ ∀ (v : V) (H' : Hp), v ∈ xs → Ext s H H' → Src H' s a c → Q v H') ∨
  (∃ (s a : Addr) (x : Str) (c : Nat), vs = [.ref s, .str x] ∧ tl x ≠ [] ∧ (tl x).length ≤ 100000 ∧ Src H s a (c + 1) ∧ ∀ (ch : Nat) (H' : Hp), ch ∈ tl x → Ext s H H' → Src H' s a c → Q (.str (S [ch])) H')
def sp__law_once_in : Sp := fun vs H Q _ => ∃ (s a : Addr) (m : Int) (c : Nat), vs = [.ref s, .int m] ∧ 0 < m ∧ m < 1073741824 ∧ Src H s a (c + 1) ∧ ∀ (b : Bool) (H' : Hp), Ext s H H' → Src H' s a c → Q (.bl b) H'
end Z
namespace Z
open PySem L2
/-! ### own errors: raised, caught, asked -/
section
variable (P : Program) (w : World) (K : PySem.W.Frag) (mg : Str → Option Value) (base : Heap)
/-- a def that may raise, as callers use it -/
def CalX (x : Str) (ps : List Str) (k : Nat) (sp : Sp) : Prop := ∃ (f : Addr) (fd : FuncData), FnOk P w K mg base (L2.CX P w) k f fd ps sp ∧ mg x = some (.ref f) ∧ PySem.W.keepIn K (.ref f) = true ∧ Binds K fd ps []
end
/-- an own error class with an __init__ of its own (at fI) -/
structure XOk (K : PySem.W.Frag) (mg : Str → Option Value) (x : Str) (C : Addr) : Prop where
  g : mg x = some (.ref C)
  o : OexC K C
  e : ExcC K C
theorem XOk.xf {K : PySem.W.Frag} {mg : Str → Option Value} {x : Str} {C : Addr} (T : XOk K mg x C) : XfC K C := ⟨T.e.hg, T.e.hk, T.e.hs, T.e.hd⟩
/-- the class's __init__(self, f): self.f = f -/
def sp_init (K : PySem.W.Frag) (C : Addr) (f : Str) : Sp := fun vs H Q _ => ∃ (a : Addr) (v : V), vs = [.ref a, v] ∧ OexC K C ∧ PySem.W.findIn K (.ref C) f = some none ∧ H a = some (exo a C none) ∧
  ∀ dx, H dx = none → dx ≠ a → Q .non (upd (upd H dx (exd dx [(f, v)])) a (exo a C (some dx)))
/-- isinstance(e, c), e the caught error at a -/
def rIsX (K : PySem.W.Frag) (cls : Value) (d : Option Addr) (a : Addr) : List V → Hp → VK → Prop := fun xs H Q => ∃ (D dd : Addr) (c : V) (cv : Value) (b : Bool) (fs : List (Str × V)), cls = .ref D ∧ d = some dd ∧ ExcC K D ∧ xs = [.ref a, c] ∧ H dd = some (.xd fs) ∧ ClsV c cv ∧
  PySem.W.kitOne K cls cv = some b ∧ Q (.bl b) H
def rIsXT (K : PySem.W.Frag) (cls : Value) (d : Option Addr) (a : Addr) : List V → Hp → VK → Prop := fun xs H Q => ∃ (D dd tp : Addr) (cs : List V) (us : List Value) (b : Bool) (fs : List (Str × V)), cls = .ref D ∧ d = some dd ∧ ExcC K D ∧ xs = [.ref a, .ref tp] ∧ H dd = some (.xd fs) ∧
  H tp = some (.tup cs) ∧ Paired ClsV cs us ∧ PySem.W.kitAny K cls us = some b ∧ Q (.bl b) H
section
variable {X : Cx} {a : Addr} {oe : Obj} {cls : Value} {d : Option Addr} {pn : List (Addr × Obj)}
theorem inst_at {pins : List (Addr × Obj)} {σ : St} {H : Hp} {s : Shared} {D dd : Addr} {fs : List (Str × V)} (I : Inv (X.suite a ((a, oe) :: pn)) pins σ H s) (hz : Zc (.ref D) (some dd) oe) (hf : ∃ vs, oe.data = .fields vs) (hd : H dd = some (.xd fs)) :
    ∃ od, PySem.W.InstAt s.heap a oe D (some od) := by
  obtain ⟨hget, _⟩ := I.pin (a, oe) (List.mem_append.mpr (.inl List.mem_cons_self))
  obtain ⟨vs, hv⟩ := hf
  have hx : ObjOk X.prog X.w H s.heap dd (.xd fs) := I.hok dd _ hd
  obtain ⟨mA, hns, hr⟩ := hx
  obtain ⟨od, ho, hl⟩ := lookIn_ns hns
  exact ⟨od, ⟨hget, hz.1, by unfold PySem.W.notCls; rw [hv] <;> rfl, by rw [hz.2]; exact ho⟩⟩
theorem kitx_D {K : PySem.W.Frag} {D x : Addr} {ox : Obj} {od : Option Obj} (C : ExcC K D) : PySem.W.KitX K (.ref x) (.ref D) (fun h => PySem.W.InstAt h x ox D od) := by
  refine PySem.W.kitx_exc ?_ C.hg C.hk C.hs C.ha C.hn C.ht C.hm
  have h := C.hd
  obtain ⟨cd, hc, _⟩ := PySem.W.any_some h
  rw [hc]; rfl
theorem call_isX (hz : Zc cls d oe) (hf : ∃ vs, oe.data = .fields vs) : CallR (X.suite a ((a, oe) :: pn)) (.builtin "isinstance") (rIsX X.K cls d a) := by
  intro pins s σ H xs us Q I r h
  obtain ⟨D, dd, c, cv, b, fs, rfl, rfl, C, rfl, hd, k, e, q⟩ := h
  obtain ⟨u1, u2, rfl, r1, r2⟩ := vals2 r
  have e2 := k.eq r2
  subst e2
  obtain rfl : u1 = Value.ref a := r1
  obtain ⟨od, J⟩ := inst_at I hz hf hd
  exact PySem.W.kia_one (kitx_D C) I.kIn J e (fun z => nomatch z) fun tk => ⟨.bl b, H, I.kept (t' := tk) fun _ _ z => z, rfl, q⟩
theorem call_isXT (hz : Zc cls d oe) (hf : ∃ vs, oe.data = .fields vs) : CallR (X.suite a ((a, oe) :: pn)) (.builtin "isinstance") (rIsXT X.K cls d a) := by
  intro pins s σ H xs us Q I r h
  obtain ⟨D, dd, tp, cs, ws, b, fs, rfl, rfl, C, rfl, hd, hT, k, e, q⟩ := h
  obtain ⟨u1, u2, rfl, r1, r2⟩ := vals2 r
  obtain rfl : u2 = Value.ref tp := r2
  obtain rfl : u1 = Value.ref a := r1
  obtain ⟨od, J⟩ := inst_at I hz hf hd
  obtain ⟨_, its, rv, o, h1, h2, n, h3⟩ := (show ObjOk X.prog X.w H s.heap tp (.tup cs) from I.hok tp _ hT)
  have e3 := ClsV.all k rv
  subst e3
  obtain ⟨oc, od', dt, sl⟩ := o
  simp only at h2 h3
  subst h2 h3
  exact PySem.W.kia_tup (kitx_D C) I.kIn J h1 e (fun z => nomatch z) fun tk => ⟨.bl b, H, I.kept (t' := tk) fun _ _ z => z, rfl, q⟩
end
/-- the heap behind a made error -/
theorem made_same {H : Hp} {a dx : Addr} {o1 o2 o3 o4 : HO} (ha : H a = none) (hd : H dx = none) : Same H (upd (del (upd (upd (upd H a o1) dx o2) a o3) a) dx o4) := fun b u h => by
  rw [upd_ne (ne_of_none h hd), del_ne (ne_of_none h ha), upd_ne (ne_of_none h ha), upd_ne (ne_of_none h hd), upd_ne (ne_of_none h ha)]; exact h
/-- what a raised error tells: behind it all stands that stood -/
theorem paired1 {c : V} {u : Value} (k : ClsV c u) : Paired ClsV [c] [u] := .cons k .nil
end Z
namespace Z
open PySem L2 SX
open PySem.Builtin.Str (occurrences lastOccurrence subAt)
theorem at_one {x : Str} {c hi k : Nat} (h : hi ≤ (tl x).length) : StrLaws.At x (S [c]) hi k ↔ k < hi ∧ (tl x)[k]? = some c := by
  have e := StrLaws.subAt_one x c k
  have l1 : (S [c]).length = 1 := rfl
  unfold StrLaws.At
  constructor
  · rintro ⟨h1, h2⟩
    rw [l1] at h1
    refine ⟨by omega, e.mp ⟨?_, h2⟩⟩
    show k + 1 ≤ x.length
    rw [tl_len]; omega
  · rintro ⟨h1, h2⟩
    have h3 := e.mpr h2
    exact ⟨by rw [l1]; omega, h3.2⟩
theorem find_from (x : Str) (c : Nat) {i : Int} (h : 0 ≤ i) :
    (Txt.find3 x (S [c]) i = -1 ∧ ∀ k : Nat, i ≤ (k : Int) → (tl x)[k]? ≠ some c) ∨ ∃ k : Nat, Txt.find3 x (S [c]) i = (k : Int) ∧ i ≤ (k : Int) ∧ (tl x)[k]? = some c ∧ ∀ j : Nat, i ≤ (j : Int) → j < k → (tl x)[j]? ≠ some c := by
  obtain ⟨n, rfl⟩ := Int.eq_ofNat_of_zero_le h
  have hf : fromIndex x.length (n : Int) = n := by
    unfold fromIndex
    rw [if_neg (by omega), Int.max_eq_right (by omega)]; rfl
  unfold Txt.find3
  rw [hf, StrLaws.occ_eq]
  have hx : x.length = (tl x).length := tl_len x
  rcases StrLaws.occ_first x (S [c]) x.length 1 (Nat.le_refl _) (List.range' n (x.length + 1 - n)) n (fun i hi => (List.mem_range'_1.mp hi).1) with ⟨h0, hn⟩ | ⟨pre, a, post, e, h0, ha, hn⟩
  · refine .inl ⟨by rw [h0], fun k hk hc => ?_⟩
    have hlt := (List.getElem?_eq_some_iff.mp hc).1
    exact hn k (List.mem_range'_1.mpr ⟨by omega, by omega⟩) ((at_one (by omega)).mpr ⟨by omega, hc⟩)
  · have h1 := (at_one (by omega)).mp ha
    have hm : a ∈ List.range' n (x.length + 1 - n) := by rw [e]; simp
    refine .inr ⟨a, ?_, by have := (List.mem_range'_1.mp hm).1; omega, h1.2, fun j hj hl hc => ?_⟩
    · cases hq : (forIn (List.range' n (x.length + 1 - n)) ((#[] : Array Nat), n) (StrLaws.occBody x (S [c]) x.length 1)).run.fst.toList with
      | nil =>
        have : (forIn (List.range' n (x.length + 1 - n)) ((#[] : Array Nat), n) (StrLaws.occBody x (S [c]) x.length 1)).run.fst = #[] := Array.toList_eq_nil_iff.mp hq
        rw [this] at h0; simp at h0
      | cons b r =>
        have hb : (forIn (List.range' n (x.length + 1 - n)) ((#[] : Array Nat), n) (StrLaws.occBody x (S [c]) x.length 1)).run.fst[0]? = some b := by
          rw [← Array.getElem?_toList, hq]; rfl
        rw [hb] at h0
        cases h0; rfl
    · have hjm : j ∈ pre := by
        have hlt := (List.getElem?_eq_some_iff.mp hc).1
        have hjr : j ∈ List.range' n (x.length + 1 - n) := List.mem_range'_1.mpr ⟨by omega, by omega⟩
        have hp : (pre ++ a :: post).Pairwise (· < ·) := by rw [← e]; exact List.pairwise_lt_range'
        rw [e] at hjr
        rcases List.mem_append.mp hjr with q | q
        · exact q
        · rcases List.mem_cons.mp q with q | q
          · omega
          · have := (List.pairwise_cons.mp (List.pairwise_append.mp hp).2.1).1 j q
            omega
      exact hn j hjm ((at_one (by omega)).mpr ⟨by have := (List.getElem?_eq_some_iff.mp hc).1; omega, hc⟩)
theorem rfind_in (x : Str) (c : Nat) {i m : Int} (h : 0 ≤ i) (hm : 0 ≤ m) :
    (Txt.rfindIn x (S [c]) i m = -1 ∧ ∀ k : Nat, i ≤ (k : Int) → (k : Int) < m → (tl x)[k]? ≠ some c) ∨ ∃ k : Nat, Txt.rfindIn x (S [c]) i m = (k : Int) ∧ i ≤ (k : Int) ∧ (k : Int) < m ∧ (tl x)[k]? = some c ∧ ∀ j : Nat, k < j → (j : Int) < m → (tl x)[j]? ≠ some c := by
  obtain ⟨n, rfl⟩ := Int.eq_ofNat_of_zero_le h
  obtain ⟨e, rfl⟩ := Int.eq_ofNat_of_zero_le hm
  have hf : fromIndex x.length (n : Int) = n := by
    unfold fromIndex
    rw [if_neg (by omega), Int.max_eq_right (by omega)]; rfl
  have ht : toIndexW x.length (e : Int) = min e x.length := by
    unfold toIndexW
    rw [if_neg (by omega), Int.max_eq_right (by omega)]; rfl
  have hx : x.length = (tl x).length := tl_len x
  unfold Txt.rfindIn
  rw [hf, ht, StrLaws.last_eq]
  have key := StrLaws.last_run x (S [c]) (min e x.length) (List.range' n (min e x.length + 1 - n)) [] none (fun _ h => nomatch h) (fun _ h => nomatch h) List.pairwise_lt_range'
  rw [List.nil_append] at key
  cases hq : (forIn (List.range' n (min e x.length + 1 - n)) none (StrLaws.lastBody x (S [c]) (min e x.length))).run with
  | none =>
    rw [hq] at key
    refine .inl ⟨rfl, fun k hk hk2 hc => ?_⟩
    have hlt := (List.getElem?_eq_some_iff.mp hc).1
    exact key k (List.mem_range'_1.mpr ⟨by omega, by omega⟩) ((at_one (by omega)).mpr ⟨by omega, hc⟩)
  | some a =>
    rw [hq] at key
    obtain ⟨ha, hl⟩ := key
    have h1 := (at_one (by omega)).mp ha
    have hr : n ≤ a := by
      -- the last place is one of those that were looked at
      have : ∀ (l : List Nat) (st : Option Nat) (b : Nat), (forIn l st (StrLaws.lastBody x (S [c]) (min e x.length))).run = some b → st = some b ∨ b ∈ l := by
        intro l
        induction l with
        | nil => intro st b hb; exact .inl hb
        | cons d l ih =>
          intro st b hb
          rw [List.forIn_cons] at hb
          unfold StrLaws.lastBody at hb
          split at hb
          · rcases ih _ _ hb with q | q
            · exact .inr (by cases q; exact List.mem_cons_self)
            · exact .inr (List.mem_cons_of_mem _ q)
          · rcases ih _ _ hb with q | q
            · exact .inl q
            · exact .inr (List.mem_cons_of_mem _ q)
      rcases this _ _ _ hq with q | q
      · cases q
      · exact (List.mem_range'_1.mp q).1
    refine .inr ⟨a, rfl, by omega, by omega, h1.2, fun j hj hj2 hc => ?_⟩
    have hlt := (List.getElem?_eq_some_iff.mp hc).1
    exact hl j (List.mem_range'_1.mpr ⟨by omega, by omega⟩) hj ((at_one (by omega)).mpr ⟨by omega, hc⟩)

theorem tl_inj : ∀ {a b : List Str}, a.map tl = b.map tl → a = b
  | [], [], _ => rfl
  | [], _ :: _, h => by cases h
  | _ :: _, [], h => by cases h
  | x :: a, y :: b, h => by
    rw [List.map_cons, List.map_cons] at h
    obtain ⟨h1, h2⟩ := List.cons.inj h
    rw [tl_ext h1, tl_inj h2]
theorem DV.strsT {K : PySem.W.Frag} {H : Hp} {p : Addr} {xs : List Str} (h : SqT K H p (xs.map V.str)) : DV K H (.tup (xs.map D.str)) (.ref p) := by
  unfold DV
  exact ⟨p, _, rfl, h, DVs.strs xs⟩
end Z
namespace Z
open PySem L2 SX
/-! ### methods of own classes -/
section
variable (P : Program) (w : World) (K : PySem.W.Frag) (mg : Str → Option Value) (base : Heap)
/-- a method, with its promise -/
def CalM (C : Addr) (m : Str) (ps : List Str) (k : Nat) (sp : Sp) : Prop := ∃ (f : Addr) (fd : FuncData), FnOk P w K mg base CX0 k f fd ps sp ∧ Meth K C m f ∧ Binds K fd ps []
def CalI (C : Addr) (ps : List Str) (k : Nat) (sp : Sp) : Prop := ∃ (f : Addr) (fd : FuncData), FnOk P w K mg base CX0 k f fd ps sp ∧ Mk K C f ∧ Binds K fd ps []
def CalP (C : Addr) (m : Str) (ps : List Str) (k : Nat) (sp : Sp) : Prop := ∃ (p f : Addr) (fd : FuncData), FnOk P w K mg base CX0 k f fd ps sp ∧ PropOf K C m p f ∧ Binds K fd ps []
def DfM (C : Addr) (m q : Str) (st : Stmt) (ps : List Str) : Prop := ∃ (f : Addr) (fd : FuncData), Fun K m q st f fd ∧ Meth K C m f ∧ Binds K fd ps []
def DfI (C : Addr) (q : Str) (st : Stmt) (ps : List Str) : Prop := ∃ (f : Addr) (fd : FuncData), Fun K "__init__" q st f fd ∧ Mk K C f ∧ Binds K fd ps []
def DfP (C : Addr) (m q : Str) (st : Stmt) (ps : List Str) : Prop := ∃ (p f : Addr) (fd : FuncData), Fun K m q st f fd ∧ PropOf K C m p f ∧ Binds K fd ps []
end
/-- all but these stays -/
def ExtL (ms : List Addr) (H H' : Hp) : Prop := ∀ b o, b ∉ ms → H b = some o → H' b = some o
theorem ExtL.refl (ms : List Addr) (H : Hp) : ExtL ms H H := fun _ _ _ h => h
theorem ExtL.trans {ms : List Addr} {H H1 H2 : Hp} (a : ExtL ms H H1) (b : ExtL ms H1 H2) : ExtL ms H H2 := fun c o n h => b c o n (a c o n h)
theorem ExtL.of {ms : List Addr} {H H' : Hp} (a : Same H H') : ExtL ms H H' := fun c o _ h => a c o h
theorem ExtL.ofExt {ms : List Addr} {s : Addr} {H H' : Hp} (a : Ext s H H') (m : s ∈ ms) : ExtL ms H H' := fun c o n h => a c o (fun e => n (by rw [e]; exact m)) h
theorem ExtL.mono {ms ns : List Addr} {H H' : Hp} (a : ExtL ms H H') (m : ∀ x ∈ ms, x ∈ ns) : ExtL ns H H' := fun c o n h => a c o (fun e => n (m c e)) h
theorem ExtL.put {ms : List Addr} {p : Addr} {H : Hp} {o : HO} (m : p ∈ ms) : ExtL ms H (upd H p o) := fun c u n h => by
  rw [upd_ne (fun e => n (by rw [e]; exact m))]; exact h
theorem ExtL.new {ms : List Addr} {p : Addr} {H : Hp} {o : HO} (n : H p = none) : ExtL ms H (upd H p o) := ExtL.of (same_new n)
end Z
namespace Z
open PySem PySem.W PySem.Calls PyProof.Rows L2
/-! ### data, as the sorts and comparisons see it -/
mutual
def py : D → PyData
  | .non => .none
  | .bl b => .bool b
  | .int i => .int i
  | .str x => .str x
  | .tup xs => .tuple (pys xs)
def pys : List D → List PyData
  | [] => []
  | d :: ds => py d :: pys ds
end
theorem pys_map : ∀ ds : List D, pys ds = ds.map py
  | [] => by simp [pys]
  | d :: ds => by rw [pys, pys_map ds, List.map_cons]
section
variable {K : Frag} {H : Hp}
mutual
theorem DV.dp : ∀ {d : D} {v : V}, DV K H d v → Dp K H v (py d)
  | .non, _, h => by unfold DV at h; subst h; unfold py; exact .non
  | .bl b, _, h => by unfold DV at h; subst h; unfold py; exact .bl b
  | .int i, _, h => by unfold DV at h; subst h; unfold py; exact .int i
  | .str x, _, h => by unfold DV at h; subst h; unfold py; exact .str x
  | .tup ds, _, h => by
    unfold DV at h
    obtain ⟨a, vs, rfl, q, r⟩ := h
    unfold py
    exact .tup q (DVs.dpa r)
theorem DVs.dpa : ∀ {ds : List D} {vs : List V}, DVs K H ds vs → DpAll K H vs (pys ds)
  | [], _, h => by unfold DVs at h; subst h; unfold pys; exact .nil
  | d :: ds, _, h => by
    unfold DVs at h
    obtain ⟨v, r, rfl, q, t⟩ := h
    unfold pys
    exact .cons (DV.dp q) (DVs.dpa t)
end
end
mutual
theorem py_eqv : ∀ (d e : D), alike (py d) (py e) = true → (PyData.eqv (py d) (py e) = true ↔ d = e)
  | .non, .non, _ => by simp [py, PyData.eqv]
  | .bl b, .bl c, _ => by simp [py, PyData.eqv]
  | .int b, .int c, _ => by simp [py, PyData.eqv]
  | .str b, .str c, _ => by simp [py, PyData.eqv]
  | .tup xs, .tup ys, h => by
    have := pys_eqv xs ys (by simpa [py, alike] using h)
    simp only [py, PyData.eqv, D.tup.injEq]
    exact this
  | .non, .bl _, h | .non, .int _, h | .non, .str _, h | .non, .tup _, h => by simp [py, alike] at h
  | .bl _, .non, h | .bl _, .int _, h | .bl _, .str _, h | .bl _, .tup _, h => by simp [py, alike] at h
  | .int _, .non, h | .int _, .bl _, h | .int _, .str _, h | .int _, .tup _, h => by simp [py, alike] at h
  | .str _, .non, h | .str _, .bl _, h | .str _, .int _, h | .str _, .tup _, h => by simp [py, alike] at h
  | .tup _, .non, h | .tup _, .bl _, h | .tup _, .int _, h | .tup _, .str _, h => by simp [py, alike] at h
theorem pys_eqv : ∀ (d e : List D), alikeAll (pys d) (pys e) = true → (PyData.eqvAll (pys d) (pys e) = true ↔ d = e)
  | [], [], _ => by simp [pys, PyData.eqvAll]
  | [], y :: ys, _ => by simp [pys, PyData.eqvAll]
  | x :: xs, [], _ => by simp [pys, PyData.eqvAll]
  | x :: xs, y :: ys, h => by
    have h' : alike (py x) (py y) = true ∧ alikeAll (pys xs) (pys ys) = true := by simpa [pys, alikeAll] using h
    simp only [pys, PyData.eqvAll, Bool.and_eq_true, List.cons.injEq, py_eqv x y h'.1, pys_eqv xs ys h'.2]
end
/-- compared with another by == -/
def eqD (d e : D) : Bool := PyData.eqv (py d) (py e)
theorem eqD_iff {d e : D} (h : alike (py d) (py e) = true) : eqD d e = true ↔ d = e := py_eqv d e h
def Okd (d : D) : Prop := SeqAt.shaped (py d) = true
def Okl (ds : List D) : Prop := SeqAt.shaped (.list (pys ds)) = true
mutual
def fine : Nat → D → Bool
  | _, .non => true
  | _, .bl _ => true
  | _, .int _ => true
  | _, .str x => PyData.strOk x
  | 0, .tup _ => false
  | n + 1, .tup xs => fines n xs
def fines : Nat → List D → Bool
  | _, [] => true
  | n, d :: ds => fine n d && fines n ds
end
mutual
theorem fine_lay : ∀ {n : Nat} {d : D}, fine n d = true → (py d).canLay0 = true ∧ (py d).depth ≤ n
  | n, .non, _ => by simp [py, PyData.canLay0, PyData.depth]
  | n, .bl _, _ => by simp [py, PyData.canLay0, PyData.depth]
  | n, .int _, _ => by simp [py, PyData.canLay0, PyData.depth]
  | n, .str x, h => by
    have h' : PyData.strOk x = true := by cases n <;> simpa [fine] using h
    refine ⟨by simpa [py, PyData.canLay0] using h', by simp [py, PyData.depth]⟩
  | 0, .tup _, h => by simp [fine] at h
  | n + 1, .tup xs, h => by
    have h' := fines_lay (show fines n xs = true by simpa [fine] using h)
    refine ⟨by simpa [py, PyData.canLay0] using h'.1, ?_⟩
    simp only [py, PyData.depth]
    have := h'.2
    omega
theorem fines_lay : ∀ {n : Nat} {ds : List D}, fines n ds = true → PyData.canLayAll0 (pys ds) = true ∧ PyData.depthAll (pys ds) ≤ n
  | n, [], _ => by simp [pys, PyData.canLayAll0, PyData.depthAll]
  | n, d :: ds, h => by
    have h' : fine n d = true ∧ fines n ds = true := by simpa [fines] using h
    have h1 := fine_lay h'.1
    have h2 := fines_lay h'.2
    refine ⟨by simp [pys, PyData.canLayAll0, h1.1, h2.1], ?_⟩
    simp only [pys, PyData.depthAll]
    have := h1.2
    have := h2.2
    omega
end
theorem fine_ok {n : Nat} {d : D} (h : fine n d = true) (hn : n ≤ 60 := by decide) : Okd d := by
  have := fine_lay h
  unfold Okd SeqAt.shaped
  rw [this.1, decide_eq_true (by omega)]; rfl
theorem fines_ok {n : Nat} {ds : List D} (h : fines n ds = true) (hn : n ≤ 60 := by decide) : Okl ds := by
  have := fines_lay h
  unfold Okl SeqAt.shaped
  have e : (PyData.list (pys ds)).canLay0 = true := by simpa [PyData.canLay0] using this.1
  have f : (PyData.list (pys ds)).depth ≤ 64 := by simp only [PyData.depth]; omega
  rw [e, decide_eq_true f]; rfl
theorem fines_map {α : Type} {f : α → D} {n : Nat} : ∀ {l : List α}, (∀ x ∈ l, fine n (f x) = true) → fines n (l.map f) = true
  | [], _ => by simp [fines]
  | x :: l, h => by
    rw [List.map_cons, fines, h x (by simp), fines_map fun y m => h y (List.mem_cons_of_mem _ m)]; rfl
theorem fine_tup {n : Nat} {ds : List D} (h : fines n ds = true) : fine (n + 1) (.tup ds) = true := by simpa [fine] using h
theorem fine_low {n : Nat} {x : Str} (h : ∀ c ∈ tl x, c < 1114112) : fine n (.str x) = true := by
  have : PyData.strOk x = true := by
    unfold PyData.strOk
    rw [← Array.all_toList, List.all_eq_true]
    exact fun c m => decide_eq_true (h c m)
  cases n <;> simpa [fine] using this
theorem fines_cons {n : Nat} {d : D} {ds : List D} (h : fine n d = true) (t : fines n ds = true) : fines n (d :: ds) = true := by rw [fines, h, t]; rfl
theorem fines_nil {n : Nat} : fines n [] = true := by rw [fines]
theorem fine_int {n : Nat} {i : Int} : fine n (.int i) = true := by cases n <;> simp [fine]
theorem fine_non {n : Nat} : fine n .non = true := by cases n <;> simp [fine]
section
variable {X : Cx}
/-- == and != of data -/
def rEqDD (K : Frag) : R2 := fun x y H Q => ∃ d e, DV K H d x ∧ DV K H e y ∧ Okd d ∧ Okd e ∧ Q (.bl (eqD d e)) H
def rNeDD (K : Frag) : R2 := fun x y H Q => ∃ d e, DV K H d x ∧ DV K H e y ∧ Okd d ∧ Okd e ∧ Q (.bl (!eqD d e)) H
theorem op_eqDD (hu : X.A.units + 64 < cLine) : OpR X (compareOp .Eq) (rEqDD X.K) := by
  intro pins s σ H x y v u Q I rx ry h
  obtain ⟨d, e, hd, he, sd, se, q⟩ := h
  exact op_eqD hu pins s σ H x y v u Q I rx ry ⟨_, _, hd.dp, he.dp, sd, se, q⟩
theorem op_neDD (hu : X.A.units + 64 < cLine) : OpR X (compareOp .NotEq) (rNeDD X.K) := by
  intro pins s σ H x y v u Q I rx ry h
  obtain ⟨d, e, hd, he, sd, se, q⟩ := h
  exact op_neD hu pins s σ H x y v u Q I rx ry ⟨_, _, hd.dp, he.dp, sd, se, q⟩
/-- in and not in over a list of data -/
def rInDD (K : Frag) (neg : Bool) : R2 := fun x y H Q => ∃ (d : D) (a : Addr) (vs : List V) (ds : List D), DV K H d x ∧ y = .ref a ∧ SqL K H a vs ∧ DVs K H ds vs ∧ Okd d ∧ Okl ds ∧ Q (.bl (if neg then !ds.any (fun z => eqD z d) else ds.any fun z => eqD z d)) H
theorem any_pys (d : D) (ds : List D) : ((pys ds).any fun z => PyData.eqv z (py d)) = ds.any fun z => eqD z d := by
  rw [pys_map, List.any_map]; rfl
theorem op_inDD (hu : X.A.units + 65 < cLine) : OpR X (compareOp .In) (rInDD X.K false) := by
  intro pins s σ H x y v u Q I rx ry h
  obtain ⟨d, a, vs, ds, hd, rfl, hs, he, sd, se, q⟩ := h
  exact op_inD hu pins s σ H _ _ v u Q I rx ry ⟨_, _, hd.dp, .lst hs he.dpa, sd, se, by rw [any_pys]; exact q⟩
theorem op_notInDD (hu : X.A.units + 65 < cLine) : OpR X (compareOp .NotIn) (rInDD X.K true) := by
  intro pins s σ H x y v u Q I rx ry h
  obtain ⟨d, a, vs, ds, hd, rfl, hs, he, sd, se, q⟩ := h
  exact op_notInD hu pins s σ H _ _ v u Q I rx ry ⟨_, _, hd.dp, .lst hs he.dpa, sd, se, by rw [any_pys]; exact q⟩
theorem any_eqD {α : Type} {f : α → D} {d : α} {l : List α} (hf : ∀ x ∈ l, f x = f d → x = d) (h : ∀ x ∈ l, alike (py (f x)) (py (f d)) = true) : (l.map f).any (fun z => eqD z (f d)) = true ↔ d ∈ l := by
  rw [List.any_eq_true]
  constructor
  · rintro ⟨z, hz, e⟩
    obtain ⟨x, hx, rfl⟩ := List.mem_map.mp hz
    rw [← hf x hx ((eqD_iff (h x hx)).mp e)]; exact hx
  · intro m
    exact ⟨f d, List.mem_map_of_mem m, (eqD_iff (h d m)).mpr rfl⟩
/-- sorted(xs), xs a list of data -/
def dle {β : Type} (f : β → D) : β → β → Bool := dataLe false fun b => py (f b)
def rSortDD (K : Frag) : List V → Hp → VK → Prop := fun vs H Q => ∃ (a : Addr) (us : List V) (β : Type) (l : List β) (f : β → D), vs = [.ref a] ∧ SqL K H a us ∧ DVs K H (l.map f) us ∧ AllAlike (l.map fun b => py (f b)) ∧ Sortable (l.map fun b => py (f b)) ∧ (∀ b ∈ l, (py (f b)).depth ≤ 60) ∧
  ∀ (ys : List V) (p : Addr), H p = none → DVs K H ((l.mergeSort (dle f)).map f) ys → Q (.ref p) (upd H p (.lst ys))
theorem dvs_each {K : Frag} {H : Hp} {β : Type} {f : β → D} : ∀ {l : List β} {us : List V} {vs : List Value}, DVs K H (l.map f) us → Vals us vs → EachIs (fun u b => ∃ v, RelV v u ∧ DV K H (f b) v) vs l
  | [], _, _, h, r => by
    unfold List.map DVs at h; subst h; cases r; exact .nil
  | b :: l, _, _, h, r => by
    obtain ⟨v, t, rfl, q, h2⟩ := h
    cases r with
    | cons r1 r2 => exact .cons ⟨v, r1, q⟩ (dvs_each h2 r2)
theorem each_dvs {K : Frag} {H : Hp} {β : Type} {f : β → D} : ∀ {l : List β} {vs : List Value}, EachIs (fun u b => ∃ v, RelV v u ∧ DV K H (f b) v) vs l → ∃ us, DVs K H (l.map f) us ∧ Vals us vs
  | [], _, h => by cases h; exact ⟨[], by unfold List.map DVs; rfl, .nil⟩
  | b :: l, _, h => by
    cases h with
    | cons h1 h2 =>
      obtain ⟨v, r1, q⟩ := h1
      obtain ⟨us, d, r2⟩ := each_dvs h2
      exact ⟨v :: us, ⟨v, us, rfl, q, d⟩, .cons r1 r2⟩
theorem each_reads {pins : List (Addr × Obj)} {σ : L2.St} {H : Hp} {s : Shared} (I : Inv X pins σ H s) {β : Type} {f : β → D} {l : List β} {vs : List Value} (h : EachIs (fun u b => ∃ v, RelV v u ∧ DV X.K H (f b) v) vs l) :
    EachIs (fun u b => ∃ as, Reads s.heap u (py (f b)) as) vs l := h.mono fun u b ⟨v, r, q⟩ => Dp.reads I _ _ _ q.dp r
theorem vals_len : ∀ {us : List V} {vs : List Value}, Vals us vs → us.length = vs.length
  | _, _, .nil => rfl
  | _, _, .cons _ r => by rw [List.length_cons, List.length_cons, vals_len r]
theorem hu_big {n : Nat} (h : X.A.units + 65 < cLine) (k : n ≤ 60) : X.A.units + 2 + n < cLine := by omega
theorem cr_sortDD (hu : X.A.units + 65 < cLine) : CallR X (.builtin "sorted") (rSortDD X.K) := by
  intro pins s σ H vs us Q I r h
  obtain ⟨a, xs, β, l, f, rfl, hs, hd, hal, hsb, hdp, q⟩ := h
  obtain ⟨its, rv, hl, hz⟩ := I.list hs
  obtain ⟨u, rfl, ru⟩ := vals1 r
  obtain rfl : u = Value.ref a := ru
  have e := dvs_each hd rv
  have hlen := vals_len rv
  have hlen2 := e.length
  refine PySem.W.sorted_data (enc := fun b => py (f b)) hl.isList e (each_reads I e) hal hsb (by omega) (fun b m => hu_big hu (hdp b m)) fun out ho eo => ?_
  obtain ⟨ys, dy, ry⟩ := each_dvs eo
  have fr : H (s.heap.objs.size + 1) = none := I.hok.fresh (Nat.le_succ _)
  obtain ⟨n, hn⟩ := sortedAll_at s.heap its (List.toArray out)
  refine ⟨.ref _, upd H _ (.lst ys), I.laid (t' := s.toks) (fun b o g => sortedAll_old g) (Nat.le_succ _) ⟨?_, out, n, ry, hn⟩, rfl, q ys _ fr dy⟩
  rw [vals_len ry]; omega
/-- min(xs), max(xs) of data -/
def rMinDD (K : Frag) (mx : Bool) : List V → Hp → VK → Prop := fun vs H Q => ∃ (a : Addr) (us : List V) (β : Type) (l : List β) (f : β → D), vs = [.ref a] ∧ SqL K H a us ∧ DVs K H (l.map f) us ∧ AllAlike (l.map fun b => py (f b)) ∧ (∀ b ∈ l, f b ≠ .non) ∧ (∀ b ∈ l, (py (f b)).depth ≤ 60) ∧ l ≠ [] ∧
  ∀ (m : β) (v : V), m ∈ l → (∀ y ∈ l, (if mx then dataLt (py (f m)) (py (f y)) else dataLt (py (f y)) (py (f m))) = false) → DV K H (f m) v → Q v H
theorem depth_all {β : Type} {g : β → PyData} : ∀ {l : List β}, (∀ b ∈ l, (g b).depth ≤ 60) → PyData.depthAll (l.map g) ≤ 60
  | [], _ => by simp [PyData.depthAll]
  | b :: l, h => by
    have h1 := h b (by simp)
    have h2 := depth_all (l := l) fun c m => h c (List.mem_cons_of_mem _ m)
    rw [List.map_cons, PyData.depthAll]; omega
theorem lt_irr (x : PyData) : dataLt x x = false := lex_irrefl _
theorem minD_mem (x : PyData) : ∀ xs : List PyData, minD x xs ∈ x :: xs := by
  intro xs
  unfold minD
  suffices h : ∀ (xs : List PyData) (a : PyData) (L : List PyData), a ∈ L → (∀ y ∈ xs, y ∈ L) → xs.foldl (fun a y => if dataLt y a then y else a) a ∈ L from h xs x (x :: xs) (by simp) (fun y m => List.mem_cons_of_mem _ m)
  intro xs
  induction xs with
  | nil => intro a L h _; exact h
  | cons y ys ih =>
    intro a L h k
    rw [List.foldl_cons]
    refine ih _ L ?_ fun z m => k z (List.mem_cons_of_mem _ m)
    split
    · exact k y (by simp)
    · exact h
def pyLe (a b : PyData) : Bool := !dataLt b a
theorem pyLe_total : TotalLe pyLe := sortLe_total (listOrd itemOrd) false keyToks
theorem lt_of_pyLe {a b : PyData} (h : pyLe a b = true) : dataLt b a = false := by unfold pyLe at h; simpa using h
theorem pyLe_of {a b : PyData} (h : dataLt b a = false) : pyLe a b = true := by unfold pyLe; rw [h]; rfl
theorem pyLe_lt {a b : PyData} (h : dataLt a b = true) : pyLe a b = true := (pyLe_total.total a b).elim id fun k => by
  have := lt_of_pyLe k
  rw [this] at h; cases h
theorem minD_le : ∀ (xs : List PyData) (x : PyData), ∀ y ∈ x :: xs, pyLe (minD x xs) y = true := by
  intro xs
  suffices h : ∀ (xs : List PyData) (a : PyData) (L : List PyData), (∀ y ∈ L, pyLe a y = true) → ∀ y, y ∈ L ∨ y ∈ xs → pyLe (xs.foldl (fun a y => if dataLt y a then y else a) a) y = true from fun x y m => h xs x [x] (fun z m => by rw [List.mem_singleton.mp m]; exact pyLe_total.refl x) y (by
    rcases List.mem_cons.mp m with e | e
    · exact .inl (by rw [e]; simp)
    · exact .inr e)
  intro xs
  induction xs with
  | nil => intro a L h y m; exact h y (m.resolve_right (by simp))
  | cons z zs ih =>
    intro a L h y m
    rw [List.foldl_cons]
    refine ih _ (z :: L) ?_ y ?_
    · intro w mw
      by_cases c : dataLt z a = true
      · rw [if_pos c]
        rcases List.mem_cons.mp mw with e | e
        · rw [e]; exact pyLe_total.refl z
        · exact pyLe_total.trans _ _ _ (pyLe_lt c) (h w e)
      · rw [if_neg c]
        rcases List.mem_cons.mp mw with e | e
        · rw [e]; exact pyLe_of (by simpa using c)
        · exact h w e
    · rcases m with m | m
      · exact .inl (List.mem_cons_of_mem _ m)
      · rcases List.mem_cons.mp m with e | e
        · exact .inl (by rw [e]; simp)
        · exact .inr e
theorem maxD_mem (x : PyData) : ∀ xs : List PyData, maxD x xs ∈ x :: xs := by
  intro xs
  unfold maxD
  suffices h : ∀ (xs : List PyData) (a : PyData) (L : List PyData), a ∈ L → (∀ y ∈ xs, y ∈ L) → xs.foldl (fun a y => if dataLt a y then y else a) a ∈ L from h xs x (x :: xs) (by simp) (fun y m => List.mem_cons_of_mem _ m)
  intro xs
  induction xs with
  | nil => intro a L h _; exact h
  | cons y ys ih =>
    intro a L h k
    rw [List.foldl_cons]
    refine ih _ L ?_ fun z m => k z (List.mem_cons_of_mem _ m)
    split
    · exact k y (by simp)
    · exact h
theorem maxD_le : ∀ (xs : List PyData) (x : PyData), ∀ y ∈ x :: xs, pyLe y (maxD x xs) = true := by
  intro xs
  suffices h : ∀ (xs : List PyData) (a : PyData) (L : List PyData), (∀ y ∈ L, pyLe y a = true) → ∀ y, y ∈ L ∨ y ∈ xs → pyLe y (xs.foldl (fun a y => if dataLt a y then y else a) a) = true from fun x y m => h xs x [x] (fun z m => by rw [List.mem_singleton.mp m]; exact pyLe_total.refl x) y (by
    rcases List.mem_cons.mp m with e | e
    · exact .inl (by rw [e]; simp)
    · exact .inr e)
  intro xs
  induction xs with
  | nil => intro a L h y m; exact h y (m.resolve_right (by simp))
  | cons z zs ih =>
    intro a L h y m
    rw [List.foldl_cons]
    refine ih _ (z :: L) ?_ y ?_
    · intro w mw
      by_cases c : dataLt a z = true
      · rw [if_pos c]
        rcases List.mem_cons.mp mw with e | e
        · rw [e]; exact pyLe_total.refl z
        · exact pyLe_total.trans _ _ _ (h w e) (pyLe_lt c)
      · rw [if_neg c]
        rcases List.mem_cons.mp mw with e | e
        · rw [e]; exact pyLe_of (by simpa using c)
        · exact h w e
    · rcases m with m | m
      · exact .inl (List.mem_cons_of_mem _ m)
      · rcases List.mem_cons.mp m with e | e
        · exact .inl (by rw [e]; simp)
        · exact .inr e
theorem each_get {β : Type} {R : Value → β → Prop} : ∀ {vs : List Value} {l : List β} {i : Nat} {v : Value}, EachIs R vs l → vs[i]? = some v → ∃ b, l[i]? = some b ∧ R v b
  | _, _, _, _, .nil, h => by simp at h
  | _, _, 0, _, .cons h1 _, h => by cases (show some _ = some _ from h); exact ⟨_, rfl, h1⟩
  | _, _, i + 1, _, .cons _ t, h => each_get (i := i) t (by simpa using h)
theorem min_pick {pins : List (Addr × Obj)} {σ : L2.St} {H : Hp} {s : Shared} (I : Inv X pins σ H s) {β : Type} {l : List β} {f : β → D} {its : List Value} (e : EachIs (fun u b => ∃ v, RelV v u ∧ DV X.K H (f b) v) its l) (hal : AllAlike (l.map fun b => py (f b))) {i : Nat} {v : Value} {h' : Heap} {m : PyData} {bs : List Addr}
    (hv : its[i]? = some v) (hr : Reads h' v m bs) (kp : ∀ b o, s.heap.get? b = some o → h'.get? b = some o) (hm : m ∈ l.map fun b => py (f b)) : ∃ b w, b ∈ l ∧ RelV w v ∧ DV X.K H (f b) w ∧ py (f b) = m := by
  obtain ⟨b, hb, w, rw', dw⟩ := each_get e hv
  have mb := List.mem_of_getElem? hb
  obtain ⟨as, r1⟩ := Dp.reads I _ _ _ dw.dp rw'
  have r2 : Reads h' v (py (f b)) as := PyProof.Rows.Reads.keeps kp r1
  exact ⟨b, w, mb, rw', dw, alike_unique _ _ _ _ _ (hal _ (List.mem_map_of_mem mb) _ hm) r2 hr⟩
theorem cr_minDD (hu : X.A.units + 65 < cLine) (hc : X.calm = true) : CallR X (.builtin "min") (rMinDD X.K false) := by
  intro pins s σ H vs us Q I r h
  obtain ⟨a, xs, β, l, f, rfl, hs, hd, hal, hnn, hdp, hne, q⟩ := h
  obtain ⟨its, rv, hl, hz⟩ := I.list hs
  obtain ⟨u, rfl, ru⟩ := vals1 r
  obtain rfl : u = Value.ref a := ru
  have e := dvs_each hd rv
  obtain ⟨b0, l', rfl⟩ : ∃ b0 l', l = b0 :: l' := by
    cases l with
    | nil => exact absurd rfl hne
    | cons b r => exact ⟨b, r, rfl⟩
  obtain ⟨as, hra⟩ := Dp.readsAll I _ _ _ hd.dpa rv
  have ep : pys ((b0 :: l').map f) = py (f b0) :: l'.map (fun b => py (f b)) := by rw [pys_map, List.map_map]; rfl
  rw [ep] at hra
  have hal' : AllAlike (py (f b0) :: l'.map (fun b => py (f b))) := hal
  refine min_list_data (I.ok.hd hc) hl.isList (vs := its.toArray) (by simpa using hra) ⟨fun x mx y my => hal' x mx y my, fun x mx => ?_⟩ ?_ fun i v h' tk bs hv hr kp => ?_
  · obtain ⟨b, hb, rfl⟩ := List.mem_map.mp (show x ∈ (b0 :: l').map (fun b => py (f b)) from mx)
    intro e0
    refine hnn b hb ?_
    cases hf : f b with
    | non => rfl
    | _ => rw [hf] at e0; simp [py] at e0
  · have := depth_all hdp
    rw [List.map_cons] at this
    omega
  · obtain ⟨b, w, mb, rw', dw, em⟩ := min_pick I e hal (by simpa using hv) hr kp (minD_mem _ _)
    refine ⟨w, H, I.kept kp, rw', q b w mb (fun y my => ?_) dw⟩
    have := minD_le (l'.map fun b => py (f b)) (py (f b0)) (py (f y)) (List.mem_map_of_mem (f := fun b => py (f b)) my)
    rw [← em] at this
    exact lt_of_pyLe this
theorem cr_maxDD (hu : X.A.units + 65 < cLine) (hc : X.calm = true) : CallR X (.builtin "max") (rMinDD X.K true) := by
  intro pins s σ H vs us Q I r h
  obtain ⟨a, xs, β, l, f, rfl, hs, hd, hal, hnn, hdp, hne, q⟩ := h
  obtain ⟨its, rv, hl, hz⟩ := I.list hs
  obtain ⟨u, rfl, ru⟩ := vals1 r
  obtain rfl : u = Value.ref a := ru
  have e := dvs_each hd rv
  obtain ⟨b0, l', rfl⟩ : ∃ b0 l', l = b0 :: l' := by
    cases l with
    | nil => exact absurd rfl hne
    | cons b r => exact ⟨b, r, rfl⟩
  obtain ⟨as, hra⟩ := Dp.readsAll I _ _ _ hd.dpa rv
  have ep : pys ((b0 :: l').map f) = py (f b0) :: l'.map (fun b => py (f b)) := by rw [pys_map, List.map_map]; rfl
  rw [ep] at hra
  have hal' : AllAlike (py (f b0) :: l'.map (fun b => py (f b))) := hal
  refine max_list_data (I.ok.hd hc) hl.isList (vs := its.toArray) (by simpa using hra) ⟨fun x mx y my => hal' x mx y my, fun x mx => ?_⟩ ?_ fun i v h' tk bs hv hr kp => ?_
  · obtain ⟨b, hb, rfl⟩ := List.mem_map.mp (show x ∈ (b0 :: l').map (fun b => py (f b)) from mx)
    intro e0
    refine hnn b hb ?_
    cases hf : f b with
    | non => rfl
    | _ => rw [hf] at e0; simp [py] at e0
  · have := depth_all hdp
    rw [List.map_cons] at this
    omega
  · obtain ⟨b, w, mb, rw', dw, em⟩ := min_pick I e hal (by simpa using hv) hr kp (maxD_mem _ _)
    refine ⟨w, H, I.kept kp, rw', q b w mb (fun y my => ?_) dw⟩
    have := maxD_le (l'.map fun b => py (f b)) (py (f b0)) (py (f y)) (List.mem_map_of_mem (f := fun b => py (f b)) my)
    rw [← em] at this
    exact lt_of_pyLe this
/-- what a sorted list of data is -/
theorem dle_total {β : Type} (f : β → D) : TotalLe (dle f) := sortLe_total (listOrd itemOrd) false fun b => keyToks (py (f b))
theorem sort_perm {β : Type} (f : β → D) (l : List β) : (l.mergeSort (dle f)).Perm l := List.mergeSort_perm l _
theorem sort_pw {β : Type} (f : β → D) (l : List β) : (l.mergeSort (dle f)).Pairwise fun a b => dle f a b = true := sort_pairwise (dle_total f) l
theorem dle_str {β : Type} {f : β → Str} {a b : β} : dle (fun b => D.str (f b)) a b = !decide (tl (f b) < tl (f a)) := by
  show (!dataLt (py (.str (f b))) (py (.str (f a)))) = _
  rw [py, py, dataLt_str]
/-- the same, the written part named -/
theorem op_eqDDQ {K : Frag} (h : X.K = K) (hu : X.A.units + 65 < cLine) : OpR X (compareOp .Eq) (rEqDD K) := by subst h; exact op_eqDD (by omega)
theorem op_neDDQ {K : Frag} (h : X.K = K) (hu : X.A.units + 65 < cLine) : OpR X (compareOp .NotEq) (rNeDD K) := by subst h; exact op_neDD (by omega)
theorem op_inDDQ {K : Frag} (h : X.K = K) (hu : X.A.units + 65 < cLine) : OpR X (compareOp .In) (rInDD K false) := by subst h; exact op_inDD hu
theorem op_notInDDQ {K : Frag} (h : X.K = K) (hu : X.A.units + 65 < cLine) : OpR X (compareOp .NotIn) (rInDD K true) := by subst h; exact op_notInDD hu
theorem cr_sortDDQ {K : Frag} (h : X.K = K) (hu : X.A.units + 65 < cLine) : CallR X (.builtin "sorted") (rSortDD K) := by subst h; exact cr_sortDD hu
theorem cr_minDDQ {K : Frag} (h : X.K = K) (hu : X.A.units + 65 < cLine) (hc : X.calm = true) : CallR X (.builtin "min") (rMinDD K false) := by subst h; exact cr_minDD hu hc
theorem cr_maxDDQ {K : Frag} (h : X.K = K) (hu : X.A.units + 65 < cLine) (hc : X.calm = true) : CallR X (.builtin "max") (rMinDD K true) := by subst h; exact cr_maxDD hu hc
theorem aa_of {β : Type} {f : β → D} {l : List β} (h : ∀ b c, alike (py (f b)) (py (f c)) = true) : AllAlike (l.map fun b => py (f b)) := AllAlike.of h
theorem aa_str {β : Type} {f : β → Str} {l : List β} : AllAlike (l.map fun b => py (.str (f b))) := aa_of fun _ _ => by simp [py, alike]
theorem aa_int {β : Type} {f : β → Int} {l : List β} : AllAlike (l.map fun b => py (.int (f b))) := aa_of fun _ _ => by simp [py, alike]
theorem so_str {β : Type} {f : β → Str} {l : List β} : Sortable (l.map fun b => py (.str (f b))) := Sortable.others fun b => ⟨by simp [py], fun _ => by simp [py]⟩
theorem so_tup {β : Type} {f : β → D} {l : List β} (h : ∀ b, ∃ x r, f b = .tup (x :: r)) : Sortable (l.map fun b => py (f b)) := Sortable.tuples fun b => by
  obtain ⟨x, r, e⟩ := h b
  exact ⟨py x, pys r, by rw [e, py, pys]⟩
theorem lt_of_dl {x y : Str} (h : (if false = true then dataLt (py (.str y)) (py (.str x)) else dataLt (py (.str x)) (py (.str y))) = false) : ¬ tl x < tl y := by
  simp only [Bool.false_eq_true, if_false, py] at h
  rw [dataLt_str] at h
  exact of_decide_eq_false h
theorem room65 {k : Nat} {A : Around} (r : Room k A) : A.units + 65 < cLine := by have := r.un; omega
end
end Z
namespace Z
open PySem PySem.W PySem.Calls PyProof.Rows L2
/-! ### sorted of whatever can be collected, dicts among them -/
section
variable {prog : Program} {w : World} {A : Around} {E : Value → Shared → Prop} {s : Shared}
theorem each_ix {β : Type} {R : Value → β → Prop} : ∀ {vs : List Value} {bs : List β}, EachIs R vs bs → EachIs (fun v b => ∃ j : Nat, vs[j]? = some v ∧ bs[j]? = some b) vs bs
  | _, _, .nil => .nil
  | _, _, .cons h t => .cons ⟨0, rfl, rfl⟩ ((each_ix t).mono fun v b ⟨j, h1, h2⟩ => ⟨j + 1, h1, h2⟩)
theorem sorted_by {x : Value} {β : Type} {enc : β → PyData} {bs : List β} {C : Heap → List Value → Prop} {Q : Value → Shared → Prop}
    (hcol : ∀ {R' : List Value → Shared → Prop}, (∀ (h' : Heap) (tk : Nat) (vs : List Value), (∀ b o, s.heap.get? b = some o → h'.get? b = some o) → C h' vs → R' vs { s with heap := h', toks := tk }) → wpAny (model prog w) A.in1 (collect x) R' E s)
    (hC : ∀ h' vs, C h' vs → EachIs (fun v b => ∃ as, Reads h' v (enc b) as) vs bs)
    (hal : AllAlike (bs.map enc)) (hk : Sortable (bs.map enc)) (hL : bs.length ≤ sizeLine) (hu : ∀ b ∈ bs, A.units + 2 + (enc b).depth < cLine)
    (h : ∀ (h1 h' : Heap) (tk : Nat) (a : Addr) (vs out : List Value) (n : Nat), C h1 vs → (∀ b o, s.heap.get? b = some o → h1.get? b = some o) → (∀ b o, h1.get? b = some o → h'.get? b = some o) → h1.objs.size = a → h'.get? a = some (seqObj "list" out.toArray n) → out.length = bs.length →
      EachIs (fun v b => ∃ j : Nat, vs[j]? = some v ∧ bs[j]? = some b) out (bs.mergeSort (dataLe false enc)) → Q (.ref a) { s with heap := h', toks := tk }) :
    wpAny (model prog w) A (call (.builtin "sorted") [x]) Q E s := by
  refine call_function_entry kind_sorted plain_sorted entry_sorted (args_sorted1 _) ?_
  unfold Builtin.«sorted»
  refine wpAny_bind (m := checkCount "sorted" 1 1 _) (wpAny_pure ?_)
  refine wpAny_bind (hcol fun h1 tk vs kp hc => ?_)
  have er := hC h1 vs hc
  have el := er.length
  refine wpAny_bind (wpAny_newList ?_ (by omega))
  have ho : (h1.push { cls := .type "list", data := .seq vs.toArray }).get? h1.objs.size = some (seqObj "list" vs.toArray 0) := Heap.get?_push_size _ rfl
  have old : ∀ b o, h1.get? b = some o → (h1.push { cls := .type "list", data := .seq vs.toArray }).get? b = some o := fun b o e => Heap.get?_push_of_some _ e
  refine wpAny_bind (wpAny_holding (wpAny_mono (PySem.W.list_sort_data (A := A.in1) (enc := enc) (s := { s with heap := h1.push { cls := .type "list", data := .seq vs.toArray }, toks := tk }) ho (each_ix er) ?_ hal hk hL (fun b m => hu b m) fun out lo eo => ?_) (fun _ s' x => x) fun _ _ e => e))
  · refine er.mono fun v b ⟨as, r⟩ => ?_
    exact ⟨as, PyProof.Rows.Reads.keeps old r, fun m => by
      obtain ⟨o, ho⟩ := PyProof.On.reads_mem_get r _ m
      exact absurd (Heap.lt_size ho) (Nat.lt_irrefl _)⟩
  · obtain ⟨n, hn⟩ := sortedHeap_at (h := h1.push { cls := .type "list", data := .seq vs.toArray }) (out := List.toArray out) ho
    refine wpAny_pure ⟨_, rfl, h h1 _ _ _ vs out n hc kp (fun b o e => ?_) rfl hn lo eo⟩
    have lt := Heap.lt_size e
    rw [sortedHeap_old (Nat.ne_of_lt lt) (by rw [size_push']; exact Nat.lt_succ_of_lt lt)]
    exact old b o e
end
/-! ### keys, values and items of dicts, sorted -/
def kD : Key → D
  | .inl i => .int i
  | .inr x => .str x
theorem kD_dv {K : Frag} {H : Hp} : ∀ k : Key, DV K H (kD k) (kV k)
  | .inl i => by unfold kD; unfold DV; rfl
  | .inr x => by unfold kD; unfold DV; rfl
theorem kD_dvs {K : Frag} {H : Hp} : ∀ l : List Key, DVs K H (l.map kD) (l.map kV)
  | [] => by unfold List.map DVs; rfl
  | k :: l => ⟨_, _, rfl, kD_dv k, kD_dvs l⟩
theorem dvs_kD {K : Frag} {H : Hp} : ∀ {l : List Key} {ys : List V}, DVs K H (l.map kD) ys → ys = l.map kV
  | [], _, h => by unfold List.map DVs at h; exact h
  | .inl i :: l, _, h => by
    obtain ⟨v, r, rfl, q, t⟩ := h
    unfold kD DV at q
    rw [q, dvs_kD t]; rfl
  | .inr i :: l, _, h => by
    obtain ⟨v, r, rfl, q, t⟩ := h
    unfold kD DV at q
    rw [q, dvs_kD t]; rfl
theorem so_key {l : List Key} : Sortable (l.map fun k => py (kD k)) := Sortable.others fun k => by
  cases k with
  | inl i => exact ⟨by simp [kD, py], fun _ => by simp [kD, py]⟩
  | inr x => exact ⟨by simp [kD, py], fun _ => by simp [kD, py]⟩
theorem each_of_ix {β : Type} {R : Value → β → Prop} : ∀ {vs : List Value} {bs : List β}, vs.length = bs.length → (∀ (i : Nat) (v : Value) (b : β), vs[i]? = some v → bs[i]? = some b → R v b) → EachIs R vs bs
  | [], [], _, _ => .nil
  | [], _ :: _, h, _ => by simp at h
  | _ :: _, [], h, _ => by simp at h
  | v :: vs, b :: bs, h, k => .cons (k 0 v b rfl rfl) (each_of_ix (by simpa using h) fun i v' b' h1 h2 => k (i + 1) v' b' h1 h2)
theorem vals_of_each {β : Type} {R : Value → β → Prop} {f : β → V} : ∀ {out : List Value} {l : List β}, EachIs R out l → (∀ v b, R v b → RelV (f b) v) → Vals (l.map f) out
  | _, _, .nil, _ => .nil
  | _, _, .cons h t, k => .cons (k _ _ h) (vals_of_each t k)
theorem pair_get {α β : Type} {F : α → β → Prop} : ∀ {l₁ : List α} {l₂ : List β} {j : Nat} {x : α}, Paired F l₁ l₂ → l₁[j]? = some x → ∃ y, l₂[j]? = some y ∧ F x y
  | _, _, _, _, .nil, h => by simp at h
  | _, _, 0, _, .cons a _, h => by cases (show some _ = some _ from h); exact ⟨_, rfl, a⟩
  | _, _, j + 1, _, .cons _ t, h => pair_get (j := j) t (by simpa using h)
theorem kV_rel {P : Program} {w : World} {k : Key} {u : Value} (h : (mixKind P w).is k u = true) : RelV (kV k) u := by
  rcases keyIs_shape h with ⟨i, t, e1, e2⟩ | ⟨x, t, e1, e2⟩
  · subst e1; subst e2; exact ⟨t, rfl⟩
  · subst e1; subst e2; exact ⟨t, rfl⟩
theorem Dp.reads0 {h : Heap} (k : Key) {u : Value} (r : RelV (kV k) u) : ∃ as, Reads h u (py (kD k)) as := by
  cases k with
  | inl i => obtain ⟨t, e⟩ := (show ∃ t, u = Value.int i t from r); subst e; exact ⟨_, by unfold kD py; exact Reads.int i t⟩
  | inr x => obtain ⟨t, e⟩ := (show ∃ t, u = Value.str x t from r); subst e; exact ⟨_, by unfold kD py; exact Reads.str x t⟩
theorem no_get {h h' : Heap} (k : ∀ b o, h.get? b = some o → h'.get? b = some o) : h.get? h'.objs.size = none := by
  cases e : h.get? h'.objs.size with
  | none => rfl
  | some o => exact absurd (Heap.lt_size (k _ _ e)) (Nat.lt_irrefl _)
section
variable {X : Cx}
/-- what stands in the entries -/
theorem kv_raw {H : Hp} {h : Heap} {a : Addr} {kvs : List (Key × V)} (ok : HOk X.prog X.w H h) (e : H a = some (.dK kvs)) : kvs.length ≤ sizeLine ∧ (a == sysModules) = false ∧ ∃ es ep, h.DictRaw a es ep ∧ es.size = kvs.length ∧
    ∀ i (hi : i < es.size) k v, kvs[i]? = some (k, v) → RelV (kV k) es[i].key ∧ RelV v es[i].val := by
  obtain ⟨z, hd, vs, rel, dd⟩ := dk_of ok e
  obtain ⟨es, ep, hr, hs, he⟩ := dd.raw
  have hl : kvs.length = vs.length := Paired.length rel
  refine ⟨z, hd, es, ep, hr, by omega, fun i hi k v hk => ?_⟩
  obtain ⟨⟨k', u⟩, hp, h1, h2⟩ := pair_get rel hk
  have h1' : k = k' := h1
  subst h1'
  obtain ⟨q1, q2⟩ := he i hi k u hp
  exact ⟨kV_rel q1, by rw [q2]; exact h2⟩
def rSortKeys : List V → Hp → VK → Prop := fun vs H Q => ∃ (a : Addr) (kvs : List (Key × V)), vs = [.ref a] ∧ H a = some (.dK kvs) ∧ AllAlike ((kvs.map (·.1)).map fun k => py (kD k)) ∧
  ∀ p, H p = none → Q (.ref p) (upd H p (.lst (((kvs.map (·.1)).mergeSort (dle kD)).map kV)))
theorem cr_sortKeys (hu : X.A.units + 65 < cLine) (hc : X.calm = true) : CallR X (.builtin "sorted") rSortKeys := by
  intro pins s σ H vs us Q I r h
  obtain ⟨a, kvs, rfl, ha, hal, q⟩ := h
  obtain ⟨u, rfl, ru⟩ := vals1 r
  obtain rfl : u = Value.ref a := ru
  obtain ⟨z, lo, es, ep, hr, hs, he⟩ := kv_raw I.hok ha
  have hh : X.A.handled = none := I.ok.hd hc
  refine sorted_by (enc := fun k => py (kD k)) (bs := kvs.map (·.1)) (C := fun h' vs => (∀ b o, s.heap.get? b = some o → h'.get? b = some o) ∧ EachIs (fun u k => RelV (kV k) u) vs (kvs.map (·.1)))
    (fun {R'} k => kdu_collect (KdlSrc.rawDict (prog := X.prog) (w := X.w) lo) hh hr (by omega) fun h' tk acc kp hI => k h' tk acc.toList kp ⟨kp, each_of_ix (by rw [Array.length_toList, hI.1, List.length_map, hs]) fun i v k hv hk => ?_⟩)
    (fun h' vs c => c.2.mono fun u k ru => Dp.reads0 k ru) hal so_key (by rw [List.length_map]; exact z) (fun k _ => by
      have : (py (kD k)).depth = 0 := by cases k <;> simp [kD, py, PyData.depth]
      rw [this]; exact hu_big hu (by decide)) fun h1 h' tk b vs out n c kp1 kp2 eb hb lo' eo => ?_
  · rw [Array.getElem?_toList] at hv
    obtain ⟨hi, rfl⟩ := hI.2 i v hv
    rw [List.getElem?_map] at hk
    cases hk' : kvs[i]? with
    | none => rw [hk'] at hk; cases hk
    | some p =>
      rw [hk'] at hk
      obtain rfl := Option.some.inj hk
      exact (he i hi p.1 p.2 hk').1
  · have ng : s.heap.get? b = none := by rw [← eb]; exact no_get kp1
    have fr : H b = none := I.hok.gone ng
    have vo : Vals (((kvs.map (·.1)).mergeSort (dle kD)).map kV) out := vals_of_each eo fun v k ⟨j, h1, h2⟩ => by
      obtain ⟨k', hk', rk⟩ := each_get c.2 h1
      rw [h2] at hk'
      obtain rfl := Option.some.inj hk'
      exact rk
    refine ⟨.ref b, upd H b (.lst _), I.laidN (t' := tk) (fun b o g => kp2 b o (kp1 b o g)) ng fr ⟨?_, out, n, vo, hb⟩, rfl, q b fr⟩
    rw [vals_len vo, lo', List.length_map]; exact z
/-- the view d.values() at p -/
def valuesO (p d : Addr) : HO := .ext fun h => h.IsValuesView p d
theorem valuesO_ok {P : Program} {w : World} {H : Hp} {h : Heap} {p d : Addr} (e : h.get? p = some { cls := .type "dict_values", data := .fields #[.ref d] }) : ObjOk P w H h p (valuesO p d) :=
  ⟨⟨_, e, rfl, rfl⟩, ⟨_, e⟩, fun h1 h2 x k => let ⟨o, ho, r⟩ := x; ⟨o, k o ho, r⟩⟩
def rValuesK : V → List V → Hp → VK → Prop := fun x xs H Q => ∃ (a : Addr) (kvs : List (Key × V)), x = .ref a ∧ xs = [] ∧ H a = some (.dK kvs) ∧ ∀ p, H p = none → Q (.ref p) (upd H p (valuesO p a))
def rItemsK : V → List V → Hp → VK → Prop := fun x xs H Q => ∃ (a : Addr) (kvs : List (Key × V)), x = .ref a ∧ xs = [] ∧ H a = some (.dK kvs) ∧ ∀ p, H p = none → Q (.ref p) (upd H p (L2.DX.itemsO p a))
theorem mt_itemsK : MtR X "dict.items" rItemsK := by
  intro pins s σ H x xs v us Q I rx rxs h
  obtain ⟨a, kvs, rfl, rfl, ha, q⟩ := h
  cases rx
  cases rxs
  obtain ⟨z, hd, es, ep, hr, hs, he⟩ := kv_raw I.hok ha
  refine DT.callItems (es := es) (ep := ep) hd hr ?_
  have hf : H s.heap.objs.size = none := I.hok.fresh (Nat.le_refl _)
  exact ⟨.ref s.heap.objs.size, upd H s.heap.objs.size (L2.DX.itemsO s.heap.objs.size a), I.laid (t' := s.toks) (fun b u e => Heap.get?_push_of_some _ e) (Nat.le_refl _) (L2.DX.itemsO_ok (Heap.get?_push_size _ rfl)), rfl, q _ hf⟩
/-- sorted of such a view -/
def rSortVals (K : Frag) : List V → Hp → VK → Prop := fun vs H Q => ∃ (p a : Addr) (kvs : List (Key × V)) (β : Type) (l : List β) (f : β → D), vs = [.ref p] ∧ H p = some (valuesO p a) ∧ H a = some (.dK kvs) ∧ DVs K H (l.map f) (kvs.map (·.2)) ∧ AllAlike (l.map fun b => py (f b)) ∧ PySem.W.Sortable (l.map fun b => py (f b)) ∧ (∀ b ∈ l, (py (f b)).depth ≤ 60) ∧
  ∀ (ys : List V) (r : Addr), H r = none → DVs K H ((l.mergeSort (dle f)).map f) ys → Q (.ref r) (upd H r (.lst ys))
theorem cr_sortVals (hu : X.A.units + 65 < cLine) (hc : X.calm = true) : CallR X (.builtin "sorted") (rSortVals X.K) := by
  intro pins s σ H vs us Q I r h
  obtain ⟨p, a, kvs, β, l, f, rfl, hp, ha, hd, hal, hsb, hdp, q⟩ := h
  obtain ⟨u, rfl, ru⟩ := vals1 r
  obtain rfl : u = Value.ref p := ru
  have view : s.heap.IsValuesView p a := (show ObjOk X.prog X.w H s.heap p (valuesO p a) from I.hok p _ hp).1
  obtain ⟨z, lo, es, ep, hr, hs, he⟩ := kv_raw I.hok ha
  have hh : X.A.handled = none := I.ok.hd hc
  have ll : l.length = kvs.length := by have := hd.len; rw [List.length_map, List.length_map] at this; omega
  have dv : ∀ (i : Nat) (b : β) (k : Key) (v : V), l[i]? = some b → kvs[i]? = some (k, v) → DV X.K H (f b) v := fun i b k v hb hk => by
    obtain ⟨v', hv', d⟩ := hd.get (i := i) (d := f b) (by rw [List.getElem?_map, hb]; rfl)
    rw [List.getElem?_map, hk] at hv'
    obtain rfl := Option.some.inj hv'
    exact d
  refine sorted_by (enc := fun b => py (f b)) (bs := l) (C := fun h' vs => (∀ b o, s.heap.get? b = some o → h'.get? b = some o) ∧ EachIs (fun u b => ∃ v, RelV v u ∧ DV X.K H (f b) v) vs l)
    (fun {R'} k => kdu_collect (KdlSrc.rawValues (prog := X.prog) (w := X.w)) hh ⟨view, hr⟩ (by omega) fun h' tk acc kp hI => k h' tk acc.toList kp ⟨kp, each_of_ix (by rw [Array.length_toList, hI.1, ll, hs]) fun i v b hv hb => ?_⟩)
    (fun h' vs c => c.2.mono fun u b ⟨v, rv, d⟩ => by
      obtain ⟨as, rr⟩ := Dp.reads I _ _ _ d.dp rv
      exact ⟨as, PyProof.Rows.Reads.keeps c.1 rr⟩) hal hsb (by omega) (fun b m => hu_big hu (hdp b m)) fun h1 h' tk b vs out n c kp1 kp2 eb hb lo' eo => ?_
  · rw [Array.getElem?_toList] at hv
    obtain ⟨hi, rfl⟩ := hI.2 i v hv
    obtain ⟨⟨k, v⟩, hk⟩ : ∃ p, kvs[i]? = some p := ⟨_, List.getElem?_eq_getElem (by omega)⟩
    exact ⟨v, (he i hi k v hk).2, dv i b k v hb hk⟩
  · have ng : s.heap.get? b = none := by rw [← eb]; exact no_get kp1
    have fr : H b = none := I.hok.gone ng
    have eo2 : EachIs (fun u b => ∃ v, RelV v u ∧ DV X.K H (f b) v) out (l.mergeSort (dle f)) := eo.mono fun v k ⟨j, h1, h2⟩ => by
      obtain ⟨k', hk', rk⟩ := each_get c.2 h1
      rw [h2] at hk'
      obtain rfl := Option.some.inj hk'
      exact rk
    obtain ⟨ys, dy, ry⟩ := each_dvs eo2
    refine ⟨.ref b, upd H b (.lst ys), I.laidN (t' := tk) (fun b o g => kp2 b o (kp1 b o g)) ng fr ⟨?_, out, n, ry, hb⟩, rfl, q ys b fr dy⟩
    rw [vals_len ry, lo', ll]; exact z
/-- d.update(e) -/
def rUpdK : V → List V → Hp → VK → Prop := fun x xs H Q => ∃ (a b : Addr) (kvs more : List (Key × V)), x = .ref a ∧ xs = [.ref b] ∧ a ≠ b ∧ H a = some (.dK kvs) ∧ H b = some (.dK more) ∧ kvs.length + more.length ≤ sizeLine ∧ Q .non (upd H a (.dK (mergeK kvs more)))
theorem mt_updK : MtR X "dict.update" rUpdK := by
  intro pins s σ H x xs v us Q I rx rxs h
  obtain ⟨a, b, kvs, more, rfl, rfl, ab, ha, hb, hz, q⟩ := h
  cases rx
  obtain ⟨u, rfl, ru⟩ := rxs.one
  cases ru
  obtain ⟨z, hd, vs, rel, dd⟩ := dk_of I.hok ha
  obtain ⟨z', hd', vs', rel', dd'⟩ := dk_of I.hok hb
  refine call_meetsIn PySem.F.slot_dict_update dd.typeIs PySem.F.entry_dict_update (PySem.F.args_dict_update_2 _ _) (meets_dict_update (mixKind X.prog X.w) a b ab hd')
    ⟨vs, vs', dd, dd', by rw [← rel.length, ← rel'.length]; exact hz, fun h' d1 d2 hs => ⟨.non, _, ?_, rfl, q⟩⟩
  have he : ∃ q, h'.get? a = some q := let ⟨q, _, _, hq, _⟩ := d1; ⟨q, hq⟩
  exact d_write I (by rw [ha]; exact True.intro) hs he (dk_new (Nat.le_trans (length_mergeK _ _) hz) hd (KV.merge rel' rel) d1)
theorem mt_valuesK : MtR X "dict.values" rValuesK := by
  intro pins s σ H x xs v us Q I rx rxs h
  obtain ⟨a, kvs, rfl, rfl, ha, q⟩ := h
  cases rx
  cases rxs
  obtain ⟨z, hd, es, ep, hr, hs, he⟩ := kv_raw I.hok ha
  have hf : H s.heap.objs.size = none := I.hok.fresh (Nat.le_refl _)
  refine call_meetsIn PySem.F.slot_dict_values hr.typeIs PySem.F.entry_dict_values (PySem.F.args_dict_values_1 _) (meets_dict_values_raw (prog := X.prog) (w := X.w) a hd) ⟨⟨es, ep, hr⟩, ?_⟩
  exact ⟨.ref s.heap.objs.size, upd H s.heap.objs.size (valuesO s.heap.objs.size a), I.laid (t' := s.toks) (fun b u e => Heap.get?_push_of_some _ e) (Nat.le_refl _) (valuesO_ok (Heap.get?_push_size _ rfl)), rfl, q _ hf⟩
end
section
variable {prog : Program} {w : World} {A : Around} {E : Value → Shared → Prop} {s : Shared}
theorem bestX (bt : Nat → Nat → Bool) : (bt 1 0 = false ∧ argBest bt 1 = 0) ∨ (bt 1 0 = true ∧ argBest bt 1 = 1) := by
  by_cases h : bt 1 (argBest bt 0) = true
  · exact .inr ⟨h, if_pos h⟩
  · exact .inl ⟨Bool.eq_false_iff.mpr h, if_neg h⟩
/-- the larger one -/
theorem max_strX {x y : Str} {t u : Tok} {Q : Value → Shared → Prop} (calm : A.handled = none)
    (h : ∀ (hp : Heap) (tk : Nat), (∀ b o, s.heap.get? b = some o → hp.get? b = some o) → Q (if decide (tl x < tl y) = true then .str y u else .str x t) { s with heap := hp, toks := tk }) : wpAny (model prog w) A (call (.builtin "max") [.str x t, .str y u]) Q E s := by
  have tp : (s.heap.push { cls := .type "tuple", data := .seq #[.str x t, .str y u] }).IsTuple s.heap.objs.size #[.str x t, .str y u] := ⟨_, Heap.get?_push_size _ rfl, rfl, 0, rfl⟩
  have z1 : (s.heap.push { cls := .type "tuple", data := .seq #[.str x t, .str y u] }).objs.size = s.heap.objs.size + 1 := Heap.size_push ..
  refine call_max_two (wpAny_pyIter_tuple tp ?_)
  refine ⟨_, [_, s.heap.objs.size], [_], _, _, _, fun i j => decide ((if j = 0 then x else y).cps.toList < (if i = 0 then x else y).cps.toList), rfl, Walks.tuple (A := A.in1) calm _ s.heap.objs.size (by rw [z1]; exact Nat.ne_of_lt (Nat.lt_succ_self _)) #[.str x t, .str y u], ⟨⟨_, Heap.get?_push_size _ rfl, rfl, rfl⟩, tp.push _⟩, fun b hb => ?_, by simp, fun i j vi vj s1 Q1 E1 gi gj q => ?_, fun v hp tk hv kp => ?_⟩
  · show b < ((s.heap.push _).push _).objs.size
    rw [Heap.size_push]
    simp only [List.mem_cons, List.not_mem_nil, or_false] at hb
    rcases hb with e | e <;> subst e
    · exact Nat.lt_succ_self _
    · rw [z1]; exact Nat.lt_succ_of_lt (Nat.lt_succ_self _)
  · have pick : ∀ {k : Nat} {v : Value}, (#[Value.str x t, Value.str y u])[k]? = some v → ∃ tt, v = .str (if k = 0 then x else y) tt := fun {k v} g => by
      match k, g with
      | 0, g => exact ⟨t, (Option.some.inj g).symm⟩
      | 1, g => exact ⟨u, (Option.some.inj g).symm⟩
      | k + 2, g => simp at g
    obtain ⟨ti, rfl⟩ := pick gi
    obtain ⟨tj, rfl⟩ := pick gj
    exact PySem.P.gt_str q
  · have old : ∀ b o, s.heap.get? b = some o → hp.get? b = some o := fun b o g => by
      refine kp b o (fun m => ?_) (Heap.get?_push_of_some _ (Heap.get?_push_of_some _ g))
      have lt := Heap.lt_size g
      rw [List.mem_singleton.mp m, z1] at lt
      exact absurd lt (Nat.not_lt_of_lt (Nat.lt_succ_self _))
    have hv' : (#[Value.str x t, Value.str y u])[argBest (fun i j => decide ((if j = 0 then x else y).cps.toList < (if i = 0 then x else y).cps.toList)) 1]? = some v := hv
    rcases bestX (fun i j => decide ((if j = 0 then x else y).cps.toList < (if i = 0 then x else y).cps.toList)) with ⟨e0, e⟩ | ⟨e0, e⟩
    · rw [e] at hv'
      have ev : Value.str x t = v := Option.some.inj hv'
      have := h hp tk old
      have e1 : (decide (tl x < tl y)) = false := e0
      rw [e1] at this
      rw [← ev]; exact this
    · rw [e] at hv'
      have ev : Value.str y u = v := Option.some.inj hv'
      have := h hp tk old
      have e1 : (decide (tl x < tl y)) = true := e0
      rw [e1] at this
      rw [← ev]; exact this
theorem min_strX {x y : Str} {t u : Tok} {Q : Value → Shared → Prop} (calm : A.handled = none)
    (h : ∀ (hp : Heap) (tk : Nat), (∀ b o, s.heap.get? b = some o → hp.get? b = some o) → Q (if decide (tl y < tl x) = true then .str y u else .str x t) { s with heap := hp, toks := tk }) : wpAny (model prog w) A (call (.builtin "min") [.str x t, .str y u]) Q E s := by
  have tp : (s.heap.push { cls := .type "tuple", data := .seq #[.str x t, .str y u] }).IsTuple s.heap.objs.size #[.str x t, .str y u] := ⟨_, Heap.get?_push_size _ rfl, rfl, 0, rfl⟩
  have z1 : (s.heap.push { cls := .type "tuple", data := .seq #[.str x t, .str y u] }).objs.size = s.heap.objs.size + 1 := Heap.size_push ..
  refine call_min_two (wpAny_pyIter_tuple tp ?_)
  refine ⟨_, [_, s.heap.objs.size], [_], _, _, _, fun i j => decide ((if i = 0 then x else y).cps.toList < (if j = 0 then x else y).cps.toList), rfl, Walks.tuple (A := A.in1) calm _ s.heap.objs.size (by rw [z1]; exact Nat.ne_of_lt (Nat.lt_succ_self _)) #[.str x t, .str y u], ⟨⟨_, Heap.get?_push_size _ rfl, rfl, rfl⟩, tp.push _⟩, fun b hb => ?_, by simp, fun i j vi vj s1 Q1 E1 gi gj q => ?_, fun v hp tk hv kp => ?_⟩
  · show b < ((s.heap.push _).push _).objs.size
    rw [Heap.size_push]
    simp only [List.mem_cons, List.not_mem_nil, or_false] at hb
    rcases hb with e | e <;> subst e
    · exact Nat.lt_succ_self _
    · rw [z1]; exact Nat.lt_succ_of_lt (Nat.lt_succ_self _)
  · have pick : ∀ {k : Nat} {v : Value}, (#[Value.str x t, Value.str y u])[k]? = some v → ∃ tt, v = .str (if k = 0 then x else y) tt := fun {k v} g => by
      match k, g with
      | 0, g => exact ⟨t, (Option.some.inj g).symm⟩
      | 1, g => exact ⟨u, (Option.some.inj g).symm⟩
      | k + 2, g => simp at g
    obtain ⟨ti, rfl⟩ := pick gi
    obtain ⟨tj, rfl⟩ := pick gj
    exact PySem.P.lt_str q
  · have old : ∀ b o, s.heap.get? b = some o → hp.get? b = some o := fun b o g => by
      refine kp b o (fun m => ?_) (Heap.get?_push_of_some _ (Heap.get?_push_of_some _ g))
      have lt := Heap.lt_size g
      rw [List.mem_singleton.mp m, z1] at lt
      exact absurd lt (Nat.not_lt_of_lt (Nat.lt_succ_self _))
    have hv' : (#[Value.str x t, Value.str y u])[argBest (fun i j => decide ((if i = 0 then x else y).cps.toList < (if j = 0 then x else y).cps.toList)) 1]? = some v := hv
    rcases bestX (fun i j => decide ((if i = 0 then x else y).cps.toList < (if j = 0 then x else y).cps.toList)) with ⟨e0, e⟩ | ⟨e0, e⟩
    · rw [e] at hv'
      have ev : Value.str x t = v := Option.some.inj hv'
      have := h hp tk old
      have e1 : (decide (tl y < tl x)) = false := e0
      rw [e1] at this
      rw [← ev]; exact this
    · rw [e] at hv'
      have ev : Value.str y u = v := Option.some.inj hv'
      have := h hp tk old
      have e1 : (decide (tl y < tl x)) = true := e0
      rw [e1] at this
      rw [← ev]; exact this
end
section
variable {X : Cx}
def minP (x y : Str) : Str := if decide (tl y < tl x) = true then y else x
def maxP (x y : Str) : Str := if decide (tl x < tl y) = true then y else x
theorem call_maxX (hc : X.calm = true) : CallR X (.builtin "max") (fun xs H Q => ∃ x y : Str, xs = [.str x, .str y] ∧ Q (.str (maxP x y)) H) := by
  intro pins s σ H xs us Q I r h
  obtain ⟨x, y, rfl, q⟩ := h
  obtain ⟨u, w', rfl, ⟨t, rfl⟩, ⟨t', rfl⟩⟩ := vals2 r
  refine max_strX (I.ok.hd hc) fun hp tk old => ?_
  refine ⟨.str (maxP x y), H, I.kept old, ?_, q⟩
  unfold maxP
  split
  · exact ⟨t', rfl⟩
  · exact ⟨t, rfl⟩
theorem call_minX (hc : X.calm = true) : CallR X (.builtin "min") (fun xs H Q => ∃ x y : Str, xs = [.str x, .str y] ∧ Q (.str (minP x y)) H) := by
  intro pins s σ H xs us Q I r h
  obtain ⟨x, y, rfl, q⟩ := h
  obtain ⟨u, w', rfl, ⟨t, rfl⟩, ⟨t', rfl⟩⟩ := vals2 r
  refine min_strX (I.ok.hd hc) fun hp tk old => ?_
  refine ⟨.str (minP x y), H, I.kept old, ?_, q⟩
  unfold minP
  split
  · exact ⟨t', rfl⟩
  · exact ⟨t, rfl⟩
end
end Z
namespace Z
open PySem PySem.W PySem.Calls PyProof.Rows L2
/-! ### values of a dict with tuple keys -/
section
variable {X : Cx}
/-- what stands in the entries of a dict with tuple keys -/
theorem kt_raw {H : Hp} {h : Heap} {a : Addr} {kvs : List (List Key × V)} (ok : HOk X.prog X.w H h) (e : H a = some (.dT kvs)) : kvs.length ≤ sizeLine ∧ (a == sysModules) = false ∧ ∃ es ep, h.DictRaw a es ep ∧ es.size = kvs.length ∧
    ∀ i (hi : i < es.size) k v, kvs[i]? = some (k, v) → (∃ b, es[i].key = .ref b ∧ H b = some (.tup (k.map kV))) ∧ RelV v es[i].val := by
  obtain ⟨z, hd, xs, rel, o, es, ep, ho, hx, hdat, hes, his, hn⟩ := dt_of ok e
  have hs : es.size = kvs.length := by rw [size_of_entries hes, Paired.length rel]
  refine ⟨z, hd, es, ep, ⟨o, ho, hx, hdat⟩, hs, fun i hi k v hk => ?_⟩
  obtain ⟨x, hp, h1, h2, h3⟩ := pair_get rel hk
  have he := entry_at hes i
  rw [hp, Array.getElem?_eq_getElem hi] at he
  have he' : es[i] = entryOfKey (tupleKind (mixKind X.prog X.w)) x := Option.some.inj he
  rw [he']
  exact ⟨⟨x.2.1, rfl, h2⟩, h3⟩
def rValuesT : V → List V → Hp → VK → Prop := fun x xs H Q => ∃ (a : Addr) (kvs : List (List Key × V)), x = .ref a ∧ xs = [] ∧ H a = some (.dT kvs) ∧ ∀ p, H p = none → Q (.ref p) (upd H p (valuesO p a))
theorem mt_valuesT : MtR X "dict.values" rValuesT := by
  intro pins s σ H x xs v us Q I rx rxs h
  obtain ⟨a, kvs, rfl, rfl, ha, q⟩ := h
  cases rx
  cases rxs
  obtain ⟨z, hd, es, ep, hr, hs, he⟩ := kt_raw I.hok ha
  have hf : H s.heap.objs.size = none := I.hok.fresh (Nat.le_refl _)
  refine call_meetsIn PySem.F.slot_dict_values hr.typeIs PySem.F.entry_dict_values (PySem.F.args_dict_values_1 _) (meets_dict_values_raw (prog := X.prog) (w := X.w) a hd) ⟨⟨es, ep, hr⟩, ?_⟩
  exact ⟨.ref s.heap.objs.size, upd H s.heap.objs.size (valuesO s.heap.objs.size a), I.laid (t' := s.toks) (fun b u e => Heap.get?_push_of_some _ e) (Nat.le_refl _) (valuesO_ok (Heap.get?_push_size _ rfl)), rfl, q _ hf⟩
/-- list of such a view -/
def rListValsT : List V → Hp → VK → Prop := fun xs H Q => ∃ (p a : Addr) (kvs : List (List Key × V)), xs = [.ref p] ∧ H p = some (valuesO p a) ∧ H a = some (.dT kvs) ∧ ∀ r, H r = none → Q (.ref r) (upd H r (.lst (kvs.map (·.2))))
theorem cr_listValsT (hc : X.calm = true) : CallR X (.type "list") rListValsT := by
  intro pins s σ H xs us Q I r h
  obtain ⟨p, a, kvs, rfl, hp, ha, q⟩ := h
  obtain ⟨u, rfl, ru⟩ := vals1 r
  obtain rfl : u = Value.ref p := ru
  have view : s.heap.IsValuesView p a := (show ObjOk X.prog X.w H s.heap p (valuesO p a) from I.hok p _ hp).1
  obtain ⟨z, lo, es, ep, hr, hs, he⟩ := kt_raw I.hok ha
  have hh : X.A.handled = none := I.ok.hd hc
  refine kdl_call (KdlSrc.rawValues (prog := X.prog) (w := X.w)) hh ⟨view, hr⟩ (by omega) fun h' tk acc c kp hg hI => ?_
  have fr : H s.heap.objs.size = none := I.hok.fresh (Nat.le_refl _)
  have vo : Vals (kvs.map (·.2)) acc.toList := by
    refine vals_of_each (R := fun v (kv : List Key × V) => RelV kv.2 v) (f := fun kv => kv.2) (each_of_ix (by rw [Array.length_toList, hI.1, hs]) fun i v b hv hb => ?_) fun v b h => h
    rw [Array.getElem?_toList] at hv
    obtain ⟨hi, rfl⟩ := hI.2 i v hv
    exact (he i hi b.1 b.2 hb).2
  refine ⟨.ref s.heap.objs.size, upd H s.heap.objs.size (.lst (kvs.map (·.2))), I.laid (t' := tk) kp (Nat.le_refl _) ⟨?_, acc.toList, c, vo, by rw [Array.toArray_toList]; exact hg⟩, rfl, q _ fr⟩
  rw [List.length_map]; exact z
/-! ### sorted of a dict with tuple keys -/
def ktD (k : List Key) : D := .tup (k.map kD)
theorem ktD_dv {K : Frag} {H : Hp} {a : Addr} {k : List Key} (h : H a = some (.tup (k.map kV))) : DV K H (ktD k) (.ref a) := ⟨a, _, rfl, SqT.of h, kD_dvs k⟩
/-- tuples of these keys, one by one -/
def KsAt (H : Hp) : List (List Key) → List V → Prop
  | [], us => us = []
  | k :: r, us => ∃ a t, us = .ref a :: t ∧ H a = some (.tup (k.map kV)) ∧ KsAt H r t
theorem each_ks {H : Hp} {β : Type} {g : β → List Key} : ∀ {l : List β} {vs : List Value}, EachIs (fun u b => ∃ a, u = Value.ref a ∧ H a = some (.tup ((g b).map kV))) vs l → ∃ us, KsAt H (l.map g) us ∧ Vals us vs
  | [], _, h => by cases h; exact ⟨[], rfl, .nil⟩
  | b :: l, _, h => by
    cases h with
    | cons h1 h2 =>
      obtain ⟨a, e1, e2⟩ := h1
      obtain ⟨us, d, r2⟩ := each_ks h2
      subst e1
      exact ⟨V.ref a :: us, ⟨a, us, rfl, e2, d⟩, .cons rfl r2⟩
def rSortKeysT : List V → Hp → VK → Prop := fun vs H Q => ∃ (a : Addr) (kvs : List (List Key × V)) (β : Type) (l : List β) (g : β → List Key), vs = [.ref a] ∧ H a = some (.dT kvs) ∧ kvs.map (·.1) = l.map g ∧ AllAlike (l.map fun b => py (ktD (g b))) ∧ PySem.W.Sortable (l.map fun b => py (ktD (g b))) ∧ (∀ b ∈ l, (py (ktD (g b))).depth ≤ 60) ∧
  ∀ (ys : List V) (r : Addr), H r = none → KsAt H ((l.mergeSort (dle fun b => ktD (g b))).map g) ys → Q (.ref r) (upd H r (.lst ys))
theorem cr_sortKeysT (hu : X.A.units + 65 < cLine) (hc : X.calm = true) : CallR X (.builtin "sorted") rSortKeysT := by
  intro pins s σ H vs us Q I r h
  obtain ⟨a, kvs, β, l, g, rfl, ha, hkl, hal, hsb, hdp, q⟩ := h
  obtain ⟨u, rfl, ru⟩ := vals1 r
  obtain rfl : u = Value.ref a := ru
  obtain ⟨z, lo, es, ep, hr, hs, he⟩ := kt_raw I.hok ha
  have hh : X.A.handled = none := I.ok.hd hc
  have ll : l.length = kvs.length := by have := congrArg List.length hkl; rw [List.length_map, List.length_map] at this; omega
  refine sorted_by (enc := fun b => py (ktD (g b))) (bs := l) (C := fun h' vs => (∀ b o, s.heap.get? b = some o → h'.get? b = some o) ∧ EachIs (fun u b => ∃ c, u = Value.ref c ∧ H c = some (.tup ((g b).map kV))) vs l)
    (fun {R'} k => kdu_collect (KdlSrc.rawDict (prog := X.prog) (w := X.w) lo) hh hr (by omega) fun h' tk acc kp hI => k h' tk acc.toList kp ⟨kp, each_of_ix (by rw [Array.length_toList, hI.1, ll, hs]) fun i v b hv hb => ?_⟩)
    (fun h' vs c => c.2.mono fun u b ⟨c', e1, e2⟩ => by
      subst e1
      obtain ⟨as, rr⟩ := Dp.reads I _ _ _ (ktD_dv (K := X.K) e2).dp (show RelV (.ref c') (Value.ref c') from rfl)
      exact ⟨as, PyProof.Rows.Reads.keeps c.1 rr⟩) hal hsb (by omega) (fun b m => hu_big hu (hdp b m)) fun h1 h' tk b vs out n c kp1 kp2 eb hb lo' eo => ?_
  · rw [Array.getElem?_toList] at hv
    obtain ⟨hi, rfl⟩ := hI.2 i v hv
    obtain ⟨⟨k, w⟩, hk⟩ : ∃ p, kvs[i]? = some p := ⟨_, List.getElem?_eq_getElem (by omega)⟩
    have ek : k = g b := by
      have h1 : (kvs.map (·.1))[i]? = some k := by rw [List.getElem?_map, hk]; rfl
      rw [hkl, List.getElem?_map, hb] at h1
      exact (Option.some.inj h1).symm
    obtain ⟨c, c1, c2⟩ := (he i hi k w hk).1
    exact ⟨c, c1, by rw [← ek]; exact c2⟩
  · have ng : s.heap.get? b = none := by rw [← eb]; exact no_get kp1
    have fr : H b = none := I.hok.gone ng
    have eo2 : EachIs (fun u b => ∃ c, u = Value.ref c ∧ H c = some (.tup ((g b).map kV))) out (l.mergeSort (dle fun b => ktD (g b))) := eo.mono fun v k ⟨j, h1, h2⟩ => by
      obtain ⟨k', hk', rk⟩ := each_get c.2 h1
      rw [h2] at hk'
      obtain rfl := Option.some.inj hk'
      exact rk
    obtain ⟨ys, dy, ry⟩ := each_ks eo2
    refine ⟨.ref b, upd H b (.lst ys), I.laidN (t' := tk) (fun b o g => kp2 b o (kp1 b o g)) ng fr ⟨?_, out, n, ry, hb⟩, rfl, q ys b fr dy⟩
    rw [vals_len ry, lo', ll]; exact z
/-- list.count of data -/
def rCountD (K : Frag) : V → List V → Hp → VK → Prop := fun x xs H Q => ∃ (a : Addr) (y : V) (us : List V) (d : D) (ds : List D), x = .ref a ∧ xs = [y] ∧ SqL K H a us ∧ DVs K H ds us ∧ DV K H d y ∧ Okd d ∧ Okl ds ∧ Q (.int (ds.countP fun z => eqD z d : Nat)) H
theorem mt_countDD (hu : X.A.units + 65 < cLine) : MtR X "list.count" (rCountD X.K) := by
  intro pins s σ H x xs v us Q I rx rxs h
  obtain ⟨a, y, ws, d, ds, rfl, rfl, hs, hds, hd, sd, sl, q⟩ := h
  cases rx
  obtain ⟨u, rfl, ru⟩ := rxs.one
  obtain ⟨bs, r1⟩ := Dp.reads I _ y u hd.dp ru
  have hxs : PyData.canLayAll0 (pys ds) = true := SeqAt.canLay_of_shaped sl
  have hroom : X.A.units + 1 + min (PyData.depthAll (pys ds)) (py d).depth < cLine := room_in_shaped sd hu
  obtain ⟨its, rv, ⟨⟨cls, dd, data, sls⟩, n, ho, hc, hdn, hdt⟩, hlen⟩ := I.list hs
  simp only at hc hdt
  subst hc hdt
  obtain ⟨as, h4⟩ := Dp.readsAll I (pys ds) _ its hds.dpa rv
  have hmap : its.map (SeqAt.readOf s.heap) = pys ds := SeqAt.readsAll_map (pys ds) its as hxs h4
  refine call_meets PySem.F.slot_list_count ⟨_, ho, rfl⟩ PySem.F.entry_list_count (PySem.F.args_list_count_2 _ _)
    (SeqAt.list_countAt a its.toArray n dd sls u (fun z => PyData.eqv (SeqAt.readOf s.heap z) (py d))) ⟨ho, SeqAt.items_eqAt (vs := its.toArray) (show ReadsAll s.heap its.toArray.toList (pys ds) as from h4) r1 hxs (SeqAt.canLay_of_shaped sd) hroom, ?_⟩
  have ec : its.toArray.toList.countP (fun z => PyData.eqv (SeqAt.readOf s.heap z) (py d)) = ds.countP fun z => eqD z d := by
    have e1 : (its.map (SeqAt.readOf s.heap)).countP (fun z => PyData.eqv z (py d)) = ds.countP fun z => eqD z d := by
      rw [hmap, pys_map, List.countP_map]; rfl
    rw [← e1, List.countP_map]; rfl
  refine ⟨.int (ds.countP fun z => eqD z d : Nat), H, I.tok _, ⟨s.toks, ?_⟩, q⟩
  show Value.int _ s.toks = Value.int _ s.toks
  rw [ec]
end
/-- a field, read in a comprehension -/
theorem pe_fldQ {X : Cx} {K : Frag} {e : Expr} {f : Str} {pos : Pos} {ta : TE} (h : X.K = K) (he : PE X e ta) (hb : attributeBase e f X.env (eval e X.env) = eval e X.env) : PE X (.Attribute e f pos) (tFld K ta f) := by subst h; exact pe_fld he hb
end Z
namespace Z
open PySem PySem.W PySem.Calls PyProof.Rows L2
/-! ### < of data -/
section
variable {X : Cx}
def rLtDD (K : Frag) : R2 := fun x y H Q => ∃ d e, DV K H d x ∧ DV K H e y ∧ alike (py d) (py e) = true ∧ py d ≠ .none ∧ (py d).depth ≤ 60 ∧ Q (.bl (dataLt (py d) (py e))) H
theorem op_ltDD (hu : X.A.units + 65 < cLine) : OpR X (compareOp .Lt) (rLtDD X.K) := by
  intro pins s σ H x y v u Q I rx ry h
  obtain ⟨d, e, hd, he, ha, hn, hp, q⟩ := h
  obtain ⟨as, r1⟩ := Dp.reads I _ x v hd.dp rx
  obtain ⟨bs, r2⟩ := Dp.reads I _ y u he.dp ry
  have room : X.A.units + min (py d).depth (py e).depth < cLine := by omega
  exact rcLt_alike (py d) (py e) X.A s v u as bs r1 r2 ha hn room X.prog X.w _ _ ⟨.bl (dataLt (py d) (py e)), H, I, rfl, q⟩
theorem op_ltDDQ {K : Frag} (h : X.K = K) (hu : X.A.units + 65 < cLine) : OpR X (compareOp .Lt) (rLtDD K) := by subst h; exact op_ltDD hu
end
end Z
namespace Z
open PySem PySem.W PySem.Calls PyProof.Rows L2
/-! ### d.setdefault(k, v), keys tuples -/
section
variable {X : Cx}
def rSetdT : V → List V → Hp → VK → Prop := fun x xs H Q => ∃ (a : Addr) (kvs : List (List Key × V)) (k : List Key) (b : Addr) (d : V), x = .ref a ∧ xs = [.ref b, d] ∧ H a = some (.dT kvs) ∧ H b = some (.tup (k.map kV)) ∧ kvs.length < sizeLine ∧
  (∀ v, valV kvs k = some v → Q v H) ∧ (valV kvs k = none → Q d (upd H a (.dT (putK kvs k d))))
theorem mt_setdT (hu : X.A.units + 1 < cLine) : MtR X "dict.setdefault" rSetdT := by
  intro pins s σ H x xs v us Q I rx rxs h
  obtain ⟨a, kvs, k, b, d, rfl, rfl, ha, hb, hl, q1, q2⟩ := h
  cases rx
  obtain ⟨u1, u2, rfl, r1, r2⟩ := vals2 rxs
  cases r1
  obtain ⟨z, hd, xs', rel, dd⟩ := dt_of I.hok ha
  have hz : xs'.length ≤ sizeLine := by rw [← Paired.length rel]; exact z
  refine call_setdefault_heap (knd := tupleKind (mixKind X.prog X.w)) (k := k) (tupleKind_room_in1 hu) (key_of I.hok hb) hd dd (fun p hp => ?_) (fun hn h' dd' hs => ?_) hz
  · have r := rel.val k
    rw [hp] at r
    cases ev : valV kvs k with
    | none => rw [ev] at r; exact (show False from r).elim
    | some v0 =>
      rw [ev] at r
      exact ⟨v0, H, I.tok _, r, q1 v0 ev⟩
  · have r := rel.val k
    rw [hn] at r
    have e : valV kvs k = none := by
      cases ev : valV kvs k with
      | none => rfl
      | some v0 => rw [ev] at r; exact (show False from r).elim
    obtain ⟨o, es, ep, hq, h2, h3, h4, _, h5⟩ := dd'
    have lp : (putK kvs k d).length ≤ sizeLine := by have := length_putK kvs k d; omega
    have I2 : Inv X pins σ (upd H a (.dT (putK kvs k d))) { s with heap := h', toks := s.toks + (tupleKind (mixKind X.prog X.w)).draws k } :=
      d_write I (by rw [ha]; exact True.intro) hs ⟨o, hq⟩ ⟨lp, hd, _, (rel.put k hb r2).keeps (fun c ys ec => (by rw [upd_ne (ne_of ec ha (fun z => nomatch z))]; exact ec)), o, es, ep, hq, h2, h3, h4, h5⟩
    exact ⟨d, _, I2, r2, q2 e⟩
end
end Z
namespace Z
open PySem PySem.Spec PyProof.Rows L2
theorem units_lt {X : Cx} (h : X.A.units + 65 < cLine) : X.A.units < cLine := by omega
/-! ### a dict comprehension whatever its keys are: numbers, texts, or tuples of these -/
section
variable {X : Cx}
/-- what goes under a key (DPut tells all three kinds) -/
theorem put_in {pins : List (Addr × Obj)} {σ : L2.St} {H H' : Hp} {s : Shared} {E : Value → Shared → Prop} {d : Addr} {y v : V} {ky vv : Value} {P : Unit → Shared → Prop} (hu : X.A.units < cLine) (I : Inv X pins σ H s) (g : DPut H d y v H') (hy : RelV y ky) (hv : RelV v vv)
    (fin : ∀ t, Inv X pins σ H' t → P () t) : wpAny (model X.prog X.w) X.A (dictSet d ky vv) P E s := by
  cases g with
  | inl g =>
    obtain ⟨l, k, hd, e1, hl, e2⟩ := g
    rw [e2] at fin
    exact d_dictSet I hd hl (by rw [← e1]; exact hy) hv fin
  | inr g =>
    obtain ⟨l, k, b, hd, e1, hb, hl, e2⟩ := g
    rw [e1] at hy
    cases hy
    rw [e2] at fin
    have hpair := dt_of I.hok hd
    obtain ⟨small, notsys, cells, kt, dof⟩ := hpair
    have lc : cells.length = l.length := (Paired.length kt).symm
    have lput := length_putK l k v
    refine wpAny_dictSet_heap (hsz := by omega) hu (key_of I.hok hb) dof fun hp put same => fin _ ?_
    obtain ⟨ob, es, ep, g1, g2, g3, g4, g5, g6⟩ := put
    have stay : ∀ (c : Addr) (ys : List V), H c = some (.tup ys) → upd H d (.dT (putK l k v)) c = some (.tup ys) := fun c ys ec => (upd_ne (ne_of ec hd fun z => nomatch z)).trans ec
    exact d_write I (by rw [hd]; exact True.intro) same ⟨ob, g1⟩ ⟨by omega, notsys, _, (kt.put k hb hv).keeps stay, ob, es, ep, g1, g2, g3, g4, g6⟩
/-- a turn of such a walk, with P behind it -/
def DcTurn (g : TG) (tt : TT) (tk tv : TE) (vs : List Nat) (σ : L2.St) (D : Addr) (P : Hp → Prop) (x : V) (H1 : Hp) : Prop :=
  g x (wipe σ vs) H1 fun τ H2 => wipe τ vs = wipe σ vs ∧ tt τ H2 fun yes H3 => if yes = true then tk τ H3 fun y H4 => tv τ H4 fun z H5 => ∃ H6, DPut H5 D y z H6 ∧ P H6 else P H3
def DcStep (J : It) (g : TG) (tt : TT) (tk tv : TE) (vs : List Nat) (σ : L2.St) (D : Addr) (W : Nat → Nat → Hp → Prop) (i m : Nat) (H : Hp) : Prop :=
  J.go i H ∧ ∃ P : Hp → Prop, (∀ H', P H' → ∃ k, k < m ∧ W (i + 1) k H') ∧ ∀ x H1, J.yld i H x H1 → DcTurn g tt tk tv vs σ D P x H1
def DcWalk (J : It) (g : TG) (tt : TT) (tk tv : TE) (vs : List Nat) (σ : L2.St) (D : Addr) (H0 : Hp) (Qd : Hp → Prop) : Prop :=
  ∃ W : Nat → Nat → Hp → Prop, (∃ m, W 0 m H0) ∧ ∀ i m H, W i m H → (J.stop i H ∧ Qd H) ∨ DcStep J g tt tk tv vs σ D W i m H
/-- keys that are tuples -/
def tDcT (wi : TI) (g : TG) (tt : TT) (tk tv : TE) (vs : List Nat) : TE := fun σ H Q => wi σ H fun J H1 => ∀ D, H1 D = none → DcWalk J g tt tk tv vs σ D (upd H1 D (.dT [])) fun H2 => Q (.ref D) H2
/-- the parts of the block -/
structure DcParts (X : Cx) (scope : Scope) (tg : Expr) (ifs : List Expr) (kx vx : Expr) (g : TG) (tt : TT) (tk tv : TE) : Prop where
  aim : ∀ (s : Shared) (H : Hp) (C : Addr) (cl : List (Str × Addr)) (fp : List Addr), PG (X.blk s H scope (compEnvC scope cl C X.env) fp) tg g
  ask : ∀ (s : Shared) (H : Hp) (C : Addr) (cl : List (Str × Addr)) (fp : List Addr), PTs (X.blk s H scope (compEnvC scope cl C X.env) fp) ifs tt
  key : ∀ (s : Shared) (H : Hp) (C : Addr) (cl : List (Str × Addr)) (fp : List Addr), PE (X.blk s H scope (compEnvC scope cl C X.env) fp) kx tk
  val : ∀ (s : Shared) (H : Hp) (C : Addr) (cl : List (Str × Addr)) (fp : List Addr), PE (X.blk s H scope (compEnvC scope cl C X.env) fp) vx tv
/-- ahead of a turn, inside the block -/
def DcAt (Y : Cx) (τ : L2.St) (fp : List Addr) (tn : Nat → Heap → Prop) (W : Nat → Nat → Hp → Prop) (m : Nat) (t : Shared) : Prop :=
  ∃ i G, W i m G ∧ (∀ b ∈ fp, G b = none) ∧ tn i t.heap ∧ Inv Y [] τ G t
/-- a turn's end, with the iterator's objects let go -/
theorem dc_again {Y : Cx} {τ τ2 : L2.St} {vs : List Nat} {fp : List Addr} {tn : Nat → Heap → Prop} {W : Nat → Nat → Hp → Prop} {i m' n : Nat} {G : Hp} {t t2 : Shared} {it : Addr} {J : It} {tg : Expr} (T : Turn Y.prog Y.w Y.K tg J fp it tn) (hw : wipe τ2 vs = wipe τ vs) (at1 : tn (i + 1) t.heap)
    (I : Inv Y ([] ++ pinsAt fp t.heap) τ2 G t2) (lt : m' < n) (w : W (i + 1) m' G) : ∃ m, m < n ∧ DcAt Y (wipe τ vs) fp tn W m t2 := by
  have stays : ∀ b ∈ fp, ∀ o, t.heap.get? b = some o → t2.heap.get? b = some o ∧ G b = none := fun b hb o e => by
    have z := I.pin (b, o) (List.mem_append_right _ (List.mem_append_right _ (mem_pinsAt hb e)))
    exact ⟨z.1, z.2.1⟩
  refine ⟨m', lt, i + 1, G, w, ?_, ?_, ?_⟩
  · intro b hb
    obtain ⟨o, ho, _⟩ := T.obj _ _ at1 b hb
    exact (stays b hb o ho).2
  · exact T.keep _ _ _ at1 fun b hb o e => (stays b hb o e).1
  · have I' : Inv Y [] τ2 G t2 := I.unpinned
    refine I'.weak ?_ fun j v e => ?_
    · have l1 := wipe_length τ2 vs
      rw [hw] at l1
      exact l1
    · exact (wipe_some (vs := vs) (by rw [hw]; exact e)).1
/-- the comprehension, whatever is done with what it makes -/
theorem dcT_run {pins : List (Addr × Obj)} {s : Shared} {σ : L2.St} {H : Hp} {Q : VK} {Qf : Value → Shared → Prop} {use : Option (Value → Sem Unit)} {kx vx tg iter : Expr} {ifs : List Expr} {scope : Scope} {own : List (Str × Nat)} {pos pos' : Pos} {wi : TI} {g : TG} {tt : TT} {tk tv : TE} (hu : X.A.units < cLine) (hc : X.calm = true) (hN : X.N.Nodup)
    (hi : PI X tg iter wi) (ok : BlkOk X.N X.env.scope scope own) (P : DcParts X scope tg ifs kx vx g tt tk tv) (hs : ∀ x, foldedSetIterable iter X.env x = pure x) (I : Inv X pins σ H s) (h : tDcT wi g tt tk tv (own.map (·.2)) σ H Q)
    (leave : ∀ D C t m G, Inv X pins σ G t → Q (.ref D) G → t.heap.Ns C m → FpOk X pins G C → compPost (model X.prog X.w) X.A X.xe use Qf (.ref D) C (.ok .next) t) :
    wpAny (model X.prog X.w) X.A (comprehension (.DictComp kx vx [⟨tg, iter, ifs, 0⟩] scope pos) scope X.env pos' newDict false (eval iter X.env) use) Qf X.xe s := by
  have clo := closure_ok (scope := scope) (env := X.env) fun y hy e => (ok.free y hy e).elim (fun k => I.ok.has _ (.inl k)) fun k => I.ok.has _ (.inr k)
  refine wpAny_comprehension_free (use := use) rfl hs clo ok.kind (fun y hy e => (ok.uniq y hy).trans (by rw [e])) ?_
  refine thn (hi.run pins s σ H _ I h) fun src s1 hx => thn hx fun ito s2 got => ?_
  obtain ⟨it, fp, tn, J, H2, rfl, I2, T, at2, fpo, walk⟩ := got
  refine wpAny_newObj_type (newEnv_comp ?_)
  have hDn : H2 s2.heap.objs.size = none := I2.hok.fresh (Nat.le_refl _)
  obtain ⟨W, ⟨m0, w0⟩, steps⟩ := walk _ hDn
  -- the dict is there, still empty
  have I3 : Inv X pins σ (upd H2 s2.heap.objs.size (.dT [])) { s2 with heap := s2.heap.push { cls := .type "dict", data := .dict #[] } } := I2.laid (t' := s2.toks) (fun b o e => Heap.get?_push_of_some _ e) (Nat.le_refl _) (dt_empty s2.heap I2.big)
  have young : ∀ b ∈ fp, b < s2.heap.objs.size := fun b hb => (T.obj _ _ at2 b hb).elim fun o ho => Heap.lt_size ho.1
  have fpo3 : ∀ b ∈ fp, FpOk X pins (upd H2 s2.heap.objs.size (.dT [])) b := fun b hb => ⟨(upd_ne (Nat.ne_of_lt (young b hb))).trans (fpo b hb).1, (fpo b hb).2⟩
  have at3 : tn 0 (s2.heap.push { cls := .type "dict", data := .dict #[] }) := T.keep _ _ _ at2 fun b _ o e => Heap.get?_push_of_some _ e
  generalize hs3 : ({ s2 with heap := s2.heap.push { cls := .type "dict", data := .dict #[] } } : Shared) = s3 at I3
  have e3 : s3.heap = s2.heap.push { cls := .type "dict", data := .dict #[] } := by rw [← hs3]
  have big3 : s2.heap.objs.size < s3.heap.objs.size := by rw [e3, Heap.size_push]; exact Nat.lt_succ_self _
  generalize hDa : s2.heap.objs.size = D at *
  generalize hH3 : upd H2 D (.dT []) = H3 at *
  have I4 := block_start I3 ok hN fun b hb => ⟨fpo3 b hb, Nat.lt_trans (young b hb) big3⟩
  have nn : ∀ b ∈ fp, H3 b = none := fun b hb => (fpo3 b hb).1
  have at4 : tn 0 ({ s3 with heap := pushCells (s3.heap.push { cls := .type "dict", data := .dict #[] }) scope.names } : Shared).heap := T.keep _ _ _ (by rw [← e3] at at3; exact at3) fun b _ o e => pushCells_keeps _ _ _ _ (Heap.get?_push_of_some _ e)
  show codeAny _ _ (.compStart _ 0 (.ref it) (.ref D) (compEnvC scope (cellsFrom (s3.heap.objs.size + 1) scope.names (cloFrom X.env.cells scope.names [])) s3.heap.objs.size X.env)) (compPost _ _ _ use _ _ s3.heap.objs.size) { s3 with heap := pushCells (s3.heap.push { cls := .type "dict", data := .dict #[] }) scope.names }
  have aim := P.aim s3 H3 s3.heap.objs.size (cellsFrom (s3.heap.objs.size + 1) scope.names (cloFrom X.env.cells scope.names [])) fp
  have ask := P.ask s3 H3 s3.heap.objs.size (cellsFrom (s3.heap.objs.size + 1) scope.names (cloFrom X.env.cells scope.names [])) fp
  have key := P.key s3 H3 s3.heap.objs.size (cellsFrom (s3.heap.objs.size + 1) scope.names (cloFrom X.env.cells scope.names [])) fp
  have val := P.val s3 H3 s3.heap.objs.size (cellsFrom (s3.heap.objs.size + 1) scope.names (cloFrom X.env.cells scope.names [])) fp
  have hloc : (compEnvC scope (cellsFrom (s3.heap.objs.size + 1) scope.names (cloFrom X.env.cells scope.names [])) s3.heap.objs.size X.env).locals = s3.heap.objs.size := rfl
  generalize compEnvC scope (cellsFrom (s3.heap.objs.size + 1) scope.names (cloFrom X.env.cells scope.names [])) s3.heap.objs.size X.env = ce at *
  generalize ({ s3 with heap := pushCells (s3.heap.push { cls := .type "dict", data := .dict #[] }) scope.names } : Shared) = s4 at *
  have free : ∀ {τ : L2.St} {G' : Hp} {t' : Shared}, Inv (X.blk s3 H3 scope ce fp) [] τ G' t' → (∀ b ∈ fp, G' b = none) → ∀ b ∈ fp, FpOk (X.blk s3 H3 scope ce fp) [] G' b := by
    intro τ G' t' J' none' b hb
    exact ⟨none' b hb, (J'.ok.exf b hb).1, J'.ok.exfs b hb, Or.inl hb, (J'.ok.exf b hb).2, fun p hp => by simp [Cx.blk] at hp⟩
  have loop : codeAny (model X.prog X.w) X.A (.compLoop (.DictComp kx vx [⟨tg, iter, ifs, 0⟩] scope pos) 0 (.ref it) (.ref D) ce) (compPost (model X.prog X.w) X.A X.xe use Qf (.ref D) s3.heap.objs.size) s4 := by
    refine compLoop_anyD (fun n t => DcAt (X.blk s3 H3 scope ce fp) (wipe σ (own.map (·.2))) fp tn W n t) (fun n t st => ?_) m0 ⟨0, H3, w0, nn, at4, I4⟩
    obtain ⟨i, G, w, fresh, att, Ib⟩ := st
    rcases steps i n G w with ⟨stop, fin⟩ | ⟨go, P', less, turn⟩
    · refine thnF (T.done (X.blk s3 H3 scope ce fp) rfl rfl rfl hc i [] t _ G (fun _ _ => False) Ib (free Ib fresh) att stop) fun r t1 ⟨hr, I1⟩ => ?_
      subst hr
      have out : Inv X pins σ G t1 := I3.call' (ch := fp) I1.os I1.base I1.hok I1.bare fun b hb =>
        have z := (fpo3 b hb).2
        ⟨z.2.2.1, z.1, z.2.2.2.1, z.2.2.2.2⟩
      obtain ⟨m, ns, _⟩ := I1.loc
      have ns : t1.heap.Ns ce.locals m := ns
      have own0 : G ce.locals = none := I1.free
      rw [hloc] at ns own0
      exact leave D _ t1 m G out fin ns (I3.fpOk (Nat.le_refl _) own0)
    · refine thnF (T.item (X.blk s3 H3 scope ce fp) rfl rfl rfl hc i [] t _ G (fun _ _ => False) Ib (free Ib fresh) att go) fun r t1 ⟨u, hr, nxt⟩ => ?_
      subst hr
      refine thnF nxt fun _ t2 ⟨x, G2, I2', rx, yx, at2', fr2⟩ => ?_
      have Ip := I2'.pinned (free I2' fr2) (T.obj _ _ at2')
      refine thnF (aim.run _ t2 _ G2 x u _ Ip rx (turn x G2 yx)) fun _ t3 ⟨τ, G3, I3', hw, q3⟩ => ?_
      refine thnF (ask.run _ t3 τ G3 _ I3' q3) fun yes t4 ⟨G4, I4', q4⟩ => ?_
      cases yes with
      | false =>
        obtain ⟨m', lt, w'⟩ := less _ q4
        exact dc_again (Y := X.blk s3 H3 scope ce fp) T hw at2' I4' lt w'
      | true =>
        refine thnF (key.run _ t4 τ G4 _ I4' q4) fun ku t5 ⟨y, G5, I5', ry, q5⟩ => ?_
        refine thnF (val.run _ t5 τ G5 _ I5' q5) fun vu t6 ⟨z, G6, I6', rz, G7, put, pw⟩ => ?_
        obtain ⟨m', lt, w'⟩ := less _ pw
        exact put_in (X := X.blk s3 H3 scope ce fp) hu I6' put ry rz fun t7 I7' => dc_again (Y := X.blk s3 H3 scope ce fp) T hw at2' I7' lt w'
  exact codeAny_compStart_dict loop (T.self X.A 0 _ _ _ at4 loop)
theorem pe_dcT {kx vx tg iter : Expr} {ifs : List Expr} {scope : Scope} {own : List (Str × Nat)} {pos : Pos} {wi : TI} {g : TG} {tt : TT} {tk tv : TE} (hu : X.A.units < cLine) (hc : X.calm = true) (hN : X.N.Nodup) (hi : PI X tg iter wi) (ok : BlkOk X.N X.env.scope scope own)
    (P : DcParts X scope tg ifs kx vx g tt tk tv) (hs : ∀ x, foldedSetIterable iter X.env x = pure x := by intro _; rfl) : PE X (.DictComp kx vx [⟨tg, iter, ifs, 0⟩] scope pos) (tDcT wi g tt tk tv (own.map (·.2))) := by
  constructor
  intro pins s σ H Q I h
  rw [arm_eval_DictComp]
  refine dcT_run hu hc hN hi ok P hs I h fun D C t m G out fin ns room => ⟨m, ns, fun h2 sb => ?_⟩
  exact ⟨.ref D, G, out.turned (t' := t.toks) (fun b o hb e => (sb.2 b hb).trans e) room.1 room.2.1 room.2.2.2.1 room.2.2.2.2.1 room.2.2.2.2.2, rfl, fin⟩
/-- a name, on the line of the comprehension -/
theorem ps_setDcT {i : Nat} {y : Str} {py : Pos} {kx vx tg iter : Expr} {ifs : List Expr} {scope : Scope} {own : List (Str × Nat)} {pos spos : Pos} {wi : TI} {g : TG} {tt : TT} {tk tv : TE} (hu : X.A.units < cLine) (hc : X.calm = true) (hN : X.N.Nodup) (hy : X.N[i]? = some y) (hl : X.env.scope.names.lookup y = some .local)
    (sw : swapsWith (.DictComp kx vx [⟨tg, iter, ifs, 0⟩] scope pos) (some (.Name y py)) spos.line X.env = pure true) (hi : PI X tg iter wi) (ok : BlkOk X.N X.env.scope scope own) (P : DcParts X scope tg ifs kx vx g tt tk tv) (hs : ∀ x, foldedSetIterable iter X.env x = pure x := by intro _; rfl) :
    PS X (.Assign [.Name y py] (.DictComp kx vx [⟨tg, iter, ifs, 0⟩] scope pos) spos) (tAsg (tDcT wi g tt tk tv (own.map (·.2))) (gName i)) := by
  constructor
  intro pins s σ H E I h
  have h : tDcT wi g tt tk tv (own.map (·.2)) σ H fun x G => gName i x σ G E.nx := h
  rw [exec_Assign_Name_used _ _ _ _ sw]
  refine wpAny_bind (wpAny_standAt (wpAny_bind (show wpAny _ X.A (comprehension _ scope X.env (firstIterPos [⟨tg, iter, ifs, 0⟩] pos) newDict false (eval iter X.env) (some (assign (.Name y py) X.env)) >>= _) _ _ s from ?_)))
  refine wpAny_bind (thn (dcT_run (use := some (assign (.Name y py) X.env)) (Qf := fun _ t => SP X pins E .next t) hu hc hN hi ok P hs I h fun D C t m G out fin ns room => ?_) fun _ t k => wpAny_pure (wpAny_pure k))
  refine show wpAny _ X.A (assign (.Name y py) X.env (.ref D)) _ _ t from wpAny_assign_Name (store_ok2 (v := V.ref D) out hN hy (Or.inl hl) rfl (fun t2 I2 cell => ?_) (Or.inr hl))
  obtain ⟨a, sb, ha⟩ := cell
  obtain ⟨f0, f1, f2, f3, f4, f5⟩ := room
  have apart : C ≠ a := ha.elim (fun z => by rw [z]; exact f1) fun z e => f4 y a z e.symm
  exact ⟨m, ns.sameBut sb apart, fun g3 sb3 => ⟨_, G, I2.turned (t' := t2.toks) (fun b o hb e => (sb3.2 b hb).trans e) f0 f1 f3 f4 f5, fin⟩⟩
theorem sw_dict {kx vx : Expr} {gs : List Comprehension} {scope : Scope} {pos py : Pos} {y : Str} {l : Nat} {env : Env} (hk : env.scope.kind = .function) (hy : env.scope.names.lookup y = some .local) (hl : (py.line == pos.line) = true) (ha : (scope.names.any fun (n, k) => n == y && (k == .local || k == .cell)) = false) :
    swapsWith (.DictComp kx vx gs scope pos) (some (.Name y py)) l env = pure true := by
  have k1 : env.kindOf y = some .local := hy
  have k2 : env.blockKind = .function := by unfold Env.blockKind; rw [hk]; rfl
  unfold swapsWith
  simp only [k1, k2, ha, hl, Expr.pos]
  rfl
/-- such a walk over a list, or a tuple, that stays -/
theorem dc_list {K : PySem.W.Frag} {a : Addr} {xs : List V} {g : TG} {tt : TT} {tk tv : TE} {vs : List Nat} {σ : L2.St} {D : Addr} {H0 : Hp} {Qd : Hp → Prop} (Pv : Nat → Hp → Prop) (h0 : Pv 0 H0) (hl : ∀ i H, Pv i H → SqL K H a xs)
    (hs : ∀ i x H, xs[i]? = some x → Pv i H → DcTurn g tt tk tv vs σ D (Pv (i + 1)) x H) (hd : ∀ H, Pv xs.length H → Qd H) : DcWalk (Itl K a) g tt tk tv vs σ D H0 Qd := by
  refine ⟨fun k m H => k + m = xs.length ∧ Pv k H, ⟨xs.length, Nat.zero_add _, h0⟩, fun k m H ⟨e, pk⟩ => ?_⟩
  have q := hl k H pk
  rcases Nat.lt_or_ge k xs.length with lt | ge
  · have hx : xs[k]? = some xs[k] := List.getElem?_eq_getElem lt
    refine .inr ⟨⟨xs, xs[k], q, hx⟩, Pv (k + 1), fun H' p => ⟨m - 1, by omega, by omega, p⟩, fun x H1 ⟨e1, y⟩ => ?_⟩
    rw [e1]
    exact hs k x H (y xs q) pk
  · have e2 : k = xs.length := by omega
    subst e2
    exact .inl ⟨⟨xs, q, Nat.le_refl _⟩, hd H pk⟩
theorem dc_tupT {K : PySem.W.Frag} {a : Addr} {xs : List V} {g : TG} {tt : TT} {tk tv : TE} {vs : List Nat} {σ : L2.St} {D : Addr} {H0 : Hp} {Qd : Hp → Prop} (Pv : Nat → Hp → Prop) (h0 : Pv 0 H0) (hl : ∀ i H, Pv i H → SqT K H a xs)
    (hs : ∀ i x H, xs[i]? = some x → Pv i H → DcTurn g tt tk tv vs σ D (Pv (i + 1)) x H) (hd : ∀ H, Pv xs.length H → Qd H) : DcWalk (Itt K a) g tt tk tv vs σ D H0 Qd := by
  refine ⟨fun k m H => k + m = xs.length ∧ Pv k H, ⟨xs.length, Nat.zero_add _, h0⟩, fun k m H ⟨e, pk⟩ => ?_⟩
  have q := hl k H pk
  rcases Nat.lt_or_ge k xs.length with lt | ge
  · have hx : xs[k]? = some xs[k] := List.getElem?_eq_getElem lt
    refine .inr ⟨⟨xs, xs[k], q, hx⟩, Pv (k + 1), fun H' p => ⟨m - 1, by omega, by omega, p⟩, fun x H1 ⟨e1, y⟩ => ?_⟩
    rw [e1]
    exact hs k x H (y xs q) pk
  · have e2 : k = xs.length := by omega
    subst e2
    exact .inl ⟨⟨xs, q, Nat.le_refl _⟩, hd H pk⟩
end
end Z
namespace Z
open PySem PySem.W PySem.Calls PyProof.Rows L2 LamX
/-! ### lambda one: (one[i], one[j]), called -/
/-- the words of such a lambda's body -/
structure PairW where
  z : Str
  i : Int
  j : Int
  k1 : Nat
  k2 : Nat
  k3 : Nat
  p1 : Pos
  p2 : Pos
  p3 : Pos
  p4 : Pos
  p5 : Pos
  p6 : Pos
  p7 : Pos
def PairW.one (x : PairW) : Expr := .Subscript (.Name x.z x.p1) (.Constant (.int x.i) x.k1 x.p2) x.p3
def PairW.two (x : PairW) : Expr := .Subscript (.Name x.z x.p4) (.Constant (.int x.j) x.k2 x.p5) x.p6
def PairW.e (x : PairW) : Expr := .Tuple [x.one, x.two] x.k3 x.p7
section
variable {prog : Program} {w : World} {A : Around} {E : Value → Shared → Prop} {s : Shared}
theorem at_local {env : Env} {z : Str} {i : Int} {k : Nat} {p1 p2 p3 : Pos} {t : Addr} {vs : List Value} {ii : Nat} {x : Value} {m : Str → Option Value} {Q : Value → Shared → Prop} (hk : env.scope.kind = .function) (hl : env.kindOf z = some .local) (hn : s.heap.Ns env.locals m)
    (hm : m z = some (.ref t)) (hz : (z == ("__debug__" : Str)) = false) (ht : IsTup s.heap t vs.toArray) (h0 : 0 ≤ i ∧ i < 2 ^ 63) (hi : seqIndex? i vs.length = some ii) (hx : vs[ii]? = some x)
    (q : ∀ tk, Q x { s with toks := tk }) : wpAny (model prog w) A (eval (.Subscript (.Name z p1) (.Constant (.int i) k p2) p3) env) Q E s :=
  Subscript_ (wpAny_Name (wpAny_loadName_local hk hl hn hm (wpAny_Constant_int (item_tupleL (s := { s with toks := _ }) ht (by omega) h0.2 hi hx (q _)))) hz)
/-- it makes the pair, and nothing else -/
theorem lam2_call {f c' t : Addr} {q : Str} {params : Arguments} {sc : Scope} {pm ctv : Value} (b : PairW) {vs : List Value} {ii jj : Nat} {x y : Value} (hd : A.depth < recursionLimit)
    (ho : s.heap.get? f = some (kla_obj "<lambda>" q params b.e sc [] pm c' ctv)) (hcd : s.heap.CodeRec (.ref c') q) (nl : s.heap.NoLimit) (hk : sc.kind = .function) (hn : sc.names = [(b.z, .local)]) (hco : sc.isCoroutine = false) (hge : sc.isGenerator = false)
    (hbind : ∀ u, bindArgs (kla_fn "<lambda>" q params b.e sc [] pm (.ref c') ctv) ⟨[u], []⟩ = pure [(b.z, u)]) (hz : (b.z == ("__debug__" : Str)) = false)
    (ht : IsTup s.heap t vs.toArray) (h0 : 0 ≤ b.i ∧ b.i < 2 ^ 63) (h1 : 0 ≤ b.j ∧ b.j < 2 ^ 63) (hi : seqIndex? b.i vs.length = some ii) (hx : vs[ii]? = some x) (hj : seqIndex? b.j vs.length = some jj) (hy : vs[jj]? = some y) {Q : Value → Shared → Prop}
    (fin : ∀ (g : Heap) (tk : Nat) (r : Addr), (∀ b o, s.heap.get? b = some o → g.get? b = some o) → g.get? r = some { cls := .type "tuple", data := .seq #[x, y] } → Q (.ref r) { s with heap := g, toks := tk }) :
    wpAny (model prog w) A (call (.ref f) [.ref t]) Q E s := by
  refine wpAny_call (kla_callFunE hd ho rfl hco hge rfl hcd ?_)
  rw [hbind]
  have hcell : ∀ y ∈ sc.names, y.2 ≠ .cell := by rw [hn]; intro y hy; cases List.mem_singleton.mp hy; exact fun e => by cases e
  have hlk : sc.names.lookup b.z = some .local := by rw [hn]; simp
  refine wpAny_pure (wpAny_newFunctionEnv hcell (fun y hy => by cases List.mem_singleton.mp hy; exact hlk) (fun g1 hns sb => ⟨nl.fresh _ sb, ?_⟩) hk)
  have kept : ∀ b o, s.heap.get? b = some o → g1.get? b = some o := fun b o e => sb.extBut b o (Nat.ne_of_lt (Heap.lt_size e)) (Heap.get?_push_of_some _ e)
  show codeAny _ _ (.expr b.e (envX q sc s.heap.objs.size f (.ref c') [])) _ _
  have hm : (fun x => ([(b.z, Value.ref t)] : List (Str × Value)).reverse.lookup x) b.z = some (.ref t) := by simp
  have ht1 : IsTup g1 t vs.toArray := by
    obtain ⟨o, g, r⟩ := ht
    exact ⟨o, kept _ _ g, r⟩
  refine kla_codeExpr (wpAny_Tuple_spliced ?_)
  show wpAny _ _ (spliced ((false, eval b.one _) :: (false, eval b.two _) :: [])) _ _ _
  refine spliced_cons (at_local (s := { s with heap := g1, toks := _ }) hk hlk hns hm hz ht1 h0 hi hx fun k1 => ?_)
  refine spliced_cons (at_local (s := { s with heap := g1, toks := _ }) hk hlk hns hm hz ht1 h1 hj hy fun k2 => ?_)
  refine spliced_nil ⟨show 2 ≤ sizeLine by decide, ?_⟩
  exact fin _ _ _ (fun b o e => Heap.get?_push_of_some _ (kept b o e)) (Heap.get?_push_size _ rfl)
/-! ### sorted by such a key, of a list or a tuple -/
theorem collect_seq {it : Addr} {T : String} {o : Obj} {vs : List Value} {n : Nat} {Q : List Value → Shared → Prop} (hT : T = "list" ∨ T = "tuple") (ho : s.heap.get? it = some o) (hc : o.cls = .type T) (hd : o.data = .seq vs.toArray n) (hz : vs.length ≤ sizeLine)
    (fin : ∀ g : Heap, (∀ b o, s.heap.get? b = some o → g.get? b = some o) → Q vs { s with heap := g }) : wpAny (model prog w) A (collect (.ref it)) Q E s := by
  have hS : (s.heap.push (seqObj "list" #[] 0)).get? s.heap.objs.size = some (seqObj "list" #[] 0) := Heap.get?_push_size _ rfl
  have join : ∀ R : Result → Shared → Prop, R (.ok (.ret (.ref s.heap.objs.size))) { s with heap := (s.heap.push (seqObj "list" #[] 0)).update s.heap.objs.size (Obj.mapSeq (· ++ vs.toArray)) } →
      codeAny (model prog w) A (.builtin "list.__iadd__" ⟨[.ref s.heap.objs.size, .ref it], []⟩) R { s with heap := s.heap.push (seqObj "list" #[] 0) } := fun R hR => by
    refine codeAny_builtin entry_list_iadd' ?_
    rw [Around.under_plainId (by decide +kernel : plainId "list.__iadd__" = true)]
    exact wpAny_extend_seq (s := { s with heap := s.heap.push (seqObj "list" #[] 0) }) (hsz := by simpa using hz) s.heap.objs.size it (.ref s.heap.objs.size) 0 hT hS (Heap.get?_push_of_some _ ho) hc hd hR
  unfold collect
  refine wpAny_bind (wpAny_runValue (codeAny_builtin entry_proto_collect' (wpAny_bind (wpAny_newList (wpAny_pure ⟨Code.quiet_builtin _ (by decide +kernel), join _ ?_⟩) (Nat.zero_le _)))))
  refine wpAny_bind (wpAny_load (get?_update_seq hS _) ?_)
  have e : ((#[] : Array Value) ++ vs.toArray).toList = vs := by simp
  refine wpAny_pure ?_
  show Q ((#[] : Array Value) ++ vs.toArray).toList _
  rw [e]
  refine fin _ fun b o e => ?_
  rw [Heap.get?_update_ne _ _ _ _ (Nat.ne_of_lt (Heap.lt_size e))]
  exact Heap.get?_push_of_some _ e
theorem sorted_keyed {it : Addr} {T : String} {o : Obj} {vs : List Value} {n : Nat} {f : Value} {kw : List (Str × Value)} {rev : Bool} {β : Type} {bs : List β} {R : Value → β → Prop} {Q : Value → Shared → Prop} (key : β → PyData)
    (hT : T = "list" ∨ T = "tuple") (ho : s.heap.get? it = some o) (hc : o.cls = .type T) (hd : o.data = .seq vs.toArray n) (er : EachIs R vs bs) (hal : AllAlike (bs.map key)) (hk : Sortable (bs.map key)) (hz : bs.length ≤ sizeLine) (hu : ∀ x ∈ bs, A.units + 2 + (key x).depth < cLine)
    (a1 : argsOk "sorted" ⟨[.ref it], kw⟩) (a2 : ∀ x, argsOk "list.sort" ⟨[.ref x], kw⟩) (a3 : ∀ x, Builtin.«list.sort» ⟨[.ref x], kw⟩ = ksk_tree x f rev)
    (ask : ∀ (v : Value) (x : β), R v x → x ∈ bs → ∀ (g : Heap) (tk : Nat), (∀ b o, s.heap.get? b = some o → g.get? b = some o) → wpAny (model prog w) A.in1.in1 (call f [v]) (KeyPure (key x) { s with heap := g, toks := tk }) (fun _ _ => False) { s with heap := g, toks := tk })
    (fin : ∀ (out : List Value) (c : Nat) (a : Addr) (g : Heap) (tk : Nat), (∀ b o, s.heap.get? b = some o → g.get? b = some o) → s.heap.get? a = none → g.get? a = some (seqObj "list" out.toArray c) → EachIs R out (bs.mergeSort (dataLe rev key)) → Q (.ref a) { s with heap := g, toks := tk }) :
    wpAny (model prog w) A (call (.builtin "sorted") [.ref it] kw) Q E s := by
  have hvl : vs.length ≤ sizeLine := by rw [er.length]; exact hz
  refine call_function_entry_kw kind_sorted plain_sorted entry_sorted (kw := kw) (args := [.ref it]) a1 ?_
  show wpAny (model prog w) A.in1 (checkCount "sorted" 1 1 _ >>= _) _ _ _
  refine wpAny_bind (wpAny_pure (wpAny_bind (collect_seq hT ho hc hd hvl fun g1 k1 => wpAny_bind (wpAny_newList ?_ hvl))))
  have hL : (g1.push (seqObj "list" vs.toArray 0)).get? g1.objs.size = some (seqObj "list" vs.toArray 0) := Heap.get?_push_size _ rfl
  have up : ∀ b o, s.heap.get? b = some o → b ≠ g1.objs.size ∧ (g1.push (seqObj "list" vs.toArray 0)).get? b = some o := fun b o e => ⟨Nat.ne_of_lt (Heap.lt_size (k1 b o e)), Heap.get?_push_of_some _ (k1 b o e)⟩
  have na : s.heap.get? g1.objs.size = none := by
    cases e : s.heap.get? g1.objs.size with
    | none => rfl
    | some o => exact absurd rfl (up _ o e).1
  refine wpAny_bind (wpAny_holding (wpAny_call_entry_kw slot_list_sort (self := .ref g1.objs.size) (rest := []) ⟨_, hL, rfl⟩ entry_list_sort ?_ (a2 _)))
  rw [a3]
  refine keyH_tree (s := { s with heap := g1.push (seqObj "list" vs.toArray 0) }) (kz := bs.map key) hL (by rw [List.length_map]; exact er.length.symm) hvl hal hk (fun d m => ?_) (keyH_turns (s := { s with heap := g1.push (seqObj "list" vs.toArray 0) }) er fun v x hR hx g tk kb => ask v x hR hx g tk fun b o e => kb b o (up b o e).1 (up b o e).2) fun g tk out c kb hD ko => ⟨_, rfl, wpAny_pure ⟨_, rfl, ?_⟩⟩
  · obtain ⟨x, hx, e⟩ := List.mem_map.mp m
    rw [← e]
    exact hu x hx
  · exact fin out c _ g tk (fun b o e => kb b o (up b o e).1 (up b o e).2) na hD (keyedOut_each key ko er)
end
/-! ### at the level of the hand layer -/
theorem extN_seqT {K : Frag} {H H' : Hp} (e : ExtN H H') {a : Addr} {xs : List V} (q : SqT K H a xs) : SqT K H' a xs := by
  rcases q with (q | ⟨o, q⟩) | q
  · exact .inl (.inl (e _ _ q fun ps z => by cases z))
  · exact .inl (.inr ⟨o, e _ _ q fun ps z => by cases z⟩)
  · exact .inr q
theorem extN_seqL {K : Frag} {H H' : Hp} (e : ExtN H H') {a : Addr} {xs : List V} (q : SqL K H a xs) : SqL K H' a xs := by
  rcases q with (q | ⟨o, q⟩) | q
  · exact .inl (.inl (e _ _ q fun ps z => by cases z))
  · exact .inl (.inr ⟨o, e _ _ q fun ps z => by cases z⟩)
  · exact .inr q
mutual
/-- no lists stand in these data -/
theorem flat_reads {h : Heap} : ∀ (d : D) (v : Value) (as : List Addr), Reads h v (py d) as → as = []
  | .non, _, _, r => by unfold py at r; cases r; rfl
  | .bl _, _, _, r => by unfold py at r; cases r; rfl
  | .int _, _, _, r => by unfold py at r; cases r; rfl
  | .str _, _, _, r => by unfold py at r; cases r; rfl
  | .tup ds, _, _, r => by
    unfold py at r
    cases r with
    | tuple _ _ _ ra => exact flat_readsA ds _ _ ra
theorem flat_readsA {h : Heap} : ∀ (ds : List D) (vs : List Value) (as : List Addr), ReadsAll h vs (pys ds) as → as = []
  | [], _, _, r => by unfold pys at r; cases r; rfl
  | d :: ds, _, _, r => by
    unfold pys at r
    cases r with
    | cons r1 r2 =>
      rw [flat_reads d _ _ r1, flat_readsA ds _ _ r2]
      rfl
end
section
variable {X : Cx}
def pairK {β : Type} (k1 k2 : β → D) (x : β) : D := .tup [k1 x, k2 x]
/-- what such a sort asks of what it sorts -/
structure SortL (K : Frag) (H : Hp) (b : PairW) {β : Type} (l : List β) (val : β → V) (k1 k2 : β → D) : Prop where
  al : AllAlike (l.map fun x => py (pairK k1 k2 x))
  so : Sortable (l.map fun x => py (pairK k1 k2 x))
  dp : ∀ x ∈ l, (py (pairK k1 k2 x)).depth ≤ 60
  it : ∀ x ∈ l, ∃ t ws p q, val x = .ref t ∧ SqT K H t ws ∧ ws[b.i.toNat]? = some p ∧ ws[b.j.toNat]? = some q ∧ DV K H (k1 x) p ∧ DV K H (k2 x) q
def SortQ (K : Frag) (T : List (Addr × Str)) (b : PairW) (rev : Bool) (Q : VK) (vs : List V) (H1 : Hp) : Prop := ∃ (a : Addr) (β : Type) (l : List β) (val : β → V) (k1 k2 : β → D), vs = [.ref a] ∧ (SqL K H1 a (l.map val) ∨ SqT K H1 a (l.map val)) ∧ Tabs T H1 ∧ SortL K H1 b l val k1 k2 ∧
  ∀ (H2 : Hp) (r : Addr), ExtN H1 H2 → Tabs T H2 → H2 r = none → Q (.ref r) (upd H2 r (.lst ((l.mergeSort (dataLe rev fun x => py (pairK k1 k2 x))).map val)))
def tSortLam (K : Frag) (T : List (Addr × Str)) (b : PairW) (rev : Bool) (t : TA) : TE := fun σ H Q => t σ H (SortQ K T b rev Q)
theorem SortL.step {K : Frag} {H H' : Hp} {b : PairW} {β : Type} {l : List β} {val : β → V} {k1 k2 : β → D} (s : SortL K H b l val k1 k2) (e : ∀ a xs, SqT K H a xs → SqT K H' a xs) (d : ∀ d v, DV K H d v → DV K H' d v) : SortL K H' b l val k1 k2 :=
  ⟨s.al, s.so, s.dp, fun x hx => by
    obtain ⟨t, ws, p, q, h1, h2, h3, h4, h5, h6⟩ := s.it x hx
    exact ⟨t, ws, p, q, h1, e _ _ h2, h3, h4, d _ _ h5, d _ _ h6⟩⟩
mutual
theorem dv_seqs {K : Frag} {H H' : Hp} (e : ∀ a xs, SqT K H a xs → SqT K H' a xs) : ∀ (d : D) (v : V), DV K H d v → DV K H' d v
  | .non, _, h => by unfold DV at h ⊢; exact h
  | .bl _, _, h => by unfold DV at h ⊢; exact h
  | .int _, _, h => by unfold DV at h ⊢; exact h
  | .str _, _, h => by unfold DV at h ⊢; exact h
  | .tup ds, v, h => by
    obtain ⟨a, us, h1, h2, h3⟩ := h
    exact ⟨a, us, h1, e _ _ h2, dvs_seqs e ds us h3⟩
theorem dvs_seqs {K : Frag} {H H' : Hp} (e : ∀ a xs, SqT K H a xs → SqT K H' a xs) : ∀ (ds : List D) (us : List V), DVs K H ds us → DVs K H' ds us
  | [], _, h => by unfold DVs at h ⊢; exact h
  | d :: ds, _, h => by
    obtain ⟨v, r, h1, h2, h3⟩ := h
    exact ⟨v, r, h1, dv_seqs e d v h2, dvs_seqs e ds r h3⟩
end
theorem each_vals {β : Type} {f : β → V} : ∀ {l : List β} {vs : List Value}, Vals (l.map f) vs → EachIs (fun u x => RelV (f x) u) vs l
  | [], _, h => by cases h; exact .nil
  | x :: l, _, h => by
    cases h with
    | cons h1 h2 => exact .cons h1 (each_vals h2)
theorem ix_pos {n : Nat} {i : Int} (h : 0 ≤ i) (k : i.toNat < n) : seqIndex? i n = some i.toNat := by
  have e : ixN n i = some i.toNat := by
    unfold ixN
    rw [if_pos h, if_pos (by omega)]
  exact (ixN_seq e).1
/-- the sort itself, the lambda made -/
theorem sortLam_run {pins : List (Addr × Obj)} {σ : L2.St} {H : Hp} {s : Shared} {rev : Bool} {f c' a : Addr} {q : Str} {params : Arguments} {sc : Scope} {pm ctv : Value} {b : PairW} {kw : List (Str × Value)} {β : Type} {l : List β} {val : β → V} {k1 k2 : β → D} {Q : VK}
    (I : Inv X pins σ H s) (hr : Room 3 X.A) (hu : X.A.units + 65 < cLine) (hf : s.heap.get? f = some (kla_obj "<lambda>" q params b.e sc [] pm c' ctv)) (hc : H c' = some (CodeO c' q)) (hk : sc.kind = .function) (hn : sc.names = [(b.z, .local)]) (hco : sc.isCoroutine = false) (hge : sc.isGenerator = false)
    (hbind : ∀ u, bindArgs (kla_fn "<lambda>" q params b.e sc [] pm (.ref c') ctv) ⟨[u], []⟩ = pure [(b.z, u)]) (hz : (b.z == ("__debug__" : Str)) = false) (h0 : 0 ≤ b.i ∧ b.i < 2 ^ 63) (h1 : 0 ≤ b.j ∧ b.j < 2 ^ 63)
    (a1 : argsOk "sorted" ⟨[.ref a], kw⟩) (a2 : ∀ x, argsOk "list.sort" ⟨[.ref x], kw⟩) (a3 : ∀ x, Builtin.«list.sort» ⟨[.ref x], kw⟩ = ksk_tree x (.ref f) rev)
    (ha : SqL X.K H a (l.map val) ∨ SqT X.K H a (l.map val)) (S : SortL X.K H b l val k1 k2) (fin : ∀ r, H r = none → Q (.ref r) (upd H r (.lst ((l.mergeSort (dataLe rev fun x => py (pairK k1 k2 x))).map val)))) :
    wpAny (model X.prog X.w) X.A (call (.builtin "sorted") [.ref a] kw) (EP X pins σ Q) X.xe s := by
  have hcr : s.heap.CodeRec (.ref c') q := by
    obtain ⟨⟨oc, vs, t, g1, g2, g3⟩, _, _⟩ := I.hok c' _ hc
    exact ⟨c', oc, vs, t, rfl, g1, g2, g3⟩
  obtain ⟨T, o, its, n, hT, ho, hcl, hdt, rv, hsz⟩ : ∃ (T : String) (o : Obj) (its : List Value) (n : Nat), (T = "list" ∨ T = "tuple") ∧ s.heap.get? a = some o ∧ o.cls = .type T ∧ o.data = .seq its.toArray n ∧ Vals (l.map val) its ∧ its.length ≤ sizeLine := by
    rcases ha with ha | ha
    · obtain ⟨its, rv, pl, hz⟩ := I.list ha
      obtain ⟨o, g1, g2, n, g3⟩ := pl.isList
      exact ⟨"list", o, its, n, .inl rfl, g1, g2, g3, rv, by rw [← rv.length]; exact hz⟩
    · obtain ⟨its, rv, ⟨o, g1, g2, n, g3⟩, hz⟩ := I.tuple ha
      exact ⟨"tuple", o, its, n, .inr rfl, g1, g2, g3, rv, by rw [← rv.length]; exact hz⟩
  have er := each_vals rv
  have ll := er.length
  refine sorted_keyed (fun x => py (pairK k1 k2 x)) hT ho hcl hdt er S.al S.so (by omega) (fun x m => hu_big hu (S.dp x m)) a1 a2 a3 (fun v x hR hx g tk kept => ?_) fun out c r g tk kept na gets eo => ?_
  · obtain ⟨t, ws, p, p2, e1, e2, e3, e4, e5, e6⟩ := S.it x hx
    rw [e1] at hR
    cases hR
    obtain ⟨us, ru, pt, uz⟩ := I.tuple e2
    obtain ⟨x1, x2, x3⟩ := ru.get e3
    obtain ⟨y1, y2, y3⟩ := ru.get e4
    obtain ⟨as, rd1⟩ := Dp.reads I _ _ _ e5.dp x3
    obtain ⟨bs, rd2⟩ := Dp.reads I _ _ _ e6.dp y3
    obtain rfl := flat_reads _ _ _ rd1
    obtain rfl := flat_reads _ _ _ rd2
    have up : ∀ {b o}, s.heap.get? b = some o → g.get? b = some o := fun {b o} e => kept b o e
    refine lam2_call (s := { s with heap := g, toks := tk }) b hr.in1.in1.depth (up hf) ?_ (I.nolimit.keeps kept) hk hn hco hge hbind hz (t := t) (vs := us) ?_ h0 h1 (ix_pos h0.1 (List.getElem?_eq_some_iff.mp x2).1) x2 (ix_pos h1.1 (List.getElem?_eq_some_iff.mp y2).1) y2 fun g2 tk2 r2 kp2 gt2 => ⟨g2, tk2, rfl, kp2, ?_⟩
    · obtain ⟨c2, oc, vs, t2, z1, z2, z3, z4⟩ := hcr
      exact ⟨c2, oc, vs, t2, z1, up z2, z3, z4⟩
    · obtain ⟨o2, z1, z2⟩ := pt
      exact ⟨o2, up z1, z2⟩
    · have w1 := PyProof.Rows.Reads.keeps (fun b o e => kp2 b o (up e)) rd1
      have w2 := PyProof.Rows.Reads.keeps (fun b o e => kp2 b o (up e)) rd2
      show Reads g2 (.ref r2) (py (.tup [k1 x, k2 x])) []
      unfold py pys pys pys
      exact Reads.tuple (as := [] ++ ([] ++ [])) gt2 rfl rfl (.cons w1 (.cons w2 .nil))
  · have fr : H r = none := I.hok.gone na
    have ry : Vals ((l.mergeSort (dataLe rev fun x => py (pairK k1 k2 x))).map val) out := vals_of_each eo fun v x h => h
    refine ⟨.ref r, upd H r (.lst _), I.laidN (t' := tk) kept na fr ⟨?_, out, c, ry, gets⟩, rfl, fin r fr⟩
    rw [List.length_map, List.length_mergeSort, ← ll]
    exact hsz
/-- what a lambda of this form wants of its place -/
structure LamAt (X : Cx) (T : List (Addr × Str)) (params : Arguments) (b : PairW) (sc : Scope) : Prop where
  tab : ∃ c P, TabB X.base X.mg c P ∧ X.env.code = .ref c ∧ (P, X.env.qual ++ "<lambda>") ∈ T
  one : ∀ p ∈ T, ∀ p' ∈ T, p.1 = p'.1 → p.2 = p'.2
  kind : sc.kind = .function
  names : sc.names = [(b.z, .local)]
  co : sc.isCoroutine = false
  gen : sc.isGenerator = false
  de : defaultsOf params X.env = ([], [])
  bd : ∀ (q : Str) (pm c ctv u : Value), bindArgs (kla_fn "<lambda>" q params b.e sc [] pm c ctv) ⟨[u], []⟩ = pure [(b.z, u)]
  hz : (b.z == ("__debug__" : Str)) = false
  h0 : 0 ≤ b.i ∧ b.i < 2 ^ 63
  h1 : 0 ≤ b.j ∧ b.j < 2 ^ 63
theorem LamAt.clo {T : List (Addr × Str)} {params : Arguments} {b : PairW} {sc : Scope} (L : LamAt X T params b sc) : cloFrom X.env.cells sc.names [] = [] := by
  rw [L.names]; rfl
/-- sorted(xs, key=lambda ..) -/
theorem pe_sortLam {T : List (Addr × Str)} {params : Arguments} {b : PairW} {sc : Scope} {e : Expr} {t : TA} {p lp kp pos : Pos} (L : LamAt X T params b sc) (hg : Gl X "sorted") (hm : X.mg "sorted" = none) (hr : Room 3 X.A) (hu : X.A.units + 65 < cLine) (he : PA X [e] t)
    (hs : backTo pos (starEach [e] X.env) = (false, eval e X.env) :: backTo pos (starEach [] X.env) := by rfl) (hp : (backTo pos (starEach [e] X.env)).any (·.1) = false := by rfl) :
    PE X (.Call (.Name "sorted" p) [e] [⟨some "key", .Lambda params b.e sc lp, kp⟩] pos) (tSortLam X.K T b false t) := by
  refine ⟨fun pins s σ H Q I h => ?_⟩
  obtain ⟨c, P, TB, hcode, hmT⟩ := L.tab
  refine wpAny_Call_Name_kw (ld_blt I hg hm (by rfl) ?_)
  refine PyProof.Rows.callWith_kw (thn (he.run pos pins s σ H (SortQ X.K T b false Q) I h) fun us s1 ⟨vs, H1, I1, r1, q1⟩ => ?_) hs hp
  obtain ⟨a, β, l, val, k1, k2, rfl, ha, hT, S, fin⟩ := q1
  obtain ⟨u, rfl, ru⟩ := vals1 r1
  cases ru
  show wpAny _ _ (evalAll ((do let v ← eval (.Lambda params b.e sc lp) X.env; standAt pos; pure v) :: [])) _ _ s1
  refine wpAny_evalAll_cons (wpAny_bind (lam_make2 I1 TB hcode hmT (fun p hp e => L.one p hp _ hmT e) hT L.de (fun y hy e => by rw [L.names] at hy; cases List.mem_singleton.mp hy; cases e) fun f c' pm ctv H2 s2 I2 eN T2 hf _ _ hco => wpAny_bind (wpAny_standAt (wpAny_pure (wpAny_evalAll_nil ?_)))))
  rw [L.clo] at hf
  exact sortLam_run I2 hr hu hf hco L.kind L.names L.co L.gen (L.bd _ _ _ _) L.hz L.h0 L.h1 (ksk_s1 _ _) (fun x => ksk_l1 _ _) (fun x => ksk_t1 _ _) (ha.imp (extN_seqL eN) (extN_seqT eN)) (S.step (fun a xs => extN_seqT eN) (dv_seqs fun a xs => extN_seqT eN)) fun r hn => fin H2 r eN T2 hn
/-- sorted(xs, key=lambda .., reverse=True) -/
theorem pe_sortLamR {T : List (Addr × Str)} {params : Arguments} {b : PairW} {sc : Scope} {e : Expr} {t : TA} {k : Nat} {p lp kp cp rp pos : Pos} (L : LamAt X T params b sc) (hg : Gl X "sorted") (hm : X.mg "sorted" = none) (hr : Room 3 X.A) (hu : X.A.units + 65 < cLine) (he : PA X [e] t)
    (hs : backTo pos (starEach [e] X.env) = (false, eval e X.env) :: backTo pos (starEach [] X.env) := by rfl) (hp : (backTo pos (starEach [e] X.env)).any (·.1) = false := by rfl) :
    PE X (.Call (.Name "sorted" p) [e] [⟨some "key", .Lambda params b.e sc lp, kp⟩, ⟨some "reverse", .Constant (.bool true) k cp, rp⟩] pos) (tSortLam X.K T b true t) := by
  refine ⟨fun pins s σ H Q I h => ?_⟩
  obtain ⟨c, P, TB, hcode, hmT⟩ := L.tab
  refine wpAny_Call_Name_kw (ld_blt I hg hm (by rfl) ?_)
  refine PyProof.Rows.callWith_kw (thn (he.run pos pins s σ H (SortQ X.K T b true Q) I h) fun us s1 ⟨vs, H1, I1, r1, q1⟩ => ?_) hs hp
  obtain ⟨a, β, l, val, k1, k2, rfl, ha, hT, S, fin⟩ := q1
  obtain ⟨u, rfl, ru⟩ := vals1 r1
  cases ru
  show wpAny _ _ (evalAll ((do let v ← eval (.Lambda params b.e sc lp) X.env; standAt pos; pure v) :: (do let v ← eval (.Constant (.bool true) k cp) X.env; standAt pos; pure v) :: [])) _ _ s1
  refine wpAny_evalAll_cons (wpAny_bind (lam_make2 I1 TB hcode hmT (fun p hp e => L.one p hp _ hmT e) hT L.de (fun y hy e => by rw [L.names] at hy; cases List.mem_singleton.mp hy; cases e) fun f c' pm ctv H2 s2 I2 eN T2 hf _ _ hco => wpAny_bind (wpAny_standAt (wpAny_pure ?_))))
  refine wpAny_evalAll_cons (wpAny_bind (Constant_bool (wpAny_bind (wpAny_standAt (wpAny_pure (wpAny_evalAll_nil ?_))))))
  rw [L.clo] at hf
  exact sortLam_run I2 hr hu hf hco L.kind L.names L.co L.gen (L.bd _ _ _ _) L.hz L.h0 L.h1 (ksk_s2 _ _ _) (fun x => ksk_l2 _ _ _) (fun x => ksk_t2 _ _ _) (ha.imp (extN_seqL eN) (extN_seqT eN)) (S.step (fun a xs => extN_seqT eN) (dv_seqs fun a xs => extN_seqT eN)) fun r hn => fin H2 r eN T2 hn
end
/-! ### sorted, the very items told -/
section
variable {X : Cx}
def rSortV (K : Frag) : List V → Hp → VK → Prop := fun vs H Q => ∃ (a : Addr) (β : Type) (l : List β) (val : β → V) (f : β → D), vs = [.ref a] ∧ SqL K H a (l.map val) ∧ DVs K H (l.map f) (l.map val) ∧ AllAlike (l.map fun b => py (f b)) ∧ Sortable (l.map fun b => py (f b)) ∧ (∀ b ∈ l, (py (f b)).depth ≤ 60) ∧
  ∀ p : Addr, H p = none → Q (.ref p) (upd H p (.lst ((l.mergeSort (dle f)).map val)))
theorem cr_sortV (hu : X.A.units + 65 < cLine) : CallR X (.builtin "sorted") (rSortV X.K) := by
  intro pins s σ H vs us Q I r h
  obtain ⟨a, β, l, val, f, rfl, hs, hd, hal, hsb, hdp, q⟩ := h
  obtain ⟨its, rv, hl, hz⟩ := I.list hs
  obtain ⟨u, rfl, ru⟩ := vals1 r
  obtain rfl : u = Value.ref a := ru
  have e := each_vals rv
  have len := e.length
  have many : its.length ≤ sizeLine := by rw [← rv.length]; exact hz
  refine sorted_data (enc := fun b => py (f b)) hl.isList e (each_reads I (dvs_each hd rv)) hal hsb (by omega) (fun b m => hu_big hu (hdp b m)) fun out ho eo => ?_
  have fr : H (s.heap.objs.size + 1) = none := I.hok.fresh (Nat.le_succ _)
  obtain ⟨n, hn⟩ := sortedAll_at s.heap its (List.toArray out)
  have ry : Vals ((l.mergeSort (dle f)).map val) out := vals_of_each eo fun v x h => h
  refine ⟨.ref _, upd H _ (.lst _), I.laid (t' := s.toks) (fun b o g => sortedAll_old g) (Nat.le_succ _) ⟨?_, out, n, ry, hn⟩, rfl, q _ fr⟩
  rw [List.length_map, List.length_mergeSort]; omega
theorem cr_sortVQ {K : Frag} (h : X.K = K) (hu : X.A.units + 65 < cLine) : CallR X (.builtin "sorted") (rSortV K) := by subst h; exact cr_sortV hu
end
/-! ### a def that makes lambdas: its code object is named -/
def lamQ (x : Str) : Str := x ++ ".<locals>." ++ "<lambda>"
theorem LamAt.of {X : Cx} {c P : Addr} {q : Str} {params : Arguments} {b : PairW} {sc : Scope} (TB : TabB X.base X.mg c P) (hcode : X.env.code = .ref c) (hq : q = X.env.qual ++ "<lambda>") (kind : sc.kind = .function) (names : sc.names = [(b.z, .local)]) (co : sc.isCoroutine = false) (gen : sc.isGenerator = false)
    (de : defaultsOf params X.env = ([], [])) (bd : ∀ (q : Str) (pm c ctv u : Value), bindArgs (kla_fn "<lambda>" q params b.e sc [] pm c ctv) ⟨[u], []⟩ = pure [(b.z, u)]) (hz : (b.z == ("__debug__" : Str)) = false) (h0 : 0 ≤ b.i ∧ b.i < 2 ^ 63) (h1 : 0 ≤ b.j ∧ b.j < 2 ^ 63) : LamAt X [(P, q)] params b sc :=
  ⟨⟨c, P, TB, hcode, List.mem_singleton.mpr (by rw [hq])⟩, fun p hp p' hp' _ => by rw [List.mem_singleton.mp hp, List.mem_singleton.mp hp'], kind, names, co, gen, de, bd, hz, h0, h1⟩
structure FunT (K : Frag) (x qual : Str) (st : Stmt) (f : Addr) (fd : FuncData) (c : Addr) : Prop where
  ex : ∃ (oc : Value) (od : Option Addr) (kV doc pm : Value) (an : Option Addr) (ct : Value) (osl : Array (Option Value)),
    fd = fnOf x qual (defArgs st) (defBody st) (defScope st) .none kV doc pm an (.ref c) ct ∧ K.lookup f = some ⟨oc, od, .func fd, osl⟩ ∧ codeIn K (.ref c) qual = true
  kp : keepIn K (.ref f) = true
theorem FunT.fn {K : Frag} {x qual : Str} {st : Stmt} {f : Addr} {fd : FuncData} {c : Addr} (F : FunT K x qual st f fd c) : Fun K x qual st f fd := by
  obtain ⟨oc, od, kV, doc, pm, an, ct, osl, h1, h2, h3⟩ := F.ex
  exact ⟨⟨oc, od, kV, doc, pm, an, .ref c, ct, osl, h1, h2, h3⟩, F.kp⟩
theorem FunT.okT {P : Program} {w : World} {K : Frag} {mg : Str → Option Value} {base : Heap} {x qual : Str} {st : Stmt} {f c : Addr} {fd : FuncData} {N ps : List Str} {k : Nat} {sp : Sp} (F : FunT K x qual st f fd c) (S : FnScope N ps (defScope st)) (len : ∀ vs H Q E, sp vs H Q E → vs.length = ps.length)
    (body : ∀ (A : Around) (outer : List Env) (s : Shared) (H : Hp) (vs : List V) (Q : VK) (E : XK), Room k (A.deeper (envOfC qual (defScope st) s.heap.objs.size f (.ref c))) → sp vs H Q E →
      ∃ t, PSs (cxOf C8.CX0 P w K mg base N qual (defScope st) f (.ref c) A outer s H E).nox (defBody st) t ∧ t { nx := fun _ H' => Q .non H', rt := Q } (L2.start N vs) H) : FnOk P w K mg base C8.CX0 (k + 1) f fd ps sp := by
  obtain ⟨oc, od, kV, doc, pm, an, ct, osl, rfl, lk, hcd⟩ := F.ex
  refine fn_of lk hcd S len fun A outer s H vs Q E hr hsp => ?_
  obtain ⟨t, h, q⟩ := body A outer s H vs Q E hr hsp
  exact ⟨t, h.nox, q⟩
def DfT (K : Frag) (mg : Str → Option Value) (x : Str) (st : Stmt) (ps : List Str) (c : Addr) : Prop := ∃ (f : Addr) (fd : FuncData), FunT K x x st f fd c ∧ mg x = some (.ref f) ∧ Binds K fd ps []
end Z
namespace Z
open PySem L2 SX
def top (i : Nat) : Stmt := PySem.Challenge.pw_criermoot_k49_threads.main.body.getD i (.Pass ⟨0, 0, 0, 0⟩)
abbrev s_place_of : Stmt := top 1
abbrev N_place_of : List Str := ["notice"]
theorem sc_place_of : FnScope ["notice"] ["notice"] (defScope s_place_of) := ⟨rfl, rfl, rfl, by decide +kernel, rfl, by decide +kernel, by decide +kernel⟩
abbrev s_parent_of : Stmt := top 2
abbrev N_parent_of : List Str := ["notice", "by_id", "id"]
theorem sc_parent_of : FnScope ["notice", "by_id", "id"] ["notice", "by_id"] (defScope s_parent_of) := ⟨rfl, rfl, rfl, by decide +kernel, rfl, by decide +kernel, by decide +kernel⟩
abbrev s_threads_of : Stmt := top 3
abbrev N_threads_of : List Str := ["notices", "notice", "by_id", "below", "tops", "id", "parent", "beside"]
theorem sc_threads_of : FnScope ["notices", "notice", "by_id", "below", "tops", "id", "parent", "beside"] ["notices"] (defScope s_threads_of) := ⟨rfl, rfl, rfl, by decide +kernel, rfl, by decide +kernel, by decide +kernel⟩
abbrev s__law_mix : Stmt := top 5
abbrev N__law_mix : List Str := ["seed", "turn", "number"]
theorem sc__law_mix : FnScope ["seed", "turn", "number"] ["seed", "turn"] (defScope s__law_mix) := ⟨rfl, rfl, rfl, by decide +kernel, rfl, by decide +kernel, by decide +kernel⟩
abbrev s__law_source : Stmt := top 6
abbrev N__law_source : List Str := ["script", "seed", "k"]
theorem sc__law_source : FnScope ["script", "seed", "k"] ["script"] (defScope s__law_source) := ⟨rfl, rfl, rfl, by decide +kernel, rfl, by decide +kernel, by decide +kernel⟩
abbrev s__law_draw : Stmt := top 7
abbrev N__law_draw : List Str := ["source", "many", "cell", "value"]
theorem sc__law_draw : FnScope ["source", "many", "cell", "value"] ["source", "many"] (defScope s__law_draw) := ⟨rfl, rfl, rfl, by decide +kernel, rfl, by decide +kernel, by decide +kernel⟩
abbrev s__law_pick : Stmt := top 8
abbrev N__law_pick : List Str := ["source", "row"]
theorem sc__law_pick : FnScope ["source", "row"] ["source", "row"] (defScope s__law_pick) := ⟨rfl, rfl, rfl, by decide +kernel, rfl, by decide +kernel, by decide +kernel⟩
abbrev s__law_once_in : Stmt := top 9
abbrev N__law_once_in : List Str := ["source", "many"]
theorem sc__law_once_in : FnScope ["source", "many"] ["source", "many"] (defScope s__law_once_in) := ⟨rfl, rfl, rfl, by decide +kernel, rfl, by decide +kernel, by decide +kernel⟩
abbrev s__law_shuffled : Stmt := top 10
abbrev N__law_shuffled : List Str := ["source", "row", "left", "done", "k"]
theorem sc__law_shuffled : FnScope ["source", "row", "left", "done", "k"] ["source", "row"] (defScope s__law_shuffled) := ⟨rfl, rfl, rfl, by decide +kernel, rfl, by decide +kernel, by decide +kernel⟩
abbrev s__law_new_name : Stmt := top 11
abbrev N__law_new_name : List Str := ["source", "used", "letters", "size", "name", "k", "tried"]
theorem sc__law_new_name : FnScope ["source", "used", "letters", "size", "name", "k", "tried"] ["source", "used"] (defScope s__law_new_name) := ⟨rfl, rfl, rfl, by decide +kernel, rfl, by decide +kernel, by decide +kernel⟩
abbrev s__law_names : Stmt := top 12
abbrev N__law_names : List Str := ["source", "many", "used", "k"]
theorem sc__law_names : FnScope ["source", "many", "used", "k"] ["source", "many"] (defScope s__law_names) := ⟨rfl, rfl, rfl, by decide +kernel, rfl, by decide +kernel, by decide +kernel⟩
abbrev s__law_is_int : Stmt := top 13
abbrev N__law_is_int : List Str := ["value"]
theorem sc__law_is_int : FnScope ["value"] ["value"] (defScope s__law_is_int) := ⟨rfl, rfl, rfl, by decide +kernel, rfl, by decide +kernel, by decide +kernel⟩
abbrev s__law_same : Stmt := top 14
abbrev N__law_same : List Str := ["actual", "due", "k"]
theorem sc__law_same : FnScope ["actual", "due", "k"] ["actual", "due"] (defScope s__law_same) := ⟨rfl, rfl, rfl, by decide +kernel, rfl, by decide +kernel, by decide +kernel⟩
abbrev s__law_many : Stmt := top 15
abbrev N__law_many : List Str := ["source", "least", "wide", "more", "many"]
theorem sc__law_many : FnScope ["source", "least", "wide", "more", "many"] ["source", "least", "wide", "more"] (defScope s__law_many) := ⟨rfl, rfl, rfl, by decide +kernel, rfl, by decide +kernel, by decide +kernel⟩
abbrev s__law_ids : Stmt := top 16
abbrev N__law_ids : List Str := ["source", "many", "names", "found", "k", "number", "ident"]
theorem sc__law_ids : FnScope ["source", "many", "names", "found", "k", "number", "ident"] ["source", "many"] (defScope s__law_ids) := ⟨rfl, rfl, rfl, by decide +kernel, rfl, by decide +kernel, by decide +kernel⟩
abbrev s__law_refs : Stmt := top 17
abbrev N__law_refs : List Str := ["source", "ident", "ids", "left", "found", "k", "other"]
theorem sc__law_refs : FnScope ["source", "ident", "ids", "left", "found", "k", "other"] ["source", "ident", "ids"] (defScope s__law_refs) := ⟨rfl, rfl, rfl, by decide +kernel, rfl, by decide +kernel, by decide +kernel⟩
abbrev s__law_threaded : Stmt := top 18
abbrev N__law_threaded : List Str := ["source", "ids", "k", "chained", "ident", "refs", "date", "kind", "ref"]
theorem sc__law_threaded : FnScope ["source", "ids", "k", "chained", "ident", "refs", "date", "kind", "ref"] ["source", "ids", "k", "chained"] (defScope s__law_threaded) := ⟨rfl, rfl, rfl, by decide +kernel, rfl, by decide +kernel, by decide +kernel⟩
abbrev s__law_parent : Stmt := top 19
abbrev N__law_parent : List Str := ["notice", "notices", "found", "ref", "other"]
theorem sc__law_parent : FnScope ["notice", "notices", "found", "ref", "other"] ["notice", "notices"] (defScope s__law_parent) := ⟨rfl, rfl, rfl, by decide +kernel, rfl, by decide +kernel, by decide +kernel⟩
abbrev s__law_threads : Stmt := top 20
abbrev N__law_threads : List Str := ["notices", "notice", "rows", "parents", "made", "k", "ident", "parts", "row"]
theorem sc__law_threads : FnScope ["notices", "notice", "rows", "parents", "made", "k", "ident", "parts", "row"] ["notices"] (defScope s__law_threads) := ⟨rfl, rfl, rfl, by decide +kernel, rfl, by decide +kernel, by decide +kernel⟩
abbrev s_law : Stmt := top 21
abbrev N_law : List Str := ["script", "source", "ids", "chained", "notices", "due", "step", "place", "some", "k"]
theorem sc_law : FnScope ["script", "source", "ids", "chained", "notices", "due", "step", "place", "some", "k"] ["script"] (defScope s_law) := ⟨rfl, rfl, rfl, by decide +kernel, rfl, by decide +kernel, by decide +kernel⟩
structure Tx (mg : Str → Option Value) : Prop where
  n_abs : mg "abs" = none
  n_bool : mg "bool" = none
  n_int : mg "int" = none
  n_isinstance : mg "isinstance" = none
  n_len : mg "len" = none
  n_list : mg "list" = none
  n_min : mg "min" = none
  n_range : mg "range" = none
  n_reversed : mg "reversed" = none
  n_sorted : mg "sorted" = none
  n_str : mg "str" = none
  n_tuple : mg "tuple" = none
end Z
namespace Z
open PySem PySem.Spec PyProof.Rows L2 SX
/-! ### enumerate(text) -/
def ItEs (x : Str) : It := ⟨fun i _ => i < x.cps.size, fun i H v H' => ∃ (T : Addr) (c : Nat), v = .ref T ∧ H T = none ∧ H' = upd H T (.tup [.int (i : Nat), .str ⟨#[c]⟩]) ∧ x.cps[i]? = some c, fun i _ => i = x.cps.size⟩
theorem turn_enumS {P : Program} {w : World} {K : PySem.W.Frag} {elts : List Expr} {kk : Nat} {tpos : Pos} (x : Str) (t : Tok) (e it : Addr) :
    Turn P w K (.Tuple elts kk tpos) (ItEs x) [e, it] e (fun i h => (∃ old, IsEnum h e it ((i : Nat) : Int) old) ∧ h.IsStrIter it (strIterType x) x t i ∧ e ≠ it) where
  mem := by simp
  obj := fun i h st b hb => by
    obtain ⟨⟨old, he⟩, ⟨o, ho, hc, hd⟩, _⟩ := st
    have e' : b = e ∨ b = it := by simpa using hb
    rcases e' with z | z
    · rw [z]; exact ⟨_, he, fun v q => nomatch q⟩
    · rw [z]; exact ⟨o, ho, fun v q => by rw [hd] at q; cases q⟩
  keep := fun i h h' st k => by
    obtain ⟨⟨old, he⟩, ⟨o, ho, r⟩, hne⟩ := st
    exact ⟨⟨old, k e (by simp) _ he⟩, ⟨o, k it (by simp) o ho, r⟩, hne⟩
  item := by
    intro X hP hw hK hc i pins s σ H E I hf st hg
    subst hP hw hK
    obtain ⟨⟨old, he⟩, hit, hne⟩ := st
    have hel : e < s.heap.objs.size := Heap.lt_size he
    have hil : it < s.heap.objs.size := by obtain ⟨_, q, _⟩ := hit; exact Heap.lt_size q
    have D := Draws.text (prog := X.prog) (w := X.w) (A := X.A.in1) (I.ok.hd hc) it x t
    refine wpAny_pyNext_enum_itemC D he hit hg hne (by simp [hne]) fun v h' tk hv ho hit' hT hsz hk => ?_
    obtain ⟨c, u, hcx, rfl⟩ := hv
    refine ⟨_, rfl, wpAny_letOwnedTupleGo_enum (s := { s with heap := h', toks := tk + 1 }) ho fun h'' he' sb => ?_⟩
    have hT2 : h''.get? s.heap.objs.size = some { cls := .type "tuple", data := .seq #[.int i tk, .str ⟨#[c]⟩ u] } := (sb.2 _ (Nat.ne_of_gt hel)).trans hT
    have new : ObjOk X.prog X.w (upd H s.heap.objs.size (.tup [.int (i : Nat), .str ⟨#[c]⟩])) h'' s.heap.objs.size (.tup [.int (i : Nat), .str ⟨#[c]⟩]) :=
      ⟨by show 2 ≤ sizeLine; decide, [.int i tk, .str ⟨#[c]⟩ u], .cons ⟨_, rfl⟩ (.cons ⟨_, rfl⟩ .nil), ⟨_, hT2, rfl, _, rfl⟩⟩
    have I1 : Inv X pins σ (upd H s.heap.objs.size (.tup [.int (i : Nat), .str ⟨#[c]⟩])) { s with heap := h'', toks := tk + 1 } :=
      I.turnedNew (ch := [e, it]) (fun b ob hb q => (sb.2 b (fun z => hb (by simp [z]))).trans (hk b ob (fun z => hb (by simp [z])) (fun z => hb (by simp [z])) q)) hf (Nat.le_refl _) new
    refine ⟨.ref s.heap.objs.size, _, I1, rfl, ⟨_, c, rfl, I.hok.fresh (Nat.le_refl _), rfl, hcx⟩, ⟨⟨.str ⟨#[c]⟩ u, ?_⟩, ?_, hne⟩, fun b hb => ?_⟩
    · have e1 : ((i + 1 : Nat) : Int) = (i : Int) + 1 := by omega
      rw [e1]; exact he'
    · obtain ⟨o, q, r⟩ := hit'
      exact ⟨o, (sb.2 it (Ne.symm hne)).trans q, r⟩
    · have hb' : b < s.heap.objs.size := by
        have e' : b = e ∨ b = it := by simpa using hb
        rcases e' with z | z
        · rw [z]; exact hel
        · rw [z]; exact hil
      rw [upd_ne (Nat.ne_of_lt hb')]
      exact (hf b hb).1
  done := by
    intro X hP hw hK hc i pins s σ H E I hf st hg
    subst hP hw hK
    obtain ⟨⟨old, he⟩, hit, hne⟩ := st
    obtain ⟨f0, f1, f2, f3, f4, f5⟩ := hf it (by simp)
    have hg' : i = x.cps.size := hg
    subst hg'
    have D := Draws.text (prog := X.prog) (w := X.w) (A := X.A.in1) (I.ok.hd hc) it x t
    exact wpAny_pyNext_enum_endD D he hit fun h' eb => ⟨rfl, I.turned (t' := s.toks) (fun b o hb q => eb b o hb q) f0 f1 f3 f4 f5⟩
  self := fun A i s Q E st h => let ⟨⟨_, he⟩, _⟩ := st; wpAny_pyIter_enum he h
def iEnumS (ta : TA) : TI := fun σ H R => ta σ H fun vs H1 => ∃ x : Str, vs = [.str x] ∧ R (ItEs x) H1
theorem pi_enumS {X : Cx} {e : Expr} {ta : TA} {p pos tpos : Pos} {elts : List Expr} {kk : Nat} (hg : Gl X "enumerate") (hm : X.mg "enumerate" = none) (ha : PA X [e] ta) (hs : starEach [e] X.env = [(false, eval e X.env)] := by rfl) :
    PI X (.Tuple elts kk tpos) (.Call (.Name "enumerate" p) [e] [] pos) (iEnumS ta) := by
  refine ⟨fun pins s σ H R I h => ?_⟩
  refine Call_ (ld_blt I hg hm boot_enumerate (PyProof.Rows.callWith_type1 (thn (ha.run pos pins s σ H _ I h) fun us s1 ⟨vs, H1, I1, r1, q1⟩ => ?_) hs rfl))
  obtain ⟨x, ex, q⟩ := q1
  subst ex
  cases r1 with
  | cons r rr =>
    cases rr
    obtain ⟨t, rfl⟩ := r
    refine call_enumerate_str fun h' he hit hsz hk => wpAny_pyIter_enum he ?_
    have I2 : Inv X pins σ H1 { s1 with heap := h' } := I1.kept (t' := s1.toks) hk
    refine ⟨s1.heap.objs.size + 1, [s1.heap.objs.size + 1, s1.heap.objs.size], _, _, H1, rfl, I2, turn_enumS x t (s1.heap.objs.size + 1) s1.heap.objs.size, ⟨⟨.none, he⟩, hit, Nat.succ_ne_self _⟩, fun b hb => ?_, q⟩
    have e' : b = s1.heap.objs.size + 1 ∨ b = s1.heap.objs.size := by simpa using hb
    have hle : s1.heap.objs.size ≤ b := by
      rcases e' with z | z
      · rw [z]; exact Nat.le_add_right _ _
      · rw [z]; exact Nat.le_refl _
    exact I1.fpOk hle (I1.hok.fresh hle)
theorem for_enumS {l : List Nat} {g : TG} {tb : TS} {D : Ends} {σ : L2.St} {H : Hp} (Pv : Nat → L2.St → Hp → Prop) (h0 : Pv 0 σ H)
    (hs : ∀ i c T σ H, l[i]? = some c → Pv i σ H → H T = none → g (.ref T) σ (upd H T (.tup [.int (i : Nat), .str (S [c])])) fun σ2 H2 => tb { D with nx := Pv (i + 1), ct := Pv (i + 1), bk := D.nx } σ2 H2) (hd : ∀ σ H, Pv l.length σ H → D.nx σ H) :
    ∃ W : Nat → Nat → L2.St → Hp → Prop, (∃ m, W 0 m σ H) ∧ ∀ i m σ H, W i m σ H →
      ((ItEs (S l)).stop i H ∧ D.nx σ H) ∨ ((ItEs (S l)).go i H ∧ ∃ N : L2.St → Hp → Prop, (∀ σ' H', N σ' H' → ∃ m', m' < m ∧ W (i + 1) m' σ' H') ∧ ∀ x H', (ItEs (S l)).yld i H x H' → g x σ H' fun σ2 H2 => tb { D with nx := N, ct := N, bk := D.nx } σ2 H2) := by
  refine ⟨fun i m σ H => m = l.length - i ∧ i ≤ l.length ∧ Pv i σ H, ⟨l.length, by simp, Nat.zero_le _, h0⟩, ?_⟩
  rintro i m σ H ⟨rfl, hi, p⟩
  by_cases hlt : i < l.length
  · refine .inr ⟨by show i < l.toArray.size; simpa using hlt, Pv (i + 1), fun σ' H' p' => ⟨l.length - (i + 1), by omega, rfl, hlt, p'⟩, fun x H' y => ?_⟩
    obtain ⟨T, c, rfl, hT, rfl, hc⟩ := y
    exact hs i c T _ _ (by simpa using hc) p hT
  · have e : i = l.length := by omega
    subst e
    exact .inl ⟨by show l.length = l.toArray.size; simp, hd σ H p⟩
end Z
namespace Z
open PySem L2 SX
/-! ### where a beginning stands in a glob -/
abbrev nts (l : List Nat) : List V := l.map fun k : Nat => V.int (k : Int)
def st0 (g : List Nat) : Nat → Prop
  | 0 => True
  | i + 1 => g[i]? = some 42 ∧ st0 g i
def nxt (g : List Nat) (M : Nat → Prop) (c : Nat) : Nat → Prop
  | 0 => False
  | i + 1 => (g[i]? = some 42 ∧ (nxt g M c i ∨ M (i + 1))) ∨ (g[i]? ≠ some 42 ∧ M i ∧ (g[i]? = some 63 ∨ g[i]? = some c))
def stand (g b : List Nat) : Nat → Prop := b.foldl (fun M c => nxt g M c) (st0 g)
/-- closed along stars -/
def closed (g : List Nat) (M : Nat → Prop) : Prop := ∀ y, M y → g[y]? = some 42 → M (y + 1)
def within (g : List Nat) (M : Nat → Prop) : Prop := ∀ y, M y → y ≤ g.length
theorem st0_closed (g : List Nat) : closed g (st0 g) := fun _ h e => ⟨e, h⟩
theorem st0_within (g : List Nat) : within g (st0 g) := fun y h => by
  cases y with
  | zero => omega
  | succ i => have := (List.getElem?_eq_some_iff.mp h.1).1; omega
theorem nxt_closed (g : List Nat) (M : Nat → Prop) (c : Nat) : closed g (nxt g M c) := fun _ h e => .inl ⟨e, .inl h⟩
theorem nxt_within (g : List Nat) (M : Nat → Prop) (c : Nat) : within g (nxt g M c) := fun y h => by
  cases y with
  | zero => omega
  | succ i =>
    rcases h with ⟨h, _⟩ | ⟨_, _, h | h⟩ <;> (have := (List.getElem?_eq_some_iff.mp h).1; omega)
theorem stand_nil (g : List Nat) : stand g [] = st0 g := rfl
theorem stand_snoc (g b : List Nat) (c : Nat) : stand g (b ++ [c]) = nxt g (stand g b) c := by unfold stand; rw [List.foldl_append]; rfl
theorem stand_ok (g b : List Nat) : closed g (stand g b) ∧ within g (stand g b) := by
  unfold stand
  rw [← List.reverse_reverse b, List.foldl_reverse]
  cases b.reverse with
  | nil => exact ⟨st0_closed g, st0_within g⟩
  | cons c r => exact ⟨nxt_closed g _ c, nxt_within g _ c⟩
/-- the places, ascending -/
def Asd (ps : List Nat) (M : Nat → Prop) : Prop := ps.Pairwise (· < ·) ∧ ∀ y, y ∈ ps ↔ M y
theorem asd_one : ∀ {a b : List Nat}, a.Pairwise (· < ·) → b.Pairwise (· < ·) → (∀ y, y ∈ a ↔ y ∈ b) → a = b
  | [], [], _, _, _ => rfl
  | [], y :: b, _, _, h => by have := (h y).mpr (by simp); cases this
  | x :: a, [], _, _, h => by have := (h x).mp (by simp); cases this
  | x :: a, y :: b, pa, pb, h => by
    have ha := List.pairwise_cons.mp pa
    have hb := List.pairwise_cons.mp pb
    have e : x = y := by
      have h1 := (h x).mp (by simp)
      have h2 := (h y).mpr (by simp)
      rcases List.mem_cons.mp h1 with e | e
      · exact e
      · rcases List.mem_cons.mp h2 with f | f
        · exact f.symm
        · have := hb.1 x e; have := ha.1 y f; omega
    subst e
    rw [asd_one ha.2 hb.2 fun z => ?_]
    constructor
    · intro hz
      rcases List.mem_cons.mp ((h z).mp (List.mem_cons_of_mem _ hz)) with e | e
      · subst e; have := ha.1 z hz; omega
      · exact e
    · intro hz
      rcases List.mem_cons.mp ((h z).mpr (List.mem_cons_of_mem _ hz)) with e | e
      · subst e; have := hb.1 z hz; omega
      · exact e
theorem Asd.one {a b : List Nat} {M : Nat → Prop} (x : Asd a M) (y : Asd b M) : a = b := asd_one x.1 y.1 fun z => (x.2 z).trans (y.2 z).symm
theorem Asd.congr {a : List Nat} {M N : Nat → Prop} (x : Asd a M) (h : ∀ y, M y ↔ N y) : Asd a N := ⟨x.1, fun y => (x.2 y).trans (h y)⟩
theorem Asd.len {a : List Nat} {M : Nat → Prop} {g : List Nat} (x : Asd a M) (w : within g M) : a.length ≤ g.length + 1 := by
  have : ∀ (n : Nat) (l : List Nat), l.Pairwise (· < ·) → (∀ y ∈ l, y < n) → l.length ≤ n := by
    intro n
    induction n with
    | zero => intro l _ h; cases l with
      | nil => simp
      | cons y r => have := h y (by simp); omega
    | succ n ih =>
      intro l p h
      rcases List.eq_nil_or_concat l with e | ⟨r, z, e⟩
      · subst e; simp
      · subst e
        rw [List.concat_eq_append] at p h ⊢
        have h2 := ih r (List.pairwise_append.mp p).1 (fun y hy => by
          have := (List.pairwise_append.mp p).2.2 y hy z (by simp)
          have := h z (by simp)
          omega)
        rw [List.length_append]; simp; exact h2
  exact this (g.length + 1) a x.1 fun y hy => by have := w y ((x.2 y).mp hy); omega
/-- a row of stars behind x -/
def isRun (g : List Nat) (x k : Nat) : Prop := (∀ j, j < k → g[x + j]? = some 42) ∧ g[x + k]? ≠ some 42
/-- places that are built up: L so far, m the greatest one that was put in, A what was put in -/
structure Up (g L : List Nat) (m : Nat) (A : Nat → Prop) : Prop where
  asc : L.Pairwise (· < ·)
  cl : ∀ y ∈ L, g[y]? = some 42 → y + 1 ∈ L
  gap : ∀ y z, m ≤ y → y ≤ z → z ∈ L → y ∈ L
  has : ∀ y, A y → y ∈ L
  only : ∀ (N : Nat → Prop), closed g N → (∀ y, A y → N y) → ∀ y ∈ L, N y
theorem Up.nil (g : List Nat) : Up g [] 0 (fun _ => False) := ⟨.nil, (fun _ h => by cases h), (fun _ _ _ _ h => by cases h), (fun _ h => h.elim), (fun _ _ _ _ h => by cases h)⟩
theorem Up.stay {g L : List Nat} {m x z : Nat} {A : Nat → Prop} (u : Up g L m A) (hm : m ≤ x) (hz : z ∈ L) (hx : x ≤ z) : Up g L x (fun y => A y ∨ y = x) :=
  ⟨u.asc, u.cl, fun y z a b c => u.gap y z (by omega) b c, fun y h => h.elim (u.has y) fun e => by subst e; exact u.gap _ _ hm hx hz, fun N c h => u.only N c fun y a => h y (.inl a)⟩
theorem run_mem {x k y : Nat} : y ∈ List.range' x (k + 1) ↔ x ≤ y ∧ y ≤ x + k := by rw [List.mem_range'_1]; omega
theorem Up.more {g L : List Nat} {m x k : Nat} {A : Nat → Prop} (u : Up g L m A) (hl : ∀ y ∈ L, y < x) (hr : isRun g x k) : Up g (L ++ List.range' x (k + 1)) x (fun y => A y ∨ y = x) := by
  refine ⟨?_, ?_, ?_, ?_, ?_⟩
  · exact List.pairwise_append.mpr ⟨u.asc, List.pairwise_lt_range', fun a ha b hb => by have := hl a ha; have := (run_mem.mp hb).1; omega⟩
  · intro y hy e
    rcases List.mem_append.mp hy with h | h
    · exact List.mem_append_left _ (u.cl y h e)
    · refine List.mem_append_right _ (run_mem.mpr ?_)
      have := run_mem.mp h
      by_cases q : y = x + k
      · subst q; exact absurd e hr.2
      · omega
  · intro y z hy hyz hz
    rcases List.mem_append.mp hz with h | h
    · have := hl z h; omega
    · have := run_mem.mp h
      exact List.mem_append_right _ (run_mem.mpr ⟨by omega, by omega⟩)
  · intro y h
    rcases h with h | e
    · exact List.mem_append_left _ (u.has y h)
    · subst e; exact List.mem_append_right _ (run_mem.mpr ⟨Nat.le_refl _, by omega⟩)
  · intro N c h y hy
    rcases List.mem_append.mp hy with q | q
    · exact u.only N c (fun z a => h z (.inl a)) y q
    · obtain ⟨q1, q2⟩ := run_mem.mp q
      have : ∀ j, j ≤ k → N (x + j) := by
        intro j
        induction j with
        | zero => intro _; exact h x (.inr rfl)
        | succ j ih => intro hj; exact c _ (ih (by omega)) (hr.1 j (by omega))
      have := this (y - x) (by omega)
      rwa [show x + (y - x) = y by omega] at this
theorem Up.congr {g L : List Nat} {m : Nat} {A B : Nat → Prop} (u : Up g L m A) (h : ∀ y, A y ↔ B y) : Up g L m B :=
  ⟨u.asc, u.cl, u.gap, fun y b => u.has y ((h y).mpr b), fun N c q => u.only N c fun y a => q y ((h y).mp a)⟩
/-- what is put in by the places of M that are taken -/
def puts (g : List Nat) (c : Nat) (T : Nat → Prop) (y : Nat) : Prop := (T y ∧ ∃ i, y = i + 1 ∧ g[i]? = some 42) ∨ ∃ i, y = i + 1 ∧ T i ∧ (g[i]? = some 63 ∨ g[i]? = some c)
theorem puts_next {g : List Nat} {M : Nat → Prop} {c : Nat} (hc : c ≠ 42) (cl : closed g M) {L : List Nat} {m : Nat} (u : Up g L m (puts g c M)) : Asd L (nxt g M c) := by
  refine ⟨u.asc, fun y => ⟨fun hy => u.only _ (nxt_closed g M c) (fun y p => ?_) y hy, ?_⟩⟩
  · rcases p with ⟨t, i, rfl, e⟩ | ⟨i, rfl, t, e⟩
    · exact .inl ⟨e, .inr t⟩
    · refine .inr ⟨fun q => ?_, t, e⟩
      rcases e with e | e <;> rw [e] at q
      · cases q
      · exact hc (Option.some.inj q)
  · intro h
    induction y with
    | zero => exact h.elim
    | succ i ih =>
      rcases h with ⟨e, h | h⟩ | ⟨_, t, e⟩
      · exact u.cl i (ih h) e
      · exact u.has _ (.inl ⟨h, i, rfl, e⟩)
      · exact u.has _ (.inr ⟨i, rfl, t, e⟩)
theorem start_asd {g L : List Nat} {m : Nat} (u : Up g L m (fun y => y = 0)) : Asd L (st0 g) := by
  refine ⟨u.asc, fun y => ⟨fun hy => u.only _ (st0_closed g) (fun y e => by subst e; exact True.intro) y hy, ?_⟩⟩
  intro h
  induction y with
  | zero => exact u.has 0 rfl
  | succ i ih => exact u.cl i (ih h.2) h.1
/-! ### promises -/
def sp_add_place : Sp := fun vs H Q _ => ∃ (g : Str) (p : Addr) (x : Nat) (L : List Nat) (m : Nat) (A : Nat → Prop), vs = [.str g, .ref p, .int (x : Int)] ∧ H p = some (.lst (nts L)) ∧ Up (tl g) L m A ∧ m ≤ x ∧ x ≤ (tl g).length ∧ (∀ y ∈ L, y ≤ (tl g).length) ∧ (tl g).length ≤ 10000 ∧
  ∀ (L' : List Nat) (H' : Hp), H' p = some (.lst (nts L')) → (∀ b, b ≠ p → H' b = H b) → Up (tl g) L' x (fun y => A y ∨ y = x) → (∀ y ∈ L', y ≤ (tl g).length) → Q .non H'
def sp_follows (K : PySem.W.Frag) : Sp := fun vs H Q _ => ∃ (g : Str) (a : Addr) (c : Nat) (ps : List Nat) (M : Nat → Prop), vs = [.str g, .ref a, .str (S [c])] ∧ SqT K H a (nts ps) ∧ Asd ps M ∧ closed (tl g) M ∧ within (tl g) M ∧ c ≠ 42 ∧ (tl g).length ≤ 10000 ∧
  ∀ (q : Addr) (qs : List Nat) (H' : Hp), Same H H' → H' q = some (.tup (nts qs)) → Asd qs (nxt (tl g) M c) → Q (.ref q) H'
def sp_standing (K : PySem.W.Frag) : Sp := fun vs H Q _ => ∃ (g b : Str), vs = [.str g, .str b] ∧ (∀ c ∈ tl b, c ≠ 42) ∧ (tl g).length ≤ 10000 ∧
  ∀ (q : Addr) (qs : List Nat) (H' : Hp), Same H H' → H' q = some (.tup (nts qs)) → Asd qs (stand (tl g) (tl b)) → Q (.ref q) H'
open Classical in
def sp_fits (K : PySem.W.Frag) : Sp := fun vs H Q _ => ∃ (g b : Str), vs = [.str g, .str b] ∧ (∀ c ∈ tl b, c ≠ 42) ∧ (tl g).length ≤ 10000 ∧
  ∀ (H' : Hp), Same H H' → Q (.bl (decide (stand (tl g) (tl b) (tl g).length))) H'
theorem inV_nts (n : Nat) (l : List Nat) : inV (V.int (n : Int)) (nts l) = decide (n ∈ l) := by
  unfold inV nts
  induction l with
  | nil => rfl
  | cons y ys ih =>
    rw [List.map_cons, List.any_cons, ih]
    by_cases e : n = y
    · subst e; simp [eqV]
    · have : ¬ (y : Int) = (n : Int) := fun h => e (by omega)
      simp [eqV, e, this]
theorem flat_nts (xs : List Nat) : (nts xs).all flatV = true := List.all_eq_true.mpr fun x h => by
  obtain ⟨y, _, rfl⟩ := List.mem_map.mp h; rfl
theorem DVs.nats {K : PySem.W.Frag} {H : Hp} (xs : List Nat) : DVs K H (xs.map fun k : Nat => D.int (k : Int)) (nts xs) := by
  have := DVs.ints (K := K) (H := H) (xs.map fun k : Nat => (k : Int))
  rwa [List.map_map, List.map_map] at this
theorem DV.nats {K : PySem.W.Frag} {H : Hp} {p : Addr} {xs : List Nat} (h : SqT K H p (nts xs)) : DV K H (.tup (xs.map fun k : Nat => D.int (k : Int))) (.ref p) := by
  unfold DV
  exact ⟨p, _, rfl, h, DVs.nats xs⟩
theorem DL.nats {n : Nat} (xs : List Nat) (h : xs.length ≤ 1000000) : DL (n + 2) (.tup (xs.map fun k : Nat => D.int (k : Int))) := ⟨by rw [List.length_map]; exact h, fun d m => by obtain ⟨x, _, rfl⟩ := List.mem_map.mp m; exact True.intro⟩
end Z
namespace Z
open PySem L2 SX
/-! ### patterns -/
def parts (p : List Nat) : List (List Nat) := TL.spl [44] 0 [] p
theorem spl_bound (c0 : Nat) : ∀ (l acc : List Nat), (∀ q ∈ TL.spl [c0] 0 acc l, q.length ≤ acc.length + l.length) ∧ (TL.spl [c0] 0 acc l).length ≤ l.length + 1
  | [], acc => by
    rw [TL.spl_nil]
    exact ⟨fun q h => by rw [List.mem_singleton.mp h]; exact Nat.le_refl _, Nat.le_refl _⟩
  | c :: r, acc => by
    cases h : TL.pre [c0] (c :: r) with
    | true =>
      rw [TL.spl_hit h]
      have ih := spl_bound c0 r []
      refine ⟨fun q hq => ?_, ?_⟩
      · rcases List.mem_cons.mp hq with e | e
        · subst e; omega
        · have := ih.1 q e; rw [List.length_nil] at this; rw [List.length_cons]; omega
      · have := ih.2; show (TL.spl [c0] 0 [] r).length + 1 ≤ r.length + 1 + 1; omega
    | false =>
      rw [TL.spl_miss h]
      have ih := spl_bound c0 r (acc ++ [c])
      refine ⟨fun q hq => ?_, ?_⟩
      · have := ih.1 q hq; rw [List.length_append] at this; rw [List.length_cons]; simp at this; omega
      · rw [List.length_cons]; have := ih.2; omega
theorem parts_len {p q : List Nat} (h : q ∈ parts p) : q.length ≤ p.length := by have := (spl_bound 44 p []).1 q h; rw [List.length_nil] at this; omega
theorem parts_num (p : List Nat) : (parts p).length ≤ p.length + 1 := (spl_bound 44 p []).2
/-- an item: its sign, its glob -/
def isBar (it : List Nat) : Bool := decide (it.take 1 = [33])
def globOf (it : List Nat) : List Nat := if isBar it = true then it.drop 1 else it
theorem globOf_len (it : List Nat) : (globOf it).length ≤ it.length := by
  unfold globOf; split
  · rw [List.length_drop]; omega
  · exact Nat.le_refl _
def fit (g b : List Nat) : Prop := stand g b g.length
open Classical in
noncomputable def letsL (its : List (List Nat)) (b : List Nat) : Bool := its.foldl (fun ans it => if fit (globOf it) b then !isBar it else ans) false
open Classical in
theorem lets_skip (b : List Nat) : ∀ (its : List (List Nat)) (v : Bool), (∀ it ∈ its, ¬ fit (globOf it) b) → its.foldl (fun ans it => if fit (globOf it) b then !isBar it else ans) v = v
  | [], _, _ => rfl
  | x :: r, v, h => by rw [List.foldl_cons, if_neg (h x (by simp))]; exact lets_skip b r v fun y hy => h y (List.mem_cons_of_mem _ hy)
theorem lets_last {its : List (List Nat)} {b : List Nat} {i : Nat} {it : List Nat} (h : its[i]? = some it) (hf : fit (globOf it) b) (hn : ∀ (j : Nat) (y : List Nat), i < j → its[j]? = some y → ¬ fit (globOf y) b) : letsL its b = !isBar it := by
  classical
  unfold letsL
  have e : its = its.take i ++ it :: its.drop (i + 1) := by
    obtain ⟨h1, h2⟩ := List.getElem?_eq_some_iff.mp h
    rw [← h2, List.getElem_cons_drop, List.take_append_drop]
  rw [e, List.foldl_append, List.foldl_cons, if_pos hf]
  refine lets_skip b _ _ fun y hy => ?_
  obtain ⟨j, hj, e2⟩ := List.getElem_of_mem hy
  refine hn (i + 1 + j) y (by omega) ?_
  have := List.getElem?_eq_getElem hj
  rw [List.getElem?_drop, e2] at this
  exact this
theorem lets_none {its : List (List Nat)} {b : List Nat} (hn : ∀ (j : Nat) (y : List Nat), its[j]? = some y → ¬ fit (globOf y) b) : letsL its b = false := by
  classical
  unfold letsL
  refine lets_skip b _ _ fun y hy => ?_
  obtain ⟨j, hj, e⟩ := List.getElem_of_mem hy
  exact hn j y (by rw [List.getElem?_eq_getElem hj, e])
def Clean (b : List Nat) : Prop := ∀ c ∈ b, c ≠ 42
theorem bar_starts (x : Str) : Txt.startswith x (Str.ofString "!") = isBar (tl x) := by
  have e := StrLaws.subAt_one x 33 0
  have e0 : ((tl x)[0]? = some 33) ↔ (tl x).take 1 = [33] := by
    cases tl x with
    | nil => simp
    | cons y r => simp
  unfold Txt.startswith isBar
  rw [Bool.eq_iff_iff, Bool.and_eq_true, decide_eq_true_iff, decide_eq_true_iff, ← e0]
  exact e
theorem bar_cut (x : Str) : decide (V.str (cutS x none (some 1)) = V.str (Str.ofString "!")) = isBar (tl x) := by
  unfold isBar
  rw [Bool.eq_iff_iff, decide_eq_true_iff, decide_eq_true_iff]
  have e : tl (cutS x none (some 1)) = (tl x).take 1 := cutS_to (by decide)
  constructor
  · intro h
    have h2 := congrArg tl (V.str.inj h)
    rw [e] at h2; exact h2
  · intro h
    exact congrArg V.str (tl_ext (by rw [e, h]; rfl))
/-- the law's places: those that lie ahead of a star, too -/
def Lax (g : List Nat) (N M : Nat → Prop) : Prop := ∀ y, M y ↔ (N y ∨ (g[y]? = some 42 ∧ N (y + 1)))
theorem lax_start (g : List Nat) : Lax g (st0 g) (st0 g) := fun y => ⟨.inl, fun h => h.elim id fun k => k.2.2⟩
/-- what the law puts in, ahead of its last loop -/
def lawA (g : List Nat) (M : Nat → Prop) (c : Nat) (y : Nat) : Prop := (M y ∧ g[y]? = some 42) ∨ ∃ i, y = i + 1 ∧ M i ∧ (g[i]? = some 63 ∨ g[i]? = some c)
def lawB (g : List Nat) (A : Nat → Prop) : Nat → Prop
  | 0 => A 0
  | i + 1 => A (i + 1) ∨ (lawB g A i ∧ g[i]? = some 42)
theorem lax_next {g : List Nat} {N M : Nat → Prop} {c : Nat} (hc : c ≠ 42) (cl : closed g N) (l : Lax g N M) : Lax g (nxt g N c) (lawB g (lawA g M c)) := by
  have ns : ∀ i : Nat, (g[i]? = some 63 ∨ g[i]? = some c) → g[i]? ≠ some 42 := fun i h e => by
    rcases h with h | h <;> rw [h] at e
    · cases e
    · exact hc (Option.some.inj e)
  have bA : ∀ y, lawA g M c y → lawB g (lawA g M c) y := fun y h => by
    cases y with
    | zero => exact h
    | succ i => exact .inl h
  have fA : ∀ y, lawA g M c y → nxt g N c y ∨ (g[y]? = some 42 ∧ nxt g N c (y + 1)) := fun y h => by
    rcases h with ⟨m, e⟩ | ⟨i, rfl, m, k⟩
    · refine .inr ⟨e, .inl ⟨e, .inr ?_⟩⟩
      rcases (l y).mp m with n | ⟨_, n⟩
      · exact cl y n e
      · exact n
    · refine .inl (.inr ⟨ns i k, ?_, k⟩)
      rcases (l i).mp m with n | ⟨q, _⟩
      · exact n
      · exact absurd q (ns i k)
  have back : ∀ y, nxt g N c y → lawB g (lawA g M c) y := fun y => by
    induction y with
    | zero => intro h; exact h.elim
    | succ i ih =>
      rintro (⟨e, h | h⟩ | ⟨_, n, k⟩)
      · exact .inr ⟨ih h, e⟩
      · exact .inr ⟨bA i (.inl ⟨(l i).mpr (.inr ⟨e, h⟩), e⟩), e⟩
      · exact .inl (.inr ⟨i, rfl, (l i).mpr (.inl n), k⟩)
  intro y
  constructor
  · induction y with
    | zero => intro h; exact fA 0 h
    | succ i ih =>
      rintro (h | ⟨h, e⟩)
      · exact fA _ h
      · rcases ih h with n | ⟨_, n⟩
        · exact .inl (.inl ⟨e, .inl n⟩)
        · exact .inl n
  · rintro (h | ⟨e, h⟩)
    · exact back y h
    · rcases h with ⟨_, h | h⟩ | ⟨q, _⟩
      · exact back y h
      · exact bA y (.inl ⟨(l y).mpr (.inr ⟨e, h⟩), e⟩)
      · exact absurd e q
/-! ### promises -/
def itemV (it : List Nat) : List V := [.int (if isBar it = true then 0 else 1), .str (S (globOf it))]
def sp_items_of (K : PySem.W.Frag) : Sp := fun vs H Q _ => ∃ (p : Str), vs = [.str p] ∧ (tl p).length ≤ 3000 ∧
  ∀ (q : Addr) (ts : List Addr) (H' : Hp), Same H H' → H' q = some (.tup (ts.map V.ref)) → ts.length = (parts (tl p)).length → (∀ (i : Nat) (t : Addr) (it : List Nat), ts[i]? = some t → (parts (tl p))[i]? = some it → H' t = some (.tup (itemV it))) → Q (.ref q) H'
def sp_lets (K : PySem.W.Frag) : Sp := fun vs H Q _ => ∃ (p b : Str), vs = [.str p, .str b] ∧ (tl p).length ≤ 3000 ∧ Clean (tl b) ∧ ∀ H', Same H H' → Q (.bl (letsL (parts (tl p)) (tl b))) H'
def sp_lets_one (K : PySem.W.Frag) : Sp := fun vs H Q _ => ∃ (p : Str) (a : Addr) (bs : List Str), vs = [.str p, .ref a] ∧ SqT K H a (bs.map V.str) ∧ (tl p).length ≤ 3000 ∧ bs.length ≤ 1000 ∧ (∀ b ∈ bs, Clean (tl b)) ∧ ∀ H', Same H H' → Q (.bl (bs.any fun b => letsL (parts (tl p)) (tl b))) H'
open Classical in
def sp__law_fits (K : PySem.W.Frag) : Sp := fun vs H Q _ => ∃ (g b : Str), vs = [.str g, .str b] ∧ Clean (tl b) ∧ (tl g).length ≤ 10000 ∧ ∀ (H' : Hp), Same H H' → Q (.bl (decide (fit (tl g) (tl b)))) H'
def sp__law_lets (K : PySem.W.Frag) : Sp := sp_lets K
def sp__law_lets_some (K : PySem.W.Frag) : Sp := sp_lets_one K
theorem split_bar (p : Str) : Txt.split p (Str.ofString ",") = (parts (tl p)).map S := split_S (a := tl p) (b := [44]) (by decide) (by decide)

/-! ### lists of truth values -/
def Bs (bs : List Bool) (n : Nat) (M : Nat → Prop) : Prop := bs.length = n + 1 ∧ ∀ y, bs[y]? = some true ↔ M y
theorem Bs.set {bs : List Bool} {n k : Nat} {M : Nat → Prop} (h : Bs bs n M) (hk : k ≤ n) : Bs (bs.set k true) n (fun y => M y ∨ y = k) := by
  refine ⟨by rw [List.length_set]; exact h.1, fun y => ?_⟩
  rw [List.getElem?_set]
  by_cases e : k = y
  · subst e
    rw [if_pos rfl, if_pos (by have := h.1; omega)]
    exact ⟨fun _ => .inr rfl, fun _ => rfl⟩
  · rw [if_neg e]
    exact ⟨fun q => .inl ((h.2 y).mp q), fun q => q.elim (h.2 y).mpr fun z => absurd z.symm e⟩
theorem Bs.congr {bs : List Bool} {n : Nat} {M N : Nat → Prop} (h : Bs bs n M) (e : ∀ y, M y ↔ N y) : Bs bs n N := ⟨h.1, fun y => (h.2 y).trans (e y)⟩
theorem Bs.get {bs : List Bool} {n k : Nat} {M : Nat → Prop} (h : Bs bs n M) (hk : k ≤ n) : ∃ b : Bool, bs[k]? = some b ∧ (b = true ↔ M k) := by
  have hl : k < bs.length := by have := h.1; omega
  refine ⟨bs[k], List.getElem?_eq_getElem hl, ?_⟩
  rw [← h.2 k, List.getElem?_eq_getElem hl]
  exact ⟨fun e => by rw [e], fun e => Option.some.inj e⟩
theorem atI_bl {bs : List Bool} {k : Nat} {b : Bool} {z : Int} (hz : z = (k : Int)) (h : bs[k]? = some b) : atI (bs.map V.bl) z = some (.bl b) := at_of hz (by rw [List.getElem?_map, h]; rfl)
theorem ixN_pos {n k : Nat} {z : Int} (hz : z = (k : Int)) (h : k < n) : ixN n z = some k := by
  subst hz
  unfold ixN
  rw [if_pos (by omega), if_pos (by omega)]; rfl
theorem map_set_bl (bs : List Bool) (k : Nat) : (bs.map V.bl).set k (.bl true) = (bs.set k true).map V.bl := by rw [List.map_set]
theorem bs_false (n : Nat) : Bs (List.replicate (n + 1) false) n (fun _ => False) := by
  refine ⟨List.length_replicate, fun y => ⟨fun h => ?_, fun h => h.elim⟩⟩
  rw [List.getElem?_replicate] at h
  split at h <;> cases h
theorem flatten_one (n : Nat) : (List.replicate n [V.bl false]).flatten = (List.replicate n false).map V.bl := by
  induction n with
  | zero => rfl
  | succ n ih => rw [List.replicate_succ, List.flatten_cons, ih, List.replicate_succ, List.map_cons]; rfl
end Z
namespace Z
open PySem L2 SX
def sp13 (f n : Nat) : Sp := fun vs H Q _ => ∃ (s a : Addr) (c : Nat), vs = [.ref s] ∧ Src H s a (c + f) ∧ ∀ (x : Str) (H' : Hp), (tl x).length ≤ n → Ext s H H' → Src H' s a c → Q (.str x) H'
def sp13_bent : Sp := fun vs H Q _ => ∃ (s a : Addr) (x : Str) (c : Nat), vs = [.ref s, .str x] ∧ (tl x).length ≤ 1000 ∧ Src H s a (c + 10) ∧ ∀ (y : Str) (H' : Hp), (tl y).length ≤ (tl x).length + 3 → Ext s H H' → Src H' s a c → Q (.str y) H'
theorem ext_free {H H1 : Hp} {s a u : Addr} {c : Nat} (x : Ext s H H1) (S : Src H1 s a c) (h : H1 u = none) : H u = none := by
  cases e : H u with
  | none => rfl
  | some o =>
    by_cases q : u = s
    · subst q
      obtain ⟨xs, e2⟩ := S.lst
      rw [h] at e2; cases e2
    · have := x _ _ q e
      rw [h] at this; cases this
theorem joinL_len {s : List Nat} {n : Nat} : ∀ {ls : List (List Nat)}, (∀ l ∈ ls, l.length ≤ n) → (TL.joinL s ls).length ≤ ls.length * (n + s.length)
  | [], _ => by simp [TL.joinL]
  | [x], h => by have := h x (by simp); show x.length ≤ 1 * (n + s.length); omega
  | x :: y :: r, h => by
    have ih := joinL_len (s := s) (ls := y :: r) (fun l m => h l (List.mem_cons_of_mem _ m))
    have := h x (by simp)
    show (x ++ (s ++ TL.joinL s (y :: r))).length ≤ ((y :: r).length + 1) * (n + s.length)
    rw [List.length_append, List.length_append, Nat.succ_mul]
    omega
theorem tl_joinS (s : Str) (xs : List Str) : tl (Txt.join s xs) = TL.joinL (tl s) (xs.map tl) := by
  have h := join_S (tl s) (xs.map tl)
  rw [tl_mapS] at h
  exact congrArg tl h
theorem sum_len {n : Nat} : ∀ {xs : List Str}, (∀ x ∈ xs, (tl x).length ≤ n) → (xs.map (·.length)).sum ≤ xs.length * n
  | [], _ => by simp
  | x :: xs, h => by
    have := h x (by simp)
    have ih := sum_len (n := n) (xs := xs) (fun y m => h y (List.mem_cons_of_mem _ m))
    rw [List.map_cons, List.sum_cons, List.length_cons, Nat.succ_mul, tl_len]; omega
theorem cut_le (x : Str) (i j : Option Int) : (tl (cutS x i j)).length ≤ (tl x).length := by
  show ((List.drop _ (tl x)).take _).length ≤ _
  rw [List.length_take, List.length_drop]; omega
theorem len_mem {n : Nat} {xs : List Str} {w : V} (h : ∀ x ∈ xs, (tl x).length ≤ n) (m : w ∈ xs.map V.str) : ∃ x, w = V.str x ∧ (tl x).length ≤ n := by
  obtain ⟨x, hx, rfl⟩ := List.mem_map.mp m
  exact ⟨x, rfl, h x hx⟩
end Z
namespace Z
open PySem L2 SX
/-! ### patterns: scanning and splitting -/
def okc (c : Nat) : Bool := decide (c ∈ tl (Str.ofString "abcdefghijklmnopqrstuvwxyz0123456789.*?"))
theorem okc_44 : okc 44 = false := by decide +kernel
theorem okc_33 : okc 33 = false := by decide +kernel
def step (a c : Nat) : Bool := (decide (c = 33) && decide (a = 44)) || (decide (c = 44) && (decide (a ≠ 44) && decide (a ≠ 33))) || okc c
/-- all signs may follow each other, behind a -/
def runs : Nat → List Nat → Bool
  | _, [] => true
  | a, c :: r => step a c && runs c r
def lastOf : Nat → List Nat → Nat
  | a, [] => a
  | _, c :: r => lastOf c r
def globP (it : List Nat) : List Nat := if decide (it.take 1 = [33]) = true then it.drop 1 else it
def goodItem (it : List Nat) : Bool := decide (globP it ≠ []) && (globP it).all okc
/-- an item so far: what stands behind its ! is of glob signs -/
def part1 (acc : List Nat) : Bool := (globP acc).all okc
theorem runs_app (a : Nat) (l m : List Nat) : runs a (l ++ m) = (runs a l && runs (lastOf a l) m) := by
  induction l generalizing a with
  | nil => simp [runs, lastOf]
  | cons c r ih => show (step a c && runs c (r ++ m)) = ((step a c && runs c r) && runs (lastOf c r) m); rw [ih, Bool.and_assoc]
theorem last_app (a c : Nat) (l : List Nat) : lastOf a (l ++ [c]) = c := by
  induction l generalizing a with
  | nil => rfl
  | cons d r ih => exact ih d
theorem globP_app {acc : List Nat} {c : Nat} (h : acc ≠ []) : globP (acc ++ [c]) = globP acc ++ [c] := by
  cases acc with
  | nil => exact absurd rfl h
  | cons d r =>
    unfold globP
    show (if decide ([d] = [33]) = true then r ++ [c] else d :: (r ++ [c])) = (if decide ([d] = [33]) = true then r else d :: r) ++ [c]
    split <;> rfl
/-- the last sign ahead, as the scan sees it: the accumulated item behind a comma -/
theorem good_last {acc : List Nat} (h : part1 acc = true) : goodItem acc = (decide (lastOf 44 acc ≠ 44) && decide (lastOf 44 acc ≠ 33)) := by
  rcases List.eq_nil_or_concat acc with e | ⟨l, c, e⟩
  · subst e; decide
  · rw [List.concat_eq_append] at e
    subst e
    rw [last_app]
    unfold goodItem
    rw [show (globP (l ++ [c])).all okc = true from h, Bool.and_true]
    by_cases hl : l = []
    · subst hl
      by_cases e33 : c = 33
      · subst e33; decide
      · have g : globP ([] ++ [c]) = [c] := by
          unfold globP
          rw [if_neg (by simp [e33])]; rfl
        have oc : okc c = true := by
          have h' : (globP ([] ++ [c])).all okc = true := h
          rw [g] at h'
          simpa using h'
        have e44 : c ≠ 44 := fun e => by rw [e, okc_44] at oc; cases oc
        rw [g, decide_eq_true (show [c] ≠ [] by simp), decide_eq_true e44, decide_eq_true e33]; rfl
    · have g := globP_app (c := c) hl
      have h' : (globP (l ++ [c])).all okc = true := h
      rw [g, List.all_append] at h'
      have oc : okc c = true := by
        have := (Bool.and_eq_true_iff.mp h').2
        simpa using this
      have e44 : c ≠ 44 := fun e => by rw [e, okc_44] at oc; cases oc
      have e33 : c ≠ 33 := fun e => by rw [e, okc_33] at oc; cases oc
      rw [g, decide_eq_true (show globP l ++ [c] ≠ [] by simp), decide_eq_true e44, decide_eq_true e33]; rfl
theorem part_step {acc : List Nat} {c : Nat} (h : part1 acc = true) (hc : c ≠ 44) : part1 (acc ++ [c]) = step (lastOf 44 acc) c := by
  unfold step
  rw [decide_eq_false hc, Bool.false_and, Bool.or_false]
  by_cases hl : acc = []
  · subst hl
    by_cases e33 : c = 33
    · subst e33; decide
    · have g : globP ([] ++ [c]) = [c] := by
        unfold globP
        rw [if_neg (by simp [e33])]; rfl
      unfold part1
      rw [g, decide_eq_false e33, Bool.false_and, Bool.false_or]
      simp
  · unfold part1
    rw [globP_app hl, List.all_append, show (globP acc).all okc = true from h]
    have l44 : lastOf 44 acc ≠ 44 := by
      rcases List.eq_nil_or_concat acc with e | ⟨l, d, e⟩
      · exact absurd e hl
      · rw [List.concat_eq_append] at e
        subst e
        rw [last_app]
        intro e
        subst e
        by_cases hl2 : l = []
        · subst hl2
          revert h; decide +kernel
        · have h' : (globP (l ++ [44])).all okc = true := h
          rw [globP_app hl2, List.all_append] at h'
          have := (Bool.and_eq_true_iff.mp h').2
          simp [okc_44] at this
    rw [decide_eq_false l44, Bool.and_false, Bool.false_or]
    simp
theorem bad_part (l : List Nat) : ∀ acc : List Nat, part1 acc = false → (TL.spl [44] 0 acc l).all goodItem = false := by
  induction l with
  | nil =>
    intro acc h
    rw [TL.spl_nil]
    show (goodItem acc && true) = false
    unfold goodItem
    rw [show (globP acc).all okc = false from h, Bool.and_false]; rfl
  | cons c r ih =>
    intro acc h
    by_cases hc : c = 44
    · subst hc
      rw [TL.spl_hit (show TL.pre [44] (44 :: r) = true by show ([44] == [44]) = true; rfl)]
      show (goodItem acc && _) = false
      unfold goodItem
      rw [show (globP acc).all okc = false from h, Bool.and_false, Bool.false_and]
    · rw [TL.spl_miss (show TL.pre [44] (c :: r) = false by show ([c] == [44]) = false; simp [hc])]
      refine ih _ ?_
      have hl : acc ≠ [] := fun e => by rw [e] at h; revert h; decide
      unfold part1
      rw [globP_app hl, List.all_append, show (globP acc).all okc = false from h, Bool.false_and]
theorem spl_good (l : List Nat) : ∀ acc : List Nat, part1 acc = true → (TL.spl [44] 0 acc l).all goodItem = (runs (lastOf 44 acc) l && (decide (lastOf (lastOf 44 acc) l ≠ 44) && decide (lastOf (lastOf 44 acc) l ≠ 33))) := by
  induction l with
  | nil =>
    intro acc h
    rw [TL.spl_nil]
    show (goodItem acc && true) = _
    rw [Bool.and_true, good_last h]; rfl
  | cons c r ih =>
    intro acc h
    by_cases hc : c = 44
    · subst hc
      rw [TL.spl_hit (show TL.pre [44] (44 :: r) = true by show ([44] == [44]) = true; rfl)]
      show (goodItem acc && (TL.spl [44] 0 [] r).all goodItem) = ((step (lastOf 44 acc) 44 && runs 44 r) && _)
      rw [ih [] (by decide), good_last h]
      have : step (lastOf 44 acc) 44 = (decide (lastOf 44 acc ≠ 44) && decide (lastOf 44 acc ≠ 33)) := by
        unfold step
        rw [okc_44]; simp
      rw [this]
      show (_ && (runs 44 r && (decide (lastOf 44 r ≠ 44) && decide (lastOf 44 r ≠ 33)))) = _
      rw [show lastOf (lastOf 44 acc) (44 :: r) = lastOf 44 r from rfl]
      simp only [Bool.and_assoc]
    · rw [TL.spl_miss (show TL.pre [44] (c :: r) = false by show ([c] == [44]) = false; simp [hc])]
      by_cases hs : step (lastOf 44 acc) c = true
      · rw [ih (acc ++ [c]) (by rw [part_step h hc]; exact hs), last_app]
        show _ = ((step (lastOf 44 acc) c && runs c r) && _)
        rw [hs, Bool.true_and]; rfl
      · have hs' : step (lastOf 44 acc) c = false := Bool.eq_false_iff.mpr hs
        show _ = ((step (lastOf 44 acc) c && runs c r) && _)
        rw [hs', Bool.false_and, Bool.false_and]
        have np : part1 (acc ++ [c]) = false := by rw [part_step h hc]; exact hs'
        exact bad_part r _ np
theorem spl_count (l : List Nat) : ∀ acc : List Nat, (TL.spl [44] 0 acc l).length = l.count 44 + 1 := by
  induction l with
  | nil => intro acc; rw [TL.spl_nil]; rfl
  | cons c r ih =>
    intro acc
    by_cases hc : c = 44
    · subst hc
      rw [TL.spl_hit (show TL.pre [44] (44 :: r) = true by show ([44] == [44]) = true; rfl), List.count_cons_self]
      show (TL.spl [44] 0 [] r).length + 1 = _
      rw [ih]
    · rw [TL.spl_miss (show TL.pre [44] (c :: r) = false by show ([c] == [44]) = false; simp [hc]), ih, List.count_cons_of_ne hc]
/-- a pattern, as the law splits it -/
def isPat (l : List Nat) : Bool := decide (l.length ≤ 60) && (decide ((TL.spl [44] 0 [] l).length ≤ 8) && (TL.spl [44] 0 [] l).all goodItem)
def endOk (a : Nat) : Bool := decide (a ≠ 44) && decide (a ≠ 33)
theorem isPat_eq (l : List Nat) : isPat l = (decide (l.length ≤ 60) && (decide (l.count 44 ≤ 7) && (runs 44 l && endOk (lastOf 44 l)))) := by
  unfold isPat endOk
  rw [spl_good l [] (by decide), spl_count]
  rw [show decide (l.count 44 + 1 ≤ 8) = decide (l.count 44 ≤ 7) by rw [decide_eq_decide]; omega]
  rfl
/-- the beginning of some pattern, as the law asks it -/
def isBeg (l : List Nat) : Bool := isPat l || isPat (l ++ [97])
theorem isBeg_eq (l : List Nat) : isBeg l = (runs 44 l && (decide (l.count 44 ≤ 7) && (decide (l.length ≤ 59) || (decide (l.length ≤ 60) && endOk (lastOf 44 l))))) := by
  unfold isBeg
  rw [isPat_eq, isPat_eq, runs_app, last_app, List.length_append, List.count_append]
  rw [show runs (lastOf 44 l) [97] = true by show (step _ 97 && true) = true; unfold step; rw [show okc 97 = true by decide +kernel]; simp, show endOk 97 = true by decide]
  rw [show List.count 44 [97] = 0 by decide, Nat.add_zero, Bool.and_true, Bool.and_true]
  rw [show decide (l.length + [97].length ≤ 60) = decide (l.length ≤ 59) by rw [decide_eq_decide]; show l.length + 1 ≤ 60 ↔ _; omega]
  cases runs 44 l <;> cases decide (l.count 44 ≤ 7) <;> cases decide (l.length ≤ 59) <;> cases decide (l.length ≤ 60) <;> cases endOk (lastOf 44 l) <;> rfl
/-- a sign behind a, behind k commas, at the place n -/
def may (c a k n : Nat) : Bool := if c = 33 then decide (a = 44) && decide (n < 59) else if c = 44 then (decide (a ≠ 44) && decide (a ≠ 33)) && (decide (k < 7) && decide (n < 59)) else okc c && decide (n < 60)
theorem isBeg_snoc (l : List Nat) (c : Nat) : isBeg (l ++ [c]) = (isBeg l && may c (lastOf 44 l) (l.count 44) l.length) := by
  rw [isBeg_eq, isBeg_eq, runs_app, last_app, List.length_append, List.count_append]
  show ((runs 44 l && (step (lastOf 44 l) c && true)) && (decide (l.count 44 + List.count 44 [c] ≤ 7) && (decide (l.length + 1 ≤ 59) || (decide (l.length + 1 ≤ 60) && endOk c)))) = _
  unfold may step
  by_cases h33 : c = 33
  · subst h33
    rw [if_pos rfl, show List.count 44 [33] = 0 by decide, okc_33, show endOk 33 = false by decide, decide_eq_true (rfl : (33 : Nat) = 33), decide_eq_false (show ¬ (33 : Nat) = 44 by decide)]
    by_cases hn : l.length < 59
    · rw [decide_eq_true (show l.length + 1 ≤ 59 by omega), decide_eq_true (show l.length ≤ 59 by omega), decide_eq_true hn]
      cases runs 44 l <;> cases decide (lastOf 44 l = 44) <;> cases decide (l.count 44 ≤ 7) <;> simp
    · rw [decide_eq_false (show ¬ l.length + 1 ≤ 59 by omega), decide_eq_false hn]
      simp
  · rw [if_neg h33]
    by_cases h44 : c = 44
    · subst h44
      rw [if_pos rfl, show List.count 44 [44] = 1 by decide, okc_44, show endOk 44 = false by decide, decide_eq_true (rfl : (44 : Nat) = 44), decide_eq_false h33]
      rw [show decide (l.count 44 + 1 ≤ 7) = decide (l.count 44 < 7) by rw [decide_eq_decide]; omega]
      by_cases hn : l.length < 59
      · rw [decide_eq_true (show l.length + 1 ≤ 59 by omega), decide_eq_true (show l.length ≤ 59 by omega), decide_eq_true hn]
        by_cases hk : l.count 44 < 7
        · rw [decide_eq_true hk, decide_eq_true (show l.count 44 ≤ 7 by omega)]; simp
        · rw [decide_eq_false hk]; simp
      · rw [decide_eq_false (show ¬ l.length + 1 ≤ 59 by omega), decide_eq_false hn]
        simp
    · rw [if_neg h44, show List.count 44 [c] = 0 by rw [List.count_cons_of_ne h44]; rfl, decide_eq_false h33, decide_eq_false h44, Nat.add_zero]
      have : endOk c = true := by unfold endOk; rw [decide_eq_true h44, decide_eq_true h33]; rfl
      rw [this]
      by_cases hn : l.length < 60
      · rw [decide_eq_true (show l.length + 1 ≤ 60 by omega), decide_eq_true (show l.length ≤ 59 by omega), decide_eq_true hn]
        cases runs 44 l <;> cases okc c <;> cases decide (l.count 44 ≤ 7) <;> simp
      · rw [decide_eq_false (show ¬ l.length + 1 ≤ 59 by omega), decide_eq_false (show ¬ l.length + 1 ≤ 60 by omega), decide_eq_false hn]
        simp
theorem isPat_of_beg {l : List Nat} (h : isBeg l = true) : isPat l = endOk (lastOf 44 l) := by
  rw [isPat_eq]
  rw [isBeg_eq] at h
  simp only [Bool.and_eq_true, Bool.or_eq_true] at h
  obtain ⟨h1, h2, h3⟩ := h
  rw [h1, h2]
  have : l.length ≤ 60 := by rcases h3 with h | h
                             · have := of_decide_eq_true h; omega
                             · exact of_decide_eq_true h.1
  rw [decide_eq_true this]; rfl
theorem eqL {x y : Str} : V.str x = V.str y ↔ tl x = tl y := ⟨fun h => by injection h with h; rw [h], fun h => by rw [tl_ext h]⟩
theorem split_comma (x : Str) : Txt.split x (Str.ofString ",") = (TL.spl [44] 0 [] (tl x)).map S := split_S (a := tl x) (b := [44]) (by decide) (by decide)
def sp_isPat : Sp := fun vs H Q _ => ∃ (x : Str), vs = [.str x] ∧ (tl x).length ≤ 2000 ∧ ∀ H', Same H H' → Q (.bl (isPat (tl x))) H'
def sp_may_stand : Sp := fun vs H Q _ => ∃ (c a k n : Nat), vs = [.str (S [c]), .str (S [a]), .int (k : Int), .int (n : Int)] ∧ Q (.bl (may c a k n)) H
/-- where a text is wrong -/
def wrongAt (l : List Nat) (o : Option Nat) : Prop := match o with
  | some k => (∀ j, j < k → j < l.length → isBeg (l.take (j + 1)) = true) ∧ ((k < l.length ∧ isBeg (l.take (k + 1)) = false) ∨ (k = l.length ∧ isPat l = false))
  | none => (∀ j, j < l.length → isBeg (l.take (j + 1)) = true) ∧ isPat l = true
theorem wrongAt_one {l : List Nat} {o p : Option Nat} (x : wrongAt l o) (y : wrongAt l p) : o = p := by
  have key : ∀ (k m : Nat), wrongAt l (some k) → wrongAt l (some m) → ¬ k < m := fun k m x y h => by
    obtain ⟨_, x2⟩ := x
    obtain ⟨y1, y2⟩ := y
    have ml : m ≤ l.length := by rcases y2 with h | h <;> omega
    rcases x2 with x2 | x2
    · have := y1 k h x2.1
      rw [x2.2] at this; cases this
    · omega
  have mix : ∀ k : Nat, wrongAt l (some k) → wrongAt l none → False := fun k x y => by
    obtain ⟨_, x2⟩ := x
    obtain ⟨y1, y2⟩ := y
    rcases x2 with x2 | x2
    · have := y1 k x2.1
      rw [x2.2] at this; cases this
    · rw [x2.2] at y2; cases y2
  cases o with
  | none => cases p with
    | none => rfl
    | some m => exact (mix m y x).elim
  | some k => cases p with
    | none => exact (mix k x y).elim
    | some m =>
      have h1 := key k m x y
      have h2 := key m k y x
      rw [show k = m by omega]
def optV : Option Nat → V
  | none => .non
  | some k => .int (k : Int)
def sp_wrong_place : Sp := fun vs H Q _ => ∃ (x : Str), vs = [.str x] ∧ (tl x).length ≤ 2000 ∧ ∀ o H', wrongAt (tl x) o → Same H H' → Q (optV o) H'
def sgnI (it : List Nat) : Int := if decide (it.take 1 = [33]) = true then 0 else 1
def itemP (it : List Nat) : List V := [.int (sgnI it), .str (S (globP it))]
def itemD (it : List Nat) : D := .tup [.int (sgnI it), .str (S (globP it))]
def sp_sign_and_glob : Sp := fun vs H Q _ => ∃ (x : Str), vs = [.str x] ∧ (tl x).length ≤ 2000 ∧ ∀ (t : Addr), H t = none → Q (.ref t) (upd H t (.tup (itemP (tl x))))
def dueD (l : List Nat) : Option Nat → D
  | some k => .tup [.str (Str.ofString "bad"), .int (k : Int)]
  | none => .tup [.str (Str.ofString "read"), .tup ((TL.spl [44] 0 [] l).map itemD)]
def sp_due (K : PySem.W.Frag) : Sp := fun vs H Q _ => ∃ (x : Str), vs = [.str x] ∧ (tl x).length ≤ 1000 ∧ ∀ o v H', wrongAt (tl x) o → DV K H' (dueD (tl x) o) v → Same H H' → Q v H'
theorem DVs.items {K : PySem.W.Frag} {H : Hp} : ∀ {its : List (List Nat)} {ts : List Addr}, ts.length = its.length → (∀ (k : Nat) (t : Addr) (it : List Nat), ts[k]? = some t → its[k]? = some it → H t = some (.tup (itemP it))) → DVs K H (its.map itemD) (ts.map V.ref)
  | [], [], _, _ => by unfold DVs; rfl
  | [], _ :: _, h, _ => by simp at h
  | _ :: _, [], h, _ => by simp at h
  | it :: its, t :: ts, h, f => by
    refine ⟨.ref t, ts.map V.ref, rfl, ?_, DVs.items (by simpa using h) fun k t' it' h1 h2 => f (k + 1) t' it' (by simpa using h1) (by simpa using h2)⟩
    exact ⟨t, _, rfl, SqT.of (f 0 t it rfl rfl), _, _, rfl, by unfold DV; rfl, _, _, rfl, by unfold DV; rfl, rfl⟩
def sp_write_pattern (K : PySem.W.Frag) : Sp := fun vs H Q _ => ∃ (a : Addr) (ts : List Addr) (its : List (List Nat)), vs = [.ref a] ∧ SqT K H a (ts.map V.ref) ∧ ts.length = its.length ∧ its.length ≤ 100 ∧ (∀ it ∈ its, it.length ≤ 1000) ∧ (∀ (k : Nat) (t : Addr) (it : List Nat), ts[k]? = some t → its[k]? = some it → SqT K H t (itemP it)) ∧
  ∀ (y : Str) (H' : Hp), tl y = TL.joinL [44] its → Same H H' → Q (.str y) H'
theorem join_spl (l : List Nat) : ∀ acc : List Nat, TL.joinL [44] (TL.spl [44] 0 acc l) = acc ++ l := by
  induction l with
  | nil => intro acc; rw [TL.spl_nil, List.append_nil]; rfl
  | cons c r ih =>
    intro acc
    by_cases hc : c = 44
    · subst hc
      rw [TL.spl_hit (show TL.pre [44] (44 :: r) = true by show ([44] == [44]) = true; rfl)]
      have e := ih []
      have ne : TL.spl [44] 0 [] r ≠ [] := fun h => by
        have := spl_count r []
        rw [h] at this; cases this
      show TL.joinL [44] (acc :: TL.spl [44] 0 [] r) = _
      cases hs : TL.spl [44] 0 [] r with
      | nil => exact absurd hs ne
      | cons y ys =>
        show acc ++ ([44] ++ TL.joinL [44] (y :: ys)) = _
        rw [← hs, e]; rfl
    · rw [TL.spl_miss (show TL.pre [44] (c :: r) = false by show ([c] == [44]) = false; simp [hc]), ih, List.append_assoc]; rfl
theorem DVs.items_inv {K : PySem.W.Frag} {H : Hp} : ∀ {its : List (List Nat)} {vs : List V}, DVs K H (its.map itemD) vs → ∃ ts : List Addr, vs = ts.map V.ref ∧ ts.length = its.length ∧ ∀ (k : Nat) (t : Addr) (it : List Nat), ts[k]? = some t → its[k]? = some it → SqT K H t (itemP it)
  | [], vs, h => by unfold DVs at h; subst h; exact ⟨[], rfl, rfl, fun k t it h1 h2 => by simp at h1⟩
  | it :: its, vs, h => by
    obtain ⟨v, r, rfl, h1, h2⟩ := h
    obtain ⟨ts, rfl, hl, hk⟩ := DVs.items_inv h2
    unfold itemD DV at h1
    obtain ⟨a, xs, rfl, hS, h3⟩ := h1
    obtain ⟨v1, r1, rfl, e1, h4⟩ := h3
    obtain ⟨v2, r2, rfl, e2, h5⟩ := h4
    unfold DV at e1 e2
    unfold DVs at h5
    subst e1 e2 h5
    refine ⟨a :: ts, rfl, by rw [List.length_cons, hl, List.length_cons], fun k t it' g1 g2 => ?_⟩
    cases k with
    | zero =>
      have ea : a = t := Option.some.inj g1
      have ei : it = it' := Option.some.inj g2
      subst ea ei
      exact hS
    | succ k => exact hk k t it' (by simpa using g1) (by simpa using g2)
def sp_read_pattern (K : PySem.W.Frag) (C : Addr) : Sp := fun vs H Q E => ∃ (x : Str), vs = [.str x] ∧ (tl x).length ≤ 1000 ∧
  (∀ (u : Addr) (ts : List Addr) (H1 : Hp), wrongAt (tl x) none → Same H H1 → H1 u = some (.tup (ts.map V.ref)) → ts.length = (TL.spl [44] 0 [] (tl x)).length → (∀ (i : Nat) (t : Addr) (it : List Nat), ts[i]? = some t → (TL.spl [44] 0 [] (tl x))[i]? = some it → H1 t = some (.tup (itemP it))) → Q (.ref u) H1) ∧
  (∀ (k : Nat) (dd : Addr) (H1 : Hp), wrongAt (tl x) (some k) → Same H H1 → H1 dd = some (.xd [("at", .int (k : Int))]) → E (.ref C) (some dd) H1)
end Z
namespace Z
open PySem PySem.Spec PyProof.Rows L2 SX
/-! ### name = text[..]; text = text.replace(name, ''): the token of the name is known -/
theorem nsSet_det {M : Model} {Γ : PySem.Ctx} {E : Value → Pos → Shared → Prop} {p : Pos} {s : Shared} {a : Addr} {m : Str → Option Value} (hn : s.heap.Ns a m) (name : Str) (v : Value) :
    ∃ h', h'.Ns a (fun x => if x = name then some v else m x) ∧ ∀ Q, Sem.wp M Γ (nsSet a name v) Q E p s ↔ Q () p { s with heap := h', toks := s.toks + 1 } := by
  have key : ∃ h', ∀ Q, Sem.wp M Γ (nsSet a name v) Q E p s ↔ Q () p { s with heap := h', toks := s.toks + 1 } := by
    obtain ⟨o, es, ep, ho, hd, hk, hm⟩ := hn
    have hany : es.any (·.refKey) = false := by
      rw [Array.any_eq_false']
      intro e he
      obtain ⟨n, t, h⟩ := hk e he
      simp [DictEntry.refKey, h]
    apply Exists.intro
    intro Q
    simp only [nsSet, strHash, Sem.wp_bind', Sem.wp_cmd_ask, Sem.wp_pure', Sem.wp_cmd_mkText]
    rw [Sem.wp_loadPart_of M Γ E p { s with toks := s.toks + 1 } (o := o) _ ho]
    simp only [hd, aRefKeyMayBeTheName_eq, aRefKeyMayBeTheNameByArray, hany, Bool.and_false, Bool.false_eq_true, if_false, Sem.wp_cmd_updatePart]
    exact ⟨fun h => h.2, fun h => ⟨by rw [ho]; rfl, h⟩⟩
  obtain ⟨h', hq⟩ := key
  refine ⟨h', ?_, hq⟩
  have := (hq _).mp (Sem.wp_nsSet M Γ E p s hn name v (fun _ _ s' => ∃ h2 : Heap, h2.Ns a (fun x => if x = name then some v else m x) ∧ s' = { s with heap := h2, toks := s.toks + 1 }) (fun h2 a1 _ => ⟨h2, a1, rfl⟩))
  obtain ⟨h2, a1, e⟩ := this
  have e2 : h' = h2 := congrArg Shared.heap e
  rw [e2]; exact a1
theorem store_det {M : Model} {A : Around} {E : Value → Shared → Prop} {s : Shared} {env : Env} {name : Str} {m : Str → Option Value} {v : Value} {Q : Unit → Shared → Prop} (hl : env.kindOf name = some .local) (hn : s.heap.Ns env.locals m)
    (hp : (env.scope.kind == .class || (env.scope.kind == .module && env.locals != env.globals)) = false) (h : wpAny M A (storeName env name v) Q E s) :
    wpAny M A (storeName env name v) (fun u s' => Q u s' ∧ s'.heap.Ns env.locals (fun x => if x = name then some v else m x) ∧ s'.toks = s.toks + 1) E s := by
  rw [storeName_local hl hp] at h ⊢
  intro Γ p hΓ
  obtain ⟨h', a1, hq⟩ := nsSet_det (M := M) (Γ := Γ) (E := fun e _ s' => E e s') (p := p) hn name v
  have h1 := (hq _).mp (h Γ p hΓ)
  exact (hq _).mpr ⟨h1, a1, rfl⟩
section
variable {X : Cx}
def tRepS (l o : Nat) (tb : TE) (u : TS) : TS := fun D σ H => ∃ z : Str, σ[l]? = some (some (.str z)) ∧ tb σ H fun y H1 => ∃ (i : Int) (c : Nat), y = .int i ∧ 0 ≤ i ∧ i < 2 ^ 63 ∧ i < z.length ∧ z.cps[i.toNat]? = some c ∧ z.length ≤ 1000000 ∧
  u D ((σ.set o (some (.str ⟨#[c]⟩))).set l (some (.str (Txt.replace z ⟨#[c]⟩ (Str.ofString ""))))) H1
theorem psst_rep {l o j : Nat} {nl no : Str} {eb : Expr} {rest : List Stmt} {tb : TE} {u : TS} {p1 p2 p3 p4 p5 p6 p7 p8 c1 ap pos : Pos} (hN : X.N.Nodup) (hl : X.N[l]? = some nl) (ho : X.N[o]? = some no) (hlo : o ≠ l)
    (kl : X.env.scope.names.lookup nl = some .local) (ko : X.env.scope.names.lookup no = some .local) (hb : PE X eb tb) (hs : PlainIxT eb) (h2 : PSsT X rest u)
    (hs1 : swapsWith (.Subscript (.Name nl p2) eb p3) (some (.Name no p1)) p4.line X.env = pure false := by rfl)
    (hs2 : swapsWith (.Call (.Attribute (.Name nl p6) "replace" ap) [.Name no p7, .Constant (.str (Str.ofString "")) j c1] [] pos) (some (.Name nl p5)) p8.line X.env = pure false := by rfl)
    (hst : starEach [.Name no p7, .Constant (.str (Str.ofString "")) j c1] X.env = [(false, eval (.Name no p7) X.env), (false, eval (.Constant (.str (Str.ofString "")) j c1) X.env)] := by rfl)
    (hbase : attributeBase (.Name nl p6) "replace" X.env (eval (.Name nl p6) X.env) = eval (.Name nl p6) X.env := by rfl) (hline : (ap.endLine == pos.line) = true := by rfl)
    (hd : (nl == ("__debug__" : Str)) = false := by decide) (hc : (nl == ("__classdict__" : Str)) = false := by decide) (hd' : (no == ("__debug__" : Str)) = false := by decide) :
    PSsT X (.Assign [.Name no p1] (.Subscript (.Name nl p2) eb p3) p4 :: .Assign [.Name nl p5] (.Call (.Attribute (.Name nl p6) "replace" ap) [.Name no p7, .Constant (.str (Str.ofString "")) j c1] [] pos) p8 :: rest) (tRepS l o tb u) := by
  intro pins s σ H D h0 I h
  obtain ⟨z, hz, h⟩ := h
  refine wpAny_execs_cons (wpAny_Assign_Name (Subscript_ (raw_name hl (.inl kl) I hz (fun uz rz => ?_) hd hc)) hs1)
  obtain ⟨tz, rfl⟩ := rz
  refine wpAny_mono (PySem.wpAny_toks (hb.run pins s σ H _ I h)) (fun ub s2 q => ?_) (fun _ _ x => x.2)
  obtain ⟨hk, y, H1, I2, ry, i, c, rfl, i0, i63, il, hcc, hzl, q⟩ := q
  obtain ⟨ti, rfl⟩ := ry
  have e := PySem.StrLaws.seqIndex_nonneg i0 il
  have n0 : s2.toks ≠ 0 := by omega
  refine tail_any (typeIs_str s2 z tz) slot_str_getitem.lookup (getItem_str (c := c) (by
    have e1 : decide (i < -(2 ^ 63 : Int)) = false := decide_eq_false (by omega)
    have e2 : decide (i ≥ 2 ^ 63) = false := decide_eq_false (by omega)
    rw [e1, e2] <;> rfl) (by rw [e]; exact hcc) ?_) (hs _ _)
  have I2' := I2.tok (s2.toks + 1)
  obtain ⟨m, hn, _⟩ := id I2'.loc
  have hp : (X.env.scope.kind == .class || (X.env.scope.kind == .module && X.env.locals != X.env.globals)) = false := by rw [I2.ok.kind]; rfl
  have st := store_ok (M := model X.prog X.w) (A := X.A) (E := X.xe) (v := V.str ⟨#[c]⟩) (u := Value.str ⟨#[c]⟩ s2.toks) (Q := fun _ s' => Inv X pins (σ.set o (some (V.str ⟨#[c]⟩))) H1 s') I2' hN ho (.inl ko) ⟨_, rfl⟩ (fun s' I' => I') (.inr ko)
  refine wpAny_mono (store_det ko hn hp st) (fun _ s3 q3 => ?_) (fun _ _ x => x)
  obtain ⟨I3, hn3, ht3⟩ := q3
  have ht3' : s3.toks = s2.toks + 1 + 1 := ht3
  have hz3 : (σ.set o (some (V.str ⟨#[c]⟩)))[l]? = some (some (.str z)) := by rw [List.getElem?_set_ne hlo]; exact hz
  have B : wpAny (model X.prog X.w) X.A (exec (.Assign [.Name nl p5] (.Call (.Attribute (.Name nl p6) "replace" ap) [.Name no p7, .Constant (.str (Str.ofString "")) j c1] [] pos) p8) X.env) (fun f s4 => f = .next ∧ Inv X pins ((σ.set o (some (V.str ⟨#[c]⟩))).set l (some (.str (Txt.replace z ⟨#[c]⟩ (Str.ofString ""))))) H1 s4) X.xe s3 := by
    refine wpAny_Assign_Name (PySem.Call_method2 hbase hst hline (raw_name hl (.inl kl) I3 hz3 (fun uz2 rz2 => ?_) hd hc)) hs2
    obtain ⟨tz2, rfl⟩ := rz2
    refine ⟨"str", _, PySem.F.plainAttrs_str, PySem.F.slot_str_replace, PySem.F.type_str_replace, typeIs_str _ _ _, (fun _ e => nomatch e), Calls.callWith_builtin rfl (Calls.evalArgs_plain (Calls.spliced_cons ?_))⟩
    refine wpAny_Name (wpAny_loadName_local I3.ok.kind ko hn3 (if_pos rfl) ?_) hd'
    refine Calls.spliced_cons (Calls.Constant_str (Calls.spliced_nil ?_))
    have n1 : s3.toks ≠ 0 := by omega
    have n2 : s2.toks ≠ s3.toks := by omega
    refine PySem.SC.replace (u := s2.toks) (v := s3.toks) n0 n1 n2 ?_ ?_ fun t' k => ?_
    · rfl
    · show z.length + (z.length + 1) * 0 ≤ _; omega
    exact store_ok (v := V.str (Txt.replace z ⟨#[c]⟩ (Str.ofString ""))) (u := Value.str (Txt.replace z ⟨#[c]⟩ (Str.ofString "")) t') (I3.tok k) hN hl (.inl kl) ⟨_, rfl⟩ (fun s' I' => ⟨rfl, I'⟩) (.inr kl)
  refine wpAny_execs_cons (wpAny_mono (PySem.wpAny_toks B) (fun f s4 q4 => ?_) (fun _ _ x => x.2))
  obtain ⟨hk4, rfl, I4⟩ := q4
  exact h2 pins s4 _ H1 D (by omega) I4 q
end
end Z
namespace Z
open PySem L2 SX
/-! ### items that are joined, and split again -/
theorem spl_no {it : List Nat} : (44 ∉ it) → ∀ acc : List Nat, TL.spl [44] 0 acc it = [acc ++ it] := by
  induction it with
  | nil => intro _ acc; rw [TL.spl_nil, List.append_nil]
  | cons c r ih =>
    intro h acc
    have hc : c ≠ 44 := fun e => h (by rw [e]; exact List.mem_cons_self)
    rw [TL.spl_miss (show TL.pre [44] (c :: r) = false by show ([c] == [44]) = false; simp [hc]), ih (fun m => h (List.mem_cons_of_mem _ m)), List.append_assoc]; rfl
theorem spl_cut {it m : List Nat} : (44 ∉ it) → ∀ acc : List Nat, TL.spl [44] 0 acc (it ++ 44 :: m) = (acc ++ it) :: TL.spl [44] 0 [] m := by
  induction it with
  | nil =>
    intro _ acc
    rw [List.nil_append, TL.spl_hit (show TL.pre [44] (44 :: m) = true by show ([44] == [44]) = true; rfl), List.append_nil]; rfl
  | cons c r ih =>
    intro h acc
    have hc : c ≠ 44 := fun e => h (by rw [e]; exact List.mem_cons_self)
    show TL.spl [44] 0 acc (c :: (r ++ 44 :: m)) = _
    rw [TL.spl_miss (show TL.pre [44] (c :: (r ++ 44 :: m)) = false by show ([c] == [44]) = false; simp [hc]), ih (fun m => h (List.mem_cons_of_mem _ m)), List.append_assoc]; rfl
theorem spl_join : ∀ {its : List (List Nat)}, its ≠ [] → (∀ it ∈ its, 44 ∉ it) → TL.spl [44] 0 [] (TL.joinL [44] its) = its
  | [], h, _ => absurd rfl h
  | [x], _, h => by
    show TL.spl [44] 0 [] x = [x]
    rw [spl_no (h x (by simp))]; rfl
  | x :: y :: r, _, h => by
    show TL.spl [44] 0 [] (x ++ ([44] ++ TL.joinL [44] (y :: r))) = _
    rw [show x ++ ([44] ++ TL.joinL [44] (y :: r)) = x ++ 44 :: TL.joinL [44] (y :: r) from rfl, spl_cut (h x (by simp)), spl_join (by simp) (fun z m => h z (List.mem_cons_of_mem _ m))]; rfl
/-- a text whose items are right -/
def GP (l : List Nat) : Prop := (TL.spl [44] 0 [] l).all goodItem = true
def okG (l : List Nat) : Prop := l ≠ [] ∧ ∀ c ∈ l, okc c = true
theorem good_no {it : List Nat} (h : goodItem it = true) : 44 ∉ it := fun m => by
  unfold goodItem at h
  have h2 := List.all_eq_true.mp (Bool.and_eq_true_iff.mp h).2
  unfold globP at h2
  by_cases e : it.take 1 = [33]
  · rw [if_pos (decide_eq_true e)] at h2
    cases it with
    | nil => cases m
    | cons c r =>
      have : c = 33 := by simpa using e
      subst this
      rcases List.mem_cons.mp m with q | q
      · cases q
      · have := h2 44 q; rw [okc_44] at this; cases this
  · rw [if_neg (fun q => e (of_decide_eq_true q))] at h2
    have := h2 44 m; rw [okc_44] at this; cases this
theorem okG.no33 {g : List Nat} (h : okG g) : ¬ g.take 1 = [33] := fun e => by
  cases g with
  | nil => exact h.1 rfl
  | cons c r =>
    have : c = 33 := by simpa using e
    subst this
    have := h.2 33 (by simp); rw [okc_33] at this; cases this
theorem good_glob {g : List Nat} (h : okG g) : goodItem g = true ∧ goodItem (33 :: g) = true := by
  have ha : g.all okc = true := List.all_eq_true.mpr h.2
  constructor
  · unfold goodItem globP
    rw [if_neg (fun q => h.no33 (of_decide_eq_true q)), ha, decide_eq_true h.1]; rfl
  · have e : globP (33 :: g) = g := by unfold globP; rw [if_pos (decide_eq_true (by simp))]; rfl
    unfold goodItem
    rw [e, ha, decide_eq_true h.1]; rfl
theorem GP.join {its : List (List Nat)} (ne : its ≠ []) (h : ∀ it ∈ its, goodItem it = true) : GP (TL.joinL [44] its) := by
  unfold GP
  rw [spl_join ne fun it m => good_no (h it m)]
  exact List.all_eq_true.mpr h
theorem lastOf_app (m : List Nat) : ∀ (l : List Nat) (a : Nat), lastOf a (l ++ m) = lastOf (lastOf a l) m
  | [], _ => rfl
  | c :: r, _ => lastOf_app m r c
theorem runs_ok {m : List Nat} : ∀ a : Nat, (∀ c ∈ m, okc c = true) → runs a m = true := by
  induction m with
  | nil => intro a _; rfl
  | cons c r ih =>
    intro a h
    show (step a c && runs c r) = true
    rw [ih c (fun d hd => h d (List.mem_cons_of_mem _ hd))]
    unfold step
    rw [h c (by simp)]; simp
theorem last_ok {m : List Nat} : ∀ a : Nat, (∀ c ∈ m, okc c = true) → m ≠ [] → endOk (lastOf a m) = true := by
  induction m with
  | nil => intro a _ h; exact absurd rfl h
  | cons c r ih =>
    intro a h _
    show endOk (lastOf c r) = true
    by_cases e : r = []
    · subst e
      show endOk c = true
      have hc := h c (by simp)
      unfold endOk
      rw [decide_eq_true (show c ≠ 44 from fun e => by rw [e, okc_44] at hc; cases hc), decide_eq_true (show c ≠ 33 from fun e => by rw [e, okc_33] at hc; cases hc)]; rfl
    · exact ih c (fun d hd => h d (List.mem_cons_of_mem _ hd)) e
theorem GP_iff {l : List Nat} : GP l ↔ (runs 44 l && endOk (lastOf 44 l)) = true := by
  unfold GP
  rw [spl_good l [] (by decide)]; rfl
theorem GP.app {l m : List Nat} (h : GP l) (hm : ∀ c ∈ m, okc c = true) : GP (l ++ m) := by
  by_cases e : m = []
  · subst e; rw [List.append_nil]; exact h
  rw [GP_iff] at h ⊢
  obtain ⟨h1, h2⟩ := Bool.and_eq_true_iff.mp h
  rw [runs_app, lastOf_app, h1, runs_ok _ hm, last_ok _ hm e]; rfl
/-- the other sign -/
def turnI (it : List Nat) : List Nat := if isBar it = true then it.drop 1 else 33 :: it
def oppI (l : List Nat) : List (List Nat) := [42] :: (parts l).map turnI
def oppL (l : List Nat) : List Nat := TL.joinL [44] (oppI l)
theorem globOf_nb {x : List Nat} (h : isBar x = false) : globOf x = x := by unfold globOf; rw [if_neg (by rw [h]; exact Bool.false_ne_true)]
theorem turn_good {it : List Nat} (h : goodItem it = true) : goodItem (turnI it) = true ∧ globOf (turnI it) = globOf it ∧ isBar (turnI it) = !isBar it := by
  have hg : okG (globOf it) := by
    unfold goodItem at h
    obtain ⟨h1, h2⟩ := Bool.and_eq_true_iff.mp h
    exact ⟨of_decide_eq_true h1, List.all_eq_true.mp h2⟩
  unfold turnI
  by_cases e : isBar it = true
  · have eg : globOf it = it.drop 1 := by unfold globOf; rw [if_pos e]
    rw [if_pos e, ← eg]
    have nb : isBar (globOf it) = false := by unfold isBar; exact decide_eq_false hg.no33
    exact ⟨(good_glob hg).1, globOf_nb nb, by rw [nb, e]; rfl⟩
  · have e' : isBar it = false := by simpa using e
    have eg : globOf it = it := by unfold globOf; rw [if_neg e]
    rw [if_neg e]
    have hb : isBar (33 :: it) = true := by unfold isBar; exact decide_eq_true (by simp)
    rw [eg] at hg
    refine ⟨(good_glob hg).2, ?_, by rw [hb, e']; rfl⟩
    rw [eg]; unfold globOf; rw [if_pos hb]; rfl
theorem GP.good {l it : List Nat} (h : GP l) (m : it ∈ parts l) : goodItem it = true := List.all_eq_true.mp h it m
theorem opp_good {l : List Nat} (h : GP l) : ∀ it ∈ oppI l, goodItem it = true := fun it m => by
  rcases List.mem_cons.mp m with e | m
  · subst e; decide +kernel
  · obtain ⟨x, hx, rfl⟩ := List.mem_map.mp m
    exact (turn_good (h.good hx)).1
theorem opp_parts {l : List Nat} (h : GP l) : parts (oppL l) = oppI l := spl_join (by unfold oppI; simp) fun it m => good_no (opp_good h it m)
theorem isPat_opp {l : List Nat} (h : GP l) : isPat (oppL l) = (decide ((oppL l).length ≤ 60) && decide ((parts l).length ≤ 7)) := by
  unfold isPat
  have e : TL.spl [44] 0 [] (oppL l) = oppI l := opp_parts h
  rw [e, List.all_eq_true.mpr (opp_good h), Bool.and_true]
  rw [show decide ((oppI l).length ≤ 8) = decide ((parts l).length ≤ 7) by
    rw [decide_eq_decide]; unfold oppI; rw [List.length_cons, List.length_map]; omega]
theorem fit_star (b : List Nat) : fit [42] b := by
  have key : ∀ (b : List Nat) (M : Nat → Prop), M 1 → (b.foldl (fun M c => nxt [42] M c) M) 1 := by
    intro b
    induction b with
    | nil => intro M h; exact h
    | cons c r ih => intro M h; exact ih _ (.inl ⟨rfl, .inr h⟩)
  exact key b _ ⟨rfl, True.intro⟩
open Classical in
theorem lets_opp {l b : List Nat} (h : GP l) : letsL (oppI l) b = !letsL (parts l) b := by
  have key : ∀ (its : List (List Nat)) (v : Bool), (∀ it ∈ its, goodItem it = true) →
      (its.map turnI).foldl (fun ans it => if fit (globOf it) b then !isBar it else ans) (!v) = !(its.foldl (fun ans it => if fit (globOf it) b then !isBar it else ans) v) := by
    intro its
    induction its with
    | nil => intro v _; rfl
    | cons x r ih =>
      intro v hg
      obtain ⟨_, t2, t3⟩ := turn_good (hg x (by simp))
      rw [List.map_cons, List.foldl_cons, List.foldl_cons, t2, t3, ← ih _ (fun y hy => hg y (List.mem_cons_of_mem _ hy))]
      congr 1
      by_cases hf : fit (globOf x) b
      · rw [if_pos hf, if_pos hf]
      · rw [if_neg hf, if_neg hf]
  have := key (parts l) false fun it m => h.good m
  unfold letsL
  unfold oppI
  rw [List.foldl_cons]
  have g42 : globOf [42] = [42] := by decide +kernel
  rw [g42, if_pos (fit_star b), show (!isBar [42]) = !false by decide +kernel]
  exact this
theorem isBeg_take {l : List Nat} (h : isBeg l = true) (k : Nat) : isBeg (l.take k) = true := by
  have key : ∀ (m : Nat), m ≤ l.length → isBeg (l.take (l.length - m)) = true := by
    intro m
    induction m with
    | zero => intro _; rw [Nat.sub_zero, List.take_length]; exact h
    | succ m ih =>
      intro hm
      have h1 := ih (by omega)
      have e : l.length - m = l.length - (m + 1) + 1 := by omega
      have hi : l.length - (m + 1) < l.length := by omega
      rw [e, List.take_add_one, List.getElem?_eq_getElem hi] at h1
      have h2 : isBeg (l.take (l.length - (m + 1)) ++ [l[l.length - (m + 1)]]) = true := h1
      rw [isBeg_snoc] at h2
      exact (Bool.and_eq_true_iff.mp h2).1
  by_cases hk : k ≤ l.length
  · have := key (l.length - k) (by omega)
    rw [show l.length - (l.length - k) = k by omega] at this; exact this
  · rw [List.take_of_length_le (by omega)]; exact h
theorem pat_wrong {l : List Nat} {o : Option Nat} (w : wrongAt l o) : decide (optV o = V.non) = isPat l := by
  cases o with
  | none => rw [w.2]; rfl
  | some k =>
    cases e : isPat l with
    | false => exact decide_eq_false (fun h => by cases h)
    | true =>
      have hb : isBeg l = true := by unfold isBeg; rw [e]; rfl
      have := wrongAt_one w (p := none) ⟨fun j _ => isBeg_take hb _, e⟩
      cases this
def sp_is_pattern : Sp := fun vs H Q _ => ∃ (x : Str), vs = [.str x] ∧ (tl x).length ≤ 2000 ∧ ∀ H', Same H H' → Q (.bl (isPat (tl x))) H'
def oppD (l : List Nat) : D := if isPat (oppL l) = true then .tup [.str (Str.ofString "told"), .str (S (oppL l))] else .tup [.str (Str.ofString "large"), .str (Str.ofString "pattern")]
def sp_opp (K : PySem.W.Frag) : Sp := fun vs H Q _ => ∃ (x : Str), vs = [.str x] ∧ (tl x).length ≤ 200 ∧ GP (tl x) ∧ ∀ v H', DV K H' (oppD (tl x)) v → Same H H' → Q v H'
def sp_opposite (K : PySem.W.Frag) (C : Addr) : Sp := fun vs H Q E => ∃ (x : Str), vs = [.str x] ∧ (tl x).length ≤ 200 ∧ GP (tl x) ∧ (isPat (oppL (tl x)) = true → ∀ H', Same H H' → Q (.str (S (oppL (tl x)))) H') ∧
  (isPat (oppL (tl x)) = false → ∀ (dd : Addr) (H1 : Hp), Same H H1 → H1 dd = some (.xd [("part", .str (Str.ofString "pattern"))]) → E (.ref C) (some dd) H1)
def sp_write_patternL (K : PySem.W.Frag) : Sp := fun vs H Q _ => ∃ (a : Addr) (ts : List Addr) (its : List (List Nat)), vs = [.ref a] ∧ SqL K H a (ts.map V.ref) ∧ ts.length = its.length ∧ its.length ≤ 1000 ∧ (∀ it ∈ its, it.length ≤ 1000) ∧ (∀ (k : Nat) (t : Addr) (it : List Nat), ts[k]? = some t → its[k]? = some it → SqT K H t (itemP it)) ∧
  ∀ (y : Str) (H' : Hp), tl y = TL.joinL [44] its → Same H H' → Q (.str y) H'
def sp_sight (K : PySem.W.Frag) : Sp := fun vs H Q _ => ∃ (a b : Addr) (ps bs : List Str), vs = [.ref a, .ref b] ∧ SqT K H a (ps.map V.str) ∧ SqT K H b (bs.map V.str) ∧ (∀ p ∈ ps, (tl p).length ≤ 3000) ∧ ps.length ≤ 1000 ∧ bs.length ≤ 1000 ∧ (∀ b ∈ bs, Clean (tl b)) ∧
  ∀ (t : Addr) (H' : Hp), Same H H' → SqT K H' t ((ps.map fun p => if (bs.any fun b => letsL (parts (tl p)) (tl b)) = true then (1 : Int) else 0).map V.int) → Q (.ref t) H'
def sp_lets_someL (K : PySem.W.Frag) : Sp := fun vs H Q _ => ∃ (p : Str) (a : Addr) (bs : List Str), vs = [.str p, .ref a] ∧ SqL K H a (bs.map V.str) ∧ (tl p).length ≤ 3000 ∧ bs.length ≤ 1000 ∧ (∀ b ∈ bs, Clean (tl b)) ∧ ∀ H', Same H H' → Q (.bl (bs.any fun b => letsL (parts (tl p)) (tl b))) H'
def sp_pattern_right (K : PySem.W.Frag) : Sp := fun vs H Q _ => ∃ (p : Str) (a : Addr) (bs : List Str), vs = [.str p, .ref a] ∧ SqL K H a (bs.map V.str) ∧ (tl p).length ≤ 200 ∧ GP (tl p) ∧ bs.length ≤ 1000 ∧ (∀ b ∈ bs, Clean (tl b)) ∧ ∀ H', Same H H' → Q (.bl true) H'
/-! ### signs, boards, globs, patterns, as they are drawn -/
abbrev sgs (cs : List Nat) : List V := cs.map fun c => V.str (S [c])
def No42 (l : List Nat) : Prop := ∀ c ∈ l, c ≠ 42
theorem No42.app {a b : List Nat} (x : No42 a) (y : No42 b) : No42 (a ++ b) := fun c h => (List.mem_append.mp h).elim (x c) (y c)
def Sgns (cs : List Nat) : Prop := cs.length = 4 ∧ ∀ c ∈ cs, (97 ≤ c ∧ c ≤ 122) ∨ (48 ≤ c ∧ c ≤ 57)
theorem okc_low {c : Nat} (h : (97 ≤ c ∧ c ≤ 122) ∨ (48 ≤ c ∧ c ≤ 57)) : okc c = true := by
  have e : tl (Str.ofString "abcdefghijklmnopqrstuvwxyz0123456789.*?") = List.range' 97 26 ++ List.range' 48 10 ++ [46, 42, 63] := by decide +kernel
  unfold okc
  rw [e]
  refine decide_eq_true (List.mem_append_left _ (List.mem_append.mpr ?_))
  rw [List.mem_range'_1, List.mem_range'_1]
  omega
def Wds (us : List Str) : Prop := us ≠ [] ∧ us.length ≤ 9 ∧ ∀ x ∈ us, Nm (tl x) ∧ (tl x).length ≤ 8
/-- tuples stay -/
def TK (K : PySem.W.Frag) (H H' : Hp) : Prop := ∀ a xs, SqT K H a xs → SqT K H' a xs
theorem TK.same {K : PySem.W.Frag} {H H' : Hp} (h : Same H H') : TK K H H' := fun _ _ q => h.tup q
theorem TK.ext {K : PySem.W.Frag} {H H' : Hp} {s a : Addr} {c : Nat} (h : Ext s H H') (S : Src H s a c) : TK K H H' := fun _ _ q => h.seqT S.lst.choose_spec q
theorem TK.trans {K : PySem.W.Frag} {H H1 H2 : Hp} (x : TK K H H1) (y : TK K H1 H2) : TK K H H2 := fun a xs q => y a xs (x a xs q)
/-- signs of boards -/
def Bdc (l : List Nat) : Prop := ∀ c ∈ l, (97 ≤ c ∧ c ≤ 122) ∨ (48 ≤ c ∧ c ≤ 57) ∨ c = 46
theorem Low.bdc {l : List Nat} (h : Low l) : Bdc l := fun c m => (h c m).elim .inl fun q => .inr (.inl q)
theorem Bdc.clean {l : List Nat} (h : Bdc l) : Clean l := fun c m => by have := h c m; omega
theorem Bdc.okc {l : List Nat} (h : Bdc l) : ∀ c ∈ l, okc c = true := fun c m => by
  rcases h c m with q | q | q
  · exact okc_low (.inl q)
  · exact okc_low (.inr q)
  · subst q; decide +kernel
theorem Low.okc {l : List Nat} (h : Low l) : ∀ c ∈ l, Z.okc c = true := h.bdc.okc
theorem Nm.ne {l : List Nat} (h : Nm l) : l ≠ [] := fun e => by obtain ⟨⟨c, r, e2, _⟩, _⟩ := h; rw [e] at e2; cases e2
theorem joinL_mem {s : List Nat} : ∀ {ls : List (List Nat)} {c : Nat}, c ∈ TL.joinL s ls → c ∈ s ∨ ∃ l ∈ ls, c ∈ l
  | [], c, h => by cases h
  | [x], c, h => .inr ⟨x, by simp, h⟩
  | x :: y :: r, c, h => by
    have h' : c ∈ x ++ (s ++ TL.joinL s (y :: r)) := h
    rcases List.mem_append.mp h' with q | q
    · exact .inr ⟨x, by simp, q⟩
    · rcases List.mem_append.mp q with q | q
      · exact .inl q
      · rcases joinL_mem q with q | ⟨l, m, q⟩
        · exact .inl q
        · exact .inr ⟨l, List.mem_cons_of_mem _ m, q⟩
theorem joinL_ne {s : List Nat} {ls : List (List Nat)} (h : ls ≠ []) (hx : ∀ l ∈ ls, l ≠ []) : TL.joinL s ls ≠ [] := fun e => by
  match ls, h with
  | [x], _ => exact hx x (by simp) e
  | x :: y :: r, _ =>
    have e' : x ++ (s ++ TL.joinL s (y :: r)) = [] := e
    exact hx x (by simp) (List.append_eq_nil_iff.mp e').1
def sp8__law_new_name (K : PySem.W.Frag) : Sp := fun vs H Q _ => ∃ (s a u : Addr) (us : List Str) (c : Nat), vs = [.ref s, .ref u] ∧ SqL K H u (us.map V.str) ∧ u ≠ s ∧ us.length ≤ 9 ∧ Src H s a (c + 8) ∧
  ∀ (x : Str) (H' : Hp), Nm (tl x) → (tl x).length ≤ 8 → Ext s H H' → Src H' s a c → Q (.str x) H'
def sp8__law_names (K : PySem.W.Frag) : Sp := fun vs H Q _ => ∃ (s a : Addr) (m c : Nat), vs = [.ref s, .int m] ∧ m ≤ 9 ∧ Src H s a (c + 8 * m) ∧
  ∀ (u : Addr) (us : List Str) (H' : Hp), H u = none → H' u = some (.lst (us.map V.str)) → us.length = m → (∀ x ∈ us, Nm (tl x) ∧ (tl x).length ≤ 8) → Ext s H H' → Src H' s a c → Q (.ref u) H'
def sp2__law_words (K : PySem.W.Frag) : Sp := fun vs H Q _ => ∃ (s a : Addr) (c : Nat), vs = [.ref s] ∧ Src H s a (c + 100) ∧
  ∀ (u : Addr) (us : List Str) (H' : Hp), H u = none → H' u = some (.lst (us.map V.str)) → Wds us → Ext s H H' → Src H' s a c → Q (.ref u) H'
def sp2__law_board (K : PySem.W.Frag) : Sp := fun vs H Q _ => ∃ (s a u : Addr) (us : List Str) (c : Nat), vs = [.ref s, .ref u] ∧ SqL K H u (us.map V.str) ∧ u ≠ s ∧ Wds us ∧ Src H s a (c + 10) ∧
  ∀ (x : Str) (H' : Hp), Bdc (tl x) → tl x ≠ [] → (tl x).length ≤ 30 → Ext s H H' → Src H' s a c → Q (.str x) H'
def sp2__law_boards (K : PySem.W.Frag) : Sp := fun vs H Q _ => ∃ (s a u : Addr) (us : List Str) (m : Int) (c : Nat), vs = [.ref s, .ref u, .int m] ∧ SqL K H u (us.map V.str) ∧ u ≠ s ∧ Wds us ∧ 0 < m ∧ m ≤ 10 ∧ Src H s a (c + 200) ∧
  ∀ (t : Addr) (bs : List Str) (H' : Hp), H' t = some (.tup (bs.map V.str)) → bs.length ≤ 10 → (∀ x ∈ bs, Bdc (tl x) ∧ (tl x).length ≤ 30) → Ext s H H' → Src H' s a c → Q (.ref t) H'
def sp2__law_glob (K : PySem.W.Frag) : Sp := fun vs H Q _ => ∃ (s a u : Addr) (us : List Str) (c : Nat), vs = [.ref s, .ref u] ∧ SqL K H u (us.map V.str) ∧ u ≠ s ∧ Wds us ∧ Src H s a (c + 20) ∧
  ∀ (x : Str) (H' : Hp), okG (tl x) → (tl x).length ≤ 40 → Ext s H H' → Src H' s a c → Q (.str x) H'
def sp2__law_pattern (K : PySem.W.Frag) : Sp := fun vs H Q _ => ∃ (s a u : Addr) (us : List Str) (c : Nat), vs = [.ref s, .ref u] ∧ SqL K H u (us.map V.str) ∧ u ≠ s ∧ Wds us ∧ Src H s a (c + 200) ∧
  ∀ (x : Str) (H' : Hp), GP (tl x) → (tl x).length ≤ 130 → Ext s H H' → Src H' s a c → Q (.str x) H'
def sp__law_shuffled (K : PySem.W.Frag) : Sp := fun vs H Q _ => ∃ (s a r : Addr) (xs : List V) (c : Nat), vs = [.ref s, .ref r] ∧ SqL K H r xs ∧ r ≠ s ∧ xs.length ≤ 1000 ∧ Src H s a (c + xs.length) ∧
  ∀ (d : Addr) (ys : List V) (H' : Hp), H d = none → H' d = some (.lst ys) → ys.length = xs.length → (∀ y ∈ ys, y ∈ xs) → Ext s H H' → Src H' s a c → Q (.ref d) H'
def sp2__law_signs : Sp := fun vs H Q _ => ∃ (s a : Addr) (c : Nat), vs = [.ref s] ∧ Src H s a (c + 10) ∧
  ∀ (u : Addr) (cs : List Nat) (H' : Hp), H u = none → H' u = some (.lst (sgs cs)) → Sgns cs → Ext s H H' → Src H' s a c → Q (.ref u) H'
def sp2__law_free_glob (K : PySem.W.Frag) : Sp := fun vs H Q _ => ∃ (s a u : Addr) (cs : List Nat) (m : Int) (c : Nat), vs = [.ref s, .ref u, .int m] ∧ SqL K H u (sgs cs) ∧ u ≠ s ∧ Sgns cs ∧ 0 < m ∧ m ≤ 60 ∧ Src H s a (c + 100) ∧
  ∀ (g : Str) (H' : Hp), okG (tl g) → ((tl g).length : Int) ≤ m → Ext s H H' → Src H' s a c → Q (.str g) H'
def sp__law_put : Sp := fun vs H Q _ => ∃ (t : Str) (c : Nat), vs = [.str t, .str (S [c])] ∧ c ≠ 42 ∧ No42 (tl t) ∧ (tl t).length ≤ 9000 ∧ ∀ (y : Str) (H' : Hp), Same H H' → No42 (tl y) → (tl y).length ≤ (tl t).length + 1 → Q (.str y) H'
def sp__law_drawn (K : PySem.W.Frag) : Sp := fun vs H Q _ => ∃ (s a u w : Addr) (cs : List Nat) (us : List Str) (c : Nat), vs = [.ref s, .ref u, .ref w] ∧ SqL K H u (sgs cs) ∧ u ≠ s ∧ Sgns cs ∧ SqL K H w (us.map V.str) ∧ w ≠ s ∧ Wds us ∧ Src H s a (c + 2000) ∧
  ∀ (x : Str) (H' : Hp), GP (tl x) → (tl x).length ≤ 200 → Ext s H H' → Src H' s a c → Q (.str x) H'
def sp__law_board_for (K : PySem.W.Frag) : Sp := fun vs H Q _ => ∃ (s a u : Addr) (p : Str) (cs : List Nat) (c : Nat), vs = [.ref s, .str p, .ref u] ∧ (tl p).length ≤ 200 ∧ H u = some (.lst (sgs cs)) ∧ u ≠ s ∧ Sgns cs ∧ Src H s a (c + 2000) ∧
  ∀ (y : Str) (H' : Hp), No42 (tl y) → (tl y).length ≤ 500 → Ext s H H' → Src H' s a c → Q (.str y) H'
theorem strike_len (c : Nat) : ∀ {l : List Nat}, l.Nodup → l.length ≤ (l.filter (· != c)).length + 1
  | [], _ => by simp
  | x :: r, h => by
    have hh := List.nodup_cons.mp h
    by_cases e : x = c
    · subst e
      have : r.filter (· != x) = r := List.filter_eq_self.mpr fun y hy => by
        have : y ≠ x := fun e => hh.1 (e ▸ hy)
        simp [this]
      rw [List.filter_cons_of_neg (by simp), this, List.length_cons]; exact Nat.le_refl _
    · rw [List.filter_cons_of_pos (by simp [e]), List.length_cons, List.length_cons]
      have := strike_len c hh.2
      omega
theorem tl_strike (z : Str) (c : Nat) : tl (Txt.replace z ⟨#[c]⟩ (Str.ofString "")) = (tl z).filter (· != c) := PyProof.Rows.replace_strikes z c
theorem cut_mem (x : Str) (i j : Option Int) : ∀ c ∈ tl (cutS x i j), c ∈ tl x := fun c h => by
  have h' : c ∈ (List.drop _ (tl x)).take _ := h
  exact List.mem_of_mem_drop (List.mem_of_mem_take h')
/-- what is stripped at the end is a piece -/
theorem rstrip_sub (x y : Str) : (∀ c ∈ tl (Txt.rstripChars x y), c ∈ tl x) ∧ (tl (Txt.rstripChars x y)).length ≤ (tl x).length := by
  have e : ∃ i j, tl (Txt.rstripChars x y) = ((tl x).drop i).take (j - i) := by
    have h := PyProof.Rows.stripBy_eq y.cps.contains false true x
    apply Exists.intro; apply Exists.intro
    refine (congrArg tl h).trans ?_
    show (x.cps.extract _ _).toList = _
    rw [Array.toList_extract]
  obtain ⟨i, j, e⟩ := e
  rw [e]
  exact ⟨fun c m => List.mem_of_mem_drop (List.mem_of_mem_take m), by rw [List.length_take, List.length_drop]; omega⟩
/-- a walk over the signs of a text behind a token -/
theorem pit_str {X : Cx} {tg e : Expr} {te : TE} (he : PET X e te) : PIT X tg e (iStr te) := by
  intro pins s σ H R h0 I h
  refine thn (he pins s σ H _ h0 I h) fun v s1 hh => ?_
  obtain ⟨y, H1, I1, r1, x, rfl, q⟩ := hh
  obtain ⟨t, rfl⟩ := r1
  have J := fun (ty : String) (hty : ty = "str_ascii_iterator" ∨ ty = "str_iterator") => pi_one (tk := s1.toks) I1 (tg := tg) (R := R) ⟨.type ty, none, .fields #[.str x t, .int 0 0], #[]⟩ (turn_str _ x t ty hty) ⟨_, Heap.get?_push_size _ rfl, rfl, rfl⟩ q
  by_cases ha : x.cps.all (· < 128) = true
  · exact wpAny_pyIter_ascii ha (J _ (.inl rfl))
  · exact wpAny_pyIter_wide (by simpa using ha) (J _ (.inr rfl))
theorem strs_of {ws : List V} {bs : List Str} (h : ∀ y ∈ ws, y ∈ bs.map V.str) : ∃ cs : List Str, ws = cs.map V.str ∧ ∀ c ∈ cs, c ∈ bs := by
  induction ws with
  | nil => exact ⟨[], rfl, fun _ h => by cases h⟩
  | cons w ws ih =>
    obtain ⟨cs, e, k⟩ := ih fun y hy => h y (List.mem_cons_of_mem _ hy)
    obtain ⟨b, hb, rfl⟩ := List.mem_map.mp (h w (by simp))
    exact ⟨b :: cs, by rw [e]; rfl, fun c hc => by
      rcases List.mem_cons.mp hc with e | hc
      · rw [e]; exact hb
      · exact k c hc⟩
theorem joinL_sum : ∀ {ls : List (List Nat)}, ls ≠ [] → (TL.joinL [44] ls).length + 1 = (ls.map fun it => it.length + 1).sum
  | [], h => absurd rfl h
  | [x], _ => by show x.length + 1 = _; simp
  | x :: y :: r, _ => by
    have ih := joinL_sum (ls := y :: r) (by simp)
    show (x ++ ([44] ++ TL.joinL [44] (y :: r))).length + 1 = _
    rw [List.map_cons, List.sum_cons, ← ih, List.length_append, List.length_append]
    show x.length + (1 + _) + 1 = _
    omega
theorem turn_len (it : List Nat) : (turnI it).length ≤ it.length + 1 := by
  unfold turnI
  split
  · rw [List.length_drop]; omega
  · exact Nat.le_refl _
theorem turn_sum : ∀ ls : List (List Nat), ((ls.map turnI).map fun it => it.length + 1).sum ≤ (ls.map fun it => it.length + 1).sum + ls.length
  | [] => Nat.le_refl _
  | x :: r => by
    have := turn_sum r
    have := turn_len x
    rw [List.map_cons, List.map_cons, List.map_cons, List.sum_cons, List.sum_cons, List.length_cons]
    omega
theorem opp_len (l : List Nat) : (oppL l).length ≤ 2 * l.length + 3 := by
  have h1 := joinL_sum (ls := oppI l) (by unfold oppI; simp)
  have h2 := turn_sum (parts l)
  have h3 := parts_num l
  have ne : parts l ≠ [] := fun h => by
    have := spl_count l []
    have h' : TL.spl [44] 0 [] l = [] := h
    rw [h'] at this; cases this
  have h4 := joinL_sum ne
  have e : TL.joinL [44] (parts l) = l := join_spl l []
  rw [e] at h4
  have h5 : ((oppI l).map fun it => it.length + 1).sum = 2 + (((parts l).map turnI).map fun it => it.length + 1).sum := by
    unfold oppI; rw [List.map_cons, List.sum_cons]; rfl
  have h6 : (oppL l).length = (TL.joinL [44] (oppI l)).length := rfl
  omega
theorem joinL_snoc {y : List Nat} : ∀ {ls : List (List Nat)}, ls ≠ [] → TL.joinL [44] (ls ++ [y]) = TL.joinL [44] ls ++ 44 :: y
  | [], h => absurd rfl h
  | [x], _ => rfl
  | x :: z :: r, _ => by
    have ih := joinL_snoc (y := y) (ls := z :: r) (by simp)
    show x ++ ([44] ++ TL.joinL [44] (z :: r ++ [y])) = (x ++ ([44] ++ TL.joinL [44] (z :: r))) ++ 44 :: y
    rw [ih]; simp
theorem DL_opp (l : List Nat) : DL 3 (oppD l) := by
  unfold oppD
  split
  · refine ⟨by show 2 ≤ _; decide, fun x hx => ?_⟩
    rcases List.mem_cons.mp hx with e | hx
    · subst e; exact True.intro
    · rw [List.mem_singleton.mp hx]; exact True.intro
  · refine ⟨by show 2 ≤ _; decide, fun x hx => ?_⟩
    rcases List.mem_cons.mp hx with e | hx
    · subst e; exact True.intro
    · rw [List.mem_singleton.mp hx]; exact True.intro
theorem DV_pair {K : PySem.W.Frag} {H : Hp} {t : Addr} {x y : Str} (h : SqT K H t [V.str x, V.str y]) : DV K H (.tup [.str x, .str y]) (.ref t) :=
  ⟨t, _, rfl, h, _, _, rfl, by unfold DV; rfl, _, _, rfl, by unfold DV; rfl, rfl⟩
theorem DV_pair_inv {K : PySem.W.Frag} {H : Hp} {v : V} {x y : Str} (h : DV K H (.tup [.str x, .str y]) v) : ∃ t, v = .ref t ∧ SqT K H t [V.str x, V.str y] := by
  obtain ⟨t, vs, rfl, hS, h3⟩ := h
  obtain ⟨u1, r1, rfl, e1, h4⟩ := h3
  obtain ⟨u2, r2, rfl, e2, h5⟩ := h4
  unfold DV at e1 e2
  unfold DVs at h5
  subst e1 e2 h5
  exact ⟨t, rfl, hS⟩
end Z
namespace Z
open PySem PySem.W PySem.Calls PyProof.Rows L2
/-! ### sorted(tuples of texts and numbers), min and max of two texts -/
/-- a text where the shape says so, elsewhere a number -/
def Shp (shape : Nat → Bool) : Nat → List V → Prop
  | _, [] => True
  | i, .int _ :: r => shape i = false ∧ Shp shape (i + 1) r
  | i, .str _ :: r => shape i = true ∧ Shp shape (i + 1) r
  | _, _ :: _ => False
/-- what the sort asks of a tuple in the heap -/
def TupAt (h : Heap) (shape : Nat → Bool) (v : Value) : Prop := ∃ (a : Addr) (o : Obj) (us : List Value) (n : Nat) (as : List (Int ⊕ List Nat)), v = .ref a ∧ h.get? a = some o ∧ o.cls = .type "tuple" ∧ o.data = .seq us.toArray n ∧ tupItems shape 0 us = some as ∧
  ∃ f, us[0]? = some f ∧ (shape 0 = false → ∃ k t, f = .int k t) ∧ (shape 0 = true → ∃ x t, f = .str x t)
theorem TupAt.keep {h h' : Heap} {shape : Nat → Bool} {v : Value} (p : TupAt h shape v) (k : ∀ b o, h.get? b = some o → o.cls = .type "tuple" → h'.get? b = some o) : TupAt h' shape v := by
  obtain ⟨a, o, us, n, as, e, g, c, r⟩ := p
  exact ⟨a, o, us, n, as, e, k _ _ g c, c, r⟩
theorem shp_items {shape : Nat → Bool} : ∀ {ws : List V} {us : List Value} {i : Nat}, Shp shape i ws → Vals ws us → ∃ l, tupItems shape i us = some l
  | [], _, _, _, r => by cases r; exact ⟨[], by simp [tupItems]⟩
  | .int k :: ws, _, i, h, r => by
    cases r with
    | cons r1 r2 =>
      obtain ⟨t, rfl⟩ := r1
      obtain ⟨l, hl⟩ := shp_items h.2 r2
      exact ⟨.inl k :: l, by simp [tupItems, h.1, hl]⟩
  | .str x :: ws, _, i, h, r => by
    cases r with
    | cons r1 r2 =>
      obtain ⟨t, rfl⟩ := r1
      obtain ⟨l, hl⟩ := shp_items h.2 r2
      exact ⟨.inr x.cps.toList :: l, by simp [tupItems, h.1, hl]⟩
  | .non :: _, _, _, h, _ => by unfold Shp at h; exact h.elim
  | .bl _ :: _, _, _, h, _ => by unfold Shp at h; exact h.elim
  | .ref _ :: _, _, _, h, _ => by unfold Shp at h; exact h.elim
  | .ty _ :: _, _, _, h, _ => by unfold Shp at h; exact h.elim
  | .byt _ :: _, _, _, h, _ => by unfold Shp at h; exact h.elim
  | .flt _ :: _, _, _, h, _ => by unfold Shp at h; exact h.elim
theorem shp_first {shape : Nat → Bool} {ws : List V} {us : List Value} (h : Shp shape 0 ws) (ne : ws ≠ []) (r : Vals ws us) : ∃ f, us[0]? = some f ∧ (shape 0 = false → ∃ k t, f = .int k t) ∧ (shape 0 = true → ∃ x t, f = .str x t) := by
  cases r with
  | nil => exact absurd rfl ne
  | @cons w u ws us r1 r2 =>
    refine ⟨u, rfl, fun e => ?_, fun e => ?_⟩
    · cases w with
      | int k => obtain ⟨t, rfl⟩ := r1; exact ⟨k, t, rfl⟩
      | str x => have := h.1; rw [e] at this; cases this
      | _ => unfold Shp at h; exact h.elim
    · cases w with
      | str x => obtain ⟨t, rfl⟩ := r1; exact ⟨x, t, rfl⟩
      | int x => have := h.1; rw [e] at this; cases this
      | _ => unfold Shp at h; exact h.elim
section
variable {prog : Program} {w : World} {A : Around} {E : Value → Shared → Prop} {s : Shared}
theorem tups_of {h : Heap} {shape : Nat → Bool} : ∀ {vs : List Value}, (∀ v ∈ vs, TupAt h shape v) → ∃ fs, TupsOf h shape vs fs ∧ fs.length = vs.length
  | [], _ => ⟨[], .nil, rfl⟩
  | v :: vs, hp => by
    obtain ⟨fs, h1, h2⟩ := tups_of (vs := vs) fun y m => hp y (List.mem_cons_of_mem _ m)
    obtain ⟨a, o, us, n, as, e, g, c, d, _, f, hf, k1, k2⟩ := hp v (by simp)
    refine ⟨f :: fs, .cons ⟨a, o, us.toArray, n, e, g, c, d, ?_, k1, k2⟩ h1, by rw [List.length_cons, List.length_cons, h2]⟩
    simpa using hf
theorem tupkey {h : Heap} {shape : Nat → Bool} {v : Value} (p : TupAt h shape v) : ∃ as, (tupKind h shape).keyOf v = some as := by
  obtain ⟨a, o, us, n, as, rfl, g, c, d, i, _⟩ := p
  refine ⟨as, ?_⟩
  show tupKey h shape (.ref a) = some as
  unfold tupKey
  simp only [g, d]
  exact i
theorem sorted_tups {shape : Nat → Bool} {l : Addr} {vs : List Value} {Q : Value → Shared → Prop} (hl : s.heap.IsList l vs.toArray) (hz : vs.length ≤ sizeLine) (hp : ∀ v ∈ vs, TupAt s.heap shape v)
    (hq : ∀ out : List Value, out.Perm vs → Q (.ref (s.heap.objs.size + 1)) { s with heap := sortedAll s.heap vs out.toArray }) : wpAny (model prog w) A (call (.builtin "sorted") [.ref l]) Q E s := by
  refine Srt.sorted_any hl hz (fun two h1 a ha kp => ?_) hq
  intro h2 kp2
  have tup : ∀ v ∈ vs, TupAt h2 shape v := fun v m => ((hp v m).keep fun b o g _ => (kp b o g).2).keep fun b o g c => kp2 b o (fun z => by
    subst z
    have g' : h1.get? b = some o := g
    rw [ha] at g'
    cases g'
    exact absurd (Value.type.inj c) (by decide)) g
  obtain ⟨fs, t, fl⟩ := tups_of tup
  refine ⟨tuples' true, fun Q E q => tup_kind (shape := shape) (s := { s with heap := h2 }) (by omega) t q, fun p q mp mq => ?_⟩
  obtain ⟨as, ka⟩ := tupkey (tup _ mp)
  obtain ⟨bs, kb⟩ := tupkey (tup _ mq)
  exact ⟨_, tup_ltAt (s := { s with heap := h2 }) true _ _ _ _ as bs ka kb ⟨rfl, rfl⟩⟩
end
/-- sorted(xs), xs a list of tuples of one shape: a new list of the same tuples, in some order -/
def rSortedX (K : Frag) (shape : Nat → Bool) : List V → Hp → VK → Prop := fun vs H Q => ∃ (a : Addr) (ts : List Addr), vs = [V.ref a] ∧ SqL K H a (ts.map V.ref) ∧ (∀ t ∈ ts, ∃ ws, H t = some (.tup ws) ∧ Shp shape 0 ws ∧ ws ≠ []) ∧
  ∀ (ys : List Addr) (p : Addr), ys.Perm ts → H p = none → Q (.ref p) (upd H p (.lst (ys.map V.ref)))
theorem vals_refs : ∀ {ts : List Addr} {us : List Value}, Vals (ts.map V.ref) us → us = ts.map Value.ref
  | [], _, r => by cases r; rfl
  | t :: ts, _, r => by
    cases r with
    | cons r1 r2 => cases r1; rw [vals_refs r2]; rfl
theorem refs_vals : ∀ ts : List Addr, Vals (ts.map V.ref) (ts.map Value.ref)
  | [] => .nil
  | t :: ts => .cons rfl (refs_vals ts)
theorem perm_refs {ts : List Addr} {us : List Value} (h : us.Perm (ts.map Value.ref)) : ∃ ys : List Addr, us = ys.map Value.ref ∧ ys.Perm ts := by
  refine ⟨us.map fun u => match u with | .ref a => a | _ => 0, ?_, ?_⟩
  · rw [List.map_map]
    refine (List.map_id us).symm.trans (List.map_congr_left fun u m => ?_)
    obtain ⟨a, _, rfl⟩ := List.mem_map.mp (h.mem_iff.mp m)
    rfl
  · have := h.map fun u => match u with | Value.ref a => a | _ => 0
    rw [List.map_map] at this
    rwa [show ts.map ((fun u => match u with | Value.ref a => a | _ => 0) ∘ Value.ref) = ts from (List.map_congr_left fun _ _ => rfl).trans (List.map_id ts)] at this
section
variable {X : Cx}
theorem cr_sortedX {shape : Nat → Bool} : CallR X (.builtin "sorted") (rSortedX X.K shape) := by
  intro pins s σ H vs us Q I r h
  obtain ⟨a, ts, rfl, hs, ht, q⟩ := h
  obtain ⟨its, rv, hl, hz⟩ := I.list hs
  have e1 := vals_refs rv
  subst e1
  obtain ⟨u, rfl, ru⟩ := vals1 r
  obtain rfl : u = Value.ref a := ru
  rw [List.length_map] at hz
  refine sorted_tups (shape := shape) hl.isList (by rw [List.length_map]; exact hz) (fun v m => ?_) fun out po => ?_
  · obtain ⟨t, tm, rfl⟩ := List.mem_map.mp m
    obtain ⟨ws, hw, sh, ne⟩ := ht t tm
    have ok : ObjOk X.prog X.w H s.heap t (.tup ws) := I.hok t _ hw
    obtain ⟨_, xs, rx, o, g, c, n, d⟩ := ok
    obtain ⟨as, hi⟩ := shp_items sh rx
    exact ⟨t, o, xs, n, as, rfl, g, c, d, hi, shp_first sh ne rx⟩
  · obtain ⟨ys, rfl, py⟩ := perm_refs po
    have fr : H (s.heap.objs.size + 1) = none := I.hok.fresh (Nat.le_succ _)
    obtain ⟨n, hn⟩ := sortedAll_at s.heap (ts.map Value.ref) (ys.map Value.ref).toArray
    refine ⟨.ref _, upd H _ (.lst (ys.map V.ref)), I.laid (t' := s.toks) (fun b o g => sortedAll_old g) (Nat.le_succ _) ⟨?_, ys.map Value.ref, n, refs_vals ys, hn⟩, rfl, q ys _ py fr⟩
    rw [List.length_map, py.length_eq]; exact hz
end
section
variable {prog : Program} {w : World} {A : Around} {E : Value → Shared → Prop} {s : Shared}
theorem best1 (bt : Nat → Nat → Bool) : argBest bt 1 = 0 ∨ argBest bt 1 = 1 := by
  by_cases h : bt 1 (argBest bt 0) = true
  · exact .inr (if_pos h)
  · exact .inl (if_neg h)
/-- the larger one -/
theorem max_strs {x y : Str} {t u : Tok} {Q : Value → Shared → Prop} (calm : A.handled = none)
    (h : ∀ (k : Bool) (hp : Heap) (tk : Nat), (∀ b o, s.heap.get? b = some o → hp.get? b = some o) → Q (if k = true then .str y u else .str x t) { s with heap := hp, toks := tk }) : wpAny (model prog w) A (call (.builtin "max") [.str x t, .str y u]) Q E s := by
  have tp : (s.heap.push { cls := .type "tuple", data := .seq #[.str x t, .str y u] }).IsTuple s.heap.objs.size #[.str x t, .str y u] := ⟨_, Heap.get?_push_size _ rfl, rfl, 0, rfl⟩
  have z1 : (s.heap.push { cls := .type "tuple", data := .seq #[.str x t, .str y u] }).objs.size = s.heap.objs.size + 1 := Heap.size_push ..
  refine call_max_two (wpAny_pyIter_tuple tp ?_)
  refine ⟨_, [_, s.heap.objs.size], [_], _, _, _, fun i j => decide ((if j = 0 then x else y).cps.toList < (if i = 0 then x else y).cps.toList), rfl, Walks.tuple (A := A.in1) calm _ s.heap.objs.size (by rw [z1]; exact Nat.ne_of_lt (Nat.lt_succ_self _)) #[.str x t, .str y u], ⟨⟨_, Heap.get?_push_size _ rfl, rfl, rfl⟩, tp.push _⟩, fun b hb => ?_, by simp, fun i j vi vj s1 Q1 E1 gi gj q => ?_, fun v hp tk hv kp => ?_⟩
  · show b < ((s.heap.push _).push _).objs.size
    rw [Heap.size_push]
    simp only [List.mem_cons, List.not_mem_nil, or_false] at hb
    rcases hb with e | e <;> subst e
    · exact Nat.lt_succ_self _
    · rw [z1]; exact Nat.lt_succ_of_lt (Nat.lt_succ_self _)
  · have pick : ∀ {k : Nat} {v : Value}, (#[Value.str x t, Value.str y u])[k]? = some v → ∃ tt, v = .str (if k = 0 then x else y) tt := fun {k v} g => by
      match k, g with
      | 0, g => exact ⟨t, (Option.some.inj g).symm⟩
      | 1, g => exact ⟨u, (Option.some.inj g).symm⟩
      | k + 2, g => simp at g
    obtain ⟨ti, rfl⟩ := pick gi
    obtain ⟨tj, rfl⟩ := pick gj
    exact PySem.P.gt_str q
  · have old : ∀ b o, s.heap.get? b = some o → hp.get? b = some o := fun b o g => by
      refine kp b o (fun m => ?_) (Heap.get?_push_of_some _ (Heap.get?_push_of_some _ g))
      have lt := Heap.lt_size g
      rw [List.mem_singleton.mp m, z1] at lt
      exact absurd lt (Nat.not_lt_of_lt (Nat.lt_succ_self _))
    have cases2 : v = .str y u ∨ v = .str x t := by
      have hv' : (#[Value.str x t, Value.str y u])[argBest (fun i j => decide ((if j = 0 then x else y).cps.toList < (if i = 0 then x else y).cps.toList)) 1]? = some v := hv
      rcases best1 _ with e | e
      · rw [e] at hv'; exact .inr (Option.some.inj hv').symm
      · rw [e] at hv'; exact .inl (Option.some.inj hv').symm
    rcases cases2 with e | e
    · rw [e]; exact h true hp tk old
    · rw [e]; exact h false hp tk old
theorem min_strs {x y : Str} {t u : Tok} {Q : Value → Shared → Prop} (calm : A.handled = none)
    (h : ∀ (k : Bool) (hp : Heap) (tk : Nat), (∀ b o, s.heap.get? b = some o → hp.get? b = some o) → Q (if k = true then .str y u else .str x t) { s with heap := hp, toks := tk }) : wpAny (model prog w) A (call (.builtin "min") [.str x t, .str y u]) Q E s := by
  have tp : (s.heap.push { cls := .type "tuple", data := .seq #[.str x t, .str y u] }).IsTuple s.heap.objs.size #[.str x t, .str y u] := ⟨_, Heap.get?_push_size _ rfl, rfl, 0, rfl⟩
  have z1 : (s.heap.push { cls := .type "tuple", data := .seq #[.str x t, .str y u] }).objs.size = s.heap.objs.size + 1 := Heap.size_push ..
  refine call_min_two (wpAny_pyIter_tuple tp ?_)
  refine ⟨_, [_, s.heap.objs.size], [_], _, _, _, fun i j => decide ((if i = 0 then x else y).cps.toList < (if j = 0 then x else y).cps.toList), rfl, Walks.tuple (A := A.in1) calm _ s.heap.objs.size (by rw [z1]; exact Nat.ne_of_lt (Nat.lt_succ_self _)) #[.str x t, .str y u], ⟨⟨_, Heap.get?_push_size _ rfl, rfl, rfl⟩, tp.push _⟩, fun b hb => ?_, by simp, fun i j vi vj s1 Q1 E1 gi gj q => ?_, fun v hp tk hv kp => ?_⟩
  · show b < ((s.heap.push _).push _).objs.size
    rw [Heap.size_push]
    simp only [List.mem_cons, List.not_mem_nil, or_false] at hb
    rcases hb with e | e <;> subst e
    · exact Nat.lt_succ_self _
    · rw [z1]; exact Nat.lt_succ_of_lt (Nat.lt_succ_self _)
  · have pick : ∀ {k : Nat} {v : Value}, (#[Value.str x t, Value.str y u])[k]? = some v → ∃ tt, v = .str (if k = 0 then x else y) tt := fun {k v} g => by
      match k, g with
      | 0, g => exact ⟨t, (Option.some.inj g).symm⟩
      | 1, g => exact ⟨u, (Option.some.inj g).symm⟩
      | k + 2, g => simp at g
    obtain ⟨ti, rfl⟩ := pick gi
    obtain ⟨tj, rfl⟩ := pick gj
    exact PySem.P.lt_str q
  · have old : ∀ b o, s.heap.get? b = some o → hp.get? b = some o := fun b o g => by
      refine kp b o (fun m => ?_) (Heap.get?_push_of_some _ (Heap.get?_push_of_some _ g))
      have lt := Heap.lt_size g
      rw [List.mem_singleton.mp m, z1] at lt
      exact absurd lt (Nat.not_lt_of_lt (Nat.lt_succ_self _))
    have cases2 : v = .str y u ∨ v = .str x t := by
      have hv' : (#[Value.str x t, Value.str y u])[argBest (fun i j => decide ((if i = 0 then x else y).cps.toList < (if j = 0 then x else y).cps.toList)) 1]? = some v := hv
      rcases best1 _ with e | e
      · rw [e] at hv'; exact .inr (Option.some.inj hv').symm
      · rw [e] at hv'; exact .inl (Option.some.inj hv').symm
    rcases cases2 with e | e
    · rw [e]; exact h true hp tk old
    · rw [e]; exact h false hp tk old
end
section
variable {X : Cx}
/-- min, max of two texts: one of them -/
def rOne2 : List V → Hp → VK → Prop := fun xs H Q => ∃ x y : Str, xs = [.str x, .str y] ∧ Q (.str x) H ∧ Q (.str y) H
theorem call_maxS (hc : X.calm = true) : CallR X (.builtin "max") rOne2 := by
  intro pins s σ H xs us Q I r h
  obtain ⟨x, y, rfl, q1, q2⟩ := h
  obtain ⟨u, w', rfl, ⟨t, rfl⟩, ⟨t', rfl⟩⟩ := vals2 r
  refine max_strs (I.ok.hd hc) fun k hp tk old => ?_
  cases k with
  | true => exact ⟨.str y, H, I.kept old, ⟨t', rfl⟩, q2⟩
  | false => exact ⟨.str x, H, I.kept old, ⟨t, rfl⟩, q1⟩
theorem call_minS (hc : X.calm = true) : CallR X (.builtin "min") rOne2 := by
  intro pins s σ H xs us Q I r h
  obtain ⟨x, y, rfl, q1, q2⟩ := h
  obtain ⟨u, w', rfl, ⟨t, rfl⟩, ⟨t', rfl⟩⟩ := vals2 r
  refine min_strs (I.ok.hd hc) fun k hp tk old => ?_
  cases k with
  | true => exact ⟨.str y, H, I.kept old, ⟨t', rfl⟩, q2⟩
  | false => exact ⟨.str x, H, I.kept old, ⟨t, rfl⟩, q1⟩
end
end Z
namespace Z
open PySem PySem.Spec PyProof.Rows L2
theorem mulT1 (l : Addr) (its : Array Value) (n : Nat) (dd : Option Addr) (sl : Array (Option Value)) (u : Tok) : Meets (Builtin.«tuple.__mul__» ⟨[.ref l, .int 1 u], []⟩) (fun _ R s =>
    s.heap.get? l = some { cls := .type "tuple", dict := dd, data := .seq its n, slots := sl } ∧ R (.ok (.ret (.ref l))) s) := .of_wp fun prog w A R s h => by
  obtain ⟨hp, g, d, tk, os⟩ := s
  obtain ⟨at_, h⟩ := h
  have ix := AutoSeq1.idx_int
  have c1 : (its.isEmpty || (1 : Int) == 1) = true := by cases its.isEmpty <;> rfl
  wp_walk using wpAny_loadPart' at_
  repeat (first
    | (refine wpAny_ite_false (decide_eq_false (by decide)) ?_; wp_walk using wpAny_loadPart' at_)
    | (refine wpAny_ite_true (decide_eq_true (by first | decide | exact c1)) ?_; wp_walk using wpAny_loadPart' at_))
  exact ⟨_, rfl, h⟩
theorem mulT0 (l : Addr) (its : Array Value) (n : Nat) (dd : Option Addr) (sl : Array (Option Value)) (u : Tok) (ne : its.isEmpty = false) : Meets (Builtin.«tuple.__mul__» ⟨[.ref l, .int 0 u], []⟩) (fun _ R s =>
    s.heap.get? l = some { cls := .type "tuple", dict := dd, data := .seq its n, slots := sl } ∧ R (.ok (.ret (.ref s.heap.objs.size))) { s with heap := s.heap.push { cls := .type "tuple", data := .seq #[] }, toks := s.toks }) := .of_wp fun prog w A R s h => by
  obtain ⟨hp, g, d, tk, os⟩ := s
  obtain ⟨at_, h⟩ := h
  have ix := AutoSeq1.idx_int
  have c1 : (its.isEmpty || (0 : Int) == 1) = false := by rw [ne]; rfl
  wp_walk using wpAny_loadPart' at_
  repeat (first
    | (refine wpAny_ite_false (decide_eq_false (by first | decide | (rw [c1]; exact Bool.false_ne_true))) ?_; wp_walk using wpAny_loadPart' at_)
    | (refine wpAny_ite_true (decide_eq_true (by first | decide | rfl)) ?_; wp_walk using wpAny_loadPart' at_))
  exact ⟨_, rfl, h⟩
/-- t * k, of a tuple -/
def rMulT (K : PySem.W.Frag) : R2 := fun x y H Q => ∃ (l : Addr) (k : Nat) (xs : List V), x = .ref l ∧ y = .int (k : Int) ∧ SqT K H l xs ∧ xs ≠ [] ∧ k ≤ 1000 ∧ xs.length ≤ 1000 ∧ ∀ (p : Addr) (H' : Hp), Same H H' → SqT K H' p (List.replicate k xs).flatten → Q (.ref p) H'
section
variable {X : Cx}
theorem op_mulT : OpR X (binaryOp .Mult) (rMulT X.K) := by
  intro pins s σ H x y v u Q I rx ry h
  obtain ⟨l, k, xs, ex, ey, hT, ne, hk, hx, q⟩ := h
  by_cases h2 : 2 ≤ k
  · exact op_repT pins s σ H x y v u Q I rx ry ⟨l, _, xs, ex, ey, hT, ne, by omega, by omega, hx, fun p hp => q p _ (same_new hp) (SqT.of (by rw [upd_same]; rfl))⟩
  subst ex ey
  cases rx
  obtain ⟨t, rfl⟩ := ry
  obtain ⟨its, r, ⟨⟨cls, dd, data, sl⟩, at_, hc, n, hd⟩, hs⟩ := I.tuple hT
  simp only at hc hd
  subst hc hd
  have hi : its.toArray.isEmpty = false := by
    cases r with
    | nil => exact absurd rfl ne
    | cons _ _ => rfl
  have k01 : k = 0 ∨ k = 1 := by omega
  rcases k01 with e | e
  · subst e
    refine wpAny_binaryOp_repeat_ref (T := "tuple") (U := "int") (by decide) ⟨_, at_, rfl⟩ (fun s1 => typeIs_int s1 _ t) noFill_tuple_mul F.fills_int_mul F.slot_int_rmul repeat_tuple F.slot_int_index.lookup (call_meets F.slot_int_rmul (typeIs_int s _ t) F.entry_int_rmul (F.args_int_rmul_2 _ _) (int_rmul_tuple _ t l its.toArray n dd sl) ⟨at_, rfl, ⟨_, at_, rfl⟩, call_meets F.slot_tuple_mul ⟨_, at_, rfl⟩ F.entry_tuple_mul (F.args_tuple_mul_2 _ _) (mulT0 l its.toArray n dd sl t hi) ⟨at_, ?_⟩⟩)
    have fr : H s.heap.objs.size = none := I.hok.fresh (Nat.le_refl _)
    exact ⟨.ref _, upd H s.heap.objs.size (.tup []), I.laid (t' := s.toks) (fun b o g => Heap.get?_push_of_some _ g) (Nat.le_refl _) ⟨by show 0 ≤ sizeLine; decide, [], .nil, IsTup.new _ _⟩, rfl, q _ _ (same_new fr) (SqT.of upd_same)⟩
  · subst e
    refine wpAny_binaryOp_repeat_ref (T := "tuple") (U := "int") (by decide) ⟨_, at_, rfl⟩ (fun s1 => typeIs_int s1 _ t) noFill_tuple_mul F.fills_int_mul F.slot_int_rmul repeat_tuple F.slot_int_index.lookup (call_meets F.slot_int_rmul (typeIs_int s _ t) F.entry_int_rmul (F.args_int_rmul_2 _ _) (int_rmul_tuple _ t l its.toArray n dd sl) ⟨at_, rfl, ⟨_, at_, rfl⟩, call_meets F.slot_tuple_mul ⟨_, at_, rfl⟩ F.entry_tuple_mul (F.args_tuple_mul_2 _ _) (mulT1 l its.toArray n dd sl t) ⟨at_, ?_⟩⟩)
    exact ⟨.ref l, H, I, rfl, q l H (Same.refl _) (by show SqT X.K H l (xs ++ []); rw [List.append_nil]; exact hT)⟩
end
end Z
namespace Z
open PySem L2 SX
/-! ### data, by place -/
section
variable {K : PySem.W.Frag} {H : Hp}
theorem DV.any {ds : List D} {v : V} {i : Nat} {d : D} (h : DV K H (.tup ds) v) (e : ds[i]? = some d) : ∃ a us u, v = .ref a ∧ SqT K H a us ∧ us[i]? = some u ∧ DV K H d u := by
  obtain ⟨a, us, rfl, hS, hs⟩ := h
  obtain ⟨u, eu, du⟩ := hs.get e
  exact ⟨a, us, u, rfl, hS, eu, du⟩
theorem DV.sub {ds es : List D} {v : V} {i : Nat} (h : DV K H (.tup ds) v) (e : ds[i]? = some (.tup es)) : ∃ a us c ws, v = .ref a ∧ SqT K H a us ∧ us[i]? = some (V.ref c) ∧ SqT K H c ws ∧ DVs K H es ws := by
  obtain ⟨a, us, u, rfl, hS, eu, du⟩ := h.any e
  obtain ⟨c, ws, rfl, hc, hw⟩ := du
  exact ⟨a, us, c, ws, rfl, hS, eu, hc, hw⟩
theorem DV.leafS {ds : List D} {v : V} {i : Nat} {x : Str} (h : DV K H (.tup ds) v) (e : ds[i]? = some (.str x)) : ∃ a us, v = .ref a ∧ SqT K H a us ∧ us[i]? = some (V.str x) := by
  obtain ⟨a, us, u, rfl, hS, eu, du⟩ := h.any e
  unfold DV at du
  subst du
  exact ⟨a, us, rfl, hS, eu⟩
theorem DVs.map_get {α : Type} {f : α → D} : ∀ {l : List α} {us : List V} {i : Nat} {u : V}, DVs K H (l.map f) us → us[i]? = some u → ∃ x, l[i]? = some x ∧ DV K H (f x) u
  | [], _, i, u, h, e => by unfold DVs at h; subst h; simp at e
  | x :: l, us, i, u, h, e => by
    obtain ⟨v, r, rfl, q, t⟩ := h
    cases i with
    | zero =>
      have : v = u := Option.some.inj e
      subst this
      exact ⟨x, rfl, q⟩
    | succ i => exact DVs.map_get (i := i) t e
theorem DVs.map_len {α : Type} {f : α → D} {l : List α} {us : List V} (h : DVs K H (l.map f) us) : us.length = l.length := by rw [h.len, List.length_map]
/-- values that are data of some of these -/
theorem DVs.pick {α : Type} {f : α → D} {xs : List V} {l : List α} : ∀ {ys : List V}, DVs K H (l.map f) xs → (∀ y ∈ ys, y ∈ xs) → ∃ m : List α, DVs K H (m.map f) ys ∧ m.length = ys.length ∧ ∀ x ∈ m, x ∈ l
  | [], _, _ => ⟨[], by unfold List.map DVs; rfl, rfl, fun _ h => by cases h⟩
  | y :: ys, h, k => by
    obtain ⟨m, h1, h2, h3⟩ := DVs.pick h fun z hz => k z (List.mem_cons_of_mem _ hz)
    obtain ⟨i, hi⟩ := List.getElem?_of_mem (k y (by simp))
    obtain ⟨x, hx, dx⟩ := h.map_get hi
    refine ⟨x :: m, ?_, by rw [List.length_cons, List.length_cons, h2], fun z hz => ?_⟩
    · exact ⟨y, ys, rfl, dx, h1⟩
    · rcases List.mem_cons.mp hz with e | e
      · rw [e]; exact List.mem_of_getElem? hx
      · exact h3 z e
theorem DVs.snoc {α : Type} {f : α → D} {x : α} {u : V} : ∀ {l : List α} {us : List V}, DVs K H (l.map f) us → DV K H (f x) u → DVs K H ((l ++ [x]).map f) (us ++ [u])
  | [], _, h, d => by unfold List.map DVs at h; subst h; exact ⟨u, [], rfl, d, by unfold List.map DVs; rfl⟩
  | y :: l, us, h, d => by
    obtain ⟨v, r, rfl, q, t⟩ := h
    exact ⟨v, r ++ [u], rfl, q, DVs.snoc t d⟩
theorem DVs.tk {H' : Hp} (t : TK K H H') {ds : List D} {us : List V} (h : DVs K H ds us) : DVs K H' ds us := DVs.ext t h
theorem DV.tk {H' : Hp} (t : TK K H H') {d : D} {u : V} (h : DV K H d u) : DV K H' d u := DV.ext t h
end
theorem find_step {α : Type} {p : α → Bool} {l : List α} {i : Nat} {x : α} (h : (l.take i).find? p = none) (e : l[i]? = some x) (hx : p x = false) : (l.take (i + 1)).find? p = none := by
  rw [List.take_add_one, e, List.find?_append, h]
  show (none : Option α).or ([x].find? p) = none
  simp [hx]
theorem find_hit {α : Type} {p : α → Bool} {l : List α} {i : Nat} {x : α} (h : (l.take i).find? p = none) (e : l[i]? = some x) (hx : p x = true) : l.find? p = some x := by
  have el : l = l.take i ++ x :: l.drop (i + 1) := by
    obtain ⟨h1, h2⟩ := List.getElem?_eq_some_iff.mp e
    rw [← h2, List.getElem_cons_drop, List.take_append_drop]
  rw [el, List.find?_append, h]
  show (none : Option α).or ((x :: l.drop (i + 1)).find? p) = some x
  rw [List.find?_cons_of_pos hx]; rfl
/-! ### books -/
structure Si where
  n : Str
  o : Int
  m : Int
  r : Int
  p : Str
structure Fd where
  g : Str
  t : Str
  p : Str
  h : Int
  z : Int
structure Sw where
  p : Str
  a : Str
  y : D
structure Bk where
  w : Int
  x : Int
  y : Int
  si : List Si
  ln : List (Str × Str)
  fd : List Fd
  sw : List Sw
  li : List D
def siD (s : Si) : D := .tup [.str (Str.ofString "site"), .str s.n, .int s.o, .int s.m, .int s.r, .str s.p]
def lnD (l : Str × Str) : D := .tup [.str l.1, .str l.2]
def fdD (f : Fd) : D := .tup [.str (Str.ofString "feed"), .str f.g, .str f.t, .str f.p, .int f.h, .int f.z]
def swD (s : Sw) : D := .tup [.str (Str.ofString "steward"), .str s.p, .str s.a, s.y]
def bkD (b : Bk) : D := .tup [.str (Str.ofString "book"), .int b.w, .tup [.int b.x, .int b.y], .tup (b.si.map siD), .tup (b.ln.map lnD), .tup (b.fd.map fdD), .tup (b.sw.map swD), .tup b.li]
structure BkOk (b : Bk) : Prop where
  si : b.si.length ≤ 10
  ln : b.ln.length ≤ 30
  fd : b.fd.length ≤ 100
  sw : b.sw.length ≤ 10
  sp : ∀ s ∈ b.si, (tl s.p).length ≤ 3000
  wp : ∀ s ∈ b.sw, (tl s.p).length ≤ 3000
  sn : ∀ s ∈ b.si, Low (tl s.n) ∧ (tl s.n).length ≤ 8
  fn : ∀ f ∈ b.fd, Low (tl f.g) ∧ Low (tl f.t)
def siteOf (b : Bk) (n : Str) : Option Si := b.si.find? fun s => decide (s.n = n)
def feedOf (b : Bk) (g t : Str) : Option Fd := b.fd.find? fun f => decide (f.g = g) && decide (f.t = t)
noncomputable def stwOf (b : Bk) (d : List Nat) : Option Sw := b.sw.find? fun s => letsL (parts (tl s.p)) d
def polOf (b : Bk) (a : Str) : Option Sw := b.sw.find? fun s => decide (s.a = a)
def optD {α : Type} (f : α → D) : Option α → D
  | none => .non
  | some x => f x
def nearL (b : Bk) (n : Str) : List Str := ((b.ln.filter fun l => decide (l.1 = n)).map (·.2)) ++ ((b.ln.filter fun l => decide (l.2 = n)).map (·.1))
/-- the seals so far, and a board more -/
noncomputable def sealF (b : Bk) (acc : List Str) (d : Str) : List Str := match stwOf b (tl d) with
  | none => acc
  | some s => if s.a ∈ acc then acc else acc ++ [s.a]
noncomputable def sealsL (b : Bk) (bs : List Str) : List Str := bs.foldl (sealF b) []
def sp_site_of (K : PySem.W.Frag) : Sp := fun vs H Q _ => ∃ (b : Bk) (v : V) (n : Str), vs = [v, .str n] ∧ DV K H (bkD b) v ∧ ∀ u, DV K H (optD siD (siteOf b n)) u → Q u H
def sp_feed_of (K : PySem.W.Frag) : Sp := fun vs H Q _ => ∃ (b : Bk) (v : V) (g t : Str), vs = [v, .str g, .str t] ∧ DV K H (bkD b) v ∧ BkOk b ∧ Low (tl g) ∧ Low (tl t) ∧ ∀ u H', Same H H' → DV K H' (optD fdD (feedOf b g t)) u → Q u H'
def sp_neighbours (K : PySem.W.Frag) : Sp := fun vs H Q _ => ∃ (b : Bk) (v : V) (n : Str), vs = [v, .str n] ∧ DV K H (bkD b) v ∧ BkOk b ∧ ∀ (t : Addr) (ys : List Str) (H' : Hp), Same H H' → SqT K H' t (ys.map V.str) → ys.Perm (nearL b n) → PyProof.Rows.sortedS ys = true → Q (.ref t) H'
noncomputable def carriesB (b : Bk) (n : Str) (bs : List Str) : Bool := match siteOf b n with
  | none => false
  | some s => bs.any fun d => letsL (parts (tl s.p)) (tl d)
def sp_carries (K : PySem.W.Frag) : Sp := fun vs H Q _ => ∃ (b : Bk) (v : V) (n : Str) (a : Addr) (bs : List Str), vs = [v, .str n, .ref a] ∧ DV K H (bkD b) v ∧ BkOk b ∧ SqT K H a (bs.map V.str) ∧ bs.length ≤ 1000 ∧ (∀ d ∈ bs, Clean (tl d)) ∧ ∀ H', Same H H' → Q (.bl (carriesB b n bs)) H'
def swA (s : Sw) : D := .str s.a
def sp_steward_of (K : PySem.W.Frag) : Sp := fun vs H Q _ => ∃ (b : Bk) (v : V) (d : Str), vs = [v, .str d] ∧ DV K H (bkD b) v ∧ BkOk b ∧ Clean (tl d) ∧ ∀ u H', Same H H' → DV K H' (optD swA (stwOf b (tl d))) u → Q u H'
def sp_seals (K : PySem.W.Frag) : Sp := fun vs H Q _ => ∃ (b : Bk) (v : V) (a : Addr) (bs : List Str), vs = [v, .ref a] ∧ DV K H (bkD b) v ∧ BkOk b ∧ SqT K H a (bs.map V.str) ∧ bs.length ≤ 1000 ∧ (∀ d ∈ bs, Clean (tl d)) ∧ ∀ (t : Addr) H', Same H H' → SqT K H' t ((sealsL b bs).map V.str) → Q (.ref t) H'
def sp_policy_of (K : PySem.W.Frag) : Sp := fun vs H Q _ => ∃ (b : Bk) (v : V) (a : Str), vs = [v, .str a] ∧ DV K H (bkD b) v ∧ ∀ u, DV K H (optD Sw.y (polOf b a)) u → Q u H
/-! ### what the law draws -/
def sp3__law_pick (K : PySem.W.Frag) : Sp := fun vs H Q _ =>
  (∃ (s a r : Addr) (xs : List V) (c : Nat), vs = [.ref s, .ref r] ∧ SqL K H r xs ∧ r ≠ s ∧ xs ≠ [] ∧ xs.length ≤ 100000 ∧ Src H s a (c + 1) ∧ ∀ (v : V) (H' : Hp), v ∈ xs → Ext s H H' → Src H' s a c → Q v H') ∨
  (∃ (s a : Addr) (x : Str) (c : Nat), vs = [.ref s, .str x] ∧ tl x ≠ [] ∧ (tl x).length ≤ 100000 ∧ Src H s a (c + 1) ∧ ∀ (ch : Nat) (H' : Hp), ch ∈ tl x → Ext s H H' → Src H' s a c → Q (.str (S [ch])) H') ∨
  (∃ (s a r : Addr) (xs : List V) (c : Nat), vs = [.ref s, .ref r] ∧ SqT K H r xs ∧ xs ≠ [] ∧ xs.length ≤ 100000 ∧ Src H s a (c + 1) ∧ ∀ (v : V) (H' : Hp), v ∈ xs → Ext s H H' → Src H' s a c → Q v H')
def Nms (us : List Str) : Prop := us.Nodup ∧ ∀ x ∈ us, Nm (tl x) ∧ (tl x).length ≤ 8
def sp9__law_new_name (K : PySem.W.Frag) : Sp := fun vs H Q _ => ∃ (s a u : Addr) (us : List Str) (c : Nat), vs = [.ref s, .ref u] ∧ SqL K H u (us.map V.str) ∧ u ≠ s ∧ us.length ≤ 9 ∧ Src H s a (c + 8) ∧
  ∀ (x : Str) (H' : Hp), Nm (tl x) → (tl x).length ≤ 8 → x ∉ us → Ext s H H' → Src H' s a c → Q (.str x) H'
def sp9__law_names (K : PySem.W.Frag) : Sp := fun vs H Q _ => ∃ (s a : Addr) (m c : Nat), vs = [.ref s, .int m] ∧ m ≤ 9 ∧ Src H s a (c + 8 * m) ∧
  ∀ (u : Addr) (us : List Str) (H' : Hp), H u = none → H' u = some (.lst (us.map V.str)) → us.length = m → Nms us → Ext s H H' → Src H' s a c → Q (.ref u) H'
def sp_lines (K : PySem.W.Frag) : Sp := fun vs H Q _ => ∃ (s a u : Addr) (us : List Str) (c : Nat), vs = [.ref s, .ref u] ∧ SqL K H u (us.map V.str) ∧ u ≠ s ∧ 1 ≤ us.length ∧ us.length ≤ 9 ∧ (∀ x ∈ us, Low (tl x)) ∧ Src H s a (c + 100) ∧
  ∀ (L : Addr) (ws : List V) (ls : List (Str × Str)) (H' : Hp), H L = none → H' L = some (.lst ws) → DVs K H' (ls.map lnD) ws → ls.length ≤ 20 → (∀ l ∈ ls, Low (tl l.1) ∧ Low (tl l.2)) → Ext s H H' → Src H' s a c → Q (.ref L) H'
def sp_feeds (K : PySem.W.Frag) : Sp := fun vs H Q _ => ∃ (s a L w : Addr) (ws : List V) (ls : List (Str × Str)) (us : List Str) (k : Int) (c : Nat), vs = [.ref s, .ref L, .ref w, .int k] ∧ SqL K H L ws ∧ L ≠ s ∧ DVs K H (ls.map lnD) ws ∧ ls.length ≤ 20 ∧ (∀ l ∈ ls, Low (tl l.1) ∧ Low (tl l.2)) ∧ SqL K H w (us.map V.str) ∧ w ≠ s ∧ Wds us ∧ 0 < k ∧ k ≤ 100 ∧ Src H s a (c + 20000) ∧
  ∀ (u : V) (fs : List Fd) (H' : Hp), DV K H' (.tup (fs.map fdD)) u → fs.length ≤ 40 → (∀ f ∈ fs, Low (tl f.g) ∧ Low (tl f.t)) → Ext s H H' → Src H' s a c → Q u H'
def sp_sites (K : PySem.W.Frag) : Sp := fun vs H Q _ => ∃ (s a u w o : Addr) (us ws : List Str) (z : Int) (is : List Int) (c : Nat), vs = [.ref s, .ref u, .ref w, .int z, .ref o] ∧ SqL K H u (us.map V.str) ∧ u ≠ s ∧ us.length ≤ 9 ∧ SqL K H w (ws.map V.str) ∧ w ≠ s ∧ Wds ws ∧ H o = some (.lst (is.map V.int)) ∧ o ≠ s ∧ is.length = us.length ∧ Src H s a (c + 5000) ∧
  ∀ (v : V) (l : List Si) (H' : Hp), DV K H' (.tup (l.map siD)) v → l.map (·.n) = us → (∀ x ∈ l, (tl x.p).length ≤ 200) → Ext s H H' → Src H' s a c → Q v H'
def sp_book (K : PySem.W.Frag) : Sp := fun vs H Q _ => ∃ (s a w : Addr) (ws : List Str) (m : Nat) (c : Nat), vs = [.ref s, .int (m : Int), .ref w] ∧ 1 ≤ m ∧ m ≤ 9 ∧ SqL K H w (ws.map V.str) ∧ w ≠ s ∧ Wds ws ∧ Src H s a (c + 30000) ∧
  ∀ (v : V) (b : Bk) (H' : Hp), DV K H' (bkD b) v → BkOk b → b.sw = [] → b.si ≠ [] → (b.si.map (·.n)).Nodup → Ext s H H' → Src H' s a c → Q v H'
def sp_stewards (K : PySem.W.Frag) : Sp := fun vs H Q _ => ∃ (s a w : Addr) (v : V) (b : Bk) (ws : List Str) (c : Nat), vs = [.ref s, v, .ref w] ∧ DV K H (bkD b) v ∧ b.si ≠ [] ∧ BkOk b ∧ SqL K H w (ws.map V.str) ∧ w ≠ s ∧ Wds ws ∧ Src H s a (c + 5000) ∧
  ∀ (u : V) (l : List Sw) (H' : Hp), DV K H' (.tup (l.map swD)) u → l.length ≤ 3 → (∀ x ∈ l, (tl x.p).length ≤ 200 ∧ (tl x.a).length ≤ 20 ∧ DL 4 x.y) → (l.map (·.a)).Nodup → Ext s H H' → Src H' s a c → Q u H'
/-! ### sorted texts, told by what they are -/
open PyProof.Rows in
theorem eqv_pair (a b c d : Str) : PyData.eqv (.tuple [.str a, .str b]) (.tuple [.str c, .str d]) = (decide (a = c) && decide (b = d)) := by
  simp [PyData.eqv, PyData.eqvAll]
  by_cases h1 : a = c <;> by_cases h2 : b = d <;> simp [h1, h2]
theorem ok_low {x : Str} (h : Low (tl x)) : PyData.strOk x = true := by
  unfold PyData.strOk
  rw [← Array.all_toList, List.all_eq_true]
  intro c m
  have := h c m
  exact decide_eq_true (by omega)
theorem pair_shaped {x y : Str} (hx : Low (tl x)) (hy : Low (tl y)) : SeqAt.shaped (.tuple [.str x, .str y]) = true := by
  simp [SeqAt.shaped, PyData.canLay0, PyData.canLayAll0, PyData.depth, PyData.depthAll, ok_low hx, ok_low hy]
end Z
namespace Z
open PySem L2 SX
open PyProof.Rows PySem.Spec
theorem find_uniq {α : Type} {f : α → Str} : ∀ {l : List α} {i : Nat} {x : α}, (l.map f).Nodup → l[i]? = some x → l.find? (fun y => decide (f y = f x)) = some x
  | [], i, x, _, h => by simp at h
  | y :: r, i, x, nd, h => by
    rw [List.map_cons, List.nodup_cons] at nd
    cases i with
    | zero =>
      have : y = x := Option.some.inj h
      subst this
      rw [List.find?_cons_of_pos (by simp)]
    | succ i =>
      have hr : r[i]? = some x := h
      have ne : ¬ f y = f x := fun e => nd.1 (by rw [e]; exact List.mem_map_of_mem (List.mem_of_getElem? hr))
      rw [List.find?_cons_of_neg (by simpa using ne)]
      exact find_uniq nd.2 hr
theorem lt_anti : ∀ {a b : List Nat}, ltCps a b = false → ltCps b a = false → a = b
  | [], [], _, _ => rfl
  | [], _ :: _, h, _ => by simp [ltCps] at h
  | _ :: _, [], _, h => by simp [ltCps] at h
  | x :: a, y :: b, h, k => by
    simp only [ltCps, Bool.or_eq_false_iff, decide_eq_false_iff_not, Bool.and_eq_false_iff] at h k
    have e : x = y := by omega
    subst e
    have h2 := h.2.resolve_left (by simp)
    have k2 := k.2.resolve_left (by simp)
    rw [lt_anti h2 k2]
theorem lt_trans : ∀ {a b c : List Nat}, ltCps b a = false → ltCps c b = false → ltCps c a = false
  | [], _, [], _, _ => rfl
  | [], _, _ :: _, _, _ => by simp [ltCps]
  | _ :: _, [], _, h, _ => by simp [ltCps] at h
  | _ :: _, _ :: _, [], _, k => by simp [ltCps] at k
  | x :: a, y :: b, z :: c, h, k => by
    simp only [ltCps, Bool.or_eq_false_iff, decide_eq_false_iff_not, Bool.and_eq_false_iff] at h k ⊢
    refine ⟨by omega, ?_⟩
    by_cases e : z = x
    · have e1 : y = x := by omega
      have e2 : z = y := by omega
      subst e1
      subst e2
      exact .inr (lt_trans (h.2.resolve_left (by simp)) (k.2.resolve_left (by simp)))
    · exact .inl (by simpa using e)
theorem rising_pw : ∀ {l : List Str} {p : Str}, risingS p l = true → (∀ x ∈ l, ltCps x.cps.toList p.cps.toList = false) ∧ l.Pairwise (fun a b => ltCps b.cps.toList a.cps.toList = false)
  | [], _, _ => ⟨(fun _ h => by cases h), List.Pairwise.nil⟩
  | x :: r, p, h => by
    have h' : (!ltCps x.cps.toList p.cps.toList && risingS x r) = true := h
    obtain ⟨h1, h2⟩ := Bool.and_eq_true_iff.mp h'
    have h1' : ltCps x.cps.toList p.cps.toList = false := by simpa using h1
    obtain ⟨k1, k2⟩ := rising_pw h2
    refine ⟨fun y hy => ?_, List.pairwise_cons.mpr ⟨k1, k2⟩⟩
    rcases List.mem_cons.mp hy with e | e
    · rw [e]; exact h1'
    · exact lt_trans h1' (k1 y e)
theorem sorted_pw : ∀ {l : List Str}, sortedS l = true → l.Pairwise (fun a b => ltCps b.cps.toList a.cps.toList = false)
  | [], _ => List.Pairwise.nil
  | x :: r, h => List.pairwise_cons.mpr (rising_pw (show risingS x r = true from h))
theorem pw_uniq : ∀ {ys zs : List Str}, ys.Perm zs → ys.Pairwise (fun a b => ltCps b.cps.toList a.cps.toList = false) → zs.Pairwise (fun a b => ltCps b.cps.toList a.cps.toList = false) → ys = zs
  | [], zs, p, _, _ => p.nil_eq
  | y :: r, [], p, _, _ => absurd p.symm.nil_eq (by simp)
  | y :: r, z :: t, p, hy, hz => by
    obtain ⟨y1, y2⟩ := List.pairwise_cons.mp hy
    obtain ⟨z1, z2⟩ := List.pairwise_cons.mp hz
    have e : y = z := by
      have m1 : y ∈ z :: t := p.mem_iff.mp (by simp)
      have m2 : z ∈ y :: r := p.mem_iff.mpr (by simp)
      rcases List.mem_cons.mp m1 with e | e
      · exact e
      · rcases List.mem_cons.mp m2 with e2 | e2
        · exact e2.symm
        · exact tl_ext (lt_anti (z1 y e) (y1 z e2)) 
    subst e
    rw [pw_uniq ((List.perm_cons y).mp p) y2 z2]
theorem sorted_uniq {ys zs : List Str} (p : ys.Perm zs) (sy : sortedS ys = true) (sz : sortedS zs = true) : ys = zs := pw_uniq p (sorted_pw sy) (sorted_pw sz)
theorem seal_len (b : Bk) (acc : List Str) (d : Str) : (sealF b acc d).length ≤ acc.length + 1 := by
  unfold sealF
  split
  · omega
  · split
    · omega
    · rw [List.length_append]; exact Nat.le_refl _
theorem seals_len (b : Bk) : ∀ (bs acc : List Str), (bs.foldl (sealF b) acc).length ≤ acc.length + bs.length
  | [], _ => Nat.le_refl _
  | d :: r, acc => by
    have h1 := seals_len b r (sealF b acc d)
    have h2 := seal_len b acc d
    rw [List.foldl_cons, List.length_cons]; omega
end Z
namespace Z
open PySem L2 SX
/-! ### small helpers -/
theorem nodup_len : ∀ {l m : List Str}, l.Nodup → (∀ x ∈ l, x ∈ m) → l.length ≤ m.length
  | [], m, _, _ => Nat.zero_le _
  | x :: l, m, nd, h => by
    obtain ⟨n1, n2⟩ := List.nodup_cons.mp nd
    have hx := h x (by simp)
    have := nodup_len (l := l) (m := m.erase x) n2 fun y my => (List.mem_erase_of_ne (fun e => n1 (by rw [← e]; exact my))).mpr (h y (List.mem_cons_of_mem _ my))
    have e := List.length_erase_of_mem hx
    have p := List.length_pos_of_mem hx
    rw [List.length_cons]; omega
theorem sput {H H' : Hp} {a : Addr} {o : HO} (h : Same H H') (n : H a = none) : Same H (upd H' a o) := fun b u hb => by
  rw [upd_ne (ne_of_none hb n)]; exact h b u hb
theorem tk_upd {K : PySem.W.Frag} {H : Hp} {p : Addr} {u o : HO} (h : H p = some u) (n1 : ∀ xs, u ≠ .tup xs) (n2 : ∀ o w, u ≠ .frz o w) : TK K H (upd H p o) := fun a xs q => by
  rcases q with (q | ⟨o', q⟩) | q
  · exact .inl (.inl (by rw [upd_ne (fun e => by rw [e, h] at q; exact n1 _ (Option.some.inj q))]; exact q))
  · exact .inl (.inr ⟨o', by rw [upd_ne (fun e => by rw [e, h] at q; exact n2 _ _ (Option.some.inj q))]; exact q⟩)
  · exact .inr q
theorem map_get {α : Type} {f : α → V} {l : List α} {i : Nat} {x : V} (h : (l.map f)[i]? = some x) : ∃ y, l[i]? = some y ∧ x = f y := by
  rw [List.getElem?_map] at h
  cases e : l[i]? with
  | none => rw [e] at h; cases h
  | some y => rw [e] at h; exact ⟨y, rfl, (Option.some.inj h).symm⟩
theorem filt_step2 {α : Type} {p : α → Bool} {l : List α} {i : Nat} {x : α} (e : l[i]? = some x) : (l.take (i + 1)).filter p = (l.take i).filter p ++ (if p x = true then [x] else []) := by
  rw [List.take_add_one, e, List.filter_append]
  congr 1
  by_cases c : p x = true
  · rw [if_pos c]; exact List.filter_eq_self.mpr fun y hy => by rw [List.mem_singleton.mp hy]; exact c
  · rw [if_neg c]; exact List.filter_eq_nil_iff.mpr fun y hy => by rw [List.mem_singleton.mp hy]; exact c
theorem iG {c : Bool} {A B : Prop} (h : c = true) (a : A) : if c = true then A else B := by rw [if_pos h]; exact a
theorem iN {c : Bool} {A B : Prop} (h : c = false) (b : B) : if c = true then A else B := by rw [if_neg (by rw [h]; exact Bool.false_ne_true)]; exact b
theorem sorted_first {y : Str} {r : List Str} (h : (y :: r).Pairwise fun a b => PySem.Spec.ltCps b.cps.toList a.cps.toList = false) : ∀ z ∈ y :: r, ¬ tl z < tl y := fun z hz => by
  rcases List.mem_cons.mp hz with e | e
  · rw [e]; exact fun q => List.lt_irrefl _ q
  · have := (List.pairwise_cons.mp h).1 z e
    rw [PyProof.Rows.ltCps_eq] at this
    exact of_decide_eq_false this
def nms (b : Bk) : List Str := b.si.map (·.n)
theorem dls {K : PySem.W.Frag} {H : Hp} (x : Str) : DV K H (.str x) (.str x) := by unfold DV; rfl
theorem dli {K : PySem.W.Frag} {H : Hp} (x : Int) : DV K H (.int x) (.int x) := by unfold DV; rfl
theorem dln {K : PySem.W.Frag} {H : Hp} : DVs K H [] [] := by unfold DVs; rfl
theorem dlc {K : PySem.W.Frag} {H : Hp} {d : D} {ds : List D} {v : V} {vs : List V} (h : DV K H d v) (t : DVs K H ds vs) : DVs K H (d :: ds) (v :: vs) := ⟨v, vs, rfl, h, t⟩
theorem tk_put {K : PySem.W.Frag} {H : Hp} {M : Addr} {ys : List V} {o : HO} (h : H M = some (.lst ys)) : TK K H (upd H M o) := fun a xs q => Ext.seqT (s := M) (fun b o hb hh => by rw [upd_ne hb]; exact hh) h q
theorem tk_new {K : PySem.W.Frag} {H : Hp} {M : Addr} {o : HO} (h : H M = none) : TK K H (upd H M o) := TK.same (same_new h)
theorem small_le (n : Nat) (h : n ≤ 30000) : n ≤ sizeLine := Nat.le_trans h (by decide)
theorem small_lt (n : Nat) (h : n ≤ 30000) : n < sizeLine := Nat.lt_of_le_of_lt h (by decide)
theorem pw_get {α : Type} {r : α → α → Prop} : ∀ {l : List α} {i j : Nat} {a b : α}, l.Pairwise r → l[i]? = some a → l[j]? = some b → i < j → r a b
  | [], _, _, _, _, _, h, _, _ => by simp at h
  | x :: l, 0, j + 1, a, b, p, h, k, _ => by
    cases (show some _ = some _ from h)
    exact (List.pairwise_cons.mp p).1 b (List.mem_of_getElem? (by simpa using k))
  | x :: l, i + 1, j + 1, a, b, p, h, k, lt => pw_get (i := i) (j := j) (List.pairwise_cons.mp p).2 (by simpa using h) (by simpa using k) (by omega)
/-- the bookkeeping of one local list and the source -/
theorem ext_keep {s M : Addr} {H H1 : Hp} {o : HO} (n : H M = none) (x : Ext s H H1) : Ext s H (upd H1 M o) := fun b w hb hh => by
  rw [upd_ne (ne_of_none hh n)]; exact x b w hb hh
theorem DVs.of_all {K : PySem.W.Frag} {H : Hp} {α : Type} {f : α → D} {g : α → V} : ∀ {l : List α}, (∀ x ∈ l, DV K H (f x) (g x)) → DVs K H (l.map f) (l.map g)
  | [], _ => by unfold List.map DVs; rfl
  | x :: l, h => ⟨g x, l.map g, rfl, h x (by simp), DVs.of_all fun y m => h y (List.mem_cons_of_mem _ m)⟩
theorem DVs.all {K : PySem.W.Frag} {H : Hp} {α : Type} {f : α → D} {l : List α} {us : List V} (h : DVs K H (l.map f) us) {i : Nat} {x : α} (e : l[i]? = some x) : ∃ u, us[i]? = some u ∧ DV K H (f x) u :=
  h.get (by rw [List.getElem?_map, e]; rfl)
theorem ln_ok {ls : List (Str × Str)} (h : ∀ l ∈ ls, Low (tl l.1) ∧ Low (tl l.2)) : Okl (ls.map lnD) :=
  fines_ok (n := 1) (fines_map fun l m => fine_tup (fines_cons (fine_low fun c hc => by have := (h l m).1 c hc; omega) (fines_cons (fine_low fun c hc => by have := (h l m).2 c hc; omega) fines_nil)))
theorem pr_ok {x y : Str} (h : Low (tl x)) (k : Low (tl y)) : Okd (.tup [.str x, .str y]) :=
  fine_ok (n := 1) (fine_tup (fines_cons (fine_low fun c hc => by have := h c hc; omega) (fines_cons (fine_low fun c hc => by have := k c hc; omega) fines_nil)))
theorem alike_ln (b c : Str × Str) : PySem.W.alike (py (lnD b)) (py (lnD c)) = true := by simp [lnD, py, pys, PySem.W.alike, PySem.W.alikeAll]
theorem depth_ln (b : Str × Str) : (py (lnD b)).depth ≤ 60 := by simp [lnD, py, pys, PyData.depth, PyData.depthAll]
theorem lnD_inj {a b : Str × Str} (h : lnD a = lnD b) : a = b := by
  unfold lnD at h
  simp only [D.tup.injEq, List.cons.injEq, D.str.injEq, and_true] at h
  exact Prod.ext h.1 h.2
theorem erase_perm {α : Type} : ∀ (l : List α) (i : Nat) (h : i < l.length), (l[i] :: l.eraseIdx i).Perm l
  | x :: l, 0, _ => List.Perm.refl _
  | x :: l, i + 1, h => by
    have ih := erase_perm l i (by simpa using h)
    exact (List.Perm.swap x _ _).trans (ih.cons x)
theorem DVs.perm {K : PySem.W.Frag} {H : Hp} {α : Type} {f : α → D} {ys us : List V} (p : ys.Perm us) : ∀ {l : List α}, DVs K H (l.map f) us → ∃ m : List α, m.Perm l ∧ DVs K H (m.map f) ys := by
  induction p with
  | nil => intro l h; exact ⟨l, List.Perm.refl _, h⟩
  | cons x _ ih =>
    intro l h
    cases l with
    | nil => unfold List.map DVs at h; cases h
    | cons a l =>
      obtain ⟨v, r, e, q, t⟩ := h
      cases e
      obtain ⟨m, pm, d⟩ := ih t
      exact ⟨a :: m, pm.cons a, ⟨_, _, rfl, q, d⟩⟩
  | swap x y r0 =>
    intro l h
    match l, h with
    | [], h => unfold List.map DVs at h; cases h
    | [a], h =>
      obtain ⟨v, r, e, q, t⟩ := h
      cases e
      unfold List.map DVs at t; cases t
    | a :: b :: l, h =>
      obtain ⟨v, r, e, q, t⟩ := h
      cases e
      obtain ⟨v2, r2, e2, q2, t2⟩ := t
      cases e2
      exact ⟨b :: a :: l, List.Perm.swap a b l, ⟨_, _, rfl, q2, ⟨_, _, rfl, q, t2⟩⟩⟩
  | trans _ _ ih1 ih2 =>
    intro l h
    obtain ⟨m, pm, d⟩ := ih2 h
    obtain ⟨m2, pm2, d2⟩ := ih1 d
    exact ⟨m2, pm2.trans pm, d2⟩
theorem DVs.take {K : PySem.W.Frag} {H : Hp} {α : Type} {f : α → D} : ∀ {l : List α} {us : List V} (n : Nat), DVs K H (l.map f) us → DVs K H ((l.take n).map f) (us.take n)
  | _, _, 0, _ => by rw [List.take_zero, List.take_zero]; unfold List.map DVs; rfl
  | [], _, n + 1, h => by unfold List.map DVs at h; subst h; unfold List.take List.map DVs; rfl
  | x :: l, _, n + 1, h => by
    obtain ⟨v, r, rfl, q, t⟩ := h
    exact ⟨v, r.take n, rfl, q, DVs.take n t⟩
theorem DVs.drop {K : PySem.W.Frag} {H : Hp} {α : Type} {f : α → D} : ∀ {l : List α} {us : List V} (n : Nat), DVs K H (l.map f) us → DVs K H ((l.drop n).map f) (us.drop n)
  | _, _, 0, h => by rw [List.drop_zero, List.drop_zero]; exact h
  | [], _, n + 1, h => by unfold List.map DVs at h; subst h; unfold List.drop List.map DVs; rfl
  | x :: l, _, n + 1, h => by
    obtain ⟨v, r, rfl, q, t⟩ := h
    exact DVs.drop n t
end Z
namespace Z
open PySem L2 SX
theorem tkE {K : PySem.W.Frag} {H H' : Hp} {s a : Addr} {c : Nat} (x : Ext s H H') (S : Src H s a c) : TK K H H' := fun _ _ h => by
  obtain ⟨xs, e⟩ := S.lst
  exact x.seqT e h
theorem sl_listK {X : Cx} {K : PySem.W.Frag} (h : X.K = K) : SlR X (rSlL K) := by subst h; exact sl_list
/-! ### tuples stay, by their addresses too -/
def TT (K : PySem.W.Frag) (H H' : Hp) : Prop := TK K H H' ∧ ∀ a xs, H a = some (.tup xs) → H' a = some (.tup xs)
section
variable {K : PySem.W.Frag}
theorem TT.refl {H : Hp} : TT K H H := ⟨TK.same (Same.refl _), fun _ _ e => e⟩
theorem TT.same {H H' : Hp} (h : Same H H') : TT K H H' := ⟨TK.same h, fun _ _ e => h _ _ e⟩
theorem TT.trans {H H1 H2 : Hp} (x : TT K H H1) (y : TT K H1 H2) : TT K H H2 := ⟨x.1.trans y.1, fun a xs e => y.2 a xs (x.2 a xs e)⟩
theorem TT.ext {H H' : Hp} {s a : Addr} {c : Nat} (x : Ext s H H') (S : Src H s a c) : TT K H H' := ⟨tkE x S, fun b xs e => x _ _ (fun z => by
  obtain ⟨ys, e2⟩ := S.lst
  rw [z, e2] at e
  cases e) e⟩
theorem TT.over {H : Hp} {p : Addr} {u o : HO} (h : H p = some u) (n1 : ∀ xs, u ≠ .tup xs) (n2 : ∀ o w, u ≠ .frz o w) : TT K H (upd H p o) := ⟨tk_upd h n1 n2, fun b xs e => by
  rw [upd_ne (fun z => by rw [z, h] at e; exact n1 _ (Option.some.inj e))]; exact e⟩
theorem TT.put {H : Hp} {M : Addr} {ys : List V} {o : HO} (h : H M = some (.lst ys)) : TT K H (upd H M o) := TT.over h (fun _ e => by cases e) (fun _ _ e => by cases e)
end
theorem Src.extL {H H' : Hp} {s a : Addr} {c : Nat} {ms : List Addr} (h : Src H s a c) (x : ExtL ms H H') (n1 : s ∉ ms) (n2 : a ∉ ms) : Src H' s a c := by
  obtain ⟨ns, i, b, e, t, h1, h2, h3⟩ := h
  exact ⟨ns, i, b, e, t, x _ _ n1 h1, x _ _ n2 h2, h3⟩
/-! ### a list of values, told one by one -/
def RL {α : Type} (R : α → V → Prop) : List α → List V → Prop
  | [], us => us = []
  | x :: r, us => ∃ v t, us = v :: t ∧ R x v ∧ RL R r t
section
variable {α β : Type} {R R' : α → V → Prop}
theorem RL.len : ∀ {xs : List α} {us : List V}, RL R xs us → us.length = xs.length
  | [], _, h => by have : _ = [] := h; rw [this]; rfl
  | _ :: _, _, h => by
    obtain ⟨v, t, rfl, _, h2⟩ := h
    rw [List.length_cons, List.length_cons, h2.len]
theorem RL.get : ∀ {xs : List α} {us : List V} {i : Nat} {v : V}, RL R xs us → us[i]? = some v → ∃ x, xs[i]? = some x ∧ R x v
  | [], us, i, v, h, q => by have : us = [] := h; subst this; simp at q
  | x :: r, us, i, v, h, q => by
    obtain ⟨v', t, rfl, h1, h2⟩ := h
    cases i with
    | zero => exact ⟨x, rfl, by cases q; exact h1⟩
    | succ i => exact RL.get (i := i) h2 q
theorem RL.at {xs : List α} {us : List V} {i : Nat} {x : α} (h : RL R xs us) (q : xs[i]? = some x) : ∃ v, us[i]? = some v ∧ R x v := by
  have il := (List.getElem?_eq_some_iff.mp q).1
  obtain ⟨v, hv⟩ : ∃ v, us[i]? = some v := ⟨_, List.getElem?_eq_getElem (by rw [h.len]; exact il)⟩
  obtain ⟨x', hx, r⟩ := h.get hv
  rw [q] at hx
  cases hx
  exact ⟨v, hv, r⟩
theorem RL.mono (m : ∀ x v, R x v → R' x v) : ∀ {xs : List α} {us : List V}, RL R xs us → RL R' xs us
  | [], _, h => h
  | _ :: _, _, h => by
    obtain ⟨v, t, e, h1, h2⟩ := h
    exact ⟨v, t, e, m _ _ h1, RL.mono m h2⟩
theorem RL.snoc {x : α} {v : V} (q : R x v) : ∀ {xs : List α} {us : List V}, RL R xs us → RL R (xs ++ [x]) (us ++ [v])
  | [], us, h => by have : us = [] := h; subst this; exact ⟨v, [], rfl, q, rfl⟩
  | _ :: _, _, h => by
    obtain ⟨v', t, rfl, h1, h2⟩ := h
    exact ⟨v', t ++ [v], rfl, h1, h2.snoc q⟩
theorem RL.step {xs : List α} {us : List V} {x : α} {v : V} {j : Nat} (he : xs[j]? = some x) (h : RL R (xs.take j) us) (q : R x v) : RL R (xs.take (j + 1)) (us ++ [v]) := by
  rw [List.take_add_one, he]
  exact h.snoc q
theorem RL.take : ∀ {xs : List α} {us : List V} (j : Nat), RL R xs us → RL R (xs.take j) (us.take j)
  | _, _, 0, _ => rfl
  | [], us, j + 1, h => by have : us = [] := h; subst this; exact rfl
  | _ :: _, _, j + 1, h => by
    obtain ⟨v, t, rfl, h1, h2⟩ := h
    exact ⟨v, t.take j, rfl, h1, h2.take j⟩
theorem RL.erase : ∀ {xs : List α} {us : List V} (j : Nat), RL R xs us → RL R (xs.eraseIdx j) (us.eraseIdx j)
  | [], us, j, h => by have : us = [] := h; subst this; simp; exact rfl
  | _ :: _, _, 0, h => by
    obtain ⟨v, t, rfl, h1, h2⟩ := h
    exact h2
  | _ :: _, _, j + 1, h => by
    obtain ⟨v, t, rfl, h1, h2⟩ := h
    exact ⟨v, t.eraseIdx j, rfl, h1, h2.erase j⟩
theorem RL.pick {xs : List α} {us : List V} {v : V} (h : RL R xs us) (m : v ∈ us) : ∃ x, x ∈ xs ∧ R x v := by
  obtain ⟨i, hi⟩ := List.mem_iff_getElem?.mp m
  obtain ⟨x, hx, r⟩ := h.get hi
  exact ⟨x, List.mem_of_getElem? hx, r⟩
theorem RL.dvs {K : PySem.W.Frag} {H : Hp} {f : α → D} (m : ∀ x v, R x v → DV K H (f x) v) : ∀ {xs : List α} {us : List V}, RL R xs us → DVs K H (xs.map f) us
  | [], us, h => by have : us = [] := h; subst this; exact dln
  | _ :: _, _, h => by
    obtain ⟨v, t, rfl, h1, h2⟩ := h
    exact dlc (m _ _ h1) (RL.dvs m h2)
theorem RL.perm : ∀ {us vs : List V}, us.Perm vs → ∀ {xs : List α}, RL R xs us → ∃ ys : List α, xs.Perm ys ∧ RL R ys vs := by
  intro us vs p
  induction p with
  | nil => intro xs h; exact ⟨xs, List.Perm.refl _, h⟩
  | cons v p ih =>
    intro xs h
    cases xs with
    | nil => cases (show _ :: _ = [] from h)
    | cons x r =>
      obtain ⟨v', t, e, h1, h2⟩ := h
      cases e
      obtain ⟨ys, p2, h3⟩ := ih h2
      exact ⟨x :: ys, p2.cons x, v, _, rfl, h1, h3⟩
  | swap v w l =>
    intro xs h
    cases xs with
    | nil => cases (show _ :: _ = [] from h)
    | cons x r =>
      obtain ⟨v', t, e, h1, h2⟩ := h
      cases e
      cases r with
      | nil => cases (show _ :: _ = [] from h2)
      | cons y r =>
        obtain ⟨v2, t2, e2, h3, h4⟩ := h2
        cases e2
        exact ⟨y :: x :: r, List.Perm.swap y x r, _, _, rfl, h3, _, _, rfl, h1, h4⟩
  | trans _ _ ih1 ih2 =>
    intro xs h
    obtain ⟨ys, p1, h1⟩ := ih1 h
    obtain ⟨zs, p2, h2⟩ := ih2 h1
    exact ⟨zs, p1.trans p2, h2⟩
theorem RL.filter {f : α → Bool} : ∀ {xs : List α} {us : List V}, RL R xs us → ∃ ws, RL R (xs.filter f) ws
  | [], _, _ => ⟨[], rfl⟩
  | x :: r, _, h => by
    obtain ⟨v, t, _, h1, h2⟩ := h
    obtain ⟨ws, h3⟩ := RL.filter (f := f) h2
    by_cases c : f x = true
    · rw [List.filter_cons_of_pos c]; exact ⟨v :: ws, v, ws, rfl, h1, h3⟩
    · rw [List.filter_cons_of_neg c]; exact ⟨ws, h3⟩
end
/-! ### ids -/
abbrev Idn := Str × Int
def ik (x : Idn) : List L2.Key := [.inr x.1, .inl x.2]
def iD (x : Idn) : D := .tup [.str x.1, .int x.2]
theorem ik_inj {x y : Idn} (h : ik x = ik y) : x = y := by
  obtain ⟨a, b⟩ := x
  obtain ⟨c, d⟩ := y
  unfold ik at h
  injection h with h1 h2
  injection h2 with h2 _
  exact Prod.ext (Sum.inr.inj h1) (Sum.inl.inj h2)
theorem iD_inj {x y : Idn} (h : iD x = iD y) : x = y := by
  obtain ⟨a, b⟩ := x
  obtain ⟨c, d⟩ := y
  unfold iD at h
  injection h with h
  injection h with h1 h2
  injection h2 with h2 _
  injection h1 with h1
  injection h2 with h2
  exact Prod.ext h1 h2
def okI (x : Idn) : Prop := Low (tl x.1) ∧ (tl x.1).length ≤ 1000
def IsId (H : Hp) (x : Idn) (v : V) : Prop := okI x ∧ ∃ a, v = .ref a ∧ H a = some (.tup [.str x.1, .int x.2])
section
variable {K : PySem.W.Frag}
theorem IsId.tt {H H' : Hp} (T : TT K H H') (x : Idn) (v : V) (h : IsId H x v) : IsId H' x v := by
  obtain ⟨h0, a, e, h1⟩ := h
  exact ⟨h0, a, e, T.2 _ _ h1⟩
theorem IsId.dv {H : Hp} (x : Idn) (v : V) (h : IsId H x v) : DV K H (iD x) v := by
  obtain ⟨h0, a, rfl, h1⟩ := h
  exact ⟨a, _, rfl, SqT.of h1, dlc (dls _) (dlc (dli _) dln)⟩
theorem id_okd {x : Idn} (h : okI x) : Okd (iD x) := fine_ok (n := 1) (fine_tup (fines_cons (fine_low fun c hc => by have := h.1 c hc; omega) (fines_cons fine_int fines_nil)))
theorem id_okl {l : List Idn} (h : ∀ x ∈ l, okI x) : Okl (l.map iD) := fines_ok (n := 1) (fines_map fun x m => fine_tup (fines_cons (fine_low fun c hc => by have := (h x m).1 c hc; omega) (fines_cons fine_int fines_nil)))
theorem id_alike (x y : Idn) : PySem.W.alike (py (iD x)) (py (iD y)) = true := by simp [iD, py, pys, PySem.W.alike, PySem.W.alikeAll]
theorem id_eqD {x y : Idn} : eqD (iD x) (iD y) = true ↔ x = y := by
  rw [eqD_iff (id_alike x y)]
  exact ⟨iD_inj, fun h => by rw [h]⟩
theorem id_aa {l : List Idn} : PySem.W.AllAlike (l.map fun b => py (iD b)) := aa_of id_alike
theorem id_so {l : List Idn} : PySem.W.Sortable (l.map fun b => py (iD b)) := so_tup fun b => ⟨_, _, rfl⟩
theorem id_dp (b : Idn) : (py (iD b)).depth ≤ 60 := by simp [iD, py, pys, PyData.depth, PyData.depthAll]
end
/-- is it in? -/
def memB (l : List Idn) (x : Idn) : Bool := l.any fun y => decide (ik y = ik x)
theorem memB_iff {l : List Idn} {x : Idn} : memB l x = true ↔ x ∈ l := by
  unfold memB
  rw [List.any_eq_true]
  exact ⟨fun ⟨y, hy, h⟩ => by rw [← ik_inj (of_decide_eq_true h)]; exact hy, fun h => ⟨x, h, decide_eq_true rfl⟩⟩
theorem memB_any {l : List Idn} {x : Idn} : ((l.map iD).any fun z => eqD z (iD x)) = memB l x := by
  rw [List.any_map]
  refine congrArg (List.any l) (funext fun y => ?_)
  rw [Bool.eq_iff_iff, decide_eq_true_iff]
  exact id_eqD.trans ⟨fun h => by rw [h], ik_inj⟩
theorem memB_congr {l m : List Idn} {x : Idn} (h : ∀ y, y ∈ l ↔ y ∈ m) : memB l x = memB m x := by
  rw [Bool.eq_iff_iff, memB_iff, memB_iff]; exact h x
def add (l : List Idn) (x : Idn) : List Idn := if memB l x = true then l else l ++ [x]
theorem add_mem {l : List Idn} {x y : Idn} : y ∈ add l x ↔ y ∈ l ∨ y = x := by
  unfold add
  split
  · rename_i h
    exact ⟨.inl, fun k => k.elim id fun e => by rw [e]; exact memB_iff.mp h⟩
  · rw [List.mem_append, List.mem_singleton]
theorem add_nd {l : List Idn} {x : Idn} (h : l.Nodup) : (add l x).Nodup := by
  unfold add
  split
  · exact h
  · rename_i n
    rw [List.nodup_append]
    exact ⟨h, List.nodup_cons.mpr ⟨by simp, List.nodup_nil⟩, fun a ha b hb => by
      rw [List.mem_singleton.mp hb]
      exact fun z => n (memB_iff.mpr (by rw [← z]; exact ha))⟩
theorem add_len {l : List Idn} {x : Idn} : (add l x).length ≤ l.length + 1 := by
  unfold add
  split
  · omega
  · rw [List.length_append]; exact Nat.le_refl _
def uni (l m : List Idn) : List Idn := m.foldl add l
theorem uni_mem {y : Idn} : ∀ {m l : List Idn}, y ∈ uni l m ↔ y ∈ l ∨ y ∈ m
  | [], l => by simp [uni]
  | x :: m, l => by
    show y ∈ uni (add l x) m ↔ _
    rw [uni_mem, add_mem, List.mem_cons, or_assoc]
theorem uni_nd : ∀ {m l : List Idn}, l.Nodup → (uni l m).Nodup
  | [], _, h => h
  | x :: m, l, h => uni_nd (m := m) (l := add l x) (add_nd h)
theorem uni_len : ∀ {m l : List Idn}, (uni l m).length ≤ l.length + m.length
  | [], _ => Nat.le_refl _
  | x :: m, l => by
    have h1 := uni_len (m := m) (l := add l x)
    have h2 := add_len (l := l) (x := x)
    show (uni (add l x) m).length ≤ _
    rw [List.length_cons]
    omega
theorem uni_take {l m : List Idn} {j : Nat} {x : Idn} (h : m[j]? = some x) : add (uni l (m.take j)) x = uni l (m.take (j + 1)) := by
  unfold uni
  rw [List.take_add_one, h, show (some x).toList = [x] from rfl, List.foldl_append]
  rfl
/-! ### sorted ids -/
noncomputable def srt (l : List Idn) : List Idn := l.mergeSort (dle iD)
theorem srt_mem {l : List Idn} {x : Idn} : x ∈ srt l ↔ x ∈ l := (sort_perm iD l).mem_iff
theorem srt_len {l : List Idn} : (srt l).length = l.length := (sort_perm iD l).length_eq
theorem pw_eq9 {α : Type} {r : α → α → Prop} (an : ∀ a b, r a b → r b a → a = b) : ∀ {l m : List α}, l.Perm m → l.Pairwise r → m.Pairwise r → l = m
  | [], m, p, _, _ => p.nil_eq
  | y :: l, [], p, _, _ => absurd p.symm.nil_eq (by simp)
  | y :: l, z :: m, p, hy, hz => by
    obtain ⟨y1, y2⟩ := List.pairwise_cons.mp hy
    obtain ⟨z1, z2⟩ := List.pairwise_cons.mp hz
    have e : y = z := by
      rcases List.mem_cons.mp (p.mem_iff.mp (List.mem_cons_self (a := y))) with e | e
      · exact e
      · rcases List.mem_cons.mp (p.mem_iff.mpr (List.mem_cons_self (a := z))) with e2 | e2
        · exact e2.symm
        · exact an _ _ (y1 z e2) (z1 y e)
    subst e
    rw [pw_eq9 an ((List.perm_cons y).mp p) y2 z2]
open PySem.W in
theorem dle_anti {x y : Idn} (h : dle iD x y = true) (k : dle iD y x = true) : x = y := by
  obtain ⟨a, b⟩ := x
  obtain ⟨c, d⟩ := y
  have h : (!dataLt (py (iD (c, d))) (py (iD (a, b)))) = true := h
  have k : (!dataLt (py (iD (a, b))) (py (iD (c, d)))) = true := k
  unfold iD at h k
  simp only [py, pys] at h k
  rw [dataLt_pair (by simp [alike]) (by simp [alike])] at h k
  rw [Bool.not_eq_true'] at h k
  by_cases e : a = c
  · subst e
    have e1 : (PyData.str a).eqv (PyData.str a) = true := by simp [PyData.eqv]
    rw [if_pos e1] at h k
    by_cases f : b = d
    · rw [f]
    · exfalso
      have e2 : (PyData.int d).eqv (PyData.int b) = false := by simp only [PyData.eqv, beq_eq_false_iff_ne]; omega
      have e3 : (PyData.int b).eqv (PyData.int d) = false := by simp only [PyData.eqv, beq_eq_false_iff_ne]; omega
      rw [if_neg (by rw [e2]; exact Bool.false_ne_true), dataLt_int, decide_eq_false_iff_not] at h
      rw [if_neg (by rw [e3]; exact Bool.false_ne_true), dataLt_int, decide_eq_false_iff_not] at k
      omega
  · exfalso
    have e2 : (PyData.str c).eqv (PyData.str a) = false := by simp [PyData.eqv, Ne.symm e]
    have e3 : (PyData.str a).eqv (PyData.str c) = false := by simp [PyData.eqv, e]
    rw [if_neg (by rw [e2]; exact Bool.false_ne_true), dataLt_str, decide_eq_false_iff_not] at h
    rw [if_neg (by rw [e3]; exact Bool.false_ne_true), dataLt_str, decide_eq_false_iff_not] at k
    exact e (str_of_cps (List.le_antisymm (List.not_lt.mp h) (List.not_lt.mp k)))
theorem srt_perm {l m : List Idn} (p : l.Perm m) : srt l = srt m :=
  pw_eq9 (r := fun a b => dle iD a b = true) (fun _ _ => dle_anti) (((sort_perm iD l).trans p).trans (sort_perm iD m).symm) (sort_pw iD l) (sort_pw iD m)
theorem val_mem {kvs : List (List L2.Key × V)} {ks : List Idn} (h : kvs.map (·.1) = ks.map ik) (x : Idn) : (valV kvs (ik x)).isSome = memB ks x := by
  rw [← valV_any]
  unfold memB
  have e1 : (kvs.any fun kv => decide (kv.1 = ik x)) = (kvs.map (·.1)).any fun k => decide (k = ik x) := by rw [List.any_map]; rfl
  rw [e1, h, List.any_map]; rfl
theorem RL.ofPairs {α : Type} {R : α → V → Prop} : ∀ {L : List (α × V)}, (∀ p ∈ L, R p.1 p.2) → RL R (L.map (·.1)) (L.map (·.2))
  | [], _ => rfl
  | p :: L, h => ⟨_, _, rfl, h p (by simp), RL.ofPairs fun q hq => h q (List.mem_cons_of_mem _ hq)⟩
theorem RL.pairs {α : Type} {R : α → V → Prop} : ∀ {xs : List α} {us : List V}, RL R xs us → ∃ L : List (α × V), L.map (·.1) = xs ∧ L.map (·.2) = us ∧ ∀ p ∈ L, R p.1 p.2
  | [], us, h => ⟨[], rfl, by have : us = [] := h; rw [this]; rfl, fun p h => by cases h⟩
  | x :: r, us, h => by
    obtain ⟨v, t, rfl, h1, h2⟩ := h
    obtain ⟨L, e1, e2, e3⟩ := RL.pairs h2
    refine ⟨(x, v) :: L, by rw [List.map_cons, e1], by rw [List.map_cons, e2], fun p hp => ?_⟩
    rcases List.mem_cons.mp hp with e | e
    · rw [e]; exact h1
    · exact e3 p e
end Z
namespace Z
open PySem L2 SX
/-! ### notices and their order -/
structure Th where
  id : Idn
  d : Int
  rf : List Idn
def plD (t : Th) : D := .tup [.int t.d, iD t.id]
noncomputable def ltT (a b : Th) : Bool := PySem.W.dataLt (py (plD a)) (py (plD b))
theorem pl_alike (x y : Th) : PySem.W.alike (py (plD x)) (py (plD y)) = true := by simp [plD, iD, py, pys, PySem.W.alike, PySem.W.alikeAll]
theorem pl_aa {l : List Th} : PySem.W.AllAlike (l.map fun b => py (plD b)) := aa_of pl_alike
theorem pl_so {l : List Th} : PySem.W.Sortable (l.map fun b => py (plD b)) := so_tup fun b => ⟨_, _, rfl⟩
theorem pl_dp (b : Th) : (py (plD b)).depth ≤ 60 := by simp [plD, iD, py, pys, PyData.depth, PyData.depthAll]
theorem dle_lt (a b : Th) : dle plD a b = !ltT b a := rfl
open PySem.W in
theorem pl_anti {x y : Th} (h : dle plD x y = true) (k : dle plD y x = true) : x.id = y.id := by
  obtain ⟨i, d, r⟩ := x
  obtain ⟨j, e, r'⟩ := y
  have h : (!dataLt (py (plD ⟨j, e, r'⟩)) (py (plD ⟨i, d, r⟩))) = true := h
  have k : (!dataLt (py (plD ⟨i, d, r⟩)) (py (plD ⟨j, e, r'⟩))) = true := k
  unfold plD at h k
  simp only [py, pys] at h k
  rw [dataLt_pair (by simp [alike]) (id_alike _ _)] at h k
  rw [Bool.not_eq_true'] at h k
  by_cases f : d = e
  · subst f
    have e1 : (PyData.int d).eqv (PyData.int d) = true := by simp [PyData.eqv]
    rw [if_pos e1] at h k
    by_cases g : i = j
    · exact g
    · have n1 : (py (iD j)).eqv (py (iD i)) = false := by
        cases q : (py (iD j)).eqv (py (iD i)) with
        | false => rfl
        | true => exact absurd (id_eqD.mp q).symm g
      have n2 : (py (iD i)).eqv (py (iD j)) = false := by
        cases q : (py (iD i)).eqv (py (iD j)) with
        | false => rfl
        | true => exact absurd (id_eqD.mp q) g
      rw [if_neg (by rw [n1]; exact Bool.false_ne_true)] at h
      rw [if_neg (by rw [n2]; exact Bool.false_ne_true)] at k
      exact dle_anti (x := i) (y := j) (by show (!dataLt (py (iD j)) (py (iD i))) = true; rw [h]; rfl) (by show (!dataLt (py (iD i)) (py (iD j))) = true; rw [k]; rfl)
  · exfalso
    have e2 : (PyData.int e).eqv (PyData.int d) = false := by simp only [PyData.eqv, beq_eq_false_iff_ne]; omega
    have e3 : (PyData.int d).eqv (PyData.int e) = false := by simp only [PyData.eqv, beq_eq_false_iff_ne]; omega
    rw [if_neg (by rw [e2]; exact Bool.false_ne_true), dataLt_int, decide_eq_false_iff_not] at h
    rw [if_neg (by rw [e3]; exact Bool.false_ne_true), dataLt_int, decide_eq_false_iff_not] at k
    omega
def Dis (ns : List Th) : Prop := (ns.map (·.id)).Nodup
theorem id_one : ∀ {ns : List Th}, Dis ns → ∀ {x y : Th}, x ∈ ns → y ∈ ns → x.id = y.id → x = y
  | [], _, _, _, h, _, _ => by cases h
  | z :: ns, nd, x, y, hx, hy, e => by
    obtain ⟨n1, n2⟩ := List.nodup_cons.mp (show (z.id :: ns.map (·.id)).Nodup from nd)
    rcases List.mem_cons.mp hx with hx | hx <;> rcases List.mem_cons.mp hy with hy | hy
    · rw [hx, hy]
    · exact absurd (List.mem_map.mpr ⟨y, hy, by rw [← e, hx]⟩) n1
    · exact absurd (List.mem_map.mpr ⟨x, hx, by rw [e, hy]⟩) n1
    · exact id_one (ns := ns) n2 hx hy e
theorem Dis.perm {ns ms : List Th} (h : Dis ns) (p : ns.Perm ms) : Dis ms := (p.map (fun t : Th => t.id)).nodup_iff.mp h
theorem pw_eqM {α : Type} {r : α → α → Prop} : ∀ {l m : List α}, (∀ a ∈ l, ∀ b ∈ l, r a b → r b a → a = b) → l.Perm m → l.Pairwise r → m.Pairwise r → l = m
  | [], m, _, p, _, _ => p.nil_eq
  | y :: l, [], _, p, _, _ => absurd p.symm.nil_eq (by simp)
  | y :: l, z :: m, an, p, hy, hz => by
    obtain ⟨y1, y2⟩ := List.pairwise_cons.mp hy
    obtain ⟨z1, z2⟩ := List.pairwise_cons.mp hz
    have e : y = z := by
      rcases List.mem_cons.mp (p.mem_iff.mp (List.mem_cons_self (a := y))) with e | e
      · exact e
      · rcases List.mem_cons.mp (p.mem_iff.mpr (List.mem_cons_self (a := z))) with e2 | e2
        · exact e2.symm
        · exact an _ (by simp) _ (List.mem_cons_of_mem _ e2) (y1 z e2) (z1 y e)
    subst e
    rw [pw_eqM (fun a ha b hb => an a (List.mem_cons_of_mem _ ha) b (List.mem_cons_of_mem _ hb)) ((List.perm_cons y).mp p) y2 z2]
noncomputable def asc (ns : List Th) : List Th := ns.mergeSort (dle plD)
theorem asc_p (ns : List Th) : (asc ns).Perm ns := sort_perm plD ns
theorem asc_w (ns : List Th) : (asc ns).Pairwise fun a b => dle plD a b = true := sort_pw plD ns
theorem asc_len (ns : List Th) : (asc ns).length = ns.length := (asc_p ns).length_eq
theorem asc_mem {ns : List Th} {x : Th} : x ∈ asc ns ↔ x ∈ ns := (asc_p ns).mem_iff
theorem anti_on {ns : List Th} (nd : Dis ns) : ∀ a ∈ ns, ∀ b ∈ ns, dle plD a b = true → dle plD b a = true → a = b := fun a ha b hb h k => id_one nd ha hb (pl_anti h k)
theorem asc_eq {ns ms : List Th} (nd : Dis ns) (p : ns.Perm ms) : asc ms = asc ns :=
  pw_eqM (anti_on (nd.perm (p.trans (asc_p ms).symm))) (((asc_p ms).trans p.symm).trans (asc_p ns).symm) (asc_w ms) (asc_w ns)
theorem asc_rev {ns ms : List Th} (nd : Dis ns) (p : ns.Perm ms) : (ms.mergeSort (PySem.W.dataLe true fun x => py (pairK (fun t : Th => D.int t.d) (fun t => iD t.id) x))) = (asc ns).reverse := by
  have q := List.mergeSort_perm ms (PySem.W.dataLe true fun x => py (pairK (fun t : Th => D.int t.d) (fun t => iD t.id) x))
  refine pw_eqM (r := fun a b => dle plD b a = true) (fun a ha b hb h k => anti_on (nd.perm (p.trans q.symm)) a ha b hb k h) ((q.trans p.symm).trans ((asc_p ns).symm.trans (List.reverse_perm _).symm)) ?_ ?_
  · exact PySem.W.sort_pairwise (PySem.W.sortLe_total _ true _) ms
  · rw [List.pairwise_reverse]
    exact asc_w ns
theorem dle_refl (a : Th) : dle plD a a = true := ((dle_total plD).total a a).elim id id
/-! ### parents -/
noncomputable def parT (ns : List Th) (n : Th) : Option Idn := n.rf.reverse.find? fun r => ns.any fun o => decide (o.id = r) && ltT o n
theorem parT_perm {ns ms : List Th} (p : ns.Perm ms) : parT ms = parT ns := by
  funext n
  unfold parT
  congr 1
  funext r
  rw [Bool.eq_iff_iff, List.any_eq_true, List.any_eq_true]
  exact ⟨fun ⟨x, h, k⟩ => ⟨x, p.mem_iff.mpr h, k⟩, fun ⟨x, h, k⟩ => ⟨x, p.mem_iff.mp h, k⟩⟩
theorem par_lt {ns : List Th} {n : Th} {r : Idn} (h : parT ns n = some r) : ∃ o ∈ ns, o.id = r ∧ ltT o n = true := by
  have := List.find?_some h
  obtain ⟨o, ho, k⟩ := List.any_eq_true.mp this
  rw [Bool.and_eq_true, decide_eq_true_iff] at k
  exact ⟨o, ho, k⟩
/-! ### the threads -/
def kids (par : Th → Option Idn) (M : List (Th × D)) (o : Option Idn) : List D := (M.filter fun y => decide (par y.1 = o)).map (·.2)
def thD (i : Idn) (ks : List D) : D := .tup [.str (Str.ofString "thread"), iD i, .tup ks]
def grow (par : Th → Option Idn) (M : List (Th × D)) (s : Th) : List (Th × D) := (s, thD s.id (kids par M (some s.id))) :: M
def built (par : Th → Option Idn) (R : List Th) : List (Th × D) := R.foldl (grow par) []
theorem built_snoc {par : Th → Option Idn} {R : List Th} {s : Th} : built par (R ++ [s]) = grow par (built par R) s := by unfold built; rw [List.foldl_append]; rfl
theorem built_take {par : Th → Option Idn} {R : List Th} {k : Nat} {s : Th} (h : R[k]? = some s) : built par (R.take (k + 1)) = grow par (built par (R.take k)) s := by rw [List.take_add_one, h]; exact built_snoc
theorem built_fst {par : Th → Option Idn} {R : List Th} : ∀ k, k ≤ R.length → (built par (R.take k)).map (·.1) = (R.take k).reverse
  | 0, _ => rfl
  | k + 1, h => by
    obtain ⟨s, hs⟩ : ∃ s, R[k]? = some s := ⟨_, List.getElem?_eq_getElem (by omega)⟩
    have ih := built_fst (par := par) (R := R) k (by omega)
    rw [built_take hs]
    unfold grow
    rw [List.map_cons, ih, List.take_add_one, hs]
    simp
theorem built_suf {par : Th → Option Idn} : ∀ (R : List Th) (M : List (Th × D)), ∃ X, R.foldl (grow par) M = X ++ M
  | [], M => ⟨[], rfl⟩
  | s :: R, M => by
    obtain ⟨X, e⟩ := built_suf (par := par) R (grow par M s)
    exact ⟨X ++ [(s, thD s.id (kids par M (some s.id)))], by rw [List.foldl_cons, e]; unfold grow; simp⟩
theorem built_all {par : Th → Option Idn} {R : List Th} (k : Nat) : ∃ X, built par R = X ++ built par (R.take k) := by
  obtain ⟨X, e⟩ := built_suf (par := par) (R.drop k) (built par (R.take k))
  refine ⟨X, ?_⟩
  rw [← e]
  unfold built
  rw [← List.foldl_append, List.take_append_drop]
noncomputable def desc (ns : List Th) : List Th := (asc ns).reverse
noncomputable def trT (ns : List Th) (y : Th) : D := match (built (parT ns) (desc ns)).find? fun e => decide (e.1.id = y.id) with
  | some e => e.2
  | none => .non
theorem find_one : ∀ {M : List (Th × D)}, ((M.map (·.1)).map (·.id)).Nodup → ∀ {e : Th × D}, e ∈ M → M.find? (fun x => decide (x.1.id = e.1.id)) = some e
  | [], _, _, h => by cases h
  | z :: M, nd, e, h => by
    obtain ⟨n1, n2⟩ := List.nodup_cons.mp (show (z.1.id :: (M.map (·.1)).map (·.id)).Nodup from nd)
    rcases List.mem_cons.mp h with h | h
    · subst h; exact List.find?_cons_of_pos (decide_eq_true rfl)
    · rw [List.find?_cons_of_neg (fun k => n1 (by rw [of_decide_eq_true k]; exact List.mem_map.mpr ⟨e.1, List.mem_map.mpr ⟨e, h, rfl⟩, rfl⟩))]
      exact find_one n2 h
section
variable {ns : List Th}
theorem desc_len : (desc ns).length = ns.length := by unfold desc; rw [List.length_reverse, asc_len]
theorem desc_mem {x : Th} : x ∈ desc ns ↔ x ∈ ns := by unfold desc; rw [List.mem_reverse, asc_mem]
theorem tr_of (nd : Dis ns) {k : Nat} {e : Th × D} (h : e ∈ built (parT ns) ((desc ns).take k)) : trT ns e.1 = e.2 := by
  obtain ⟨X, hX⟩ := built_all (par := parT ns) (R := desc ns) k
  have m : e ∈ built (parT ns) (desc ns) := by rw [hX]; exact List.mem_append_right _ h
  have f := built_fst (par := parT ns) (R := desc ns) (desc ns).length (Nat.le_refl _)
  rw [List.take_length] at f
  have : ((built (parT ns) (desc ns)).map (·.1)).map (·.id) = (asc ns).map (·.id) := by rw [f]; unfold desc; rw [List.reverse_reverse]
  unfold trT
  rw [find_one (by rw [this]; exact nd.perm (asc_p ns).symm) m]
theorem built_tr (nd : Dis ns) {k : Nat} (hk : k ≤ (desc ns).length) : built (parT ns) ((desc ns).take k) = (((desc ns).take k).reverse).map fun y => (y, trT ns y) := by
  rw [← built_fst (par := parT ns) k hk, List.map_map]
  have : ∀ e ∈ built (parT ns) ((desc ns).take k), ((fun y => (y, trT ns y)) ∘ fun x => x.1) e = e := fun e he => by
    show (e.1, trT ns e.1) = e
    rw [tr_of nd he]
  exact ((List.map_congr_left this).trans (List.map_id' _)).symm
theorem kids_tr (nd : Dis ns) {k : Nat} (hk : k ≤ (desc ns).length) (o : Option Idn) : kids (parT ns) (built (parT ns) ((desc ns).take k)) o = ((((desc ns).take k).reverse).filter fun y => decide (parT ns y = o)).map (trT ns) := by
  rw [built_tr nd hk]
  unfold kids
  rw [List.filter_map, List.map_map]
  rfl
/-- all that answer the k-th from the end came behind it -/
theorem kids_in (nd : Dis ns) {k : Nat} {s : Th} (hs : (desc ns)[k]? = some s) : (((desc ns).take k).reverse).filter (fun y => decide (parT ns y = some s.id)) = (asc ns).filter fun y => decide (parT ns y = some s.id) := by
  have e : asc ns = ((desc ns).drop k).reverse ++ ((desc ns).take k).reverse := by
    rw [← List.reverse_append, List.take_append_drop]; unfold desc; rw [List.reverse_reverse]
  conv => rhs; rw [e]
  rw [List.filter_append]
  have z : (((desc ns).drop k).reverse).filter (fun y => decide (parT ns y = some s.id)) = [] := by
    rw [List.filter_eq_nil_iff]
    intro y hy c
    have c := of_decide_eq_true c
    obtain ⟨o, ho, e1, e2⟩ := par_lt c
    have sm : s ∈ ns := desc_mem.mp (List.mem_of_getElem? hs)
    have : o = s := id_one nd ho sm e1
    subst this
    -- y stands at k or behind it in the falling order
    have dp : (desc ns).Pairwise fun a b => dle plD b a = true := by unfold desc; rw [List.pairwise_reverse]; exact asc_w ns
    have hd : (desc ns).drop k = o :: (desc ns).drop (k + 1) := by
      have := List.drop_eq_getElem_cons (List.getElem?_eq_some_iff.mp hs).1
      rw [this, (List.getElem?_eq_some_iff.mp hs).2]
    have dq : ((desc ns).drop k).Pairwise fun a b => dle plD b a = true := dp.sublist (List.drop_sublist _ _)
    rw [hd] at dq
    have hy := List.mem_reverse.mp hy
    rw [hd] at hy
    have le : dle plD y o = true := by
      rcases List.mem_cons.mp hy with h | h
      · rw [h]; exact dle_refl _
      · exact (List.pairwise_cons.mp dq).1 y h
    rw [dle_lt, e2] at le
    cases le
  rw [z, List.nil_append]
noncomputable def kidT (ns : List Th) (o : Option Idn) : List Th := (asc ns).filter fun y => decide (parT ns y = o)
theorem tr_eq (nd : Dis ns) {k : Nat} {s : Th} (hs : (desc ns)[k]? = some s) : trT ns s = thD s.id ((kidT ns (some s.id)).map (trT ns)) := by
  have hk := (List.getElem?_eq_some_iff.mp hs).1
  have m : (s, thD s.id (kids (parT ns) (built (parT ns) ((desc ns).take k)) (some s.id))) ∈ built (parT ns) ((desc ns).take (k + 1)) := by
    rw [built_take hs]; unfold grow; simp
  have := tr_of nd m
  rw [this, kids_tr nd (by omega), kids_in nd hs]
  rfl
noncomputable def thrD (ns : List Th) : D := .tup ((kidT ns none).map (trT ns))
theorem thr_perm {ms : List Th} (nd : Dis ns) (p : ns.Perm ms) : thrD ms = thrD ns := by
  unfold thrD kidT
  rw [asc_eq nd p, parT_perm p]
  congr 1
  refine List.map_congr_left fun y _ => ?_
  unfold trT desc
  rw [asc_eq nd p, parT_perm p]
end

/-! ### how deep -/
def DLs (n : Nat) (ds : List D) : Prop := ∀ d ∈ ds, DL n d
theorem dlN {n : Nat} : DLs n [] := fun _ h => by cases h
theorem dlC {n : Nat} {d : D} {ds : List D} (h : DL n d) (k : DLs n ds) : DLs n (d :: ds) := fun x hx => (List.mem_cons.mp hx).elim (fun e => e ▸ h) (k x)
theorem dlT {n : Nat} {ds : List D} (l : ds.length ≤ 1000000) (k : DLs n ds) : DL (n + 1) (.tup ds) := ⟨l, k⟩
theorem dl_up : ∀ {n : Nat} {d : D}, DL n d → DL (n + 1) d
  | 0, _, h => False.elim h
  | n + 1, .tup xs, h => ⟨h.1, fun x hx => dl_up (h.2 x hx)⟩
  | n + 1, .non, _ => trivial
  | n + 1, .int _, _ => trivial
  | n + 1, .str _, _ => trivial
  | n + 1, .bl _, _ => trivial
theorem dl_le {n m : Nat} {d : D} (h : DL n d) (le : n ≤ m) : DL m d := by
  induction le with
  | refl => exact h
  | step _ ih => exact dl_up ih
theorem dl_id (i : Idn) : DL 2 (iD i) := dlT (by show 2 ≤ 1000000; decide) (dlC trivial (dlC trivial dlN))
theorem dl_th {n : Nat} {i : Idn} {ks : List D} (l : ks.length ≤ 1000000) (h : DLs (n + 2) ks) : DL (n + 4) (thD i ks) :=
  dlT (by show 3 ≤ 1000000; decide) (dlC trivial (dlC (dl_le (dl_id i) (by omega)) (dlC (dlT l h) dlN)))
section
variable {ns : List Th}
theorem built_dl {par : Th → Option Idn} {R : List Th} (l : R.length ≤ 100000) : ∀ k, k ≤ R.length → ∀ e ∈ built par (R.take k), DL (2 * k + 2) e.2
  | 0, _ => fun e h => by cases h
  | k + 1, hk => by
    obtain ⟨s, hs⟩ : ∃ s, R[k]? = some s := ⟨_, List.getElem?_eq_getElem (by omega)⟩
    have ih := built_dl (par := par) l k (by omega)
    have bl : (built par (R.take k)).length = k := by
      have := congrArg List.length (built_fst (par := par) (R := R) k (by omega))
      rw [List.length_map, List.length_reverse, List.length_take] at this
      omega
    intro e he
    rw [built_take hs] at he
    unfold grow at he
    rcases List.mem_cons.mp he with h | h
    · rw [h]
      refine dl_th ?_ fun d hd => ?_
      · unfold kids
        rw [List.length_map]
        have := List.length_filter_le (fun y : Th × D => decide (par y.1 = some s.id)) (built par (R.take k))
        omega
      · obtain ⟨x, hx, rfl⟩ := List.mem_map.mp hd
        exact ih x (List.mem_filter.mp hx).1
    · exact dl_le (ih e h) (by omega)
theorem tr_dl (nd : Dis ns) (l : ns.length ≤ 100000) {y : Th} (hy : y ∈ ns) : DL (2 * ns.length + 2) (trT ns y) := by
  have f := built_fst (par := parT ns) (R := desc ns) (desc ns).length (Nat.le_refl _)
  have m : y ∈ (built (parT ns) ((desc ns).take (desc ns).length)).map (·.1) := by rw [f, List.take_length, List.mem_reverse]; exact desc_mem.mpr hy
  obtain ⟨e, he, rfl⟩ := List.mem_map.mp m
  rw [tr_of nd he, ← desc_len (ns := ns)]
  exact built_dl (by rw [desc_len]; exact l) _ (Nat.le_refl _) e he
theorem kid_len (o : Option Idn) : (kidT ns o).length ≤ ns.length := by
  unfold kidT
  have := List.length_filter_le (fun y => decide (parT ns y = o)) (asc ns)
  rw [asc_len] at this
  exact this
theorem kid_in {o : Option Idn} {y : Th} (h : y ∈ kidT ns o) : y ∈ ns ∧ parT ns y = o := by
  unfold kidT at h
  obtain ⟨h1, h2⟩ := List.mem_filter.mp h
  exact ⟨asc_mem.mp h1, of_decide_eq_true h2⟩
theorem thr_dl (nd : Dis ns) (l : ns.length ≤ 23) : DL 50 (thrD ns) := by
  refine dl_le (n := 2 * ns.length + 3) (dlT ?_ fun d hd => ?_) (by omega)
  · rw [List.length_map]
    have := kid_len (ns := ns) none
    omega
  · obtain ⟨y, hy, rfl⟩ := List.mem_map.mp hd
    exact tr_dl nd (by omega) (kid_in hy).1
end
end Z
namespace Z
open PySem L2 SX
/-! ### notices as values -/
def NtAt (K : PySem.W.Frag) (H : Hp) (t : Th) (v : V) : Prop := okI t.id ∧ ∃ (a i r : Addr) (x0 x2 x4 x5 x7 x8 x9 : V) (rs : List V), v = .ref a ∧ SqT K H a [x0, .ref i, x2, .int t.d, x4, x5, .ref r, x7, x8, x9] ∧ H i = some (.tup [.str t.id.1, .int t.id.2]) ∧ SqT K H r rs ∧ RL (IsId H) t.rf rs ∧ rs.length ≤ 1000
/-- an id, or none -/
def OpId (H : Hp) (o : Option Idn) (v : V) : Prop := match o with
  | none => v = .non
  | some r => IsId H r v
def opD : Option Idn → D
  | none => .non
  | some r => iD r
section
variable {K : PySem.W.Frag}
theorem NtAt.tt {H H' : Hp} (T : TT K H H') (t : Th) (v : V) (h : NtAt K H t v) : NtAt K H' t v := by
  obtain ⟨h0, a, i, r, x0, x2, x4, x5, x7, x8, x9, rs, e, h1, h2, h3, h4, h5⟩ := h
  exact ⟨h0, a, i, r, x0, x2, x4, x5, x7, x8, x9, rs, e, T.1 _ _ h1, T.2 _ _ h2, T.1 _ _ h3, h4.mono (IsId.tt T), h5⟩
theorem OpId.tt {H H' : Hp} (T : TT K H H') {o : Option Idn} {v : V} (h : OpId H o v) : OpId H' o v := by
  cases o with
  | none => exact h
  | some r => exact IsId.tt T r v h
theorem OpId.dv {H : Hp} {o : Option Idn} {v : V} (h : OpId H o v) : DV K H (opD o) v := by
  cases o with
  | none => unfold opD DV; exact h
  | some r => exact IsId.dv r v h
theorem NtAt.id {H : Hp} {t : Th} {v : V} (h : NtAt K H t v) : ∃ (a i : Addr) (us : List V), v = .ref a ∧ SqT K H a us ∧ atI us 1 = some (.ref i) ∧ IsId H t.id (.ref i) := by
  obtain ⟨h0, a, i, r, x0, x2, x4, x5, x7, x8, x9, rs, e, h1, h2, h3, h4, h5⟩ := h
  exact ⟨a, i, _, e, h1, rfl, h0, i, rfl, h2⟩
theorem TT.extN {H H' : Hp} (x : LamX.ExtN H H') : TT K H H' := ⟨fun a xs h => extN_seqT x h, fun a xs h => x _ _ h fun _ e => by cases e⟩
end
theorem Src.extN {H H' : Hp} {s a : Addr} {c : Nat} (h : Src H s a c) (x : LamX.ExtN H H') : Src H' s a c := by
  obtain ⟨ns, i, b, e, t, h1, h2, h3⟩ := h
  exact ⟨ns, i, b, e, t, x _ _ h1 fun _ e => (by cases e), x _ _ h2 fun _ e => (by cases e), h3⟩
/-- the notices by their ids -/
def ByAt (K : PySem.W.Frag) (H : Hp) (ns : List Th) (B : Addr) : Prop := ∃ kvs : List (List L2.Key × V), H B = some (.dT kvs) ∧ kvs.length ≤ 1000 ∧ (∀ o ∈ ns, ∃ w, valV kvs (ik o.id) = some w ∧ NtAt K H o w) ∧ ∀ r : Idn, (valV kvs (ik r)).isSome = true → ∃ o ∈ ns, o.id = r
def tabT (P : Addr) : List (Addr × Str) := [(P, lamQ "threads_of")]
/-! ### promises -/
def sp_lawT (K : PySem.W.Frag) (P : Addr) : Sp := fun vs H Q _ => ∃ (a : Addr) (ns : List Int), vs = [.ref a] ∧ SqL K H a (ns.map V.int) ∧ ns.length ≤ 63 ∧ H P = some (.tbl #[]) ∧ ∀ H', Q (.bl true) H'
def sp49_many : Sp := fun vs H Q _ => ∃ (s a : Addr) (l : Nat) (w m : Int) (c : Nat), vs = [.ref s, .int (l : Nat), .int w, .int m] ∧ 0 < w ∧ w ≤ 1000 ∧ 0 ≤ m ∧ m ≤ 1000 ∧ Src H s a (c + 2) ∧
  ∀ (n : Nat) (H' : Hp), l ≤ n → (n : Int) < l + w + m → Ext s H H' → Src H' s a c → Q (.int (n : Nat)) H'
def sp49_shuffled (K : PySem.W.Frag) : Sp := fun vs H Q _ => ∃ (s a r : Addr) (xs : List V) (c : Nat), vs = [.ref s, .ref r] ∧ (SqL K H r xs ∨ SqT K H r xs) ∧ xs.length ≤ 1000 ∧ Src H s a (c + xs.length) ∧
  ∀ (d : Addr) (ys : List V) (H' : Hp), H d = none → H' d = some (.lst ys) → ys.Perm xs → Ext s H H' → Src H' s a c → Q (.ref d) H'
def sp49_ids (K : PySem.W.Frag) : Sp := fun vs H Q _ => ∃ (s a : Addr) (m : Nat) (c : Nat), vs = [.ref s, .int (m : Nat)] ∧ m ≤ 23 ∧ Src H s a (c + 200) ∧
  ∀ (d : Addr) (U : List Idn) (us : List V) (H' : Hp), H d = none → H' d = some (.lst us) → RL (IsId H') U us → U.Nodup → U.length ≤ m → Ext s H H' → Src H' s a c → Q (.ref d) H'
def sp49_refs (K : PySem.W.Frag) : Sp := fun vs H Q _ => ∃ (s a l : Addr) (x : Idn) (v : V) (U : List Idn) (us : List V) (c : Nat), vs = [.ref s, v, .ref l] ∧ IsId H x v ∧ H l = some (.lst us) ∧ l ≠ s ∧ RL (IsId H) U us ∧ U.length ≤ 100 ∧ Src H s a (c + 10) ∧
  ∀ (t : Addr) (rf : List Idn) (rs : List V) (H' : Hp), SqT K H' t rs → RL (IsId H') rf rs → rs.length ≤ 6 → Ext s H H' → Src H' s a c → Q (.ref t) H'
def sp49_threaded (K : PySem.W.Frag) : Sp := fun vs H Q _ => ∃ (s a l : Addr) (U : List Idn) (us : List V) (k : Nat) (x : Idn) (b : Bool) (c : Nat), vs = [.ref s, .ref l, .int (k : Nat), .bl b] ∧ H l = some (.lst us) ∧ l ≠ s ∧ RL (IsId H) U us ∧ U.length ≤ 100 ∧ U[k]? = some x ∧ Src H s a (c + 20) ∧
  ∀ (t : Th) (v : V) (H' : Hp), t.id = x → NtAt K H' t v → Ext s H H' → Src H' s a c → Q v H'
def sp49_place (K : PySem.W.Frag) : Sp := fun vs H Q _ => ∃ (t : Th) (v : V), vs = [v] ∧ NtAt K H t v ∧ ∀ u H', Same H H' → DV K H' (plD t) u → Q u H'
def sp49_parent (K : PySem.W.Frag) : Sp := fun vs H Q _ => ∃ (ns : List Th) (t : Th) (v : V) (B : Addr), vs = [v, .ref B] ∧ NtAt K H t v ∧ ByAt K H ns B ∧ Dis ns ∧ ∀ u H', Same H H' → OpId H' (parT ns t) u → Q u H'
def sp49_lparent (K : PySem.W.Frag) : Sp := fun vs H Q _ => ∃ (ns : List Th) (t : Th) (v : V) (l : Addr) (ws : List V), vs = [v, .ref l] ∧ NtAt K H t v ∧ SqL K H l ws ∧ RL (NtAt K H) ns ws ∧ ∀ u H', Same H H' → OpId H' (parT ns t) u → Q u H'
def sp49_lthreads (K : PySem.W.Frag) : Sp := fun vs H Q _ => ∃ (ns : List Th) (l : Addr) (ws : List V), vs = [.ref l] ∧ SqL K H l ws ∧ RL (NtAt K H) ns ws ∧ Dis ns ∧ ns.length ≤ 100 ∧ ∀ u H', Same H H' → DV K H' (thrD ns) u → Q u H'
def sp49_threads (K : PySem.W.Frag) (P : Addr) : Sp := fun vs H Q _ => ∃ (ns : List Th) (a : Addr) (ws : List V), vs = [.ref a] ∧ SqT K H a ws ∧ RL (NtAt K H) ns ws ∧ Dis ns ∧ ns.length ≤ 100 ∧ LamX.Tabs (tabT P) H ∧ ∀ u H', LamX.ExtN H H' → LamX.Tabs (tabT P) H' → DV K H' (thrD ns) u → Q u H'
theorem ints_at (zs : List Int) {v : Int} (h0 : 0 ≤ v) (h1 : v < (zs.length : Int)) : ∃ z, z ∈ zs ∧ atI (zs.map V.int) v = some (.int z) := by
  have h : v.toNat < zs.length := by omega
  exact ⟨zs[v.toNat], List.getElem_mem h, at_of (j := v.toNat) (by omega) (by rw [List.getElem?_map, List.getElem?_eq_getElem h]; rfl)⟩
theorem js49 {a y : Str} (h : (tl a).length + (tl y).length ≤ 30000) : (a ++ y).length ≤ sizeLine := by
  rw [tl_len, tl_app, List.length_append]
  exact Nat.le_trans h (by decide)
theorem js49b {a y : Str} (h : (tl a).length + (tl y).length ≤ 30000) : a.length + y.length ≤ sizeLine := by
  rw [tl_len, tl_len y]
  exact Nat.le_trans h (by decide)
theorem tl_ann : (tl (Str.ofString "ann@")).length ≤ 10 := by decide +kernel
theorem find_hit9 {α : Type} {p : α → Bool} : ∀ {l : List α} {i : Nat} {y : α}, (l.take i).find? p = none → l[i]? = some y → p y = true → l.find? p = some y
  | [], _, _, _, h, _ => by simp at h
  | x :: l, 0, y, _, h, k => by cases h; exact List.find?_cons_of_pos k
  | x :: l, i + 1, y, n, h, k => by
    rw [List.take_succ_cons] at n
    have n1 : p x = false := by
      cases e : p x with
      | false => rfl
      | true => rw [List.find?_cons_of_pos e] at n; cases n
    rw [List.find?_cons_of_neg (by rw [n1]; exact Bool.false_ne_true)] at n ⊢
    exact find_hit9 (i := i) n h k
theorem find_miss9 {α : Type} {p : α → Bool} {l : List α} {i : Nat} {y : α} (n : (l.take i).find? p = none) (h : l[i]? = some y) (k : p y = false) : (l.take (i + 1)).find? p = none := by
  rw [List.take_add_one, h, List.find?_append, n, Option.none_or]
  exact List.find?_cons_of_neg (by rw [k]; exact Bool.false_ne_true)
noncomputable def ansT (ns : List Th) (t : Th) (r : Idn) : Bool := ns.any fun o => decide (o.id = r) && ltT o t
theorem ans_one {ns : List Th} (nd : Dis ns) {o t : Th} (ho : o ∈ ns) : ansT ns t o.id = ltT o t := by
  unfold ansT
  rw [Bool.eq_iff_iff, List.any_eq_true]
  constructor
  · rintro ⟨x, hx, k⟩
    rw [Bool.and_eq_true, decide_eq_true_iff] at k
    rw [← id_one nd hx ho k.1]; exact k.2
  · exact fun k => ⟨o, ho, by rw [Bool.and_eq_true]; exact ⟨decide_eq_true rfl, k⟩⟩
theorem ans_none {ns : List Th} {t : Th} {r : Idn} (h : ∀ o ∈ ns, o.id ≠ r) : ansT ns t r = false := by
  rw [Bool.eq_false_iff]
  intro k
  obtain ⟨x, hx, k⟩ := List.any_eq_true.mp k
  rw [Bool.and_eq_true, decide_eq_true_iff] at k
  exact h x hx k.1
theorem py_pl_ne (t : Th) : py (plD t) ≠ .none := by simp [plD, py]
/-! ### the law's own threads -/
def RowAt (K : PySem.W.Frag) (H : Hp) (t : Th) (v : V) : Prop := okI t.id ∧ ∃ a i : Addr, v = .ref a ∧ SqT K H a [.int t.d, .ref i] ∧ H i = some (.tup [.str t.id.1, .int t.id.2])
theorem RowAt.tt {K : PySem.W.Frag} {H H' : Hp} (T : TT K H H') (t : Th) (v : V) (h : RowAt K H t v) : RowAt K H' t v := by
  obtain ⟨h0, a, i, e, h1, h2⟩ := h
  exact ⟨h0, a, i, e, T.1 _ _ h1, T.2 _ _ h2⟩
theorem RowAt.dv {K : PySem.W.Frag} {H : Hp} (t : Th) (v : V) (h : RowAt K H t v) : DV K H (plD t) v := by
  obtain ⟨h0, a, i, rfl, h1, h2⟩ := h
  exact ⟨a, _, rfl, h1, dlc (dli _) (dlc (IsId.dv _ _ ⟨h0, i, rfl, h2⟩) dln)⟩
theorem opD_okd {H : Hp} {o : Option Idn} {v : V} (h : OpId H o v) : Okd (opD o) := by
  cases o with
  | none => exact fine_ok (n := 1) fine_non
  | some r => exact id_okd h.1
theorem opD_eq (o : Option Idn) (x : Idn) : eqD (opD o) (iD x) = decide (o = some x) := by
  cases o with
  | none =>
    have e : eqD (opD none) (iD x) = false := by unfold eqD opD iD; simp [py, pys, PyData.eqv]
    rw [e]; exact (decide_eq_false (by simp)).symm
  | some r =>
    rw [Bool.eq_iff_iff, decide_eq_true_iff]
    show eqD (iD r) (iD x) = true ↔ _
    rw [id_eqD]
    exact ⟨fun e => by rw [e], fun e => Option.some.inj e⟩
theorem op_non {H : Hp} {o : Option Idn} {v : V} (h : OpId H o v) : decide (v = V.non) = decide (o = none) := by
  cases o with
  | none => rw [show v = V.non from h]; exact (decide_eq_true rfl).trans (decide_eq_true rfl).symm
  | some r =>
    obtain ⟨_, a, e, _⟩ := h
    rw [e, decide_eq_false (by simp), decide_eq_false (by simp)]
def PaAt (H : Hp) (ns : List Th) (P : Addr) (done : List Th) : Prop := ∃ kvs : List (List L2.Key × V), H P = some (.dT kvs) ∧ kvs.length ≤ done.length ∧ ∀ t ∈ done, ∃ u, valV kvs (ik t.id) = some u ∧ OpId H (parT ns t) u
def MaAt (K : PySem.W.Frag) (H : Hp) (ns : List Th) (M : Addr) (done : List Th) : Prop := ∃ kvs : List (List L2.Key × V), H M = some (.dT kvs) ∧ kvs.length ≤ done.length ∧ ∀ t ∈ done, ∃ u, valV kvs (ik t.id) = some u ∧ DV K H (trT ns t) u
theorem PaAt.tt {K : PySem.W.Frag} {H H' : Hp} {ns : List Th} {P : Addr} {done : List Th} (h : PaAt H ns P done) (T : TT K H H') (hp : ∀ o, H P = some o → H' P = some o) : PaAt H' ns P done := by
  obtain ⟨kvs, h1, h2, h3⟩ := h
  exact ⟨kvs, hp _ h1, h2, fun t ht => (h3 t ht).imp fun u k => ⟨k.1, k.2.tt T⟩⟩
theorem MaAt.tt {K : PySem.W.Frag} {H H' : Hp} {ns : List Th} {P : Addr} {done : List Th} (h : MaAt K H ns P done) (T : TT K H H') (hp : ∀ o, H P = some o → H' P = some o) : MaAt K H' ns P done := by
  obtain ⟨kvs, h1, h2, h3⟩ := h
  exact ⟨kvs, hp _ h1, h2, fun t ht => (h3 t ht).imp fun u k => ⟨k.1, k.2.tk T.1⟩⟩
/-- one more entry -/
theorem PaAt.put {K : PySem.W.Frag} {H : Hp} {ns : List Th} {P : Addr} {done : List Th} {t : Th} {u : V} {kvs : List (List L2.Key × V)} (h1 : H P = some (.dT kvs)) (h2 : kvs.length ≤ done.length) (h3 : ∀ t ∈ done, ∃ u, valV kvs (ik t.id) = some u ∧ OpId H (parT ns t) u) (hu : OpId H (parT ns t) u)
    (same : ∀ x ∈ done, x.id = t.id → x = t) : PaAt (upd H P (.dT (putK kvs (ik t.id) u))) ns P (done ++ [t]) := by
  have T : TT K H (upd H P (.dT (putK kvs (ik t.id) u))) := TT.over h1 (fun _ e => by cases e) (fun _ _ e => by cases e)
  refine ⟨_, upd_same, ?_, fun x hx => ?_⟩
  · have := length_putK kvs (ik t.id) u
    rw [List.length_append]
    show _ ≤ _ + 1
    omega
  · by_cases e : ik x.id = ik t.id
    · have e' : x = t := by
        rcases List.mem_append.mp hx with m | m
        · exact same x m (ik_inj e)
        · exact List.mem_singleton.mp m
      exact ⟨u, by rw [valV_put, if_pos e], by rw [e']; exact hu.tt T⟩
    · rcases List.mem_append.mp hx with m | m
      · obtain ⟨w, k1, k2⟩ := h3 x m
        exact ⟨w, by rw [valV_put, if_neg e]; exact k1, k2.tt T⟩
      · exact absurd (by rw [List.mem_singleton.mp m]) e
theorem MaAt.put {K : PySem.W.Frag} {H : Hp} {ns : List Th} {P : Addr} {done : List Th} {t : Th} {u : V} {kvs : List (List L2.Key × V)} (h1 : H P = some (.dT kvs)) (h2 : kvs.length ≤ done.length) (h3 : ∀ t ∈ done, ∃ u, valV kvs (ik t.id) = some u ∧ DV K H (trT ns t) u) (hu : DV K H (trT ns t) u)
    (same : ∀ x ∈ done, x.id = t.id → x = t) : MaAt K (upd H P (.dT (putK kvs (ik t.id) u))) ns P (done ++ [t]) := by
  have T : TT K H (upd H P (.dT (putK kvs (ik t.id) u))) := TT.over h1 (fun _ e => by cases e) (fun _ _ e => by cases e)
  refine ⟨_, upd_same, ?_, fun x hx => ?_⟩
  · have := length_putK kvs (ik t.id) u
    rw [List.length_append]
    show _ ≤ _ + 1
    omega
  · by_cases e : ik x.id = ik t.id
    · have e' : x = t := by
        rcases List.mem_append.mp hx with m | m
        · exact same x m (ik_inj e)
        · exact List.mem_singleton.mp m
      exact ⟨u, by rw [valV_put, if_pos e], by rw [e']; exact hu.tk T.1⟩
    · rcases List.mem_append.mp hx with m | m
      · obtain ⟨w, k1, k2⟩ := h3 x m
        exact ⟨w, by rw [valV_put, if_neg e]; exact k1, k2.tk T.1⟩
      · exact absurd (by rw [List.mem_singleton.mp m]) e
/-- the rows, sorted -/
theorem rows_sorted {K : PySem.W.Frag} {H : Hp} {ns : List Th} {L : List (Th × V)} (e : L.map (·.1) = ns) (h : ∀ p ∈ L, RowAt K H p.1 p.2) : RL (RowAt K H) (asc ns) ((L.mergeSort (dle fun p : Th × V => plD p.1)).map (·.2)) := by
  have q := RL.ofPairs (R := RowAt K H) (L := L.mergeSort (dle fun p : Th × V => plD p.1)) fun p hp => h p ((List.mergeSort_perm L _).mem_iff.mp hp)
  have z := PySem.W.sort_maps (r := dle fun p : Th × V => plD p.1) (s := dle plD) (fun p : Th × V => p.1) (l := L) (fun a _ b _ => rfl)
  rw [z, e] at q
  exact q
theorem filt_take {α : Type} {p : α → Bool} {l : List α} {j : Nat} {x : α} (h : l[j]? = some x) : (l.take (j + 1)).filter p = (l.take j).filter p ++ if p x = true then [x] else [] := by
  rw [List.take_add_one, h, List.filter_append]
  congr 1
  cases c : p x with
  | true => rw [if_pos rfl]; simp [c]
  | false => rw [if_neg Bool.false_ne_true]; simp [c]
theorem dvs_snoc {K : PySem.W.Frag} {H : Hp} {d : D} {v : V} (h : DV K H d v) : ∀ {ds : List D} {us : List V}, DVs K H ds us → DVs K H (ds ++ [d]) (us ++ [v])
  | [], us, k => by unfold DVs at k; subst k; exact dlc h dln
  | x :: ds, us, k => by
    obtain ⟨w, r, rfl, k1, k2⟩ := k
    exact dlc k1 (dvs_snoc h k2)
theorem dvs_rev {K : PySem.W.Frag} {H : Hp} : ∀ {ds : List D} {us : List V}, DVs K H ds us → DVs K H ds.reverse us.reverse
  | [], us, k => by unfold DVs at k; subst k; exact dln
  | x :: ds, us, k => by
    obtain ⟨w, r, rfl, k1, k2⟩ := k
    rw [List.reverse_cons, List.reverse_cons]
    exact dvs_snoc k1 (dvs_rev k2)
/-! ### the threads as the program makes them -/
noncomputable def kidK (ns : List Th) (k : Nat) (o : Option Idn) : List Th := ((desc ns).take k).filter fun y => decide (parT ns y = o)
theorem kidK_step {ns : List Th} {k : Nat} {s : Th} (hs : (desc ns)[k]? = some s) (o : Option Idn) : kidK ns (k + 1) o = kidK ns k o ++ if parT ns s = o then [s] else [] := by
  unfold kidK
  rw [filt_take hs]
  by_cases c : parT ns s = o
  · rw [if_pos c, if_pos (decide_eq_true c)]
  · rw [if_neg c, if_neg (by rw [decide_eq_false c]; exact Bool.false_ne_true)]
theorem kidK_same {ns : List Th} {k : Nat} {s : Th} (hs : (desc ns)[k]? = some s) {o : Option Idn} (h : parT ns s ≠ o) : kidK ns (k + 1) o = kidK ns k o := by rw [kidK_step hs, if_neg h, List.append_nil]
theorem kidK_more {ns : List Th} {k : Nat} {s : Th} (hs : (desc ns)[k]? = some s) : kidK ns (k + 1) (parT ns s) = kidK ns k (parT ns s) ++ [s] := by rw [kidK_step hs, if_pos rfl]
/-- those that answer s are all there when it comes -/
theorem kidK_all {ns : List Th} (nd : Dis ns) {k : Nat} {s : Th} (hs : (desc ns)[k]? = some s) : (kidK ns k (some s.id)).reverse = kidT ns (some s.id) := by
  unfold kidK kidT
  rw [← kids_in nd hs, List.filter_reverse]
theorem kidK_end {ns : List Th} (o : Option Idn) : (kidK ns ns.length o).reverse = kidT ns o := by
  unfold kidK kidT desc
  rw [List.take_of_length_le (by rw [List.length_reverse, asc_len]; exact Nat.le_refl _), ← List.filter_reverse, List.reverse_reverse]
def blK (e : Idn × Addr) : List L2.Key × V := (ik e.1, .ref e.2)
theorem bl_in : ∀ {bl : List (Idn × Addr)}, (bl.map (·.1)).Nodup → ∀ {e : Idn × Addr}, e ∈ bl → valV (bl.map blK) (ik e.1) = some (.ref e.2)
  | [], _, _, h => by cases h
  | z :: bl, nd, e, h => by
    obtain ⟨n1, n2⟩ := List.nodup_cons.mp (show (z.1 :: bl.map (·.1)).Nodup from nd)
    rcases List.mem_cons.mp h with h | h
    · subst h; exact valV_pos rfl
    · rw [List.map_cons, valV_neg (fun k => n1 (by rw [show z.1 = e.1 from ik_inj k]; exact List.mem_map_of_mem h))]
      exact bl_in n2 h
theorem bl_out : ∀ {bl : List (Idn × Addr)} {i : Idn}, i ∉ bl.map (·.1) → valV (bl.map blK) (ik i) = none
  | [], _, _ => rfl
  | z :: bl, i, h => by
    rw [List.map_cons, valV_neg (fun k => h (by rw [← show z.1 = i from ik_inj k]; simp))]
    exact bl_out fun k => h (List.mem_cons_of_mem _ k)
/-- free of all but tables -/
def FrN (H0 : Hp) (p : Addr) : Prop := ∀ o, H0 p = some o → ∃ ps, o = .tbl ps
structure ThSt (K : PySem.W.Frag) (T : List (Addr × Str)) (H0 H : Hp) (ns : List Th) (B W Tp r : Addr) (srt : List V) (bl : List (Idn × Addr)) (k : Nat) : Prop where
  by_ : ByAt K H ns B
  bw : B ≠ W
  so : H r = some (.lst srt)
  w : H W = some (.dT (bl.map blK))
  kd : (bl.map (·.1)).Nodup
  nd : (r :: Tp :: bl.map (·.2)).Nodup
  tp : ∃ ts, H Tp = some (.lst ts) ∧ DVs K H ((kidK ns k none).map (trT ns)) ts
  ch : ∀ e ∈ bl, ∃ xs, H e.2 = some (.lst xs) ∧ DVs K H ((kidK ns k (some e.1)).map (trT ns)) xs
  no : ∀ i, i ∉ bl.map (·.1) → kidK ns k (some i) = []
  fw : FrN H0 W
  ft : FrN H0 Tp
  fc : ∀ e ∈ bl, FrN H0 e.2
  ex : LamX.ExtN H0 H
  tb : LamX.Tabs T H
theorem dvs_tk {K : PySem.W.Frag} {H H' : Hp} (T : TK K H H') : ∀ {ds : List D} {us : List V}, DVs K H ds us → DVs K H' ds us
  | ds, us, h => h.tk T
theorem fr_of {H0 H : Hp} (x : LamX.ExtN H0 H) {p : Addr} (n : H p = none) : FrN H0 p := fun o h => by
  by_cases c : ∃ ps, o = .tbl ps
  · exact c
  · exact absurd (x p o h fun ps e => c ⟨ps, e⟩) (by rw [n]; simp)
theorem extN_put {H0 H : Hp} (x : LamX.ExtN H0 H) {p : Addr} {o : HO} (n : FrN H0 p) : LamX.ExtN H0 (upd H p o) := fun b u e h => by
  rw [upd_ne (fun z => by rw [z] at e; obtain ⟨ps, q⟩ := n u e; exact h ps q)]
  exact x b u e h
theorem extN_same {H0 H H' : Hp} (x : LamX.ExtN H0 H) (m : Same H H') : LamX.ExtN H0 H' := fun b u e h => m _ _ (x b u e h)
theorem tabs_put {T : List (Addr × Str)} {H : Hp} (t : LamX.Tabs T H) {p : Addr} {o : HO} (n1 : ∀ ps, H p ≠ some (.tbl ps)) (n2 : ∀ c q, H p ≠ some (LamX.CodeO c q)) : LamX.Tabs T (upd H p o) := fun e he => by
  obtain ⟨ps, h1, h2, h3⟩ := t e he
  refine ⟨ps, by rw [upd_ne (fun z => n1 ps (by rw [← z]; exact h1))]; exact h1, h2, fun pos cv hc => ?_⟩
  obtain ⟨c, e1, e2⟩ := h3 pos cv hc
  exact ⟨c, e1, by rw [upd_ne (fun z => n2 c e.2 (by rw [← z]; exact e2))]; exact e2⟩
theorem codeO_lst {c : Addr} {q : Str} (xs : List V) : LamX.CodeO c q ≠ .lst xs := fun z => by unfold LamX.CodeO at z; cases z
theorem codeO_dT {c : Addr} {q : Str} (xs : List (List L2.Key × V)) : LamX.CodeO c q ≠ .dT xs := fun z => by unfold LamX.CodeO at z; cases z
theorem tabs_lst {T : List (Addr × Str)} {H : Hp} (t : LamX.Tabs T H) {p : Addr} {o : HO} {xs : List V} (h : H p = some (.lst xs)) : LamX.Tabs T (upd H p o) :=
  tabs_put t (fun ps z => by rw [h] at z; cases z) fun c q z => by rw [h] at z; exact codeO_lst _ (Option.some.inj z).symm
theorem tabs_dT {T : List (Addr × Str)} {H : Hp} (t : LamX.Tabs T H) {p : Addr} {o : HO} {xs : List (List L2.Key × V)} (h : H p = some (.dT xs)) : LamX.Tabs T (upd H p o) :=
  tabs_put t (fun ps z => by rw [h] at z; cases z) fun c q z => by rw [h] at z; exact codeO_dT _ (Option.some.inj z).symm
section
variable {K : PySem.W.Frag} {T : List (Addr × Str)} {H0 H H' : Hp} {ns : List Th} {B W Tp r : Addr} {srt : List V} {bl : List (Idn × Addr)} {k : Nat}
theorem ByAt.tt (h : ByAt K H ns B) (t : TT K H H') (hb : ∀ o, H B = some o → H' B = some o) : ByAt K H' ns B := by
  obtain ⟨kvs, h1, h2, h3, h4⟩ := h
  exact ⟨kvs, hb _ h1, h2, fun o ho => (h3 o ho).imp fun w k => ⟨k.1, k.2.tt t⟩, h4⟩
theorem ThSt.same (h : ThSt K T H0 H ns B W Tp r srt bl k) (m : Same H H') : ThSt K T H0 H' ns B W Tp r srt bl k where
  by_ := h.by_.tt (TT.same m) fun o => m _ _
  bw := h.bw
  so := m _ _ h.so
  w := m _ _ h.w
  kd := h.kd
  nd := h.nd
  tp := h.tp.imp fun ts q => ⟨m _ _ q.1, q.2.tk (TK.same m)⟩
  ch := fun e he => (h.ch e he).imp fun xs q => ⟨m _ _ q.1, q.2.tk (TK.same m)⟩
  no := h.no
  fw := h.fw
  ft := h.ft
  fc := h.fc
  ex := extN_same h.ex m
  tb := fun p hp => (h.tb p hp).ext m
theorem ThSt.rt (h : ThSt K T H0 H ns B W Tp r srt bl k) : r ≠ Tp := fun e => (List.nodup_cons.mp h.nd).1 (by rw [e]; simp)
theorem ThSt.re (h : ThSt K T H0 H ns B W Tp r srt bl k) {e : Idn × Addr} (he : e ∈ bl) : r ≠ e.2 := fun z => (List.nodup_cons.mp h.nd).1 (by rw [z]; exact List.mem_cons_of_mem _ (List.mem_map_of_mem he))
theorem ThSt.te (h : ThSt K T H0 H ns B W Tp r srt bl k) {e : Idn × Addr} (he : e ∈ bl) : Tp ≠ e.2 := fun z => (List.nodup_cons.mp (List.nodup_cons.mp h.nd).2).1 (by rw [z]; exact List.mem_map_of_mem he)
theorem two_of : ∀ {bl : List (Idn × Addr)}, (bl.map (·.2)).Nodup → ∀ {e f : Idn × Addr}, e ∈ bl → f ∈ bl → e.2 = f.2 → e = f
  | [], _, _, _, h, _, _ => by cases h
  | z :: bl, nd, e, f, he, hf, eq => by
    obtain ⟨n1, n2⟩ := List.nodup_cons.mp (show (z.2 :: bl.map (·.2)).Nodup from nd)
    rcases List.mem_cons.mp he with he | he <;> rcases List.mem_cons.mp hf with hf | hf
    · rw [he, hf]
    · exact absurd (List.mem_map.mpr ⟨f, hf, by rw [← eq, he]⟩) n1
    · exact absurd (List.mem_map.mpr ⟨e, he, by rw [eq, hf]⟩) n1
    · exact two_of n2 he hf eq
/-- a new list of answers -/
theorem ThSt.add (h : ThSt K T H0 H ns B W Tp r srt bl k) {i : Idn} {d : Addr} (ni : i ∉ bl.map (·.1)) (hd : H d = none) :
    ThSt K T H0 (upd (upd H d (.lst [])) W (.dT (putK (bl.map blK) (ik i) (.ref d)))) ns B W Tp r srt (bl ++ [(i, d)]) k := by
  have n := same_new (o := HO.lst []) hd
  have h1 := h.same n
  have hw := h1.w
  have dW : d ≠ W := fun e => by rw [e, h.w] at hd; cases hd
  have t : TT K (upd H d (.lst [])) (upd (upd H d (.lst [])) W (.dT (putK (bl.map blK) (ik i) (.ref d)))) := TT.over hw (fun _ e => by cases e) (fun _ _ e => by cases e)
  have ne : ∀ {p xs}, upd H d (.lst []) p = some (.lst xs) → p ≠ W := fun {p xs} q e => by rw [e, hw] at q; cases q
  have ee : bl ++ [(i, d)] = bl ++ [(i, d)] := rfl
  have lv : ∀ {p xs}, H p = some (.lst xs) → upd (upd H d (.lst [])) W (.dT (putK (bl.map blK) (ik i) (.ref d))) p = some (.lst xs) := fun {p xs} q => by rw [upd_ne (ne (n _ _ q))]; exact n _ _ q
  have hdn : ∀ {p o}, H p = some o → p ≠ d := fun {p o} q e => by rw [e, hd] at q; cases q
  refine ⟨h1.by_.tt t fun o q => by rw [upd_ne h.bw]; exact q, h.bw, lv h.so, ?_, ?_, ?_, ?_, ?_, ?_, h.fw, h.ft, ?_, extN_put h1.ex h.fw, tabs_dT h1.tb hw⟩
  · rw [upd_same, putK_new _ (bl_out ni), List.map_append]; rfl
  · rw [List.map_append, List.nodup_append]
    exact ⟨h.kd, by simp, fun a ha b hb => by
      rw [List.mem_singleton.mp (show b ∈ [i] from hb)]
      exact fun z => ni (by rw [← z]; exact ha)⟩
  · have nd := h.nd
    have x : ∀ p ∈ r :: Tp :: bl.map (·.2), p ≠ d := fun p hp => by
      rcases List.mem_cons.mp hp with e | hp
      · rw [e]; exact hdn h.so
      rcases List.mem_cons.mp hp with e | hp
      · obtain ⟨ts, q, _⟩ := h.tp
        rw [e]; exact hdn q
      obtain ⟨e, he, rfl⟩ := List.mem_map.mp hp
      obtain ⟨xs, q, _⟩ := h.ch e he
      exact hdn q
    rw [List.map_append, show r :: Tp :: (bl.map (·.2) ++ [(i, d)].map (·.2)) = (r :: Tp :: bl.map (·.2)) ++ [d] from rfl, List.nodup_append]
    exact ⟨nd, by simp, fun a ha b hb => by rw [List.mem_singleton.mp hb]; exact x a ha⟩
  · obtain ⟨ts, q1, q2⟩ := h.tp
    exact ⟨ts, lv q1, (q2.tk (TK.same n)).tk t.1⟩
  · intro e he
    rcases List.mem_append.mp he with he | he
    · obtain ⟨xs, q1, q2⟩ := h.ch e he
      exact ⟨xs, lv q1, (q2.tk (TK.same n)).tk t.1⟩
    · rw [List.mem_singleton.mp he]
      exact ⟨[], by rw [upd_ne dW]; exact upd_same, by rw [h.no i ni]; exact dln⟩
  · intro j hj
    exact h.no j fun m => hj (by rw [List.map_append]; exact List.mem_append_left _ m)
  · intro e he
    rcases List.mem_append.mp he with he | he
    · exact h.fc e he
    · rw [List.mem_singleton.mp he]; exact fr_of h.ex hd
/-- the next one, put beside those that answer the same -/
theorem ThSt.push (h : ThSt K T H0 H ns B W Tp r srt bl k) {s : Th} (hs : (desc ns)[k]? = some s) {G : Addr} {v : V} {xs : List V} (hg : (parT ns s = none ∧ G = Tp) ∨ ∃ e ∈ bl, parT ns s = some e.1 ∧ G = e.2) (hx : H G = some (.lst xs)) (hv : DV K H (trT ns s) v) :
    ThSt K T H0 (upd H G (.lst (xs ++ [v]))) ns B W Tp r srt bl (k + 1) := by
  have t : TT K H (upd H G (.lst (xs ++ [v]))) := TT.put hx
  have gW : G ≠ W := fun e => by rw [e, h.w] at hx; cases hx
  have gB : B ≠ G := fun e => by
    obtain ⟨kvs, q, _⟩ := h.by_
    rw [e, hx] at q; cases q
  have gr : r ≠ G := hg.elim (fun q => by rw [q.2]; exact h.rt) fun ⟨e, he, q⟩ => by rw [q.2]; exact h.re he
  have fg : FrN H0 G := hg.elim (fun q => by rw [q.2]; exact h.ft) fun ⟨e, he, q⟩ => by rw [q.2]; exact h.fc e he
  refine ⟨h.by_.tt t fun o q => by rw [upd_ne gB]; exact q, h.bw, by rw [upd_ne gr]; exact h.so, by rw [upd_ne (Ne.symm gW)]; exact h.w, h.kd, h.nd, ?_, ?_, ?_, h.fw, h.ft, h.fc, extN_put h.ex fg, tabs_lst h.tb hx⟩
  · obtain ⟨ts, q1, q2⟩ := h.tp
    by_cases c : parT ns s = none
    · have e : G = Tp := hg.elim (fun q => q.2) fun ⟨e, he, q⟩ => by rw [c] at q; cases q.1
      subst e
      rw [hx] at q1
      cases q1
      refine ⟨xs ++ [v], upd_same, ?_⟩
      rw [← c, kidK_more hs, List.map_append, c]
      exact dvs_snoc (hv.tk t.1) (q2.tk t.1)
    · have e : Tp ≠ G := hg.elim (fun q => absurd q.1 c) fun ⟨e, he, q⟩ => by rw [q.2]; exact h.te he
      exact ⟨ts, by rw [upd_ne e]; exact q1, by rw [kidK_same hs c]; exact q2.tk t.1⟩
  · intro f hf
    obtain ⟨ys, q1, q2⟩ := h.ch f hf
    by_cases c : parT ns s = some f.1
    · have e : G = f.2 := by
        rcases hg with q | ⟨e, he, q⟩
        · rw [q.1] at c; cases c
        · have : e.1 = f.1 := by rw [q.1] at c; exact Option.some.inj c
          have x1 := bl_in h.kd he
          have x2 := bl_in h.kd hf
          rw [this, x2] at x1
          rw [q.2]
          injection (Option.some.inj x1) with z
          exact z.symm
      subst e
      rw [hx] at q1
      cases q1
      refine ⟨xs ++ [v], upd_same, ?_⟩
      rw [← c, kidK_more hs, List.map_append, c]
      exact dvs_snoc (hv.tk t.1) (q2.tk t.1)
    · have e : f.2 ≠ G := by
        rcases hg with q | ⟨e, he, q⟩
        · rw [q.2]; exact (h.te hf).symm
        · rw [q.2]
          intro z
          have := two_of (List.nodup_cons.mp (List.nodup_cons.mp h.nd).2).2 hf he z
          exact c (by rw [this]; exact q.1)
      exact ⟨ys, by rw [upd_ne e]; exact q1, by rw [kidK_same hs c]; exact q2.tk t.1⟩
  · intro i hi
    rw [kidK_same hs (fun z => hi ?_)]
    · exact h.no i hi
    · rcases hg with q | ⟨e, he, q⟩
      · rw [q.1] at z; cases z
      · rw [q.1] at z
        rw [← Option.some.inj z]
        exact List.mem_map_of_mem he
end
theorem tabs_ext {T : List (Addr × Str)} {H H' : Hp} {s a : Addr} {c : Nat} (t : LamX.Tabs T H) (x : Ext s H H') (S : Src H s a c) : LamX.Tabs T H' := fun e he => by
  obtain ⟨xs, hs⟩ := S.lst
  obtain ⟨ps, h1, h2, h3⟩ := t e he
  refine ⟨ps, x _ _ (fun z => by rw [z, hs] at h1; cases h1) h1, h2, fun pos cv hc => ?_⟩
  obtain ⟨c, e1, e2⟩ := h3 pos cv hc
  exact ⟨c, e1, x _ _ (fun z => by rw [z, hs] at e2; exact codeO_lst _ (Option.some.inj e2).symm) e2⟩
theorem tabs_same {T : List (Addr × Str)} {H H' : Hp} (t : LamX.Tabs T H) (m : Same H H') : LamX.Tabs T H' := fun p hp => (t p hp).ext m
theorem dis_erase {ts : List Th} (h : Dis ts) (p : Nat) : Dis (ts.eraseIdx p) := List.Nodup.sublist ((List.eraseIdx_sublist ts p).map _) h
theorem thr_nil : thrD [] = .tup [] := by
  unfold thrD kidT asc
  simp
end Z
namespace Z
open PySem L2
section
variable {P : Program} {w : World} {K : PySem.W.Frag} {mg : Str → Option Value} {base : Heap}
theorem ok__law_mix (D : Df K mg "_law_mix" s__law_mix ["seed", "turn"]) (T : Tx mg) : Cal P w K mg base "_law_mix" ["seed", "turn"] 1 sp__law_mix := by
  obtain ⟨f, fd, F, gf, bf⟩ := D
  refine ⟨f, fd, F.ok sc__law_mix (fun vs H Q E h => ?_) (fun cdv A outer s H vs Q E hr h => ?_), gf, F.kp, bf⟩
  · obtain ⟨x, y, rfl, _⟩ := h; rfl
  · obtain ⟨x, y, rfl, x0, x1, y0, y1, q⟩ := h
    refine ⟨_, (pss_cons (ps_set (i := 2) sc__law_mix.nd rfl (Or.inl rfl) (pe_op op_mod (pe_callTy call_int1 (by rfl) T.n_int (by decide +kernel) (pa_cons (pe_op op_add (pe_op op_add (pe_op op_mul (pv 0) pe_int) (pe_op op_mul (pv 1) pe_int)) pe_int) pa_nil)) pe_int))
      (pss_cons (ps_set (i := 2) sc__law_mix.nd rfl (Or.inl rfl) (pe_op op_mod (pe_callTy call_int1 (by rfl) T.n_int (by decide +kernel) (pa_cons (pe_op op_add (pe_op op_add (pe_op op_mul (pv 2) (pv 2)) (pe_op op_mul (pv 1) pe_int)) pe_int) pa_nil)) pe_int))
      (pss_cons (ps_set (i := 2) sc__law_mix.nd rfl (Or.inl rfl) (pe_op op_mod (pe_callTy call_int1 (by rfl) T.n_int (by decide +kernel) (pa_cons (pe_op op_add (pe_op op_add (pe_op op_mul (pv 2) pe_int) (pe_op op_mul (pe_op op_mul (pv 1) (pv 1)) pe_int)) pe_int) pa_nil)) pe_int))
      (pss_one (ps_ret (pv 2)))))), ?_⟩

    refine ⟨_, rfl, _, _, rfl, rfl, .inr (by decide), _, rfl, _, _, rfl, rfl, .inr (by decide), _, _, rfl, rfl, _, _, rfl, rfl, .inl ⟨_, rfl, _, _, rfl, rfl, (by show (0 : Int) < _; decide), ?_⟩⟩
    refine ⟨_, rfl, _, rfl, _, _, rfl, rfl, .inl ⟨by omega, by omega⟩, _, rfl, _, _, rfl, rfl, .inr (by decide), _, _, rfl, rfl, _, _, rfl, rfl, .inl ⟨_, rfl, _, _, rfl, rfl, (by show (0 : Int) < _; decide), ?_⟩⟩
    refine ⟨_, rfl, _, _, rfl, rfl, .inr (by decide), _, rfl, _, rfl, _, _, rfl, rfl, .inl ⟨by omega, by omega⟩, _, _, rfl, rfl, .inr (by decide), _, _, rfl, rfl, _, _, rfl, rfl, .inl ⟨_, rfl, _, _, rfl, rfl, (by show (0 : Int) < _; decide), ?_⟩⟩
    exact ⟨_, rfl, q _ (Int.emod_nonneg _ (by decide)) (by omega)⟩
end
end Z
namespace Z
open PySem L2
section
variable {P : Program} {w : World} {K : PySem.W.Frag} {mg : Str → Option Value} {base : Heap}
theorem ok__law_source (D : Df K mg "_law_source" s__law_source ["script"]) (T : Tx mg) (C__law_mix : Cal P w K mg base "_law_mix" ["seed", "turn"] 1 sp__law_mix) : Cal P w K mg base "_law_source" ["script"] 2 (sp__law_source K) := by
  obtain ⟨f__law_mix, fd__law_mix, G__law_mix, g__law_mix, k__law_mix, b__law_mix⟩ := C__law_mix
  obtain ⟨f, fd, F, gf, bf⟩ := D
  refine ⟨f, fd, F.ok sc__law_source (fun vs H Q E h => ?_) (fun cdv A outer s H vs Q E hr h => ?_), gf, F.kp, bf⟩
  · obtain ⟨a, ns, rfl, _⟩ := h; rfl
  · obtain ⟨a, ns, rfl, hS, hlen, q⟩ := h
    refine ⟨_, (pss_cons (ps_set (i := 1) sc__law_source.nd rfl (Or.inl rfl) pe_int)
      (pss_cons (ps_for PassesOwn.never rfl (pi_range1 (by rfl) T.n_range (pa_cons (pe_callB call_len_seq (by rfl) T.n_len PySem.boot_len (pa_cons (pv 0) pa_nil)) pa_nil)) (pg_name (i := 2) sc__law_source.nd rfl (Or.inl rfl))
      (pss_one (ps_set (i := 1) sc__law_source.nd rfl (Or.inl rfl) (pe_call G__law_mix (hr.mono (by decide)) (by rfl) g__law_mix k__law_mix b__law_mix .nil pass0 (pa_cons (pe_op op_add (pv 1) (pe_op op_mod (pe_callTy call_int1 (by rfl) T.n_int (by decide +kernel) (pa_cons (pe_ix ix_list (pv 0) (pv 2) (fun _ _ => rfl)) pa_nil)) pe_int)) (pa_cons (pv 2) pa_nil))))))
      (pss_one (ps_ret (pe_lst (pa_cons (pe_callTy call_list_of (by rfl) T.n_list (by decide +kernel) (pa_cons (pv 0) pa_nil)) (pa_cons pe_int (pa_cons pe_int (pa_cons (pv 1) (pa_cons pe_int pa_nil)))))))))), ?_⟩
    refine ⟨_, rfl, a, _, rfl, .inl hS, _, rfl, by rw [List.length_map]; omega, by rw [List.length_map]; omega, ?_⟩
    refine for_range (lo := 0) (n := (((ns.map V.int).length : Int)).toNat) (fun i σ H' => ∃ (e : Int) (v : Option V), σ = [some (.ref a), some (.int e), v] ∧ H' = H ∧ 0 ≤ e ∧ e < 2147483647) ⟨17, none, rfl, rfl, by decide, by decide⟩ ?_ ?_
    · rintro i σ H' hi ⟨e, v, rfl, rfl, e0, e1⟩
      rw [List.length_map] at hi
      have hi' : i < ns.length := by omega
      refine ⟨_, rfl, _, rfl, _, rfl, a, _, _, .int ns[i], rfl, rfl, hS, ?_, .inl ⟨_, rfl, _, _, rfl, rfl, (by show (0 : Int) < _; decide), _, _, rfl, rfl, _, rfl, ?_⟩⟩
      · rw [Int.zero_add]
        exact atI_nat (by rw [List.getElem?_map, List.getElem?_eq_getElem hi']; rfl)
      · refine ⟨_, _, rfl, ?_, ?_, ?_, ?_, fun v v0 v1 => ?_⟩
        · have := Int.emod_nonneg ns[i] (by decide : (2147483647 : Int) ≠ 0); omega
        · have := Int.emod_lt_of_pos ns[i] (by decide : (0 : Int) < 2147483647); omega
        · omega
        · omega
        · exact ⟨v, _, rfl, rfl, v0, v1⟩
    · rintro σ H' ⟨e, v, rfl, rfl, e0, e1⟩
      refine ⟨_, rfl, a, _, rfl, .inl hS, fun l hl => ?_⟩
      refine ⟨_, rfl, by show 5 ≤ sizeLine; decide, fun s hs => ?_⟩
      have hsl : s ≠ l := fun z => by rw [z, upd_same] at hs; cases hs
      have hs0 : H' s = none := by rw [upd_ne hsl] at hs; exact hs
      refine q s l _ hs0 ((same_new hl).trans (same_new hs)) ⟨ns, 0, 0, e, 0, upd_same, by rw [upd_ne hsl.symm, upd_same], hsl.symm, hlen, by decide, by decide, by decide, e0, e1, by decide, by decide⟩
end
end Z
namespace Z
open PySem L2
section
variable {P : Program} {w : World} {K : PySem.W.Frag} {mg : Str → Option Value} {base : Heap}
theorem ok__law_draw (D : Df K mg "_law_draw" s__law_draw ["source", "many"]) (T : Tx mg) (C__law_mix : Cal P w K mg base "_law_mix" ["seed", "turn"] 1 sp__law_mix) : Cal P w K mg base "_law_draw" ["source", "many"] 2 sp__law_draw := by
  obtain ⟨f__law_mix, fd__law_mix, G__law_mix, g__law_mix, k__law_mix, b__law_mix⟩ := C__law_mix
  obtain ⟨f, fd, F, gf, bf⟩ := D
  refine ⟨f, fd, F.ok sc__law_draw (fun vs H Q E h => ?_) (fun cdv A outer s H vs Q E hr h => ?_), gf, F.kp, bf⟩
  · obtain ⟨s, a, m, c, rfl, _⟩ := h; rfl
  · obtain ⟨s, a, m, c, rfl, m0, m1, hS, q⟩ := h
    refine ⟨_, (C8.pss_cut (ps_if (PW.pt (pw_and (pt_cmpR op_eq (pe_ix ix_list (pv 0) pe_int (fun _ _ => rfl)) pe_int (nomark _)) (pw_and (pt_cmpR op_lt (pe_ix ix_list (pv 0) pe_int (fun _ _ => rfl)) (pe_callB call_len_seq (by rfl) T.n_len PySem.boot_len (pa_cons (pe_ix ix_list (pv 0) pe_int (fun _ _ => rfl)) pa_nil)) (nomark _)) (pw_and1 (pt_cmpR op_eq (pe_op op_mod (pe_callTy call_int1 (by rfl) T.n_int (by decide +kernel) (pa_cons (pe_ix ix_list (pv 0) pe_int (fun _ _ => rfl)) pa_nil)) pe_int) pe_int (nomark _))))))
      (pss_cons (ps_set (i := 2) sc__law_draw.nd rfl (Or.inl rfl) (pe_ix ix_list (pe_ix ix_list (pv 0) pe_int (fun _ _ => rfl)) (pe_ix ix_list (pv 0) pe_int (fun _ _ => rfl)) (fun _ _ => rfl)))
        (pss_cons (ps_asg (pe_op op_add (pe_ix ix_list (pv 0) pe_int (fun _ _ => rfl)) pe_int) (pg_sub (pv 0) pe_int set_list))
        (pss_one (ps_if (pt_cmpR op_ge (pe_callB call_abs (by rfl) T.n_abs (by decide +kernel) (pa_cons (pv 2) pa_nil)) (pe_op op_pow pe_int pe_int) (nomark _))
        (pss_one (ps_asg (pe_op op_and (pe_callB call_abs (by rfl) T.n_abs (by decide +kernel) (pa_cons (pv 2) pa_nil)) (pe_op op_sub (pe_op op_shl pe_int pe_int) pe_int)) (pg_sub (pv 0) pe_int set_list)))
        (pss_one (ps_asg (pe_call G__law_mix (hr.mono (by decide)) (by rfl) g__law_mix k__law_mix b__law_mix .nil pass0 (pa_cons (pe_op op_add (pe_ix ix_list (pv 0) pe_int (fun _ _ => rfl)) (pe_op op_mod (pe_callTy call_int1 (by rfl) T.n_int (by decide +kernel) (pa_cons (pv 2) pa_nil)) pe_int)) (pa_cons (pe_ix ix_list (pv 0) pe_int (fun _ _ => rfl)) pa_nil))) (pg_sub (pv 0) pe_int set_list)))))))
      pss_nil)
      (pss_cons (ps_if (pt_cmpR op_gt (pe_ix ix_list (pv 0) pe_int (fun _ _ => rfl)) pe_int (nomark _))
      (pss_cons (ps_set (i := 3) sc__law_draw.nd rfl (Or.inl rfl) (pe_op op_mod (pe_callTy call_int1 (by rfl) T.n_int (by decide +kernel) (pa_cons (pe_ix ix_list (pv 0) pe_int (fun _ _ => rfl)) pa_nil)) (pv 1)))
        (pss_cons (ps_asg (pe_op op_fdivN (pe_callTy call_int1 (by rfl) T.n_int (by decide +kernel) (pa_cons (pe_ix ix_list (pv 0) pe_int (fun _ _ => rfl)) pa_nil)) (pv 1)) (pg_sub (pv 0) pe_int set_list))
        (pss_one (ps_ret (pv 3)))))
      pss_nil)
      (pss_cons (ps_asg (pe_op op_add (pe_ix ix_list (pv 0) pe_int (fun _ _ => rfl)) pe_int) (pg_sub (pv 0) pe_int set_list))
      (pss_one (ps_ret (pe_op op_mod (pe_callTy call_int1 (by rfl) T.n_int (by decide +kernel) (pa_cons (pe_op op_fdiv (pe_call G__law_mix (hr.mono (by decide)) (by rfl) g__law_mix k__law_mix b__law_mix .nil pass0 (pa_cons (pe_ix ix_list (pv 0) pe_int (fun _ _ => rfl)) (pa_cons (pe_ix ix_list (pv 0) pe_int (fun _ _ => rfl)) pa_nil))) pe_int) pa_nil)) (pv 1))))))), ?_⟩
    refine ⟨fun σ' H' => (∃ v2 v3, σ' = [some (.ref s), some (.int m), v2, v3]) ∧ Src H' s a (c + 1) ∧ Ext s H H', ?_, ?_⟩
    · obtain ⟨ns, i, b, e, t, h1, h2, as, h4, h5, h6, h7, h8, h9, h10, h11⟩ := id hS
      have hL : SqL K H s [.ref a, .int i, .int b, .int e, .int t] := SqL.of h1
      refine ⟨_, rfl, _, _, _, _, rfl, rfl, hL, rfl, rfl, _, rfl, ite2 (fun c1 => ?_) (fun c1 => iteF ⟨⟨_, _, rfl⟩, hS, Ext.refl _ _⟩)⟩
      refine ⟨_, rfl, _, _, _, _, rfl, rfl, hL, rfl, _, rfl, _, _, _, _, rfl, rfl, hL, rfl, a, _, rfl, .inl (SqL.of h2), _, _, rfl, rfl, _, rfl, ite2 (fun c2 => ?_) (fun c2 => iteF ⟨⟨_, _, rfl⟩, hS, Ext.refl _ _⟩)⟩
      refine ⟨_, rfl, _, _, _, _, rfl, rfl, hL, rfl, .inl ⟨_, rfl, _, _, rfl, rfl, (by show (0 : Int) < 6; decide), rfl, _, rfl, ite2 (fun c3 => ?_) (fun c3 => ⟨⟨_, _, rfl⟩, hS, Ext.refl _ _⟩)⟩⟩
      have hi : i < ns.length := by
        have := of_decide_eq_true c2
        rw [List.length_map] at this
        exact this
      have hi' : i.toNat < ns.length := by omega
      -- cell = source[0][source[1]]
      refine ⟨_, rfl, _, _, _, _, rfl, rfl, hL, rfl, _, rfl, _, _, _, _, rfl, rfl, hL, rfl, a, _, _, .int ns[i.toNat], rfl, rfl, SqL.of h2, at_of (j := i.toNat) (by omega) (by rw [List.getElem?_map, List.getElem?_eq_getElem hi']; rfl), ?_⟩
      -- source[1] = source[1] + 1
      refine ⟨_, rfl, _, _, _, _, rfl, rfl, hL, rfl, _, _, rfl, rfl, _, rfl, _, _, _, 1, rfl, rfl, h1, rfl, ?_⟩
      refine ⟨_, rfl, _, rfl, _, _, rfl, rfl, ⟨by decide, by decide, by decide⟩, _, _, rfl, rfl, _, rfl, ite2 (fun c4 => ?_) (fun c4 => ?_)⟩
      · refine ⟨_, rfl, _, rfl, _, _, rfl, rfl, ⟨by decide, by decide, by decide⟩, _, _, rfl, rfl, _, _, rfl, rfl, _, rfl, _, _, _, 2, rfl, rfl, upd_same, rfl, ?_⟩
        refine ⟨⟨_, _, rfl⟩, ?_, ?_⟩
        · refine ⟨ns, i + 1, _, e, t, upd_same, by rw [upd_ne as, upd_ne as]; exact h2, as, h4, by omega, by omega, ?_, h8, h9, h10, h11⟩
          exact and_nn (by split <;> omega) _
        · exact Ext.put.trans Ext.put
      · refine ⟨_, rfl, _, _, _, _, rfl, rfl, SqL.of upd_same, rfl, _, rfl, .inl ⟨_, rfl, _, _, rfl, rfl, (by show (0 : Int) < 2147483647; decide), _, _, rfl, rfl, _, rfl, _, _, _, _, rfl, rfl, SqL.of upd_same, rfl, _, _, rfl, ?_, ?_, ?_, ?_, fun v v0 v1 => ?_⟩⟩
        · have := Int.emod_nonneg ns[i.toNat] (by decide : (2147483647 : Int) ≠ 0); omega
        · have := Int.emod_lt_of_pos ns[i.toNat] (by decide : (0 : Int) < 2147483647); omega
        · omega
        · omega
        · refine ⟨_, rfl, _, _, _, 3, rfl, rfl, upd_same, rfl, ⟨_, _, rfl⟩, ?_, Ext.put.trans Ext.put⟩
          exact ⟨ns, i + 1, b, v, t, upd_same, by rw [upd_ne as, upd_ne as]; exact h2, as, h4, by omega, by omega, h7, v0, v1, h10, h11⟩
    · rintro σ' H' ⟨⟨v2, v3, rfl⟩, hS', hx⟩
      obtain ⟨ns, i, b, e, t, h1, h2, as, h4, h5, h6, h7, h8, h9, h10, h11⟩ := id hS'
      have hL : SqL K H' s [.ref a, .int i, .int b, .int e, .int t] := SqL.of h1
      refine ⟨_, rfl, _, _, _, _, rfl, rfl, hL, rfl, _, _, rfl, rfl, _, rfl, ite2 (fun c1 => ?_) (fun c1 => ?_)⟩
      · refine ⟨_, rfl, _, _, _, _, rfl, rfl, hL, rfl, .inl ⟨_, rfl, _, rfl, _, _, rfl, rfl, m0, ?_⟩⟩
        refine ⟨_, rfl, _, _, _, _, rfl, rfl, hL, rfl, .inl ⟨_, rfl, _, rfl, _, _, rfl, rfl, ⟨by omega, by omega⟩, _, rfl, _, _, _, 2, rfl, rfl, h1, rfl, ?_⟩⟩
        refine ⟨_, rfl, q _ _ (Int.emod_nonneg _ (by omega)) (Int.emod_lt_of_pos _ m0) (hx.trans Ext.put) ?_⟩
        refine ⟨ns, i, _, e, t, upd_same, by rw [upd_ne as]; exact h2, as, h4, h5, h6, ?_, h8, h9, h10, by omega⟩
        exact Int.fdiv_nonneg h7 (by omega)
      · refine ⟨_, rfl, _, _, _, _, rfl, rfl, hL, rfl, _, _, rfl, rfl, _, rfl, _, _, _, 4, rfl, rfl, h1, rfl, ?_⟩
        refine ⟨_, rfl, _, _, _, _, rfl, rfl, SqL.of upd_same, rfl, _, rfl, _, _, _, _, rfl, rfl, SqL.of upd_same, rfl, _, _, rfl, h8, by omega, by omega, by omega, fun v v0 v1 => ?_⟩
        refine ⟨_, _, rfl, rfl, ⟨by decide, by decide⟩, .inl ⟨_, rfl, _, rfl, _, _, rfl, rfl, m0, ?_⟩⟩
        refine q _ _ (Int.emod_nonneg _ (by omega)) (Int.emod_lt_of_pos _ m0) (hx.trans Ext.put) ?_
        exact ⟨ns, i, b, e, t + 1, upd_same, by rw [upd_ne as]; exact h2, as, h4, h5, h6, h7, h8, h9, by omega, by omega⟩
end
end Z
namespace Z
open PySem L2
section
variable {P : Program} {w : World} {K : PySem.W.Frag} {mg : Str → Option Value} {base : Heap}
theorem ok__law_is_int (D : Df K mg "_law_is_int" s__law_is_int ["value"]) (T : Tx mg)  : Cal P w K mg base "_law_is_int" ["value"] 1 (sp__law_is_int K) := by
  obtain ⟨f, fd, F, gf, bf⟩ := D
  refine ⟨f, fd, F.ok sc__law_is_int (fun vs H Q E h => ?_) (fun cdv A outer s H vs Q E hr h => ?_), gf, F.kp, bf⟩
  · obtain ⟨i, rfl, _⟩ := h; rfl
  · obtain ⟨i, rfl, q⟩ := h
    refine ⟨_, (pss_one (ps_ret (pe_and (pe_callB call_isi (by rfl) T.n_isinstance (by decide +kernel) (pa_cons (pv 0) (pa_cons (pe_bltn (v := .ty "int") (by rfl) T.n_int (by decide +kernel) rfl) pa_nil))) (pe_one (pe_not (pe_callB call_isi (by rfl) T.n_isinstance (by decide +kernel) (pa_cons (pv 0) (pa_cons (pe_bltn (v := .ty "bool") (by rfl) T.n_bool (by decide +kernel) rfl) pa_nil)))))))), ?_⟩
    refine ⟨_, rfl, _, _, _, _, true, rfl, .ty _, .base (.int i), kit_ty (by decide +kernel), _, rfl, ?_⟩
    refine iteT ⟨_, rfl, _, _, _, _, false, rfl, .ty _, .base (.int i), kit_ty (by decide +kernel), _, rfl, q⟩

theorem ok__law_same (D : Df K mg "_law_same" s__law_same ["actual", "due"]) (T : Tx mg) (C__law_is_int : Cal P w K mg base "_law_is_int" ["value"] 1 (sp__law_is_int K)) : ∀ n, Cal P w K mg base "_law_same" ["actual", "due"] (n + 1) (sp__law_same K n)
  | 0 => by
    obtain ⟨f, fd, F, gf, bf⟩ := D
    exact ⟨f, fd, ⟨fun vs H Q E h => by obtain ⟨_, _, _, _, _, _, h, _⟩ := h; exact h.elim, fun A outer s H args us vs Q E _ _ _ _ h => by obtain ⟨_, _, _, _, _, _, h, _⟩ := h; exact h.elim⟩, gf, F.kp, bf⟩
  | n + 1 => by
    obtain ⟨f__law_same, fd__law_same, G__law_same, g__law_same, k__law_same, b__law_same⟩ := ok__law_same D T C__law_is_int n
    obtain ⟨f__law_is_int, fd__law_is_int, G__law_is_int, g__law_is_int, k__law_is_int, b__law_is_int⟩ := C__law_is_int
    obtain ⟨f, fd, F, gf, bf⟩ := D
    refine ⟨f, fd, F.ok sc__law_same (fun vs H Q E h => ?_) (fun cdv A outer s H vs Q E hr h => ?_), gf, F.kp, bf⟩
    · obtain ⟨d, v, u, rfl, _⟩ := h; rfl
    · obtain ⟨d, v, u, rfl, hv, hu, hd, q⟩ := h
      refine ⟨_, (pss_cons (ps_if (pt_val (pe_callB call_isi (by rfl) T.n_isinstance (by decide +kernel) (pa_cons (pv 1) (pa_cons (pe_bltn (v := .ty "tuple") (by rfl) T.n_tuple (by decide +kernel) rfl) pa_nil))))
      (pss_cons (ps_if (PW.pt (pw_or (pt_not (pt_val (pe_callB call_isi (by rfl) T.n_isinstance (by decide +kernel) (pa_cons (pv 0) (pa_cons (pe_bltn (v := .ty "tuple") (by rfl) T.n_tuple (by decide +kernel) rfl) pa_nil))))) (pw_or1 (pt_cmpR op_ne (pe_callB call_len_seq (by rfl) T.n_len PySem.boot_len (pa_cons (pv 0) pa_nil)) (pe_callB call_len_seq (by rfl) T.n_len PySem.boot_len (pa_cons (pv 1) pa_nil)) (nomark _)))))
        (pss_one (ps_ret pe_bl))
        pss_nil)
        (pss_cons (ps_for PassesOwn.never rfl (pi_range1 (by rfl) T.n_range (pa_cons (pe_callB call_len_seq (by rfl) T.n_len PySem.boot_len (pa_cons (pv 1) pa_nil)) pa_nil)) (pg_name (i := 2) sc__law_same.nd rfl (Or.inl rfl))
        (pss_one (ps_if (pt_not (pt_val (pe_call G__law_same hr (by rfl) g__law_same k__law_same b__law_same .nil pass0 (pa_cons (pe_ix ix_tup (pv 0) (pv 2) (fun _ _ => rfl)) (pa_cons (pe_ix ix_tup (pv 1) (pv 2) (fun _ _ => rfl)) pa_nil)))))
          (pss_one (ps_ret pe_bl))
          pss_nil)))
        (pss_one (ps_ret pe_bl))))
      pss_nil)
      (pss_cons (ps_if (pt_cmpR op_isN (pv 1) pe_non (nomark _))
      (pss_one (ps_ret (pe_cmpR op_isN (pv 0) pe_non (nomark _))))
      pss_nil)
      (pss_cons (ps_if (pt_val (pe_callB call_isi (by rfl) T.n_isinstance (by decide +kernel) (pa_cons (pv 1) (pa_cons (pe_bltn (v := .ty "bool") (by rfl) T.n_bool (by decide +kernel) rfl) pa_nil))))
      (pss_one (ps_ret (pe_and (pe_callB call_isi (by rfl) T.n_isinstance (by decide +kernel) (pa_cons (pv 0) (pa_cons (pe_bltn (v := .ty "bool") (by rfl) T.n_bool (by decide +kernel) rfl) pa_nil))) (pe_one (pe_cmpR op_eq (pv 0) (pv 1) (nomark _))))))
      pss_nil)
      (pss_cons (ps_if (pt_val (pe_callB call_isi (by rfl) T.n_isinstance (by decide +kernel) (pa_cons (pv 1) (pa_cons (pe_bltn (v := .ty "int") (by rfl) T.n_int (by decide +kernel) rfl) pa_nil))))
      (pss_one (ps_ret (pe_and (pe_call G__law_is_int (hr.mono (by omega)) (by rfl) g__law_is_int k__law_is_int b__law_is_int .nil pass0 (pa_cons (pv 0) pa_nil)) (pe_one (pe_cmpR op_eq (pv 0) (pv 1) (nomark _))))))
      pss_nil)
      (pss_one (ps_ret (pe_and (pe_callB call_isi (by rfl) T.n_isinstance (by decide +kernel) (pa_cons (pv 0) (pa_cons (pe_bltn (v := .ty "str") (by rfl) T.n_str (by decide +kernel) rfl) pa_nil))) (pe_one (pe_cmpR op_eq (pv 0) (pv 1) (nomark _)))))))))), ?_⟩
      cases d with
      | non =>
        unfold DV at hv hu; subst hv hu
        refine ⟨_, rfl, _, _, _, _, false, rfl, .ty _, .base .non, kit_ty (by decide +kernel), _, rfl, iteF ?_⟩
        exact ⟨_, rfl, rfl, _, rfl, iteT ⟨_, rfl, rfl, q⟩⟩
      | bl b =>
        unfold DV at hv hu; subst hv hu
        refine ⟨_, rfl, _, _, _, _, false, rfl, .ty _, .base (.bl b), kit_ty (by decide +kernel), _, rfl, iteF ?_⟩
        refine ⟨_, rfl, rfl, _, rfl, iteF ?_⟩
        refine ⟨_, rfl, _, _, _, _, true, rfl, .ty _, .base (.bl b), kit_ty (by decide +kernel), _, rfl, iteT ?_⟩
        refine ⟨_, rfl, _, _, _, _, true, rfl, .ty _, .base (.bl b), kit_ty (by decide +kernel), _, rfl, iteT ?_⟩
        refine ⟨_, rfl, _, rfl, rfl, ?_⟩
        rw [decide_eq_true rfl]; exact q
      | int b =>
        unfold DV at hv hu; subst hv hu
        refine ⟨_, rfl, _, _, _, _, false, rfl, .ty _, .base (.int b), kit_ty (by decide +kernel), _, rfl, iteF ?_⟩
        refine ⟨_, rfl, rfl, _, rfl, iteF ?_⟩
        refine ⟨_, rfl, _, _, _, _, false, rfl, .ty _, .base (.int b), kit_ty (by decide +kernel), _, rfl, iteF ?_⟩
        refine ⟨_, rfl, _, _, _, _, true, rfl, .ty _, .base (.int b), kit_ty (by decide +kernel), _, rfl, iteT ?_⟩
        refine ⟨_, rfl, _, rfl, _, rfl, iteT ?_⟩
        refine ⟨_, rfl, _, rfl, rfl, ?_⟩
        rw [decide_eq_true rfl]; exact q
      | str b =>
        unfold DV at hv hu; subst hv hu
        refine ⟨_, rfl, _, _, _, _, false, rfl, .ty _, .base (.str b), kit_ty (by decide +kernel), _, rfl, iteF ?_⟩
        refine ⟨_, rfl, rfl, _, rfl, iteF ?_⟩
        refine ⟨_, rfl, _, _, _, _, false, rfl, .ty _, .base (.str b), kit_ty (by decide +kernel), _, rfl, iteF ?_⟩
        refine ⟨_, rfl, _, _, _, _, false, rfl, .ty _, .base (.str b), kit_ty (by decide +kernel), _, rfl, iteF ?_⟩
        refine ⟨_, rfl, _, _, _, _, true, rfl, .ty _, .base (.str b), kit_ty (by decide +kernel), _, rfl, iteT ?_⟩
        refine ⟨_, rfl, _, rfl, rfl, ?_⟩
        rw [decide_eq_true rfl]; exact q
      | tup ds =>
        unfold DV at hv hu
        obtain ⟨a, vs, rfl, ha, hvs⟩ := hv
        obtain ⟨b, us, rfl, hb, hus⟩ := hu
        have hl := hvs.len
        have hm := hus.len
        refine ⟨_, rfl, _, _, _, _, true, rfl, .ty _, TyX.ofT hb, kit_ty (by decide +kernel), _, rfl, iteT ?_⟩
        refine ⟨_, rfl, _, _, _, _, true, rfl, .ty _, TyX.ofT ha, kit_ty (by decide +kernel), _, rfl, iteF ?_⟩
        refine ⟨_, rfl, a, _, rfl, .inr ha, _, rfl, b, _, rfl, .inr hb, rfl, _, rfl, iteNS (by rw [hl, hm]) ?_⟩
        refine ⟨_, rfl, b, _, rfl, .inr hb, _, rfl, by omega, by have := hd.1; omega, ?_⟩
        refine for_range (lo := 0) (n := ((us.length : Int)).toNat) (fun i σ H' => ∃ (x : Option V), σ = [some (.ref a), some (.ref b), x] ∧ H' = H) ⟨none, rfl, rfl⟩ ?_ ?_
        · rintro i σ H' hi ⟨x, rfl, rfl⟩
          have hi' : i < us.length := by omega
          have hi2 : i < ds.length := by omega
          obtain ⟨v1, e1, q1⟩ := hvs.get (List.getElem?_eq_getElem hi2)
          obtain ⟨v2, e2, q2⟩ := hus.get (List.getElem?_eq_getElem hi2)
          refine ⟨_, rfl, _, rfl, a, _, _, v1, rfl, rfl, ha, at_of (j := i) (by omega) e1, _, rfl, _, rfl, b, _, _, v2, rfl, rfl, hb, at_of (j := i) (by omega) e2, ?_⟩
          refine ⟨ds[i], v1, v2, rfl, q1, q2, hd.2 _ (List.getElem_mem hi2), _, rfl, iteF ?_⟩
          exact ⟨_, rfl, rfl⟩
        · rintro σ H' ⟨x, rfl, rfl⟩
          exact q
end
end Z
namespace Z
open PySem L2 SX
theorem nodup_le : ∀ {l us : List (List Nat)}, l.Nodup → (∀ x ∈ l, x ∈ us) → l.length ≤ us.length
  | [], us, _, _ => Nat.zero_le _
  | x :: l, us, h, k => by
    have hh := List.nodup_cons.mp h
    have m := k x (by simp)
    have := nodup_le (us := us.erase x) hh.2 fun y hy => (List.mem_erase_of_ne (fun e : y = x => hh.1 (by rw [e] at hy; exact hy))).mpr (k y (List.mem_cons_of_mem _ hy))
    rw [List.length_erase_of_mem m] at this
    have p := List.length_pos_of_mem m
    rw [List.length_cons]; omega
def sfxL (j : Nat) : List Nat := if j = 0 then [] else [48 + j]
theorem sfx_nodup : ((List.range 10).map sfxL).Nodup := by decide +kernel
theorem tried_nodup (p : List Nat) {m : Nat} (h : m ≤ 10) : ((List.range m).map fun j => p ++ sfxL j).Nodup := by
  have h1 : ((List.range m).map sfxL).Nodup := by
    have e : List.range m = (List.range 10).take m := by rw [List.take_range, Nat.min_eq_left h]
    rw [e, List.map_take]
    exact sfx_nodup.sublist (List.take_sublist _ _)
  rw [List.nodup_iff_pairwise_ne, List.pairwise_map] at h1 ⊢
  exact h1.imp fun ne e => ne (List.append_cancel_left e)
section
variable {P : Program} {w : World} {K : PySem.W.Frag} {mg : Str → Option Value} {base : Heap}
theorem ok__law_pick (D : Df K mg "_law_pick" s__law_pick ["source", "row"]) (T : Tx mg)  (C__law_draw : Cal P w K mg base "_law_draw" ["source", "many"] 2 sp__law_draw) : Cal P w K mg base "_law_pick" ["source", "row"] 3 (sp3__law_pick K) := by
  obtain ⟨f__law_draw, fd__law_draw, G__law_draw, g__law_draw, k__law_draw, b__law_draw⟩ := C__law_draw
  obtain ⟨f, fd, F, gf, bf⟩ := D
  refine ⟨f, fd, F.ok sc__law_pick (fun vs H Q E h => ?_) (fun cdv A outer s₀ H vs Q E hr h => ?_), gf, F.kp, bf⟩
  · rcases h with ⟨s, a, r, xs, c, rfl, _⟩ | ⟨s, a, x, c, rfl, _⟩ | ⟨s, a, r, xs, c, rfl, _⟩ <;> rfl
  · refine ⟨_, (pss_one (ps_ret (pe_ix ix_seq (pv 1) (pe_call G__law_draw (hr.mono (by decide)) (by rfl) g__law_draw k__law_draw b__law_draw .nil pass0 (pa_cons (pv 0) (pa_cons (pe_callB call_len (by rfl) T.n_len PySem.boot_len (pa_cons (pv 1) pa_nil)) pa_nil))) (fun _ _ => rfl)))), ?_⟩
    rcases h with ⟨s, a, r, xs, c, rfl, hR, rs, ne, hl, hS, q⟩ | ⟨s, a, x, c, rfl, ne, hl, hS, q⟩ | ⟨s, a, r, xs, c, rfl, hR, ne, hl, hS, q⟩
    · have n0 : 0 < xs.length := List.length_pos_iff.mpr ne
      refine ⟨_, rfl, _, rfl, _, rfl, _, _, rfl, .inl ⟨xs, hR, rfl⟩, s, a, (xs.length : Int), c, rfl, by omega, by omega, hS, fun v H' v0 v1 hE hS' => ?_⟩
      have hv : v.toNat < xs.length := by omega
      exact .inl ⟨r, xs, v, xs[v.toNat], rfl, rfl, hE.seqL rs hR, atI_pos v0 (List.getElem?_eq_getElem hv), q _ _ (List.getElem_mem hv) hE hS'⟩
    · have n0 : 0 < (tl x).length := List.length_pos_iff.mpr ne
      have hx := tl_len x
      refine ⟨_, rfl, _, rfl, _, rfl, _, x.length, rfl, ⟨by rw [hx]; exact Nat.le_trans hl (by decide), rfl⟩, s, a, (x.length : Int), c, rfl, by omega, by omega, hS, fun v H' v0 v1 hE hS' => ?_⟩
      have hv : v.toNat < (tl x).length := by omega
      exact .inr (.inr ⟨x, v, (tl x)[v.toNat], rfl, rfl, by rw [hx]; exact Nat.le_trans hl (by decide), atI_pos v0 (List.getElem?_eq_getElem hv), q _ _ (List.getElem_mem hv) hE hS'⟩)
    · have n0 : 0 < xs.length := List.length_pos_iff.mpr ne
      refine ⟨_, rfl, _, rfl, _, rfl, _, _, rfl, .inr ⟨xs, hR, rfl⟩, s, a, (xs.length : Int), c, rfl, by omega, by omega, hS, fun v H' v0 v1 hE hS' => ?_⟩
      have hv : v.toNat < xs.length := by omega
      exact .inr (.inl ⟨r, xs, v, xs[v.toNat], rfl, rfl, TK.ext hE hS _ _ hR, atI_pos v0 (List.getElem?_eq_getElem hv), q _ _ (List.getElem_mem hv) hE hS'⟩)
end
section
variable {P : Program} {w : World} {K : PySem.W.Frag} {mg : Str → Option Value} {base : Heap}
theorem ok__law_new_name (D : Df K mg "_law_new_name" s__law_new_name ["source", "used"]) (T : Tx mg)  (C__law_draw : Cal P w K mg base "_law_draw" ["source", "many"] 2 sp__law_draw) : Cal P w K mg base "_law_new_name" ["source", "used"] 3 (sp9__law_new_name K) := by
  obtain ⟨f__law_draw, fd__law_draw, G__law_draw, g__law_draw, k__law_draw, b__law_draw⟩ := C__law_draw
  obtain ⟨f, fd, F, gf, bf⟩ := D
  refine ⟨f, fd, F.ok sc__law_new_name (fun vs H Q E h => ?_) (fun cdv A outer s₀ H vs Q E hr h => ?_), gf, F.kp, bf⟩
  · obtain ⟨s, a, u, us, c, rfl, _⟩ := h; rfl
  · obtain ⟨s, a, u, us, c, rfl, hU, hus, hul, hS, q⟩ := h
    refine ⟨_, (pss_cons (ps_set (i := 2) sc__law_new_name.nd rfl (Or.inl rfl) pe_str)
      (pss_cons (ps_set (i := 3) sc__law_new_name.nd rfl (Or.inl rfl) (pe_op op_add pe_int (pe_call G__law_draw (hr.mono (by decide)) (by rfl) g__law_draw k__law_draw b__law_draw .nil pass0 (pa_cons (pv 0) (pa_cons pe_int pa_nil)))))
      (pss_cons (ps_set (i := 4) sc__law_new_name.nd rfl (Or.inl rfl) (pe_item_str (pv 2) (pe_call G__law_draw (hr.mono (by decide)) (by rfl) g__law_draw k__law_draw b__law_draw .nil pass0 (pa_cons (pv 0) (pa_cons pe_int pa_nil))) (fun _ _ => rfl)))
      (pss_cons (ps_for PassesOwn.never rfl (pi_range1 (by rfl) T.n_range (pa_cons (pe_op op_sub (pv 3) pe_int) pa_nil)) (pg_name (i := 5) sc__law_new_name.nd rfl (Or.inl rfl))
      (pss_one (ps_set (i := 4) sc__law_new_name.nd rfl (Or.inl rfl) (pe_op op_add_str (pv 4) (pe_item_str (pe_op op_add_str (pv 2) pe_str) (pe_call G__law_draw (hr.mono (by decide)) (by rfl) g__law_draw k__law_draw b__law_draw .nil pass0 (pa_cons (pv 0) (pa_cons pe_int pa_nil))) (fun _ _ => rfl))))))
      (pss_cons (ps_for PassesOwn.never rfl (pi_range1 (by rfl) T.n_range (pa_cons (pe_op op_add (pe_callB call_len_seq (by rfl) T.n_len PySem.boot_len (pa_cons (pv 1) pa_nil)) pe_int) pa_nil)) (pg_name (i := 5) sc__law_new_name.nd rfl (Or.inl rfl))
      (pss_cons (ps_set (i := 6) sc__law_new_name.nd rfl (Or.inl rfl) (pe_op op_add_str (pv 4) (pe_ix ix_list (pe_lst (pa_cons pe_str (pa_cons (pe_callTy call_str_int (by rfl) T.n_str (by decide +kernel) (pa_cons (pv 5) pa_nil)) pa_nil))) (pe_callTy call_int1 (by rfl) T.n_int (by decide +kernel) (pa_cons (pe_cmpR op_gt (pv 5) pe_int (nomark _)) pa_nil)) (fun _ _ => rfl))))
        (pss_one (ps_if (pt_cmpR op_notIn_seq (pv 6) (pv 1) (by rfl))
        (pss_one (ps_ret (pv 6)))
        pss_nil))))
      (pss_one (ps_ret (pv 4)))))))), ?_⟩
    refine ⟨_, rfl, s, a, _, c + 7, rfl, by decide, by decide, hS, fun v1 H1 v10 v11 x1 S1 => ?_⟩
    refine ⟨_, _, rfl, rfl, ?_⟩
    refine ⟨_, rfl, _, rfl, s, a, _, c + 6, rfl, by decide, by decide, S1, fun v2 H2 v20 v21 x2 S2 => ?_⟩
    obtain ⟨ch, e1, _, e3⟩ := at_str (x := Str.ofString "abcdefghijklmnopqrstuvwxyz") v20 v21
    refine ⟨_, _, ch, rfl, rfl, v20, by omega, v21, e1, ?_⟩
    have hch : 97 ≤ ch ∧ ch ≤ 122 := alpha_mem e3
    refine ⟨_, rfl, _, _, rfl, rfl, _, rfl, by omega, by omega, ?_⟩
    refine for_range (lo := 0) (n := (1 + v1 - 1).toNat) (fun i σ H' => ∃ (x : Str) (v : Option V), σ = [some (.ref s), some (.ref u), some (.str "abcdefghijklmnopqrstuvwxyz"), some (.int (1 + v1)), some (.str x), v, none] ∧ Nm (tl x) ∧ (tl x).length = i + 1 ∧ Ext s H H' ∧ Src H' s a (c + (5 - i))) ?_ ?_ ?_
    · exact ⟨S [ch], none, rfl, ⟨⟨ch, [], rfl, hch⟩, fun y hy => by rw [List.mem_singleton.mp hy]; exact .inl hch⟩, rfl, x1.trans x2, S2.mono (by omega)⟩
    · rintro i σ H' hi ⟨x, v, rfl, hN, hl, hE, hS'⟩
      refine ⟨_, rfl, _, rfl, _, _, rfl, rfl, by decide +kernel, ?_⟩
      refine ⟨_, rfl, s, a, _, c + (5 - (i + 1)), rfl, by decide, by decide, hS'.mono (by omega), fun v3 H3 v30 v31 x3 S3 => ?_⟩
      obtain ⟨d, e1, _, e3⟩ := at_str (x := Str.ofString "abcdefghijklmnopqrstuvwxyz" ++ Str.ofString "0123456789") v30 v31
      refine ⟨_, _, d, rfl, rfl, v30, by omega, v31, e1, _, _, rfl, rfl, ?_, ?_⟩
      · rw [tl_len, hl]; exact Nat.le_trans (show i + 1 + 1 ≤ 10 by omega) (by decide)
      · exact ⟨_, _, rfl, by rw [tl_app]; exact hN.app (fun y hy => by rw [List.mem_singleton.mp hy]; exact low_mem e3), by rw [tl_app, List.length_append, hl]; rfl, hE.trans x3, S3⟩
    · rintro σ H3 ⟨x, v, rfl, hN, hl, hE, hS'⟩
      have hU3 : SqL K H3 u (us.map V.str) := hE.seqL hus hU
      refine ⟨_, rfl, u, _, rfl, .inl hU3, _, _, rfl, rfl, _, rfl, by rw [List.length_map]; omega, by rw [List.length_map]; omega, ?_⟩
      refine for_range (lo := 0) (n := ((((us.map V.str).length : Int)) + 1).toNat) (fun i σ H' => ∃ (v t : Option V), σ = [some (.ref s), some (.ref u), some (.str "abcdefghijklmnopqrstuvwxyz"), some (.int (1 + v1)), some (.str x), v, t] ∧ Same H3 H' ∧ ∀ j, j < i → tl x ++ sfxL j ∈ us.map tl) ⟨_, _, rfl, Same.refl _, fun j hj => by omega⟩ ?_ ?_
      · rintro i σ H' hi ⟨v', t', rfl, hM, hall⟩
        rw [List.length_map] at hi
        obtain ⟨y, hy, hyl, hya⟩ : ∃ y : Str, atI [V.str (Str.ofString ""), V.str (Str.ofString (toString (0 + (i : Int))))] (if decide ((0 : Int) < 0 + (i : Int)) = true then 1 else 0) = some (.str y) ∧ tl y = sfxL i ∧ Low (tl y) := by
          by_cases h0 : i = 0
          · subst h0
            exact ⟨Str.ofString "", rfl, rfl, Low.nil⟩
          · rw [if_pos (decide_eq_true (by omega))]
            refine ⟨_, rfl, ?_, ?_⟩
            · rw [Int.zero_add, num_S, tl_S, TL.numL_lt (by omega)]
              unfold sfxL; rw [if_neg h0]
            · rw [Int.zero_add, num_S, tl_S]
              exact low_num i
        have yl : (tl y).length ≤ 1 := by rw [hyl]; unfold sfxL; split <;> simp
        refine ⟨_, rfl, _, rfl, _, rfl, log_small (by omega), by show 2 ≤ sizeLine; decide, fun p hp => ?_⟩
        refine ⟨_, rfl, _, _, rfl, rfl, .inr ⟨_, rfl, p, _, _, _, rfl, rfl, SqL.of upd_same, hy, _, _, rfl, rfl, ?_, ?_⟩⟩
        · rw [tl_len, tl_len]; exact Nat.le_trans (show _ ≤ 70 by omega) (by decide)
        have hM' : Same H3 (upd H' p (HO.lst [V.str (Str.ofString ""), V.str (Str.ofString (toString (0 + (i : Int))))])) := hM.trans (same_new hp)
        have ein := inV_strs (x ++ y) us
        refine ⟨_, rfl, _, rfl, u, _, rfl, .inl (hM'.seq hU3), rfl, flat_strs us, _, rfl, ite2 (fun cc => ?_) (fun cc => ⟨_, _, rfl, hM', fun j hj => ?_⟩)⟩
        · refine ⟨_, rfl, q _ _ (by rw [tl_app]; exact hN.app hya) (by rw [tl_app, List.length_append]; omega) (fun m => ?_) (hE.trans (Ext.of hM')) ((hS'.ext hM').mono (by omega))⟩
          have cc' : (!inV (V.str (x ++ y)) (us.map V.str)) = true := cc
          rw [ein, decide_eq_true m] at cc'
          cases cc'
        · by_cases e : j < i
          · exact hall j e
          · have : j = i := by omega
            subst this
            have cc' : ¬ (!inV (V.str (x ++ y)) (us.map V.str)) = true := cc
            rw [ein] at cc'
            have m : x ++ y ∈ us := by simpa using cc'
            have := List.mem_map_of_mem (f := tl) m
            rw [tl_app, hyl] at this
            exact this
      · rintro σ H' ⟨v', t', rfl, hM, hall⟩
        rw [List.length_map] at hall
        have h1 := nodup_le (us := us.map tl) (tried_nodup (tl x) (m := us.length + 1) (by omega)) fun z hz => by
          obtain ⟨j, hj, rfl⟩ := List.mem_map.mp hz
          exact hall j (by have := List.mem_range.mp hj; omega)
        rw [List.length_map, List.length_map, List.length_range] at h1
        omega
end
section
variable {P : Program} {w : World} {K : PySem.W.Frag} {mg : Str → Option Value} {base : Heap}
theorem ok__law_names (D : Df K mg "_law_names" s__law_names ["source", "many"]) (T : Tx mg)  (C__law_new_name : Cal P w K mg base "_law_new_name" ["source", "used"] 3 (sp9__law_new_name K)) : Cal P w K mg base "_law_names" ["source", "many"] 4 (sp9__law_names K) := by
  obtain ⟨f__law_new_name, fd__law_new_name, G__law_new_name, g__law_new_name, k__law_new_name, b__law_new_name⟩ := C__law_new_name
  obtain ⟨f, fd, F, gf, bf⟩ := D
  refine ⟨f, fd, F.ok sc__law_names (fun vs H Q E h => ?_) (fun cdv A outer s₀ H vs Q E hr h => ?_), gf, F.kp, bf⟩
  · obtain ⟨s, a, m, c, rfl, _⟩ := h; rfl
  · obtain ⟨s, a, m, c, rfl, hm, hS, q⟩ := h
    refine ⟨_, (pss_cons (ps_set (i := 2) sc__law_names.nd rfl (Or.inl rfl) (pe_lst pa_nil))
      (pss_cons (ps_for PassesOwn.never rfl (pi_range1 (by rfl) T.n_range (pa_cons (pv 1) pa_nil)) (pg_name (i := 3) sc__law_names.nd rfl (Or.inl rfl))
      (pss_one (ps_expr (pe_bm PySem.F.plainAttrs_list PySem.F.slot_list_append PySem.F.type_list_append mt_append (pv 2) (pa_cons (pe_call G__law_new_name (hr.mono (by decide)) (by rfl) g__law_new_name k__law_new_name b__law_new_name .nil pass0 (pa_cons (pv 0) (pa_cons (pv 2) pa_nil))) pa_nil)))))
      (pss_one (ps_ret (pv 2))))), ?_⟩
    refine ⟨Nat.zero_le _, fun u hu => ?_⟩
    have us : u ≠ s := hS.ne hu
    have ua : u ≠ a := hS.nea hu
    refine ⟨_, rfl, _, rfl, by omega, by omega, ?_⟩
    refine for_range (lo := 0) (n := ((m : Int)).toNat) (fun i σ H' => ∃ (xs : List Str) (v : Option V), σ = [some (.ref s), some (.int m), some (.ref u), v] ∧ H' u = some (.lst (xs.map V.str)) ∧ xs.length = i ∧ Nms xs ∧ Ext s H H' ∧ Src H' s a (c + 8 * (m - i))) ?_ ?_ ?_
    · exact ⟨[], none, rfl, upd_same, rfl, ⟨List.nodup_nil, (fun _ h => by cases h)⟩, Ext.new hu, (hS.new hu).mono (by omega)⟩
    · rintro i σ H' hi ⟨xs, v, rfl, hx, hl, hA, hE, hS'⟩
      refine ⟨_, rfl, .inl ⟨rfl, _, SqL.of hx⟩, _, rfl, _, rfl, s, a, u, xs, c + 8 * (m - (i + 1)), rfl, SqL.of hx, us, by omega, by rw [show c + 8 * (m - (i + 1)) + 8 = c + 8 * (m - i) by omega]; exact hS', fun x H2 hN hl2 hnew hE2 hS2 => ?_⟩
      refine ⟨u, _, _, rfl, rfl, hE2 _ _ us hx, ?_, ?_⟩
      · rw [List.length_map]; exact small1000 (by omega)
      · refine ⟨xs ++ [x], _, rfl, by rw [upd_same, List.map_append]; rfl, by rw [List.length_append]; simp [hl], ⟨?_, fun y hy => ?_⟩, ?_, hS2.put us ua⟩
        · rw [List.nodup_append]
          exact ⟨hA.1, by simp, fun a ha b hb e => by rw [List.mem_singleton.mp hb] at e; exact hnew (e ▸ ha)⟩
        · rcases List.mem_append.mp hy with h | h
          · exact hA.2 y h
          · rw [List.mem_singleton.mp h]; exact ⟨hN, hl2⟩
        · intro b o hb hH
          rw [upd_ne (ne_of_none hH hu)]; exact hE2 _ _ hb (hE _ _ hb hH)
    · rintro σ H' ⟨xs, v, rfl, hx, hl, hA, hE, hS'⟩
      exact ⟨_, rfl, q u xs H' hu hx (by omega) hA hE (hS'.mono (by omega))⟩
end

end Z
namespace Z
open PySem L2 SX
section
variable {P : Program} {w : World} {K : PySem.W.Frag} {mg : Str → Option Value} {base : Heap}
theorem ok__law_once_in (D : Df K mg "_law_once_in" s__law_once_in ["source", "many"]) (T : Tx mg) (C__law_draw : Cal P w K mg base "_law_draw" ["source", "many"] 2 sp__law_draw) : Cal P w K mg base "_law_once_in" ["source", "many"] 3 sp__law_once_in := by
  obtain ⟨f__law_draw, fd__law_draw, G__law_draw, g__law_draw, k__law_draw, b__law_draw⟩ := C__law_draw
  obtain ⟨f, fd, F, gf, bf⟩ := D
  refine ⟨f, fd, F.ok sc__law_once_in (fun vs H Q E h => ?_) (fun cdv A outer s H vs Q E hr h => ?_), gf, F.kp, bf⟩
  · obtain ⟨s, a, m, c, rfl, _⟩ := h; rfl
  · obtain ⟨s, a, m, c, rfl, m0, m1, hS, q⟩ := h
    refine ⟨_, (pss_one (ps_ret (pe_cmpR op_eq (pe_call G__law_draw (hr.mono (by decide)) (by rfl) g__law_draw k__law_draw b__law_draw .nil pass0 (pa_cons (pv 0) (pa_cons (pv 1) pa_nil))) (pe_op op_fdiv (pv 1) pe_int) (nomark _)))), ?_⟩
    refine ⟨_, rfl, _, rfl, s, a, _, c, rfl, m0, m1, hS, fun v H' v0 v1 hE hS' => ?_⟩
    exact ⟨_, rfl, _, _, rfl, rfl, ⟨by decide, by decide⟩, rfl, q _ _ hE hS'⟩
end
end Z
namespace Z
open PySem L2 SX
section
variable {P : Program} {w : World} {K : PySem.W.Frag} {mg : Str → Option Value} {base : Heap}
theorem ok__law_shuffled (D : Df K mg "_law_shuffled" s__law_shuffled ["source", "row"]) (T : Tx mg)  (C__law_draw : Cal P w K mg base "_law_draw" ["source", "many"] 2 sp__law_draw) : Cal P w K mg base "_law_shuffled" ["source", "row"] 3 (sp49_shuffled K) := by
  obtain ⟨f__law_draw, fd__law_draw, G__law_draw, g__law_draw, k__law_draw, b__law_draw⟩ := C__law_draw
  obtain ⟨f, fd, F, gf, bf⟩ := D
  refine ⟨f, fd, F.ok sc__law_shuffled (fun vs H Q E h => ?_) (fun cdv A outer s₀ H vs Q E hr h => ?_), gf, F.kp, bf⟩
  · obtain ⟨s, a, r, xs, c, rfl, _⟩ := h; rfl
  · obtain ⟨s, a, r, xs, c, rfl, hR, xl, hS, q⟩ := h
    refine ⟨_, (pss_cons (ps_set (i := 2) sc__law_shuffled.nd rfl (Or.inl rfl) (pe_callTy call_list_of (by rfl) T.n_list (by decide +kernel) (pa_cons (pv 1) pa_nil)))
      (pss_cons (ps_set (i := 3) sc__law_shuffled.nd rfl (Or.inl rfl) (pe_lst pa_nil))
      (pss_cons (ps_for PassesOwn.never rfl (pi_range1 (by rfl) T.n_range (pa_cons (pe_callB call_len_seq (by rfl) T.n_len PySem.boot_len (pa_cons (pv 1) pa_nil)) pa_nil)) (pg_name (i := 4) sc__law_shuffled.nd rfl (Or.inl rfl))
      (pss_one (ps_expr (pe_bm PySem.F.plainAttrs_list PySem.F.slot_list_append PySem.F.type_list_append mt_append (pv 3) (pa_cons (pe_bm PySem.F.plainAttrs_list PySem.F.slot_list_pop PySem.F.type_list_pop mt_popAt (pv 2) (pa_cons (pe_call G__law_draw (hr.mono (by decide)) (by rfl) g__law_draw k__law_draw b__law_draw .nil pass0 (pa_cons (pv 0) (pa_cons (pe_callB call_len_seq (by rfl) T.n_len PySem.boot_len (pa_cons (pv 2) pa_nil)) pa_nil))) pa_nil)) pa_nil)))))
      (pss_one (ps_ret (pv 3)))))), ?_⟩
    have small1000 : ∀ {n : Nat}, n ≤ 1000 → n < sizeLine := fun h => Nat.lt_of_le_of_lt h (by decide)
    refine ⟨_, rfl, r, xs, rfl, hR, fun L hL => ?_⟩
    have n1 := same_new (o := HO.lst xs) hL
    refine ⟨Nat.zero_le _, fun D hD => ?_⟩
    have n2 := same_new (o := HO.lst []) hD
    have S1 := (hS.ext n1).ext n2
    have Ls := hS.ne hL
    have La := hS.nea hL
    have HD : H D = none := Same.free n1 hD
    have Ds := hS.ne HD
    have Da := hS.nea HD
    have LD : L ≠ D := ne_of_none upd_same hD
    refine ⟨_, rfl, r, xs, rfl, hR.imp (fun h => (n1.trans n2).seq h) (fun h => (n1.trans n2).tup h), _, rfl, by omega, by omega, ?_⟩
    refine for_range (lo := 0) (n := ((xs.length : Int)).toNat) (fun i σ H' => ∃ (ls ys : List V) (v4 : Option V), σ = [some (.ref s), some (.ref r), some (.ref L), some (.ref D), v4] ∧ H' L = some (.lst ls) ∧ H' D = some (.lst ys) ∧ ls.length + i = xs.length ∧ ys.length = i ∧ (ls ++ ys).Perm xs ∧ Ext s H H' ∧ Src H' s a (c + (xs.length - i))) ?_ ?_ ?_
    · exact ⟨xs, [], _, rfl, n2 _ _ upd_same, upd_same, by simp, rfl, (by rw [List.append_nil]), Ext.of (n1.trans n2), S1.mono (by omega)⟩
    · rintro i σ H' hi ⟨ls, ys, v4, rfl, hl, hy, l1, l2, pm, hE, hS'⟩
      refine ⟨_, rfl, .inl ⟨rfl, _, SqL.of hy⟩, _, rfl, .inl ⟨rfl, _, SqL.of hl⟩, _, rfl, _, rfl, L, _, rfl, .inl (SqL.of hl), s, a, (ls.length : Int), c + (xs.length - (i + 1)), rfl, by omega, by omega, hS'.mono (by omega), fun v H2 v0 v1 x2 S2 => ?_⟩
      have hv : v.toNat < ls.length := by omega
      have hl2 := x2 _ _ Ls hl
      have hy2 := x2 _ _ Ds hy
      refine ⟨L, ls, v, v.toNat, ls[v.toNat], rfl, rfl, hl2, by omega, by omega, ?_, List.getElem?_eq_getElem hv, ?_⟩
      · exact seqIndex_of v0 v1
      refine ⟨D, ys, _, rfl, rfl, by rw [upd_ne LD.symm]; exact hy2, small1000 (by omega), ?_⟩
      refine ⟨ls.eraseIdx v.toNat, ys ++ [ls[v.toNat]], _, rfl, by rw [upd_ne LD, upd_same], upd_same, ?_, by rw [List.length_append]; simp [l2], ?_, fun b o hb hh => ?_, (S2.put Ls La).put Ds Da⟩
      · rw [List.length_eraseIdx, if_pos hv]; omega
      · have e1 : (ls.eraseIdx v.toNat ++ (ys ++ [ls[v.toNat]])).Perm (ls[v.toNat] :: (ls.eraseIdx v.toNat ++ ys)) := by
          rw [← List.append_assoc]
          exact List.perm_append_singleton _ _
        have e2 : (ls[v.toNat] :: (ls.eraseIdx v.toNat ++ ys)).Perm (ls ++ ys) := by
          rw [← List.cons_append]
          exact (erase_perm _ _ hv).append_right ys
        exact (e1.trans e2).trans pm
      · rw [upd_ne (ne_of_none hh HD), upd_ne (ne_of_none hh hL)]; exact x2 _ _ hb (hE _ _ hb hh)
    · rintro σ H' ⟨ls, ys, v4, rfl, hl, hy, l1, l2, pm, hE, hS'⟩
      have e0 : ls = [] := List.length_eq_zero_iff.mp (by omega)
      subst e0
      exact ⟨_, rfl, q D ys H' HD hy pm hE (hS'.mono (by omega))⟩
end
section
variable {P : Program} {w : World} {K : PySem.W.Frag} {mg : Str → Option Value} {base : Heap}
theorem ok__law_many (D : Df K mg "_law_many" s__law_many ["source", "least", "wide", "more"]) (T : Tx mg)  (C__law_draw : Cal P w K mg base "_law_draw" ["source", "many"] 2 sp__law_draw) (C__law_once_in : Cal P w K mg base "_law_once_in" ["source", "many"] 3 sp__law_once_in) : Cal P w K mg base "_law_many" ["source", "least", "wide", "more"] 4 sp49_many := by
  obtain ⟨f__law_draw, fd__law_draw, G__law_draw, g__law_draw, k__law_draw, b__law_draw⟩ := C__law_draw
  obtain ⟨f__law_once_in, fd__law_once_in, G__law_once_in, g__law_once_in, k__law_once_in, b__law_once_in⟩ := C__law_once_in
  obtain ⟨f, fd, F, gf, bf⟩ := D
  refine ⟨f, fd, F.ok sc__law_many (fun vs H Q E h => ?_) (fun cdv A outer s₀ H vs Q E hr h => ?_), gf, F.kp, bf⟩
  · obtain ⟨s, a, l, w, m, c, rfl, _⟩ := h; rfl
  · obtain ⟨s, a, l, w, m, c, rfl, w0, w1, m0, m1, hS, q⟩ := h
    refine ⟨_, (pss_cons (ps_set (i := 4) sc__law_many.nd rfl (Or.inl rfl) (pe_op op_add (pv 1) (pe_call G__law_draw (hr.mono (by decide)) (by rfl) g__law_draw k__law_draw b__law_draw .nil pass0 (pa_cons (pv 0) (pa_cons (pv 2) pa_nil)))))
      (C8.pss_cut (ps_if (pt_val (pe_call G__law_once_in (hr.mono (by decide)) (by rfl) g__law_once_in k__law_once_in b__law_once_in .nil pass0 (pa_cons (pv 0) (pa_cons pe_int pa_nil))))
      (pss_one (ps_set (i := 4) sc__law_many.nd rfl (Or.inl rfl) (pe_op op_add (pv 4) (pv 3))))
      pss_nil)
      (pss_one (ps_ret (pv 4))))), ?_⟩
    refine ⟨_, rfl, _, rfl, _, rfl, s, a, w, c + 1, rfl, w0, by omega, hS, fun v H1 v0 v1 x1 S1 => ⟨_, _, rfl, rfl, ?_⟩⟩
    obtain ⟨v, rfl⟩ := Int.eq_ofNat_of_zero_le v0
    obtain ⟨m, rfl⟩ := Int.eq_ofNat_of_zero_le m0
    refine ⟨fun σ' H' => ∃ n : Nat, σ' = [some (.ref s), some (.int (l : Nat)), some (.int w), some (.int ((m : Nat) : Int)), some (.int (n : Nat))] ∧ l ≤ n ∧ (n : Int) < l + w + m ∧ Ext s H H' ∧ Src H' s a c, ?_, ?_⟩
    · refine ⟨_, rfl, s, a, 9, c, rfl, by decide, by decide, S1, fun b H2 x2 S2 => ⟨_, rfl, ?_⟩⟩
      cases b with
      | true =>
        refine iteT ⟨_, rfl, _, rfl, _, _, rfl, rfl, l + v + m, ?_, by omega, by omega, x1.trans x2, S2⟩
        rw [show ((l + v + m : Nat) : Int) = (l : Int) + (v : Int) + (m : Int) by omega]; rfl
      | false =>
        refine iteF ⟨l + v, ?_, by omega, by omega, x1.trans x2, S2⟩
        rw [show ((l + v : Nat) : Int) = (l : Int) + (v : Int) by omega]; rfl
    rintro σ' H' ⟨n, rfl, h1, h2, x, S⟩
    exact ⟨_, rfl, q n H' h1 h2 x S⟩
end
section
variable {P : Program} {w : World} {K : PySem.W.Frag} {mg : Str → Option Value} {base : Heap}
theorem ok__law_ids (D : Df K mg "_law_ids" s__law_ids ["source", "many"]) (T : Tx mg)  (C__law_draw : Cal P w K mg base "_law_draw" ["source", "many"] 2 sp__law_draw) (C__law_names : Cal P w K mg base "_law_names" ["source", "many"] 4 (sp9__law_names K)) (C__law_pick : Cal P w K mg base "_law_pick" ["source", "row"] 3 (sp3__law_pick K)) : Cal P w K mg base "_law_ids" ["source", "many"] 5 (sp49_ids K) := by
  obtain ⟨f__law_draw, fd__law_draw, G__law_draw, g__law_draw, k__law_draw, b__law_draw⟩ := C__law_draw
  obtain ⟨f__law_names, fd__law_names, G__law_names, g__law_names, k__law_names, b__law_names⟩ := C__law_names
  obtain ⟨f__law_pick, fd__law_pick, G__law_pick, g__law_pick, k__law_pick, b__law_pick⟩ := C__law_pick
  obtain ⟨f, fd, F, gf, bf⟩ := D
  refine ⟨f, fd, F.ok sc__law_ids (fun vs H Q E h => ?_) (fun cdv A outer s₀ H vs Q E hr h => ?_), gf, F.kp, bf⟩
  · obtain ⟨s, a, m, c, rfl, _⟩ := h; rfl
  · obtain ⟨s, a, m, c, rfl, m23, hS, q⟩ := h
    refine ⟨_, (pss_cons (ps_set (i := 2) sc__law_ids.nd rfl (Or.inl rfl) (pe_call G__law_names (hr.mono (by decide)) (by rfl) g__law_names k__law_names b__law_names .nil pass0 (pa_cons (pv 0) (pa_cons (pe_op op_add pe_int (pe_call G__law_draw (hr.mono (by decide)) (by rfl) g__law_draw k__law_draw b__law_draw .nil pass0 (pa_cons (pv 0) (pa_cons pe_int pa_nil)))) pa_nil))))
      (pss_cons (ps_set (i := 3) sc__law_ids.nd rfl (Or.inl rfl) (pe_lst pa_nil))
      (pss_cons (ps_for PassesOwn.never rfl (pi_range1 (by rfl) T.n_range (pa_cons (pv 1) pa_nil)) (pg_name (i := 4) sc__law_ids.nd rfl (Or.inl rfl))
      (pss_cons (ps_set (i := 5) sc__law_ids.nd rfl (Or.inl rfl) (pe_op op_add pe_int (pe_call G__law_draw (hr.mono (by decide)) (by rfl) g__law_draw k__law_draw b__law_draw .nil pass0 (pa_cons (pv 0) (pa_cons pe_int pa_nil)))))
        (C8.pss_cut (ps_if (pt_cmpR op_eq (pe_call G__law_draw (hr.mono (by decide)) (by rfl) g__law_draw k__law_draw b__law_draw .nil pass0 (pa_cons (pv 0) (pa_cons pe_int pa_nil))) pe_int (nomark _))
        (pss_one (ps_set (i := 5) sc__law_ids.nd rfl (Or.inl rfl) (pe_op op_sub pe_int (pv 5))))
        pss_nil)
        (pss_cons (ps_set (i := 6) sc__law_ids.nd rfl (Or.inl rfl) (pe_tup (pa_cons (pe_call G__law_pick (hr.mono (by decide)) (by rfl) g__law_pick k__law_pick b__law_pick .nil pass0 (pa_cons (pv 0) (pa_cons (pv 2) pa_nil))) (pa_cons (pv 5) pa_nil))))
        (pss_one (ps_if (pt_cmpR (op_notInDDQ (K := K) rfl (room65 hr)) (pv 6) (pv 3) (by rfl))
        (pss_one (ps_expr (pe_bm PySem.F.plainAttrs_list PySem.F.slot_list_append PySem.F.type_list_append mt_append (pv 3) (pa_cons (pv 6) pa_nil))))
        pss_nil))))))
      (pss_one (ps_ret (pv 3)))))), ?_⟩
    have small : ∀ n : Nat, n ≤ 30000 → n < sizeLine := fun n h => Nat.lt_of_le_of_lt h (by decide)
    refine ⟨_, rfl, _, rfl, s, a, 2, c + 190, rfl, by decide, by decide, hS.mono (by omega), fun v H0 v0 v1 x0 S0 => ⟨_, _, rfl, rfl, ?_⟩⟩
    obtain ⟨v, rfl⟩ := Int.eq_ofNat_of_zero_le v0
    refine ⟨s, a, 1 + v, c + 150, congrArg (fun z => [V.ref s, V.int z]) (by omega), by omega, S0.mono (by omega), fun n ns H1 hn hN nl nms x1 S1 => ?_⟩
    have Ns : n ≠ s := S0.ne hn
    have nne : ns ≠ [] := fun e => by rw [e] at nl; simp at nl; omega
    refine ⟨Nat.zero_le _, fun D hD => ?_⟩
    have n2 := same_new (o := HO.lst []) hD
    have Ds := S1.ne hD
    have Da := S1.nea hD
    have hD0 : H D = none := ext_free x0 S0 (ext_free x1 S1 hD)
    have S2 := S1.ext n2
    refine ⟨_, rfl, _, rfl, by omega, by omega, ?_⟩
    refine for_range (lo := 0) (n := ((m : Nat) : Int).toNat) (fun i σ H' => ∃ (v4 v5 v6 : Option V) (U : List Idn) (us : List V), σ = [some (.ref s), some (.int (m : Nat)), some (.ref n), some (.ref D), v4, v5, v6] ∧ H' D = some (.lst us) ∧ RL (IsId H') U us ∧ U.Nodup ∧ U.length ≤ i ∧ i ≤ 23 ∧ Ext s H1 H' ∧ Src H' s a (c + 140 - 5 * i)) ⟨none, none, none, [], [], rfl, upd_same, rfl, List.nodup_nil, Nat.le_refl _, by omega, Ext.of n2, S2.mono (by omega)⟩ ?_ ?_
    · rintro i σ H4 hi ⟨v4, v5, v6, U, us, rfl, h4, r4, nd, Ul, i8, x4, S4⟩
      have i7 : i ≤ 22 := by omega
      obtain ⟨b, hb⟩ : ∃ b, b = c + 140 - 5 * (i + 1) := ⟨_, rfl⟩
      have S4 := S4.mono (d := b + 5) (by omega)
      refine ⟨_, rfl, s, a, 20, b + 4, rfl, by decide, by decide, S4, fun z H5 z0 z1 x5 S5 => ⟨_, _, rfl, rfl, ?_⟩⟩
      refine ⟨fun σ' H' => ∃ num : Int, σ' = [some (.ref s), some (.int (m : Nat)), some (.ref n), some (.ref D), some (.int (0 + ((i : Nat) : Int))), some (.int num), v6] ∧ Ext s H4 H' ∧ TT K H4 H' ∧ Src H' s a (b + 3), ?_, ?_⟩
      · refine ⟨_, rfl, s, a, 9, b + 3, rfl, by decide, by decide, S5, fun y H6 y0 y1 x6 S6 => ⟨rfl, _, rfl, ?_⟩⟩
        have T6 : TT K H4 H6 := (TT.ext x5 S4).trans (TT.ext x6 S5)
        by_cases e : decide (V.int y = V.int 4) = true
        · exact iG e ⟨_, rfl, _, _, rfl, rfl, _, rfl, x5.trans x6, T6, S6⟩
        · exact iN (Bool.eq_false_iff.mpr e) ⟨_, rfl, x5.trans x6, T6, S6⟩
      rintro σ' H7 ⟨num, rfl, x7, T7, S7⟩
      refine ⟨_, rfl, _, rfl, .inl ⟨s, a, n, ns.map V.str, b + 2, rfl, SqL.of ((x4.trans x7) _ _ Ns hN), Ns, by simpa using nne, by rw [List.length_map]; omega, S7, fun v8 H8 vm x8 S8 => ?_⟩⟩
      obtain ⟨pl, plm, rfl⟩ := List.mem_map.mp vm
      have plk := nms.2 pl plm
      refine ⟨_, rfl, by show 2 ≤ sizeLine; decide, fun t ht => ?_⟩
      have n9 := same_new (o := HO.tup [V.str pl, V.int num]) ht
      have y9 := (x7.trans x8).trans (Ext.of n9)
      have T9 : TT K H4 _ := T7.trans ((TT.ext x8 S7).trans (TT.same n9))
      have h9 := y9 _ _ Ds h4
      have is9 : IsId (upd H8 t (HO.tup [V.str pl, V.int num])) (pl, num) (.ref t) := ⟨⟨plk.1.2, show (tl pl).length ≤ 1000 from by have := plk.2; omega⟩, t, rfl, upd_same⟩
      have S9 := S8.ext n9
      have xE9 := x4.trans y9
      generalize upd H8 t (HO.tup [V.str pl, V.int num]) = H9 at is9 T9 h9 S9 xE9
      have r9 := r4.mono (IsId.tt T9)
      refine ⟨_, rfl, _, rfl, iD (pl, num), D, us, U.map iD, IsId.dv _ _ is9, rfl, SqL.of h9, r9.dvs IsId.dv, id_okd is9.1, id_okl (fun x m => by
        obtain ⟨j, hj⟩ := List.mem_iff_getElem?.mp m
        obtain ⟨v, _, hv⟩ := r9.at hj
        exact hv.1), ?_⟩
      rw [if_pos rfl, memB_any]
      refine ⟨_, rfl, ?_⟩
      cases hm : memB U (pl, num) with
      | true => exact iteF ⟨_, _, _, U, us, rfl, h9, r9, nd, by omega, by omega, xE9, S9.mono (by omega)⟩
      | false =>
        have ul := r9.len
        refine iteT ⟨_, rfl, .inl ⟨rfl, _, SqL.of h9⟩, _, rfl, D, _, _, rfl, rfl, h9, small _ (by omega), ?_⟩
        have T10 := TT.put (K := K) (o := HO.lst (us ++ [V.ref t])) h9
        refine ⟨_, _, _, U ++ [(pl, num)], _, rfl, upd_same, (r9.mono (IsId.tt T10)).snoc (is9.tt T10), ?_, by rw [List.length_append]; show _ + 1 ≤ _; omega, by omega, ext_keep ?_ xE9, ?_⟩
        · have := add_nd (x := (pl, num)) nd
          unfold add at this
          rwa [if_neg (by rw [hm]; exact Bool.false_ne_true)] at this
        · exact hD
        · exact (S9.put Ds Da).mono (by omega)
    rintro σ H4 ⟨v4, v5, v6, U, us, rfl, h4, r4, nd, Ul, i8, x4, S4⟩
    exact ⟨_, rfl, q D U us H4 hD0 h4 r4 nd (by omega) ((x0.trans x1).trans x4) (S4.mono (by omega))⟩
end

end Z
namespace Z
open PySem L2 SX
section
variable {P : Program} {w : World} {K : PySem.W.Frag} {mg : Str → Option Value} {base : Heap}
theorem ok__law_refs (D : Df K mg "_law_refs" s__law_refs ["source", "ident", "ids"]) (T : Tx mg)  (C__law_draw : Cal P w K mg base "_law_draw" ["source", "many"] 2 sp__law_draw) : Cal P w K mg base "_law_refs" ["source", "ident", "ids"] 4 (sp49_refs K) := by
  obtain ⟨f__law_draw, fd__law_draw, G__law_draw, g__law_draw, k__law_draw, b__law_draw⟩ := C__law_draw
  obtain ⟨f, fd, F, gf, bf⟩ := D
  refine ⟨f, fd, F.ok sc__law_refs (fun vs H Q E h => ?_) (fun cdv A outer s₀ H vs Q E hr h => ?_), gf, F.kp, bf⟩
  · obtain ⟨s, a, l, x, v, U, us, c, rfl, _⟩ := h; rfl
  · obtain ⟨s, a, l, x, v, U, us, c, rfl, hx, hl, ls, rU, Ul, hS, q⟩ := h
    refine ⟨_, (pss_cons (ps_set (i := 3) sc__law_refs.nd rfl (Or.inl rfl) (pe_op L2.op_cat (pe_lc (own := [("other", 6)]) (g := gName 6) rfl sc__law_refs.nd (pi_list (pv 2)) (blkOk_by (own := [("other", 6)]) (N := N__law_refs) (sc := defScope s__law_refs) (by decide +kernel)) (fun _ _ _ _ _ => pg_name (i := 6) sc__law_refs.nd rfl (Or.inl rfl)) (fun _ _ _ _ _ => pts_one (pt_cmpR (op_neDDQ (K := K) rfl (room65 hr)) (pv 6) (pv 1) (nomark _))) (fun _ _ _ _ _ => (pv 6))) (pe_lst (pa_cons (pe_tup (pa_cons (pe_ix ix_tup (pv 1) pe_int (fun _ _ => rfl)) (pa_cons pe_int pa_nil))) (pa_cons (pe_tup (pa_cons (pe_ix ix_tup (pv 1) pe_int (fun _ _ => rfl)) (pa_cons pe_int pa_nil))) pa_nil)))))
      (pss_cons (ps_set (i := 4) sc__law_refs.nd rfl (Or.inl rfl) (pe_lst pa_nil))
      (pss_cons (ps_for PassesOwn.never rfl (pi_range1 (by rfl) T.n_range (pa_cons (pe_ix ix_list (pe_lst (pa_cons pe_int (pa_cons pe_int (pa_cons pe_int (pa_cons pe_int (pa_cons pe_int (pa_cons pe_int (pa_cons pe_int pa_nil)))))))) (pe_call G__law_draw (hr.mono (by decide)) (by rfl) g__law_draw k__law_draw b__law_draw .nil pass0 (pa_cons (pv 0) (pa_cons pe_int pa_nil))) (fun _ _ => rfl)) pa_nil)) (pg_name (i := 5) sc__law_refs.nd rfl (Or.inl rfl))
      (pss_one (ps_if (pt_cmpR op_gt (pe_callB call_len_seq (by rfl) T.n_len PySem.boot_len (pa_cons (pv 3) pa_nil)) pe_int (nomark _))
        (pss_one (ps_expr (pe_bm PySem.F.plainAttrs_list PySem.F.slot_list_append PySem.F.type_list_append mt_append (pv 4) (pa_cons (pe_bm PySem.F.plainAttrs_list PySem.F.slot_list_pop PySem.F.type_list_pop mt_popAt (pv 3) (pa_cons (pe_call G__law_draw (hr.mono (by decide)) (by rfl) g__law_draw k__law_draw b__law_draw .nil pass0 (pa_cons (pv 0) (pa_cons (pe_callB call_len_seq (by rfl) T.n_len PySem.boot_len (pa_cons (pv 3) pa_nil)) pa_nil))) pa_nil)) pa_nil))))
        pss_nil)))
      (pss_one (ps_ret (pe_callTy call_tuple_of (by rfl) T.n_tuple (by decide +kernel) (pa_cons (pv 4) pa_nil))))))), ?_⟩
    have small : ∀ n : Nat, n ≤ 30000 → n < sizeLine := fun n h => Nat.lt_of_le_of_lt h (by decide)
    have ul := rU.len
    obtain ⟨okx, t0, rfl, ht0⟩ := id hx
    refine ⟨_, rfl, l, rfl, ⟨_, SqL.of hl⟩, fun D hD => ?_⟩
    refine lc_list (K := K) (a := l) (xs := us) (fun j H' => ∃ (W : List Idn) (ws : List V), H' D = some (.lst ws) ∧ RL (IsId H') W ws ∧ ws.length ≤ j ∧ Same H H') ⟨[], [], upd_same, rfl, Nat.le_refl _, same_new hD⟩ (fun j H' _ h => by obtain ⟨_, _, _, _, _, m⟩ := h; exact m.seq (SqL.of hl)) ?_ ?_
    · rintro j y H3 hj ⟨W, ws, h3, r3, wl, m3⟩
      obtain ⟨z, hz, pz⟩ := rU.get hj
      have T3 := TT.same (K := K) m3
      have pz3 := IsId.tt T3 z y pz
      have hx3 := IsId.tt T3 _ _ hx
      have jl := (List.getElem?_eq_some_iff.mp hj).1
      refine ⟨rfl, _, rfl, _, rfl, iD z, iD x, IsId.dv _ _ pz3, IsId.dv _ _ hx3, id_okd pz3.1, id_okd okx, _, rfl, ?_⟩
      cases hc : (!eqD (iD z) (iD x)) with
      | true =>
        refine iteT ⟨_, rfl, ws, h3, small _ (by omega), W ++ [z], _, upd_same, ?_, by rw [List.length_append]; show _ + 1 ≤ _; omega, ?_⟩
        · have T4 := TT.put (K := K) (o := HO.lst (ws ++ [y])) h3
          exact (r3.mono (IsId.tt T4)).snoc (IsId.tt T4 _ _ pz3)
        · exact sput m3 hD
      | false => exact iteF ⟨W, ws, h3, r3, by omega, m3⟩
    rintro H3 ⟨W, ws, h3, r3, wl, m3⟩
    have ht3 := m3 _ _ ht0
    refine ⟨_, rfl, t0, _, _, _, rfl, rfl, SqT.of ht3, rfl, by show 2 ≤ sizeLine; decide, fun t1 h1 => ?_⟩
    have n1 := same_new (o := HO.tup [V.str x.1, V.int 500]) h1
    refine ⟨_, rfl, t0, _, _, _, rfl, rfl, SqT.of (n1 _ _ ht3), rfl, by show 2 ≤ sizeLine; decide, fun t2 h2 => ?_⟩
    have n2 := same_new (o := HO.tup [V.str x.1, V.int 501]) h2
    refine ⟨by show 2 ≤ sizeLine; decide, fun l2 hl2 => ?_⟩
    have n3 := same_new (o := HO.lst [V.ref t1, V.ref t2]) hl2
    have y3 := (n1.trans n2).trans n3
    refine ⟨D, l2, ws, _, rfl, rfl, y3 _ _ h3, upd_same, by show ws.length + 2 ≤ sizeLine; have := small (ws.length + 2) (by omega); omega, fun L hL => ?_⟩
    have n4 := same_new (o := HO.lst (ws ++ [V.ref t1, V.ref t2])) hL
    have i1 : IsId (upd H3 t1 (HO.tup [V.str x.1, V.int 500])) (x.1, 500) (.ref t1) := ⟨okx, t1, rfl, upd_same⟩
    have i2 : IsId (upd (upd H3 t1 (HO.tup [V.str x.1, V.int 500])) t2 (HO.tup [V.str x.1, V.int 501])) (x.1, 501) (.ref t2) := ⟨okx, t2, rfl, upd_same⟩
    have rL : RL (IsId (upd (upd (upd (upd H3 t1 (HO.tup [V.str x.1, V.int 500])) t2 (HO.tup [V.str x.1, V.int 501])) l2 (HO.lst [V.ref t1, V.ref t2])) L (HO.lst (ws ++ [V.ref t1, V.ref t2])))) (W ++ [(x.1, 500)] ++ [(x.1, 501)]) (ws ++ [V.ref t1, V.ref t2]) := by
      have e := ((r3.mono (IsId.tt (TT.same (K := K) (y3.trans n4)))).snoc (IsId.tt (TT.same (K := K) ((n2.trans n3).trans n4)) _ _ i1)).snoc (IsId.tt (TT.same (K := K) (n3.trans n4)) _ _ i2)
      rw [show ws ++ [V.ref t1] ++ [V.ref t2] = ws ++ [V.ref t1, V.ref t2] by simp] at e
      exact e
    have mA := m3.trans (y3.trans n4)
    have hLA : (upd (upd (upd (upd H3 t1 (HO.tup [V.str x.1, V.int 500])) t2 (HO.tup [V.str x.1, V.int 501])) l2 (HO.lst [V.ref t1, V.ref t2])) L (HO.lst (ws ++ [V.ref t1, V.ref t2]))) L = some (.lst (ws ++ [V.ref t1, V.ref t2])) := upd_same
    have hL0 : H L = none := Same.free (m3.trans y3) hL
    generalize upd (upd (upd (upd H3 t1 (HO.tup [V.str x.1, V.int 500])) t2 (HO.tup [V.str x.1, V.int 501])) l2 (HO.lst [V.ref t1, V.ref t2])) L (HO.lst (ws ++ [V.ref t1, V.ref t2])) = HA at rL mA hLA
    refine ⟨Nat.zero_le _, fun F hF => ?_⟩
    have n5 := same_new (o := HO.lst []) hF
    have hF0 : H F = none := Same.free mA hF
    have SA := (hS.ext mA).ext n5
    have Ls := hS.ne hL0
    have La := hS.nea hL0
    have Fs := hS.ne hF0
    have Fa := hS.nea hF0
    have LF : L ≠ F := ne_of_none hLA hF
    refine ⟨by show 7 ≤ sizeLine; decide, fun z hz => ?_⟩
    have n6 := same_new (o := HO.lst ([1, 1, 0, 2, 3, 2, 6].map V.int)) hz
    have hz0 : H z = none := Same.free (mA.trans n5) hz
    refine ⟨_, rfl, s, a, 7, c + 9, rfl, by decide, by decide, (SA.ext n6).mono (by omega), fun w H7 w0 w1 x7 S7 => ?_⟩
    obtain ⟨num, nm, enum⟩ := ints_at [1, 1, 0, 2, 3, 2, 6] w0 w1
    have nb : 0 ≤ num ∧ num ≤ 6 := by simp at nm; omega
    refine ⟨z, _, _, _, rfl, rfl, SqL.of (x7 _ _ (hS.ne hz0) upd_same), enum, _, rfl, by omega, by omega, ?_⟩
    have xB : Ext s H _ := (Ext.of ((mA.trans n5).trans n6)).trans x7
    have hF7 := ((Ext.of n6).trans x7) _ _ Fs (show (upd HA F (.lst [])) F = some (.lst []) from upd_same)
    have hL7 := ((Ext.of (n5.trans n6)).trans x7) _ _ Ls hLA
    have T7 : TT K HA H7 := (TT.same (n5.trans n6)).trans (TT.ext x7 (SA.ext n6))
    have wsl : ws.length + 2 ≤ 200 := by omega
    refine for_range (lo := 0) (n := num.toNat) (fun i σ H' => ∃ (v5 v6 : Option V) (P1 P2 : List Idn) (ls fs : List V), σ = [some (.ref s), some (.ref t0), some (.ref l), some (.ref L), some (.ref F), v5, v6] ∧ H' L = some (.lst ls) ∧ RL (IsId H') P1 ls ∧ ls.length ≤ 200 ∧ H' F = some (.lst fs) ∧ RL (IsId H') P2 fs ∧ fs.length ≤ i ∧ i ≤ 6 ∧ Ext s H H' ∧ Src H' s a (c + 8 - i)) ⟨none, none, _, [], _, [], rfl, hL7, rL.mono (IsId.tt T7), by rw [List.length_append]; exact wsl, hF7, rfl, Nat.le_refl _, by omega, xB, S7.mono (by omega)⟩ ?_ ?_
    · rintro i σ H8 hi ⟨v5, v6, P1, P2, lz, fs, rfl, h1, r1, l1, h2, r2, l2', i6, x8, S8⟩
      refine ⟨_, rfl, L, _, rfl, .inl (SqL.of h1), _, _, rfl, rfl, _, rfl, ?_⟩
      by_cases e : (decide ((0 : Int) < (lz.length : Nat))) = true
      · refine iG e ?_
        have lp : 0 < lz.length := by have := of_decide_eq_true e; omega
        obtain ⟨b, hb⟩ : ∃ b, b = c + 8 - (i + 1) := ⟨_, rfl⟩
        refine ⟨_, rfl, .inl ⟨rfl, _, SqL.of h2⟩, _, rfl, .inl ⟨rfl, _, SqL.of h1⟩, _, rfl, _, rfl, L, _, rfl, .inl (SqL.of h1), s, a, (lz.length : Int), b, rfl, by omega, by omega, S8.mono (by omega), fun v H2 v0 v1 x2 S2 => ?_⟩
        have hv : v.toNat < lz.length := by omega
        have T2 := TT.ext (K := K) x2 S8
        have hl2 := x2 _ _ Ls h1
        have hy2 := x2 _ _ Fs h2
        refine ⟨L, lz, v, v.toNat, lz[v.toNat], rfl, rfl, hl2, by omega, by omega, seqIndex_of v0 v1, List.getElem?_eq_getElem hv, ?_⟩
        refine ⟨F, fs, _, rfl, rfl, by rw [upd_ne LF.symm]; exact hy2, small _ (by omega), ?_⟩
        have T3 : TT K H8 (upd (upd H2 L (.lst (lz.eraseIdx v.toNat))) F (.lst (fs ++ [lz[v.toNat]]))) := T2.trans ((TT.put hl2).trans (TT.put (by rw [upd_ne LF.symm]; exact hy2)))
        obtain ⟨x1, hx1, px1⟩ := r1.get (List.getElem?_eq_getElem hv)
        refine ⟨_, v6, P1.eraseIdx v.toNat, P2 ++ [x1], lz.eraseIdx v.toNat, _, rfl, by rw [upd_ne LF, upd_same], (r1.mono (IsId.tt T3)).erase _, ?_, upd_same, (r2.mono (IsId.tt T3)).snoc (IsId.tt T3 _ _ px1), by rw [List.length_append]; show _ + 1 ≤ _; omega, by omega, fun b o hb hh => ?_, ?_⟩
        · have := List.length_eraseIdx_le lz v.toNat
          omega
        · rw [upd_ne (ne_of_none hh hF0), upd_ne (ne_of_none hh hL0)]; exact x2 _ _ hb (x8 _ _ hb hh)
        · rw [← hb]; exact ((S2.put Ls La).put Fs Fa)
      · exact iN (Bool.eq_false_iff.mpr e) ⟨_, v6, P1, P2, lz, fs, rfl, h1, r1, l1, h2, r2, by omega, by omega, x8, S8.mono (by omega)⟩
    rintro σ H8 ⟨v5, v6, P1, P2, lz, fs, rfl, h1, r1, l1, h2, r2, l2', i6, x8, S8⟩
    refine ⟨_, rfl, F, _, rfl, .inl ⟨SqL.of h2, fun t ht => ?_⟩⟩
    have n9 := same_new (o := HO.tup fs) ht
    exact q t P2 fs _ (SqT.of upd_same) (r2.mono (IsId.tt (TT.same (K := K) n9))) (by omega) (x8.trans (Ext.of n9)) ((S8.ext n9).mono (by omega))
end
section
variable {P : Program} {w : World} {K : PySem.W.Frag} {mg : Str → Option Value} {base : Heap}
theorem ok__law_threaded (D : Df K mg "_law_threaded" s__law_threaded ["source", "ids", "k", "chained"]) (T : Tx mg)  (C__law_draw : Cal P w K mg base "_law_draw" ["source", "many"] 2 sp__law_draw) (C__law_refs : Cal P w K mg base "_law_refs" ["source", "ident", "ids"] 4 (sp49_refs K)) : Cal P w K mg base "_law_threaded" ["source", "ids", "k", "chained"] 5 (sp49_threaded K) := by
  obtain ⟨f__law_draw, fd__law_draw, G__law_draw, g__law_draw, k__law_draw, b__law_draw⟩ := C__law_draw
  obtain ⟨f__law_refs, fd__law_refs, G__law_refs, g__law_refs, k__law_refs, b__law_refs⟩ := C__law_refs
  obtain ⟨f, fd, F, gf, bf⟩ := D
  refine ⟨f, fd, F.ok sc__law_threaded (fun vs H Q E h => ?_) (fun cdv A outer s₀ H vs Q E hr h => ?_), gf, F.kp, bf⟩
  · obtain ⟨s, a, l, U, us, k, x, b, c, rfl, _⟩ := h; rfl
  · obtain ⟨s, a, l, U, us, k, x, b, c, rfl, hl, ls, rU, Ul, hx, hS, q⟩ := h
    refine ⟨_, (pss_cons (ps_set (i := 4) sc__law_threaded.nd rfl (Or.inl rfl) (pe_ix ix_list (pv 1) (pv 2) (fun _ _ => rfl)))
      (pss_cons (ps_set (i := 5) sc__law_threaded.nd rfl (Or.inl rfl) (pe_call G__law_refs (hr.mono (by decide)) (by rfl) g__law_refs k__law_refs b__law_refs .nil pass0 (pa_cons (pv 0) (pa_cons (pv 4) (pa_cons (pv 1) pa_nil)))))
      (pss_cons (ps_set (i := 6) sc__law_threaded.nd rfl (Or.inl rfl) (pe_call G__law_draw (hr.mono (by decide)) (by rfl) g__law_draw k__law_draw b__law_draw .nil pass0 (pa_cons (pv 0) (pa_cons pe_int pa_nil))))
      (C8.pss_cut (ps_if (pt_val (pv 3))
      (pss_cons (ps_set (i := 6) sc__law_threaded.nd rfl (Or.inl rfl) (pv 2))
        (pss_one (ps_if (pt_cmpR op_gt (pv 2) pe_int (nomark _))
        (pss_one (ps_set (i := 5) sc__law_threaded.nd rfl (Or.inl rfl) (pe_op (op_cat (K := K) rfl) (pe_callTy call_tuple_of (by rfl) T.n_tuple (by decide +kernel) (pa_cons (pe_slice sl_list (pe_lc (own := [("ref", 8)]) (g := gName 8) rfl sc__law_threaded.nd (pi_tup (pv 5)) (blkOk_by (own := [("ref", 8)]) (N := N__law_threaded) (sc := defScope s__law_threaded) (by decide +kernel)) (fun _ _ _ _ _ => pg_name (i := 8) sc__law_threaded.nd rfl (Or.inl rfl)) (fun _ _ _ _ _ => pts_one (pt_cmpR (op_neDDQ (K := K) rfl (room65 hr)) (pv 8) (pe_ix (ix_listQ (K := K) rfl) (pv 1) (pe_op op_sub (pv 2) pe_int) (fun _ _ => rfl)) (nomark _))) (fun _ _ _ _ _ => (pv 8))) po_none (po_some pe_int)) pa_nil)) (pe_tup (pa_cons (pe_ix ix_list (pv 1) (pe_op op_sub (pv 2) pe_int) (fun _ _ => rfl)) pa_nil)))))
        pss_nil)))
      (pss_one (ps_if (pt_cmpR op_eq (pe_call G__law_draw (hr.mono (by decide)) (by rfl) g__law_draw k__law_draw b__law_draw .nil pass0 (pa_cons (pv 0) (pa_cons pe_int pa_nil))) pe_int (nomark _))
        (pss_one (ps_set (i := 6) sc__law_threaded.nd rfl (Or.inl rfl) (pe_op op_sub pe_int (pv 6))))
        pss_nil)))
      (pss_cons (ps_set (i := 7) sc__law_threaded.nd rfl (Or.inl rfl) (pe_ix ix_list (pe_lst (pa_cons (pe_tup (pa_cons pe_str pa_nil)) (pa_cons (pe_tup (pa_cons pe_str pa_nil)) (pa_cons (pe_tup (pa_cons pe_str (pa_cons (pe_tup (pa_cons (pe_ix ix_tup (pv 4) pe_int (fun _ _ => rfl)) (pa_cons pe_int pa_nil))) pa_nil))) (pa_cons (pe_tup (pa_cons pe_str (pa_cons (pe_tup (pa_cons (pe_ix ix_tup (pv 4) pe_int (fun _ _ => rfl)) (pa_cons pe_int pa_nil))) pa_nil))) pa_nil))))) (pe_call G__law_draw (hr.mono (by decide)) (by rfl) g__law_draw k__law_draw b__law_draw .nil pass0 (pa_cons (pv 0) (pa_cons pe_int pa_nil))) (fun _ _ => rfl)))
      (pss_one (ps_ret (pe_tup (pa_cons pe_str (pa_cons (pv 4) (pa_cons (pe_op op_add_str pe_str (pe_ix ix_tup (pv 4) pe_int (fun _ _ => rfl))) (pa_cons (pv 6) (pa_cons (pe_tup (pa_cons pe_str pa_nil)) (pa_cons pe_str (pa_cons (pv 5) (pa_cons (pv 7) (pa_cons (pe_tup pa_nil) (pa_cons (pe_tup (pa_cons pe_str (pa_cons pe_str (pa_cons (pe_tup pa_nil) pa_nil)))) pa_nil)))))))))))))))))), ?_⟩
    have small : ∀ n : Nat, n ≤ 30000 → n < sizeLine := fun n h => Nat.lt_of_le_of_lt h (by decide)
    have ul := rU.len
    obtain ⟨v, hv, iv⟩ := rU.at hx
    obtain ⟨okx, t0, rfl, ht0⟩ := id iv
    refine ⟨_, rfl, _, rfl, l, us, _, _, rfl, rfl, SqL.of hl, at_of (j := k) rfl hv, ?_⟩
    refine ⟨_, rfl, _, rfl, _, rfl, s, a, l, x, _, U, us, c + 10, rfl, iv, hl, ls, rU, Ul, hS.mono (by omega), fun r rf rs H1 hr1 rr1 rl1 x1 S1 => ?_⟩
    refine ⟨_, rfl, s, a, 6, c + 9, rfl, by decide, by decide, S1.mono (by omega), fun d H2 d0 d1 x2 S2 => ?_⟩
    have T2 := TT.ext (K := K) x2 S1
    have x02 := x1.trans x2
    refine ⟨fun σ' H' => ∃ (d2 : Int) (r2 : Addr) (rf2 : List Idn) (rs2 : List V) (v8 : Option V), σ' = [some (.ref s), some (.ref l), some (.int (k : Nat)), some (.bl b), some (.ref t0), some (.ref r2), some (.int d2), none, v8] ∧ SqT K H' r2 rs2 ∧ RL (IsId H') rf2 rs2 ∧ rs2.length ≤ 10 ∧ Ext s H H' ∧ Src H' s a (c + 8), ?_, ?_⟩
    · have hT2 := T2.1 _ _ hr1
      have rr2 := rr1.mono (IsId.tt T2)
      refine ⟨_, rfl, b, rfl, ?_⟩
      cases b with
      | true =>
        refine iteT ⟨_, rfl, _, rfl, _, _, rfl, rfl, _, rfl, ?_⟩
        by_cases e : (decide ((0 : Int) < (k : Nat))) = true
        · refine iG e ?_
          have kp : 0 < k := by have := of_decide_eq_true e; omega
          have kl := (List.getElem?_eq_some_iff.mp hx).1
          obtain ⟨y, hy⟩ : ∃ y, U[k - 1]? = some y := ⟨_, List.getElem?_eq_getElem (by omega)⟩
          obtain ⟨w, hw, iw⟩ := rU.at hy
          have eK : ((k : Nat) : Int) - 1 = ((k - 1 : Nat) : Int) := by omega
          have hl2 := x02 _ _ ls hl
          have T02 := TT.ext (K := K) x02 hS
          refine ⟨_, rfl, r, rfl, ⟨_, hT2⟩, fun D hD => ?_⟩
          have n3 := same_new (o := HO.lst []) hD
          refine lc_tup (K := K) (a := r) (xs := rs) (fun j H' => ∃ (W : List Idn) (ws : List V), H' D = some (.lst ws) ∧ RL (IsId H') W ws ∧ ws.length ≤ j ∧ Same H2 H') ⟨[], [], upd_same, rfl, Nat.le_refl _, n3⟩ (fun j H' _ h => by obtain ⟨_, _, _, _, _, m⟩ := h; exact m.tup hT2) ?_ ?_
          · rintro j y1 H3 hj ⟨W, ws, h3, r3, wl, m3⟩
            obtain ⟨z, hz, pz⟩ := rr2.get hj
            have T3 := TT.same (K := K) m3
            have pz3 := IsId.tt T3 z y1 pz
            have iw3 := IsId.tt (T02.trans T3) _ _ iw
            have jl := (List.getElem?_eq_some_iff.mp hj).1
            refine ⟨rfl, _, rfl, _, rfl, _, rfl, _, _, rfl, rfl, l, us, _, _, rfl, rfl, SqL.of (m3 _ _ hl2), at_of (j := k - 1) eK hw, iD z, iD y, IsId.dv _ _ pz3, IsId.dv _ _ iw3, id_okd pz3.1, id_okd iw3.1, _, rfl, ?_⟩
            cases hc : (!eqD (iD z) (iD y)) with
            | true =>
              refine iteT ⟨_, rfl, ws, h3, small _ (by omega), W ++ [z], _, upd_same, ?_, by rw [List.length_append]; show _ + 1 ≤ _; omega, ?_⟩
              · have T4 := TT.put (K := K) (o := HO.lst (ws ++ [y1])) h3
                exact (r3.mono (IsId.tt T4)).snoc (IsId.tt T4 _ _ pz3)
              · exact sput m3 hD
            | false => exact iteF ⟨W, ws, h3, r3, by omega, m3⟩
          rintro H3 ⟨W, ws, h3, r3, wl, m3⟩
          refine ⟨_, rfl, D, ws, rfl, SqL.of h3, fun Z hZ => ?_⟩
          rw [cutV_to (by decide)]
          have n4 := same_new (o := HO.lst (ws.take (5 : Int).toNat)) hZ
          refine ⟨Z, _, rfl, .inl ⟨SqL.of upd_same, fun t1 ht1 => ?_⟩⟩
          have n5 := same_new (o := HO.tup (ws.take (5 : Int).toNat)) ht1
          have m5 := (m3.trans n4).trans n5
          refine ⟨_, rfl, _, rfl, _, _, rfl, rfl, l, us, _, _, rfl, rfl, SqL.of (m5 _ _ hl2), at_of (j := k - 1) eK hw, by show 1 ≤ sizeLine; decide, fun t2 ht2 => ?_⟩
          have n6 := same_new (o := HO.tup [w]) ht2
          refine ⟨t1, t2, _, _, rfl, rfl, SqT.of (n6 _ _ upd_same), SqT.of upd_same, by rw [List.length_take]; show _ + 1 ≤ sizeLine; have := small 6 (by omega); omega, fun p H6 m6 hp => ?_⟩
          have m7 := (m5.trans n6).trans m6
          have T7 : TT K H3 H6 := TT.same (((n4.trans n5).trans n6).trans m6)
          refine ⟨_, p, W.take 5 ++ [y], _, _, rfl, hp, ?_, by rw [List.length_append, List.length_take]; show _ + 1 ≤ _; omega, x02.trans (Ext.of m7), (S2.ext m7).mono (by omega)⟩
          exact ((r3.mono (IsId.tt T7)).take 5).snoc (IsId.tt (T02.trans ((TT.same m3).trans T7)) _ _ iw)
        · exact iN (Bool.eq_false_iff.mpr e) ⟨_, r, rf, rs, _, rfl, hT2, rr2, by omega, x02, S2.mono (by omega)⟩
      | false =>
        refine iteF ⟨_, rfl, s, a, 9, c + 8, rfl, by decide, by decide, S2.mono (by omega), fun y H3 y0 y1 x3 S3 => ⟨rfl, _, rfl, ?_⟩⟩
        have T3 := TT.ext (K := K) x3 S2
        by_cases e : decide (V.int y = V.int 4) = true
        · exact iG e ⟨_, rfl, _, _, rfl, rfl, _, r, rf, rs, _, rfl, T3.1 _ _ hT2, rr2.mono (IsId.tt T3), by omega, x02.trans x3, S3⟩
        · exact iN (Bool.eq_false_iff.mpr e) ⟨_, r, rf, rs, _, rfl, T3.1 _ _ hT2, rr2.mono (IsId.tt T3), by omega, x02.trans x3, S3⟩
    rintro σ' H3 ⟨d2, r2, rf2, rs2, v8, rfl, h2, rr, rl, x3, S3⟩
    have T03 := TT.ext (K := K) x3 hS
    have S3 := S3.mono (d := c + 1) (by omega)
    have iv3 := IsId.tt T03 _ _ iv
    have ht3 : H3 t0 = some (.tup [.str x.1, .int x.2]) := T03.2 _ _ ht0
    refine ⟨by show 1 ≤ sizeLine; decide, fun a1 ha1 => ?_⟩
    have n1 := same_new (o := HO.tup [V.str (Str.ofString "post")]) ha1
    refine ⟨by show 1 ≤ sizeLine; decide, fun a2 ha2 => ?_⟩
    have n2 := n1.trans (same_new (o := HO.tup [V.str (Str.ofString "post")]) ha2)
    refine ⟨_, rfl, t0, _, _, _, rfl, rfl, SqT.of (n2 _ _ ht3), rfl, by show 2 ≤ sizeLine; decide, fun b3 hb3 => ?_⟩
    have n3 := n2.trans (same_new (o := HO.tup [V.str x.1, V.int 500]) hb3)
    refine ⟨by show 2 ≤ sizeLine; decide, fun a3 ha3 => ?_⟩
    have n4 := n3.trans (same_new (o := HO.tup [V.str (Str.ofString "strike"), V.ref b3]) ha3)
    refine ⟨_, rfl, t0, _, _, _, rfl, rfl, SqT.of (n4 _ _ ht3), rfl, by show 2 ≤ sizeLine; decide, fun b4 hb4 => ?_⟩
    have n5 := n4.trans (same_new (o := HO.tup [V.str x.1, V.int 501]) hb4)
    refine ⟨by show 2 ≤ sizeLine; decide, fun a4 ha4 => ?_⟩
    have n6 := n5.trans (same_new (o := HO.tup [V.str (Str.ofString "replace"), V.ref b4]) ha4)
    refine ⟨by show 4 ≤ sizeLine; decide, fun L hL => ?_⟩
    have n7 := n6.trans (same_new (o := HO.lst [V.ref a1, V.ref a2, V.ref a3, V.ref a4]) hL)
    refine ⟨_, rfl, s, a, 4, c, rfl, by decide, by decide, S3.ext n7, fun y H4 y0 y1 x4 S4 => ?_⟩
    have Ls : L ≠ s := by
      obtain ⟨xs, e⟩ := S3.lst
      exact fun z => by rw [z, n6 _ _ e] at hL; cases hL
    obtain ⟨kv, hkv⟩ : ∃ kv, ([V.ref a1, V.ref a2, V.ref a3, V.ref a4] : List V)[y.toNat]? = some kv := ⟨_, List.getElem?_eq_getElem (by show y.toNat < 4; omega)⟩
    refine ⟨L, _, _, kv, rfl, rfl, SqL.of (x4 _ _ Ls upd_same), at_of (j := y.toNat) (by omega) hkv, ?_⟩
    have T4 : TT K H3 H4 := (TT.same n7).trans (TT.ext x4 (S3.ext n7))
    have ht4 := T4.2 _ _ ht3
    have hr4 := T4.1 _ _ h2
    have rr4 := rr.mono (IsId.tt T4)
    have x04 := (x3.trans (Ext.of n7)).trans x4
    clear hkv hL ha1 ha2 ha3 ha4 hb3 hb4 n1 n2 n3 n4 n5 n6 n7
    refine ⟨_, rfl, _, rfl, t0, _, _, _, rfl, rfl, SqT.of ht4, rfl, _, _, rfl, rfl, js49b (by have := tl_ann; have := okx.2; omega), ?_⟩
    refine ⟨_, rfl, by show 1 ≤ sizeLine; decide, fun b1 hb1 => ?_⟩
    have n1 := same_new (o := HO.tup [V.str (Str.ofString "town")]) hb1
    refine ⟨_, rfl, _, rfl, Nat.zero_le _, fun b2 hb2 => ?_⟩
    have n2 := n1.trans (same_new (o := HO.tup []) hb2)
    refine ⟨Nat.zero_le _, fun b3 hb3 => ?_⟩
    have n3 := n2.trans (same_new (o := HO.tup []) hb3)
    refine ⟨by show 3 ≤ sizeLine; decide, fun b4 hb4 => ?_⟩
    have n4 := n3.trans (same_new (o := HO.tup [V.str (Str.ofString "text"), V.str (Str.ofString "plain"), V.ref b3]) hb4)
    refine ⟨by show 10 ≤ sizeLine; decide, fun e he => ?_⟩
    have n5 := n4.trans (same_new (o := HO.tup [V.str (Str.ofString "notice"), V.ref t0, V.str (Str.ofString "ann@" ++ x.1), V.int d2, V.ref b1, V.str (Str.ofString ""), V.ref r2, kv, V.ref b2, V.ref b4]) he)
    have T5 : TT K H4 _ := TT.same n5
    exact q ⟨x, d2, rf2⟩ _ _ rfl ⟨okx, e, t0, r2, _, _, _, _, _, _, _, rs2, rfl, SqT.of upd_same, n5 _ _ ht4, T5.1 _ _ hr4, rr4.mono (IsId.tt T5), by omega⟩ (x04.trans (Ext.of n5)) ((S4.ext n5))
end

end Z
namespace Z
open PySem L2 SX
section
variable {P : Program} {w : World} {K : PySem.W.Frag} {mg : Str → Option Value} {base : Heap}
theorem ok_place_of (D : Df K mg "place_of" s_place_of ["notice"]) (T : Tx mg)   : Cal P w K mg base "place_of" ["notice"] 1 (sp49_place K) := by
  obtain ⟨f, fd, F, gf, bf⟩ := D
  refine ⟨f, fd, F.ok sc_place_of (fun vs H Q E h => ?_) (fun cdv A outer s₀ H vs Q E hr h => ?_), gf, F.kp, bf⟩
  · obtain ⟨t, v, rfl, _⟩ := h; rfl
  · obtain ⟨t, v, rfl, hv, q⟩ := h
    refine ⟨_, (pss_one (ps_ret (pe_tup (pa_cons (pe_ix ix_tup (pv 0) pe_int (fun _ _ => rfl)) (pa_cons (pe_ix ix_tup (pv 0) pe_int (fun _ _ => rfl)) pa_nil))))), ?_⟩
    obtain ⟨h0, a, i, r, x0, x2, x4, x5, x7, x8, x9, rs, rfl, h1, h2, h3, h4, h5⟩ := hv
    refine ⟨_, rfl, a, _, _, _, rfl, rfl, h1, rfl, _, rfl, a, _, _, _, rfl, rfl, h1, rfl, by show 2 ≤ sizeLine; decide, fun p hp => ?_⟩
    have n := same_new (o := HO.tup [V.int t.d, V.ref i]) hp
    exact q _ _ n ⟨p, _, rfl, SqT.of upd_same, dlc (dli _) (dlc (IsId.dv _ _ ⟨h0, i, rfl, n _ _ h2⟩) dln)⟩
end
section
variable {P : Program} {w : World} {K : PySem.W.Frag} {mg : Str → Option Value} {base : Heap}
theorem ok_parent_of (D : Df K mg "parent_of" s_parent_of ["notice", "by_id"]) (T : Tx mg)  (C_place_of : Cal P w K mg base "place_of" ["notice"] 1 (sp49_place K)) : Cal P w K mg base "parent_of" ["notice", "by_id"] 2 (sp49_parent K) := by
  obtain ⟨f_place_of, fd_place_of, G_place_of, g_place_of, k_place_of, b_place_of⟩ := C_place_of
  obtain ⟨f, fd, F, gf, bf⟩ := D
  refine ⟨f, fd, F.ok sc_parent_of (fun vs H Q E h => ?_) (fun cdv A outer s₀ H vs Q E hr h => ?_), gf, F.kp, bf⟩
  · obtain ⟨ns, t, v, B, rfl, _⟩ := h; rfl
  · obtain ⟨ns, t, v, B, rfl, hv, hB, nd, q⟩ := h
    refine ⟨_, (pss_cons (ps_for PassesOwn.never rfl (RT.pi_revA (by rfl) T.n_reversed (pe_ix ix_tup (pv 0) pe_int (fun _ _ => rfl))) (pg_name (i := 2) sc_parent_of.nd rfl (Or.inl rfl))
      (pss_one (ps_if (PW.pt (pw_and (pt_cmp (pc_din (hu_of hr) (pv 2) (pv 1))) (pw_and1 (pt_cmpR (op_ltDDQ (K := K) rfl (room65 hr)) (pe_call G_place_of (hr.mono (by decide)) (by rfl) g_place_of k_place_of b_place_of .nil pass0 (pa_cons (pe_dget (hu_of hr) (pv 1) (pv 2) (fun _ _ => rfl)) pa_nil)) (pe_call G_place_of (hr.mono (by decide)) (by rfl) g_place_of k_place_of b_place_of .nil pass0 (pa_cons (pv 0) pa_nil)) (nomark _)))))
        (pss_one (ps_ret (pv 2)))
        pss_nil)))
      (pss_one (ps_ret pe_non))), ?_⟩
    obtain ⟨h0, a, i0, r, x0, x2, x4, x5, x7, x8, x9, rs, rfl, h1, h2, h3, h4, h5⟩ := id hv
    obtain ⟨kvs, hb, kl, hin, hout⟩ := hB
    have rl := h4.len
    refine ⟨_, rfl, a, _, _, _, rfl, rfl, h1, rfl, r, rs, rfl, .inr ⟨h3, ?_⟩⟩
    refine RT.for_ItvT (K := K) (a := r) (xs := rs) (fun i σ H' => ∃ v2 : Option V, σ = [some (.ref a), some (.ref B), v2] ∧ Same H H' ∧ (t.rf.reverse.take i).find? (ansT ns t) = none) ⟨none, rfl, Same.refl _, rfl⟩ (fun i σ H' h => by obtain ⟨_, _, m, _⟩ := h; exact m.tup h3) ?_ ?_
    · rintro i x σ H3 hi hx ⟨v2, rfl, m3, fn⟩
      obtain ⟨y, hy, py'⟩ := h4.get hx
      have ry : t.rf.reverse[i]? = some y := by
        rw [List.getElem?_reverse (by omega), ← rl]; exact hy
      have T3 := TT.same (K := K) m3
      have py3 := IsId.tt T3 y x py'
      obtain ⟨oky, b, rfl, hbb⟩ := id py3
      refine ⟨_, rfl, _, rfl, B, _, rfl, DGet.t (k := ik y) (m3 _ _ hb) hbb, _, rfl, ?_⟩
      cases hs : (valV kvs (ik y)).isSome with
      | false =>
        have an : ansT ns t y = false := ans_none fun o ho e => by
          obtain ⟨w, hw, _⟩ := hin o ho
          rw [← e, hw] at hs
          cases hs
        exact iteF (iteF ⟨_, rfl, m3, find_miss9 fn ry an⟩)
      | true =>
        obtain ⟨o, ho, rfl⟩ := hout y hs
        obtain ⟨w, hw, nw⟩ := hin o ho
        refine iteT ⟨_, rfl, _, rfl, B, w, rfl, by rw [← hw]; exact DGet.t (m3 _ _ hb) hbb, o, w, rfl, nw.tt T3, fun u1 H4 m4 d1 => ?_⟩
        refine ⟨_, rfl, t, _, rfl, hv.tt (T3.trans (TT.same m4)), fun u2 H5 m5 d2 => ?_⟩
        refine ⟨plD o, plD t, d1.tk (TK.same m5), d2, pl_alike _ _, py_pl_ne _, pl_dp _, _, rfl, ?_⟩
        have m35 := m3.trans (m4.trans m5)
        have an := ans_one nd (t := t) ho
        cases hl : PySem.W.dataLt (py (plD o)) (py (plD t)) with
        | true =>
          have f := find_hit9 fn ry (an.trans hl)
          refine iteT ⟨_, rfl, q _ H5 m35 ?_⟩
          show OpId H5 (t.rf.reverse.find? (ansT ns t)) _
          rw [f]
          exact IsId.tt (TT.same (K := K) (m4.trans m5)) _ _ py3
        | false => exact iteF ⟨_, rfl, m35, find_miss9 fn ry (an.trans hl)⟩
    rintro σ H3 ⟨v2, rfl, m3, fn⟩
    refine q _ H3 m3 ?_
    show OpId H3 (t.rf.reverse.find? (ansT ns t)) _
    rw [List.take_of_length_le (by rw [List.length_reverse]; omega)] at fn
    rw [fn]
    rfl
end
section
variable {P : Program} {w : World} {K : PySem.W.Frag} {mg : Str → Option Value} {base : Heap}
theorem ok__law_parent (D : Df K mg "_law_parent" s__law_parent ["notice", "notices"]) (T : Tx mg)   : Cal P w K mg base "_law_parent" ["notice", "notices"] 1 (sp49_lparent K) := by
  obtain ⟨f, fd, F, gf, bf⟩ := D
  refine ⟨f, fd, F.ok sc__law_parent (fun vs H Q E h => ?_) (fun cdv A outer s₀ H vs Q E hr h => ?_), gf, F.kp, bf⟩
  · obtain ⟨ns, t, v, l, ws, rfl, _⟩ := h; rfl
  · obtain ⟨ns, t, v, l, ws, rfl, hv, hl, rw', q⟩ := h
    refine ⟨_, (pss_cons (ps_set (i := 2) sc__law_parent.nd rfl (Or.inl rfl) pe_non)
      (pss_cons (ps_for PassesOwn.never rfl (pi_tup (pe_ix ix_tup (pv 0) pe_int (fun _ _ => rfl))) (pg_name (i := 3) sc__law_parent.nd rfl (Or.inl rfl))
      (pss_one (ps_for PassesOwn.never rfl (pi_list (pv 1)) (pg_name (i := 4) sc__law_parent.nd rfl (Or.inl rfl))
        (pss_one (ps_if (PW.pt (pw_and (pt_cmpR (op_eqDDQ (K := K) rfl (room65 hr)) (pe_ix ix_tup (pv 4) pe_int (fun _ _ => rfl)) (pv 3) (nomark _)) (pw_and1 (pt_cmpR (op_ltDDQ (K := K) rfl (room65 hr)) (pe_tup (pa_cons (pe_ix ix_tup (pv 4) pe_int (fun _ _ => rfl)) (pa_cons (pe_ix ix_tup (pv 4) pe_int (fun _ _ => rfl)) pa_nil))) (pe_tup (pa_cons (pe_ix ix_tup (pv 0) pe_int (fun _ _ => rfl)) (pa_cons (pe_ix ix_tup (pv 0) pe_int (fun _ _ => rfl)) pa_nil))) (nomark _)))))
          (pss_one (ps_set (i := 2) sc__law_parent.nd rfl (Or.inl rfl) (pv 3)))
          pss_nil)))))
      (pss_one (ps_ret (pv 2))))), ?_⟩
    obtain ⟨h0, a, i0, r, x0, x2, x4, x5, x7, x8, x9, rs, rfl, h1, h2, h3, h4, h5⟩ := id hv
    have rl := h4.len
    have wl := rw'.len
    refine ⟨_, rfl, a, _, _, _, rfl, rfl, h1, rfl, r, rfl, ⟨_, h3⟩, ?_⟩
    refine for_tup (K := K) (a := r) (xs := rs) (fun i σ H' => ∃ (f : V) (v3 v4 : Option V), σ = [some (.ref a), some (.ref l), some f, v3, v4] ∧ Same H H' ∧ OpId H' ((t.rf.take i).reverse.find? (ansT ns t)) f) ⟨_, none, none, rfl, Same.refl _, rfl⟩ (fun i σ H' _ h => by obtain ⟨_, _, _, _, m, _⟩ := h; exact m.tup h3) ?_ ?_
    · rintro i x σ H3 hx ⟨f, v3, v4, rfl, m3, fo⟩
      obtain ⟨y, hy, iy⟩ := h4.get hx
      have T3 := TT.same (K := K) m3
      have iy3 := IsId.tt T3 y x iy
      refine ⟨_, rfl, l, rfl, ⟨_, m3.seq hl⟩, ?_⟩
      refine for_list (K := K) (a := l) (xs := ws) (fun j σ H' => ∃ (g : V) (v4 : Option V), σ = [some (.ref a), some (.ref l), some g, some x, v4] ∧ Same H3 H' ∧ OpId H' (if ansT (ns.take j) t y = true then some y else (t.rf.take i).reverse.find? (ansT ns t)) g) ⟨f, v4, rfl, Same.refl _, fo⟩ (fun j σ H' _ h => by obtain ⟨_, _, _, m, _⟩ := h; exact (m3.trans m).seq hl) ?_ ?_
      · rintro j z σ H4 hz ⟨g, v4', rfl, m4, go⟩
        obtain ⟨o, ho, no⟩ := rw'.get hz
        have T4 := T3.trans (TT.same m4)
        have no4 := no.tt T4
        have iy4 := IsId.tt (TT.same (K := K) m4) _ _ iy3
        obtain ⟨k0, b, i1, r1, z0, z2, z4, z5, z7, z8, z9, rs1, rfl, k1, k2, k3, k4, k5⟩ := id no4
        have io : IsId H4 o.id (.ref i1) := ⟨k0, i1, rfl, k2⟩
        have an : ansT (ns.take (j + 1)) t y = (ansT (ns.take j) t y || (decide (o.id = y) && ltT o t)) := by
          unfold ansT
          rw [List.take_add_one, ho]
          simp
        refine ⟨_, rfl, b, _, _, _, rfl, rfl, k1, rfl, _, rfl, iD o.id, iD y, IsId.dv _ _ io, IsId.dv _ _ iy4, id_okd k0, id_okd iy4.1, _, rfl, ?_⟩
        cases he : eqD (iD o.id) (iD y) with
        | false =>
          have ne : decide (o.id = y) = false := decide_eq_false fun e => by rw [id_eqD.mpr e] at he; cases he
          rw [ne, Bool.false_and, Bool.or_false] at an
          exact iteF (iteF ⟨g, _, rfl, m4, by rw [an]; exact go⟩)
        | true =>
          have ee : o.id = y := id_eqD.mp he
          obtain ⟨_, a1, i2, r2, y0, y2, y4, y5, y7, y8, y9, rs2, e1, q1, q2, _⟩ := hv.tt T4
          cases e1
          refine iteT ⟨_, rfl, b, _, _, _, rfl, rfl, k1, rfl, _, rfl, b, _, _, _, rfl, rfl, k1, rfl, by show 2 ≤ sizeLine; decide, fun p hp => ?_⟩
          have n1 := same_new (o := HO.tup [V.int o.d, V.ref i1]) hp
          refine ⟨_, rfl, a, _, _, _, rfl, rfl, n1.tup q1, rfl, _, rfl, a, _, _, _, rfl, rfl, n1.tup q1, rfl, by show 2 ≤ sizeLine; decide, fun p2 hp2 => ?_⟩
          have n2 := same_new (o := HO.tup [V.int t.d, V.ref i2]) hp2
          have n12 := n1.trans n2
          have T5 := TT.same (K := K) n12
          refine ⟨plD o, plD t, ⟨p, _, rfl, n2.tup (SqT.of upd_same), dlc (dli _) (dlc (IsId.dv _ _ (IsId.tt T5 _ _ io)) dln)⟩, ⟨p2, _, rfl, SqT.of upd_same, dlc (dli _) (dlc (IsId.dv _ _ (show IsId _ t.id (.ref i2) from ⟨h0, i2, rfl, n12 _ _ q2⟩)) dln)⟩, pl_alike _ _, py_pl_ne _, pl_dp _, _, rfl, ?_⟩
          rw [decide_eq_true ee, Bool.true_and] at an
          cases hl' : PySem.W.dataLt (py (plD o)) (py (plD t)) with
          | false =>
            have hl'' : ltT o t = false := hl'
            rw [hl'', Bool.or_false] at an
            exact iteF ⟨g, _, rfl, m4.trans n12, by rw [an]; exact go.tt T5⟩
          | true =>
            have hl'' : ltT o t = true := hl'
            rw [hl'', Bool.or_true] at an
            exact iteT ⟨_, rfl, _, _, rfl, m4.trans n12, by rw [an, if_pos rfl]; exact IsId.tt T5 _ _ iy4⟩
      rintro σ H4 ⟨g, v4', rfl, m4, go⟩
      refine ⟨g, _, _, rfl, m3.trans m4, ?_⟩
      rw [wl, List.take_length] at go
      rw [List.take_add_one, hy, List.reverse_append]
      show OpId H4 ((y :: (t.rf.take i).reverse).find? (ansT ns t)) g
      cases hp : ansT ns t y with
      | true => rw [if_pos hp] at go; rw [List.find?_cons_of_pos hp]; exact go
      | false => rw [if_neg (by rw [hp]; exact Bool.false_ne_true)] at go; rw [List.find?_cons_of_neg (by rw [hp]; exact Bool.false_ne_true)]; exact go
    rintro σ H3 ⟨f, v3, v4, rfl, m3, fo⟩
    rw [rl, List.take_length] at fo
    exact ⟨_, rfl, q f H3 m3 fo⟩
end

end Z
namespace Z
open PySem L2 SX
section
variable {P : Program} {w : World} {K : PySem.W.Frag} {mg : Str → Option Value} {base : Heap}
theorem ok__law_threads (D : Df K mg "_law_threads" s__law_threads ["notices"]) (T : Tx mg)  (C__law_parent : Cal P w K mg base "_law_parent" ["notice", "notices"] 1 (sp49_lparent K)) : Cal P w K mg base "_law_threads" ["notices"] 2 (sp49_lthreads K) := by
  obtain ⟨f__law_parent, fd__law_parent, G__law_parent, g__law_parent, k__law_parent, b__law_parent⟩ := C__law_parent
  obtain ⟨f, fd, F, gf, bf⟩ := D
  refine ⟨f, fd, F.ok sc__law_threads (fun vs H Q E h => ?_) (fun cdv A outer s₀ H vs Q E hr h => ?_), gf, F.kp, bf⟩
  · obtain ⟨ns, l, ws, rfl, _⟩ := h; rfl
  · obtain ⟨ns, l, ws, rfl, hl, rw', nd, nl, q⟩ := h
    refine ⟨_, (pss_cons (ps_set (i := 2) sc__law_threads.nd rfl (Or.inl rfl) (pe_callB (cr_sortVQ (K := K) rfl (room65 hr)) (by rfl) T.n_sorted (by decide +kernel) (pa_cons (pe_lc (own := [("notice", 1)]) (g := gName 1) (tt := tYes) rfl sc__law_threads.nd (pi_list (pv 0)) (blkOk_by (own := [("notice", 1)]) (N := N__law_threads) (sc := defScope s__law_threads) (by decide +kernel)) (fun _ _ _ _ _ => pg_name (i := 1) sc__law_threads.nd rfl (Or.inl rfl)) (fun _ _ _ _ _ => pts_nil) (fun _ _ _ _ _ => (pe_tup (pa_cons (pe_ix (ix_tupQ (K := K) rfl) (pv 1) pe_int (fun _ _ => rfl)) (pa_cons (pe_ix (ix_tupQ (K := K) rfl) (pv 1) pe_int (fun _ _ => rfl)) pa_nil))))) pa_nil)))
      (pss_cons (ps_set (i := 3) sc__law_threads.nd rfl (Or.inr rfl) pe_dnewT)
      (pss_cons (ps_for PassesOwn.never rfl (pi_list (pv 0)) (pg_name (i := 1) sc__law_threads.nd rfl (Or.inl rfl))
      (pss_one (ps_dput (hu_of hr) (pv 3) (pe_ix ix_tup (pv 1) pe_int (fun _ _ => rfl)) (pe_call G__law_parent (hr.mono (by decide)) (by rfl) g__law_parent k__law_parent b__law_parent .nil pass0 (pa_cons (pv 1) (pa_cons (pv 0) pa_nil))) rfl)))
      (pss_cons (ps_set (i := 4) sc__law_threads.nd rfl (Or.inr rfl) pe_dnewT)
      (pss_cons (ps_for PassesOwn.never rfl (pi_range1 (by rfl) T.n_range (pa_cons (pe_callB call_len_seq (by rfl) T.n_len PySem.boot_len (pa_cons (pv 2) pa_nil)) pa_nil)) (pg_name (i := 5) sc__law_threads.nd rfl (Or.inl rfl))
      (pss_cons (ps_set (i := 6) sc__law_threads.nd rfl (Or.inr rfl) (pe_ix ix_tup (pe_ix ix_list (pv 2) (pe_op op_sub (pe_op op_sub (pe_callB call_len_seq (by rfl) T.n_len PySem.boot_len (pa_cons (pv 2) pa_nil)) pe_int) (pv 5)) (fun _ _ => rfl)) pe_int (fun _ _ => rfl)))
        (pss_cons (ps_setLc (i := 7) (own := [("row", 8)]) (g := gName 8) rfl sc__law_threads.nd rfl rfl (sw_true rfl rfl rfl (by decide +kernel)) (pi_list (pv 2)) (blkOk_by (own := [("row", 8)]) (N := N__law_threads) (sc := defScope s__law_threads) (by decide +kernel)) (fun _ _ _ _ _ => pg_name (i := 8) sc__law_threads.nd rfl (Or.inl rfl)) (fun _ _ _ _ _ => pts_one (pt_cmpR (op_eqDDQ (K := K) rfl (room65 hr)) (pe_dget (hu_of hr) (pv 3) (pe_ix (ix_tupQ (K := K) rfl) (pv 8) pe_int (fun _ _ => rfl)) (fun _ _ => rfl)) (pv 6) (nomark _))) (fun _ _ _ _ _ => (pe_dget (hu_of hr) (pv 4) (pe_ix (ix_tupQ (K := K) rfl) (pv 8) pe_int (fun _ _ => rfl)) (fun _ _ => rfl))))
        (pss_one (ps_dput (hu_of hr) (pv 4) (pv 6) (pe_tup (pa_cons pe_str (pa_cons (pv 6) (pa_cons (pe_callTy call_tuple_of (by rfl) T.n_tuple (by decide +kernel) (pa_cons (pv 7) pa_nil)) pa_nil)))) rfl)))))
      (pss_one (ps_ret (pe_callTy call_tuple_of (by rfl) T.n_tuple (by decide +kernel) (pa_cons (pe_lc (own := [("row", 8)]) (g := gName 8) rfl sc__law_threads.nd (pi_list (pv 2)) (blkOk_by (own := [("row", 8)]) (N := N__law_threads) (sc := defScope s__law_threads) (by decide +kernel)) (fun _ _ _ _ _ => pg_name (i := 8) sc__law_threads.nd rfl (Or.inl rfl)) (fun _ _ _ _ _ => pts_one (pt_cmpR op_isN (pe_dget (hu_of hr) (pv 3) (pe_ix (ix_tupQ (K := K) rfl) (pv 8) pe_int (fun _ _ => rfl)) (fun _ _ => rfl)) pe_non (nomark _))) (fun _ _ _ _ _ => (pe_dget (hu_of hr) (pv 4) (pe_ix (ix_tupQ (K := K) rfl) (pv 8) pe_int (fun _ _ => rfl)) (fun _ _ => rfl)))) pa_nil))))))))), ?_⟩
    have small : ∀ n : Nat, n ≤ 30000 → n < sizeLine := fun n h => Nat.lt_of_le_of_lt h (by decide)
    have wl := rw'.len
    refine ⟨_, rfl, l, rfl, ⟨_, hl⟩, fun D hD => ?_⟩
    refine lc_list (K := K) (a := l) (xs := ws) (fun j H' => ∃ rs : List V, H' D = some (.lst rs) ∧ RL (RowAt K H') (ns.take j) rs ∧ rs.length ≤ j ∧ Same H H') ⟨[], upd_same, rfl, Nat.le_refl _, same_new hD⟩ (fun j H' _ h => by obtain ⟨_, _, _, _, m⟩ := h; exact m.seq hl) ?_ ?_
    · rintro j z H3 hz ⟨rs, h3, r3, l3, m3⟩
      obtain ⟨o, ho, no⟩ := rw'.get hz
      have T3 := TT.same (K := K) m3
      have jl := (List.getElem?_eq_some_iff.mp hz).1
      obtain ⟨k0, b, i1, r1, z0, z2, z4, z5, z7, z8, z9, rs1, rfl, k1, k2, k3, k4, k5⟩ := no.tt T3
      refine ⟨rfl, _, rfl, b, _, _, _, rfl, rfl, k1, rfl, _, rfl, b, _, _, _, rfl, rfl, k1, rfl, by show 2 ≤ sizeLine; decide, fun p hp => ?_⟩
      have n4 := same_new (o := HO.tup [V.int o.d, V.ref i1]) hp
      have T5 : TT K H3 (upd (upd H3 p (HO.tup [V.int o.d, V.ref i1])) D (.lst (rs ++ [V.ref p]))) := (TT.same n4).trans (TT.put (n4 _ _ h3))
      have pD : p ≠ D := (ne_of_none h3 hp).symm
      refine ⟨rs, n4 _ _ h3, small _ (by omega), rs ++ [V.ref p], upd_same, ?_, by rw [List.length_append]; show _ + 1 ≤ _; omega, sput (m3.trans n4) hD⟩
      exact RL.step ho (r3.mono (RowAt.tt T5)) ⟨k0, p, i1, rfl, SqT.of (by rw [upd_ne pD]; exact upd_same), T5.2 _ _ k2⟩
    rintro H3 ⟨rs, h3, r3, l3, m3⟩
    rw [wl, List.take_length] at r3
    obtain ⟨L, e1, e2, e3⟩ := r3.pairs
    subst e2
    refine ⟨D, Th × V, L, (·.2), fun p => plD p.1, rfl, SqL.of h3, ?_, aa_of fun b c => pl_alike _ _, so_tup fun b => ⟨_, _, rfl⟩, fun b _ => pl_dp _, fun R hR => ?_⟩
    · have := r3.dvs (f := plD) RowAt.dv
      rw [← e1, List.map_map] at this
      exact this
    have r4 := rows_sorted e1 e3
    have LL : (L.mergeSort (dle fun p : Th × V => plD p.1)).length = ns.length := by rw [List.length_mergeSort, ← e1, List.length_map]
    generalize hrs : (L.mergeSort (dle fun p : Th × V => plD p.1)).map (·.2) = rs at r4
    have rsl : rs.length = ns.length := by rw [← hrs, List.length_map, LL]
    have n4 := same_new (o := HO.lst rs) hR
    have hR4 : upd H3 R (HO.lst rs) R = some (.lst rs) := upd_same
    have r4 := r4.mono (RowAt.tt (TT.same (K := K) n4))
    have m4 := m3.trans n4
    have hR0 : H R = none := Same.free m3 hR
    clear h3 r3 e3 hD n4 e1 LL hrs
    generalize upd H3 R (HO.lst rs) = H4 at hR4 r4 m4
    clear m3 hR
    -- the parents
    refine fun P hP => ?_
    have n5 := same_new (o := HO.dT []) hP
    have hP0 : H P = none := Same.free m4 hP
    have RP : R ≠ P := ne_of_none hR4 hP
    refine ⟨_, rfl, l, rfl, ⟨_, (m4.trans n5).seq hl⟩, ?_⟩
    refine for_list (K := K) (a := l) (xs := ws) (fun j σ H' => ∃ (v1 v4 v5 v6 v7 v8 : Option V), σ = [some (.ref l), v1, some (.ref R), some (.ref P), v4, v5, v6, v7, v8] ∧ PaAt H' ns P (ns.take j) ∧ H' R = some (.lst rs) ∧ RL (RowAt K H') (asc ns) rs ∧ Same H H') ⟨none, none, none, none, none, _, rfl, ⟨[], upd_same, Nat.le_refl _, fun t ht => (by cases ht)⟩, n5 _ _ hR4, r4.mono (RowAt.tt (TT.same n5)), m4.trans n5⟩ (fun j σ H' _ h => by obtain ⟨_, _, _, _, _, _, _, _, _, _, m⟩ := h; exact m.seq hl) ?_ ?_
    · rintro j z σ H5 hz ⟨v1, v4, v5, v6, v7, v8, rfl, hp5, hr5, rr5, m5⟩
      obtain ⟨o, ho, no⟩ := rw'.get hz
      have T5 := TT.same (K := K) m5
      have jl := (List.getElem?_eq_some_iff.mp hz).1
      refine ⟨_, rfl, _, rfl, ns, o, z, l, ws, rfl, no.tt T5, m5.seq hl, rw'.mono (NtAt.tt T5), fun u H6 m6 op => ?_⟩
      obtain ⟨k0, b, i1, r1, z0, z2, z4, z5, z7, z8, z9, rs1, rfl, k1, k2, k3, k4, k5⟩ := no.tt (T5.trans (TT.same m6))
      obtain ⟨kvs, q1, q2, q3⟩ := hp5.tt (TT.same (K := K) m6) (fun o => m6 _ _)
      refine ⟨_, rfl, _, rfl, b, _, _, _, rfl, rfl, k1, rfl, P, _, rfl, DPut.t (k := ik o.id) q1 k2 (small _ (by rw [List.length_take] at q2; omega)), ?_⟩
      have T7 : TT K H6 (upd H6 P (.dT (putK kvs (ik o.id) u))) := TT.over q1 (fun _ e => by cases e) (fun _ _ e => by cases e)
      refine ⟨_, _, _, _, _, _, rfl, ?_, by rw [upd_ne RP]; exact m6 _ _ hr5, rr5.mono (RowAt.tt ((TT.same m6).trans T7)), sput (m5.trans m6) hP0⟩
      rw [List.take_add_one, ho]
      exact PaAt.put (K := K) q1 q2 q3 op fun x hx e => id_one nd (List.mem_of_mem_take hx) (List.mem_of_getElem? ho) e
    rintro σ H5 ⟨v1, v4, v5, v6, v7, v8, rfl, hp5, hr5, rr5, m5⟩
    rw [wl, List.take_length] at hp5
    clear m4 hR4 r4 n5 hP
    generalize H4 = H4' at *
    -- what is made
    refine fun M hM => ?_
    have n6 := same_new (o := HO.dT []) hM
    have hM0 : H M = none := Same.free m5 hM
    have RM : R ≠ M := ne_of_none hr5 hM
    have PM : P ≠ M := by
      obtain ⟨kvs, q1, _⟩ := hp5
      exact ne_of_none q1 hM
    have T6 := TT.same (K := K) n6
    refine ⟨_, rfl, R, _, rfl, .inl (SqL.of (n6 _ _ hr5)), _, rfl, by omega, by omega, ?_⟩
    rw [rsl]
    refine for_range (lo := 0) (n := ((ns.length : Nat) : Int).toNat) (fun k σ H' => ∃ (v1 v5 v6 v7 v8 : Option V), σ = [some (.ref l), v1, some (.ref R), some (.ref P), some (.ref M), v5, v6, v7, v8] ∧ PaAt H' ns P ns ∧ MaAt K H' ns M ((desc ns).take k) ∧ H' R = some (.lst rs) ∧ RL (RowAt K H') (asc ns) rs ∧ Same H H') ⟨_, _, _, _, _, rfl, hp5.tt T6 (fun o => n6 _ _), ⟨[], upd_same, Nat.zero_le _, fun t ht => (by cases ht)⟩, n6 _ _ hr5, rr5.mono (RowAt.tt T6), m5.trans n6⟩ ?_ ?_
    · rintro k σ H6 hk ⟨v1, v5, v6, v7, v8, rfl, hp6, hm6, hr6, rr6, m6⟩
      have kl : k < ns.length := by omega
      obtain ⟨s, hs⟩ : ∃ s, (desc ns)[k]? = some s := ⟨_, List.getElem?_eq_getElem (by rw [desc_len]; exact kl)⟩
      have sa : (asc ns)[ns.length - 1 - k]? = some s := by
        unfold desc at hs
        rw [List.getElem?_reverse (by rw [asc_len]; exact kl), asc_len] at hs
        exact hs
      obtain ⟨rv, hrv, ro⟩ := rr6.at sa
      obtain ⟨k0, b, i, rfl, k1, k2⟩ := id ro
      have is : IsId H6 s.id (.ref i) := ⟨k0, i, rfl, k2⟩
      refine ⟨_, rfl, _, rfl, R, _, rfl, .inl (SqL.of hr6), _, _, rfl, rfl, _, rfl, _, _, rfl, rfl, R, rs, _, _, rfl, rfl, SqL.of hr6, at_of (j := ns.length - 1 - k) (by omega) hrv, b, _, _, _, rfl, rfl, k1, rfl, ?_⟩
      refine ⟨_, rfl, R, rfl, ⟨_, SqL.of hr6⟩, fun D hD => ?_⟩
      have n7 := same_new (o := HO.lst []) hD
      refine lc_list (K := K) (a := R) (xs := rs) (fun j H' => ∃ ps : List V, H' D = some (.lst ps) ∧ DVs K H' ((((asc ns).take j).filter fun y => decide (parT ns y = some s.id)).map (trT ns)) ps ∧ ps.length ≤ j ∧ Same H6 H') ⟨[], upd_same, dln, Nat.le_refl _, n7⟩ (fun j H' _ h => by obtain ⟨_, _, _, _, m⟩ := h; exact m.seq (SqL.of hr6)) ?_ ?_
      · rintro j z H7 hz ⟨ps, h7, d7, l7, m7⟩
        obtain ⟨y, hy, ry⟩ := rr6.get hz
        have T7 := TT.same (K := K) m7
        have jl := (List.getElem?_eq_some_iff.mp hz).1
        obtain ⟨y0, c, iy, rfl, y1, y2⟩ := ry.tt T7
        have yn : y ∈ ns := asc_mem.mp (List.mem_of_getElem? hy)
        obtain ⟨kvp, p1, p2, p3⟩ := hp6.tt T7 fun o => m7 _ _
        obtain ⟨u, u1, u2⟩ := p3 y yn
        have is7 := IsId.tt T7 _ _ is
        refine ⟨rfl, _, rfl, _, rfl, c, _, _, _, rfl, rfl, y1, rfl, P, u, rfl, by rw [← u1]; exact DGet.t p1 y2, _, rfl, opD (parT ns y), iD s.id, u2.dv, IsId.dv _ _ is7, opD_okd u2, id_okd is7.1, _, rfl, ?_⟩
        rw [opD_eq, filt_take hy]
        cases hc : decide (parT ns y = some s.id) with
        | false => exact iteF ⟨ps, h7, by simpa using d7, by omega, m7⟩
        | true =>
          have yin : y ∈ (desc ns).take k := by
            have : y ∈ (asc ns).filter fun y => decide (parT ns y = some s.id) := List.mem_filter.mpr ⟨asc_mem.mpr yn, hc⟩
            rw [← kids_in nd hs] at this
            exact List.mem_reverse.mp (List.mem_filter.mp this).1
          obtain ⟨kvm, w1, w2, w3⟩ := hm6.tt T7 fun o => m7 _ _
          obtain ⟨w, x1, x2⟩ := w3 y yin
          refine iteT ⟨_, rfl, _, rfl, c, _, _, _, rfl, rfl, y1, rfl, M, w, rfl, by rw [← x1]; exact DGet.t w1 y2, ps, h7, small _ (by omega), ps ++ [w], upd_same, ?_, by rw [List.length_append]; show _ + 1 ≤ _; omega, sput m7 hD⟩
          have T8 := TT.put (K := K) (o := HO.lst (ps ++ [w])) h7
          rw [if_pos rfl, List.map_append]
          exact dvs_snoc (x2.tk T8.1) (d7.tk T8.1)
      rintro H7 ⟨ps, h7, d7, l7, m7⟩
      have T7 := TT.same (K := K) m7
      rw [rsl, List.take_of_length_le (by rw [asc_len]; exact Nat.le_refl _)] at d7
      refine ⟨_, rfl, _, rfl, D, _, rfl, .inl ⟨SqL.of h7, fun t ht => ?_⟩⟩
      have n8 := same_new (o := HO.tup ps) ht
      refine ⟨by show 3 ≤ sizeLine; decide, fun p hp => ?_⟩
      have n9 := same_new (o := HO.tup [V.str (Str.ofString "thread"), V.ref i, V.ref t]) hp
      have n89 := n8.trans n9
      have T9 := T7.trans (TT.same (K := K) n89)
      obtain ⟨kvm, w1, w2, w3⟩ := hm6.tt T9 fun o h => n89 _ _ (m7 _ _ h)
      have key := T9.2 _ _ k2
      refine ⟨_, rfl, _, rfl, M, _, rfl, DPut.t (k := ik s.id) w1 key (small _ (by rw [List.length_take] at w2; omega)), ?_⟩
      have dv : DV K (upd (upd H7 t (HO.tup ps)) p (HO.tup [V.str (Str.ofString "thread"), V.ref i, V.ref t])) (trT ns s) (.ref p) := by
        rw [tr_eq nd hs]
        exact ⟨p, _, rfl, SqT.of upd_same, dlc (dls _) (dlc (IsId.dv _ _ (IsId.tt T9 _ _ is)) (dlc ⟨t, ps, rfl, n9.tup (SqT.of upd_same), d7.tk (TK.same n89)⟩ dln))⟩
      have TA : TT K _ (upd (upd (upd H7 t (HO.tup ps)) p (HO.tup [V.str (Str.ofString "thread"), V.ref i, V.ref t])) M (.dT (putK kvm (ik s.id) (.ref p)))) := TT.over w1 (fun _ e => by cases e) (fun _ _ e => by cases e)
      refine ⟨_, _, _, _, _, rfl, (hp6.tt T9 fun o h => n89 _ _ (m7 _ _ h)).tt TA fun o h => (by rw [upd_ne PM]; exact h), ?_, by rw [upd_ne RM]; exact n89 _ _ (m7 _ _ hr6), rr6.mono (RowAt.tt (T9.trans TA)), sput (m6.trans (m7.trans n89)) hM0⟩
      rw [List.take_add_one, hs]
      exact MaAt.put w1 w2 w3 dv fun x hx e => id_one nd (desc_mem.mp (List.mem_of_mem_take hx)) (desc_mem.mp (List.mem_of_getElem? hs)) e
    rintro σ H6 ⟨v1, v5, v6, v7, v8, rfl, hp6, hm6, hr6, rr6, m6⟩
    rw [Int.toNat_natCast, List.take_of_length_le (by rw [desc_len]; exact Nat.le_refl _)] at hm6
    refine ⟨_, rfl, R, rfl, ⟨_, SqL.of hr6⟩, fun D hD => ?_⟩
    have n7 := same_new (o := HO.lst []) hD
    refine lc_list (K := K) (a := R) (xs := rs) (fun j H' => ∃ ps : List V, H' D = some (.lst ps) ∧ DVs K H' ((((asc ns).take j).filter fun y => decide (parT ns y = none)).map (trT ns)) ps ∧ ps.length ≤ j ∧ Same H6 H') ⟨[], upd_same, dln, Nat.le_refl _, n7⟩ (fun j H' _ h => by obtain ⟨_, _, _, _, m⟩ := h; exact m.seq (SqL.of hr6)) ?_ ?_
    · rintro j z H7 hz ⟨ps, h7, d7, l7, m7⟩
      obtain ⟨y, hy, ry⟩ := rr6.get hz
      have T7 := TT.same (K := K) m7
      have jl := (List.getElem?_eq_some_iff.mp hz).1
      obtain ⟨y0, c, iy, rfl, y1, y2⟩ := ry.tt T7
      have yn : y ∈ ns := asc_mem.mp (List.mem_of_getElem? hy)
      obtain ⟨kvp, p1, p2, p3⟩ := hp6.tt T7 fun o => m7 _ _
      obtain ⟨u, u1, u2⟩ := p3 y yn
      refine ⟨rfl, _, rfl, _, rfl, c, _, _, _, rfl, rfl, y1, rfl, P, u, rfl, by rw [← u1]; exact DGet.t p1 y2, rfl, _, rfl, ?_⟩
      rw [op_non u2, filt_take hy]
      cases hc : decide (parT ns y = none) with
      | false => exact iteF ⟨ps, h7, by simpa using d7, by omega, m7⟩
      | true =>
        obtain ⟨kvm, w1, w2, w3⟩ := hm6.tt T7 fun o => m7 _ _
        obtain ⟨w, x1, x2⟩ := w3 y (desc_mem.mpr yn)
        refine iteT ⟨_, rfl, _, rfl, c, _, _, _, rfl, rfl, y1, rfl, M, w, rfl, by rw [← x1]; exact DGet.t w1 y2, ps, h7, small _ (by omega), ps ++ [w], upd_same, ?_, by rw [List.length_append]; show _ + 1 ≤ _; omega, sput m7 hD⟩
        have T8 := TT.put (K := K) (o := HO.lst (ps ++ [w])) h7
        rw [if_pos rfl, List.map_append]
        exact dvs_snoc (x2.tk T8.1) (d7.tk T8.1)
    rintro H7 ⟨ps, h7, d7, l7, m7⟩
    rw [rsl, List.take_of_length_le (by rw [asc_len]; exact Nat.le_refl _)] at d7
    refine ⟨D, _, rfl, .inl ⟨SqL.of h7, fun t ht => ?_⟩⟩
    have n8 := same_new (o := HO.tup ps) ht
    exact q _ _ ((m6.trans m7).trans n8) ⟨t, ps, rfl, SqT.of upd_same, d7.tk (TK.same n8)⟩
end

end Z
namespace Z
open PySem L2 SX
section
variable {P : Program} {w : World} {K : PySem.W.Frag} {mg : Str → Option Value} {base : Heap}
theorem ok_threads_of {cT PT : Addr} (TB : LamX.TabB base mg cT PT) (D : DfT K mg "threads_of" s_threads_of ["notices"] cT) (T : Tx mg)  (C_parent_of : Cal P w K mg base "parent_of" ["notice", "by_id"] 2 (sp49_parent K)) : Cal P w K mg base "threads_of" ["notices"] 4 (sp49_threads K PT) := by
  obtain ⟨f_parent_of, fd_parent_of, G_parent_of, g_parent_of, k_parent_of, b_parent_of⟩ := C_parent_of
  obtain ⟨f, fd, F, gf, bf⟩ := D
  refine ⟨f, fd, F.okT sc_threads_of (fun vs H Q E h => ?_) (fun A outer s₀ H vs Q E hr h => ?_), gf, F.kp, bf⟩
  · obtain ⟨ns, a, ws, rfl, _⟩ := h; rfl
  · obtain ⟨ns, a, ws, rfl, ha, rw', nd, nl, hT, q⟩ := h
    refine ⟨_, (pss_cons (ps_setDcT (i := 2) (own := [("notice", 1)]) (g := gName 1) (tt := tYes) (units_lt (room65 hr)) rfl sc_threads_of.nd rfl rfl (sw_dict rfl rfl rfl (by decide +kernel)) (pi_tup (pv 0)) (blkOk_by (own := [("notice", 1)]) (N := N_threads_of) (sc := defScope s_threads_of) (by decide +kernel)) ⟨fun _ _ _ _ _ => (pg_name (i := 1) sc_threads_of.nd rfl (Or.inl rfl)), fun _ _ _ _ _ => pts_nil, fun _ _ _ _ _ => (pe_ix (ix_tupQ (K := K) rfl) (pv 1) pe_int (fun _ _ => rfl)), fun _ _ _ _ _ => (pv 1)⟩)
      (pss_cons (ps_set (i := 3) sc_threads_of.nd rfl (Or.inl rfl) pe_dnewT)
      (pss_cons (ps_set (i := 4) sc_threads_of.nd rfl (Or.inl rfl) (pe_lst pa_nil))
      (pss_cons (ps_for PassesOwn.never rfl (pi_list (pe_sortLamR (b := ⟨"one", 3, 1, _, _, _, _, _, _, _, _, _, _⟩) (LamAt.of (q := lamQ "threads_of") TB rfl rfl rfl rfl rfl rfl rfl (fun _ _ _ _ _ => rfl) (by decide) (by decide) (by decide)) (by rfl) T.n_sorted (hr.mono (by decide)) (room65 hr) (pa_cons (pv 0) pa_nil))) (pg_name (i := 1) sc_threads_of.nd rfl (Or.inl rfl))
      (pss_cons (ps_set (i := 5) sc_threads_of.nd rfl (Or.inl rfl) (pe_ix ix_tup (pv 1) pe_int (fun _ _ => rfl)))
        (pss_cons (ps_set (i := 6) sc_threads_of.nd rfl (Or.inl rfl) (pe_call G_parent_of (hr.mono (by decide)) (by rfl) g_parent_of k_parent_of b_parent_of .nil pass0 (pa_cons (pv 1) (pa_cons (pv 2) pa_nil))))
        (C8.pss_cut (ps_set (i := 7) sc_threads_of.nd rfl (Or.inl rfl) (pe_ifExp (pt_cmpR op_isN (pv 6) pe_non (nomark _)) (pv 4) (pe_bm PySem.F.plainAttrs_dict PySem.F.slot_dict_setdefault PySem.F.type_dict_setdefault (mt_setdT (hu_of hr)) (pv 3) (pa_cons (pv 6) (pa_cons (pe_lst pa_nil) pa_nil)))))
        (pss_one (ps_expr (pe_bm PySem.F.plainAttrs_list PySem.F.slot_list_append PySem.F.type_list_append mt_append (pv 7) (pa_cons (pe_tup (pa_cons pe_str (pa_cons (pv 5) (pa_cons (RT.pe_tupRev rfl (by rfl) T.n_tuple (by rfl) T.n_reversed (pe_dget2 (hu_of hr) (pv 3) (pv 5) (pe_lst pa_nil) ⟨rfl, rfl, rfl, rfl⟩)) pa_nil)))) pa_nil))))))))
      (pss_one (ps_ret (RT.pe_tupRev rfl (by rfl) T.n_tuple (by rfl) T.n_reversed (pv 4)))))))), ?_⟩
    have small : ∀ n : Nat, n ≤ 30000 → n < sizeLine := fun n h => Nat.lt_of_le_of_lt h (by decide)
    have wl := rw'.len
    refine ⟨_, rfl, a, rfl, ⟨_, ha⟩, fun B hB => ?_⟩
    refine dc_tupT (K := K) (a := a) (xs := ws) (fun i H' => ∃ kvs : List (List L2.Key × V), H' B = some (.dT kvs) ∧ kvs.length ≤ i ∧ (∀ o ∈ ns.take i, ∃ w, valV kvs (ik o.id) = some w ∧ NtAt K H' o w) ∧ (∀ r : Idn, (valV kvs (ik r)).isSome = true → ∃ o ∈ ns.take i, o.id = r) ∧ Same H H') ⟨[], upd_same, Nat.le_refl _, fun o ho => (by cases ho), fun r hr => (by cases hr), same_new hB⟩ (fun i H' h => by obtain ⟨_, _, _, _, _, m⟩ := h; exact m.tup ha) ?_ ?_
    · rintro i x H3 hx ⟨kvs, b1, b2, b3, b4, m3⟩
      obtain ⟨o, ho, no⟩ := rw'.get hx
      have T3 := TT.same (K := K) m3
      have il := (List.getElem?_eq_some_iff.mp hx).1
      have no3 := no.tt T3
      obtain ⟨k0, b, i1, r1, z0, z2, z4, z5, z7, z8, z9, rs1, rfl, k1, k2, k3, k4, k5⟩ := id no3
      refine ⟨rfl, _, rfl, b, _, _, _, rfl, rfl, k1, rfl, _, rfl, _, DPut.t (k := ik o.id) b1 k2 (small _ (by omega)), ?_⟩
      have T4 : TT K H3 (upd H3 B (.dT (putK kvs (ik o.id) (.ref b)))) := TT.over b1 (fun _ e => by cases e) (fun _ _ e => by cases e)
      have lp := length_putK kvs (ik o.id) (.ref b)
      refine ⟨_, upd_same, by omega, fun x hx => ?_, fun r hr => ?_, sput m3 hB⟩
      · rw [List.take_add_one, ho] at hx
        by_cases e : ik x.id = ik o.id
        · have e' : x = o := by
            rcases List.mem_append.mp hx with m | m
            · exact id_one nd (List.mem_of_mem_take m) (List.mem_of_getElem? ho) (ik_inj e)
            · exact List.mem_singleton.mp m
          subst e'
          exact ⟨_, by rw [valV_put, if_pos rfl], no3.tt T4⟩
        · rcases List.mem_append.mp hx with m | m
          · obtain ⟨w, q1, q2⟩ := b3 x m
            exact ⟨w, by rw [valV_put, if_neg e]; exact q1, q2.tt T4⟩
          · exact absurd (by rw [List.mem_singleton.mp m]) e
      · rw [List.take_add_one, ho]
        rw [valV_put] at hr
        by_cases e : ik r = ik o.id
        · exact ⟨o, List.mem_append_right _ (by simp), (ik_inj e).symm⟩
        · rw [if_neg e] at hr
          obtain ⟨y, y1, y2⟩ := b4 r hr
          exact ⟨y, List.mem_append_left _ y1, y2⟩
    rintro H1 ⟨kvs, b1, b2, b3, b4, m1⟩
    rw [wl, List.take_length] at b3 b4
    rw [wl] at b2
    have by1 : ByAt K H1 ns B := ⟨kvs, b1, by omega, b3, b4⟩
    clear b2 b3 b4
    refine fun W hW => ?_
    have n2 := same_new (o := HO.dT []) hW
    have m2 := m1.trans n2
    have BW : B ≠ W := ne_of_none b1 hW
    have by2 := by1.tt (TT.same (K := K) n2) fun o => n2 _ _
    have hWW : upd H1 W (.dT []) W = some (.dT []) := upd_same
    have fW : FrN H W := fr_of (H := H1) (fun b o h _ => m1 _ _ h) hW
    generalize upd H1 W (.dT []) = H2 at *
    refine ⟨Nat.zero_le _, fun Tp hTp => ?_⟩
    have n3 := same_new (o := HO.lst []) hTp
    have m3 := m2.trans n3
    have by3 := by2.tt (TT.same (K := K) n3) fun o => n3 _ _
    have hW3 := n3 _ _ hWW
    have hTT : upd H2 Tp (.lst []) Tp = some (.lst []) := upd_same
    have fT : FrN H Tp := fr_of (H := H2) (fun b o h _ => m2 _ _ h) hTp
    generalize upd H2 Tp (.lst []) = H3 at *
    obtain ⟨L, e1, e2, e3⟩ := rw'.pairs
    have T3 := TT.same (K := K) m3
    refine ⟨_, rfl, a, Th × V, L, (·.2), (fun p => D.int p.1.d), (fun p => iD p.1.id), rfl, .inr (by rw [e2]; exact m3.tup ha), (fun p hp => (hT p hp).ext m3), ⟨aa_of fun b c => pl_alike _ _, so_tup fun b => ⟨_, _, rfl⟩, fun b _ => pl_dp _, fun x hx => ?_⟩, fun H4 r x4 t4 hr => ?_⟩
    · obtain ⟨k0, b, i1, r1, z0, z2, z4, z5, z7, z8, z9, rs1, ev, k1, k2, k3, k4, k5⟩ := (e3 x hx).tt T3
      exact ⟨b, _, _, _, ev, k1, rfl, rfl, dli _, IsId.dv _ _ ⟨k0, i1, rfl, k2⟩⟩
    have le : (L.mergeSort (PySem.W.dataLe true fun x => py (pairK (fun p : Th × V => D.int p.1.d) (fun p => iD p.1.id) x))).map (·.1) = desc ns := by
      have z := PySem.W.sort_maps (r := PySem.W.dataLe true fun x => py (pairK (fun p : Th × V => D.int p.1.d) (fun p => iD p.1.id) x)) (s := PySem.W.dataLe true fun x => py (pairK (fun t : Th => D.int t.d) (fun t => iD t.id) x)) (fun p : Th × V => p.1) (l := L) (fun a _ b _ => rfl)
      rw [z, e1]
      exact asc_rev nd (List.Perm.refl _)
    have ro : RL (NtAt K H) (desc ns) ((L.mergeSort (PySem.W.dataLe true fun x => py (pairK (fun p : Th × V => D.int p.1.d) (fun p => iD p.1.id) x))).map (·.2)) := by
      rw [← le]
      exact RL.ofPairs fun p hp => e3 p ((List.mergeSort_perm L _).mem_iff.mp hp)
    generalize (L.mergeSort (PySem.W.dataLe true fun x => py (pairK (fun p : Th × V => D.int p.1.d) (fun p => iD p.1.id) x))).map (·.2) = srt at ro
    have sl : srt.length = ns.length := by rw [ro.len, desc_len]
    have n5 := same_new (o := HO.lst srt) hr
    have T4 := TT.extN (K := K) x4
    have T5 := TT.same (K := K) n5
    have hW5 := n5 _ _ (x4 _ _ hW3 fun _ e => (by cases e))
    have hT5 := n5 _ _ (x4 _ _ hTT fun _ e => (by cases e))
    have rT : r ≠ Tp := fun e => by rw [e, x4 _ _ hTT fun _ e => (by cases e)] at hr; cases hr
    have x5 : LamX.ExtN H (upd H4 r (.lst srt)) := fun b o h k => n5 _ _ (x4 _ _ (m3 _ _ h) k)
    have st0 : ThSt K (tabT PT) H (upd H4 r (.lst srt)) ns B W Tp r srt [] 0 := ⟨(by3.tt T4 fun o h => (by obtain ⟨kv, q, _⟩ := by3; rw [q] at h; cases h; exact x4 _ _ q fun _ e => (by cases e))).tt T5 fun o => n5 _ _, BW, upd_same, hW5, List.nodup_nil, by simpa using rT, ⟨[], hT5, dln⟩, fun e he => (by cases he), fun i _ => rfl, fW, fT, fun e he => (by cases he), x5, fun p hp => (t4 p hp).ext n5⟩
    refine ⟨r, rfl, ⟨_, SqL.of upd_same⟩, ?_⟩
    refine for_list (K := K) (a := r) (xs := srt) (fun k σ H' => ∃ (v1 v5 v6 v7 : Option V) (bl : List (Idn × Addr)), σ = [some (.ref a), v1, some (.ref B), some (.ref W), some (.ref Tp), v5, v6, v7] ∧ ThSt K (tabT PT) H H' ns B W Tp r srt bl k ∧ bl.length ≤ k) ⟨none, none, none, none, [], rfl, st0, Nat.le_refl _⟩ (fun k σ H' _ h => by obtain ⟨_, _, _, _, _, _, s, _⟩ := h; exact SqL.of s.so) ?_ ?_
    · rintro k x σ H6 hx ⟨v1, v5, v6, v7, bl, rfl, st, bk⟩
      obtain ⟨s, hs, ns0⟩ := ro.get hx
      have kl := (List.getElem?_eq_some_iff.mp hx).1
      have no := ns0.tt (TT.extN st.ex)
      obtain ⟨k0, b, i1, r1, z0, z2, z4, z5, z7, z8, z9, rs1, rfl, k1, k2, k3, k4, k5⟩ := id no
      have is : IsId H6 s.id (.ref i1) := ⟨k0, i1, rfl, k2⟩
      refine ⟨_, rfl, b, _, _, _, rfl, rfl, k1, rfl, _, rfl, _, rfl, ns, s, _, B, rfl, no, st.by_, nd, fun u H7 m7 op => ?_⟩
      have st7 := st.same m7
      have T7 := TT.same (K := K) m7
      refine ⟨fun σ' H' => ∃ (G : Addr) (xs : List V) (bl' : List (Idn × Addr)), σ' = [some (.ref a), some (.ref b), some (.ref B), some (.ref W), some (.ref Tp), some (.ref i1), some u, some (.ref G)] ∧ ThSt K (tabT PT) H H' ns B W Tp r srt bl' k ∧ bl'.length ≤ k + 1 ∧ TT K H6 H' ∧ ((parT ns s = none ∧ G = Tp) ∨ ∃ e ∈ bl', parT ns s = some e.1 ∧ G = e.2) ∧ H' G = some (.lst xs) ∧ xs.length ≤ k, ?_, ?_⟩
      · refine ⟨_, rfl, rfl, _, rfl, ?_⟩
        rw [op_non op]
        cases hp : parT ns s with
        | none =>
          obtain ⟨ts, t1, t2⟩ := st7.tp
          have tl := t2.len
          rw [List.length_map] at tl
          have kk : (kidK ns k none).length ≤ k := by
            unfold kidK
            have := List.length_filter_le (fun y => decide (parT ns y = none)) ((desc ns).take k)
            rw [List.length_take] at this
            omega
          exact iG (decide_eq_true rfl) ⟨_, rfl, Tp, ts, bl, rfl, st7, by omega, T7, .inl ⟨rfl, rfl⟩, t1, by omega⟩
        | some i =>
          refine iN (decide_eq_false (by simp)) ?_
          rw [hp] at op
          obtain ⟨_, c, rfl, hc⟩ := id (show IsId H7 i u from op)
          refine ⟨_, rfl, .inr (.inr (.inl ⟨rfl, .inr ⟨_, st7.w⟩⟩)), _, rfl, Nat.zero_le _, fun d hd => ?_⟩
          have n8 := same_new (o := HO.lst []) hd
          have st8 := st7.same n8
          refine ⟨W, bl.map blK, ik i, c, .ref d, rfl, rfl, st8.w, n8 _ _ hc, small _ (by rw [List.length_map]; omega), fun v hv => ?_, fun hv => ?_⟩
          · by_cases m : i ∈ bl.map (·.1)
            · obtain ⟨e, he, rfl⟩ := List.mem_map.mp m
              rw [bl_in st.kd he] at hv
              obtain rfl := Option.some.inj hv
              obtain ⟨xs, q1, q2⟩ := st8.ch e he
              have tl := q2.len
              rw [List.length_map] at tl
              have kk : (kidK ns k (some e.1)).length ≤ k := by
                unfold kidK
                have := List.length_filter_le (fun y => decide (parT ns y = some e.1)) ((desc ns).take k)
                rw [List.length_take] at this
                omega
              exact ⟨e.2, xs, bl, rfl, st8, by omega, T7.trans (TT.same n8), .inr ⟨e, he, rfl, rfl⟩, q1, by omega⟩
            · rw [bl_out m] at hv; cases hv
          · have m : i ∉ bl.map (·.1) := fun m => by
              obtain ⟨e, he, rfl⟩ := List.mem_map.mp m
              rw [bl_in st.kd he] at hv; cases hv
            have dW : d ≠ W := fun e => by rw [e, st7.w] at hd; cases hd
            exact ⟨d, [], bl ++ [(i, d)], rfl, st7.add m hd, by rw [List.length_append]; show _ + 1 ≤ _; omega, T7.trans ((TT.same n8).trans (TT.over st8.w (fun _ e => by cases e) (fun _ _ e => by cases e))), .inr ⟨(i, d), by simp, rfl, rfl⟩, by rw [upd_ne dW]; exact upd_same, Nat.zero_le _⟩
      rintro σ' H8 ⟨G, xs, bl', rfl, st8, l8, T8, hg, hG, xl⟩
      have is8 := IsId.tt T8 _ _ is
      have key := T8.2 _ _ k2
      refine ⟨_, rfl, .inl ⟨rfl, _, SqL.of hG⟩, _, rfl, _, rfl, W, rfl, .inr ⟨_, .inl st8.w⟩, _, rfl, Nat.zero_le _, fun d hd => ?_⟩
      have n9 := same_new (o := HO.lst []) hd
      have st9 := st8.same n9
      refine ⟨_, DGet.t (k := ik s.id) st9.w (n9 _ _ key), ?_⟩
      obtain ⟨g, ys, eg, hg2, dg⟩ : ∃ (g : Addr) (ys : List V), (valV (bl'.map blK) (ik s.id)).getD (.ref d) = .ref g ∧ upd H8 d (.lst []) g = some (.lst ys) ∧ DVs K (upd H8 d (.lst [])) ((kidK ns k (some s.id)).map (trT ns)) ys := by
        by_cases m : s.id ∈ bl'.map (·.1)
        · obtain ⟨e, he, ee⟩ := List.mem_map.mp m
          obtain ⟨ys, q1, q2⟩ := st9.ch e he
          exact ⟨e.2, ys, by rw [← ee, bl_in st8.kd he]; rfl, q1, by rw [← ee]; exact q2⟩
        · exact ⟨d, [], by rw [bl_out m]; rfl, upd_same, by rw [st8.no _ m]; exact dln⟩
      rw [eg]
      refine ⟨g, ys, rfl, SqL.of hg2, fun t ht => ?_⟩
      have n10 := same_new (o := HO.tup ys.reverse) ht
      refine ⟨by show 3 ≤ sizeLine; decide, fun p hp => ?_⟩
      have n11 := same_new (o := HO.tup [V.str (Str.ofString "thread"), V.ref i1, V.ref t]) hp
      have n12 := n9.trans (n10.trans n11)
      have st12 := st9.same (n10.trans n11)
      refine ⟨G, xs, _, rfl, rfl, n12 _ _ hG, small _ (by omega), ?_⟩
      have dv : DV K (upd (upd (upd H8 d (.lst [])) t (HO.tup ys.reverse)) p (HO.tup [V.str (Str.ofString "thread"), V.ref i1, V.ref t])) (trT ns s) (.ref p) := by
        rw [tr_eq nd hs, ← kidK_all nd hs, List.map_reverse]
        refine ⟨p, _, rfl, SqT.of upd_same, dlc (dls _) (dlc (IsId.dv _ _ (IsId.tt (TT.same (K := K) n12) _ _ is8)) (dlc ⟨t, _, rfl, n11.tup (SqT.of upd_same), ?_⟩ dln))⟩
        exact (dvs_rev dg).tk (TK.same (n10.trans n11))
      exact ⟨_, _, _, _, bl', rfl, st12.push hs hg (n12 _ _ hG) dv, by omega⟩
    rintro σ H6 ⟨v1, v5, v6, v7, bl, rfl, st, bk⟩
    obtain ⟨ts, t1, t2⟩ := st.tp
    refine ⟨_, rfl, Tp, ts, rfl, SqL.of t1, fun t ht => ?_⟩
    have n7 := same_new (o := HO.tup ts.reverse) ht
    have st7 := st.same n7
    refine q _ _ st7.ex st7.tb ⟨t, _, rfl, SqT.of upd_same, ?_⟩
    rw [sl] at t2
    have e := kidK_end (ns := ns) none
    rw [← e, List.map_reverse]
    exact (dvs_rev t2).tk (TK.same n7)
end

end Z
namespace Z
open PySem L2 SX
section
variable {P : Program} {w : World} {K : PySem.W.Frag} {mg : Str → Option Value} {base : Heap}
theorem ok_law {f : Addr} {fd : FuncData} {PT : Addr} (F : Fun K "law" "law" s_law f fd) (T : Tx mg)  (C__law_draw : Cal P w K mg base "_law_draw" ["source", "many"] 2 sp__law_draw) (C__law_ids : Cal P w K mg base "_law_ids" ["source", "many"] 5 (sp49_ids K)) (C__law_many : Cal P w K mg base "_law_many" ["source", "least", "wide", "more"] 4 sp49_many) (C__law_same : Cal P w K mg base "_law_same" ["actual", "due"] 51 (sp__law_same K 50)) (C__law_shuffled : Cal P w K mg base "_law_shuffled" ["source", "row"] 3 (sp49_shuffled K)) (C__law_source : Cal P w K mg base "_law_source" ["script"] 2 (sp__law_source K)) (C__law_threaded : Cal P w K mg base "_law_threaded" ["source", "ids", "k", "chained"] 5 (sp49_threaded K)) (C__law_threads : Cal P w K mg base "_law_threads" ["notices"] 2 (sp49_lthreads K)) (C_threads_of : Cal P w K mg base "threads_of" ["notices"] 4 (sp49_threads K PT)) : FnOk P w K mg base CX0 52 f fd ["script"] (sp_lawT K PT) := by
  obtain ⟨f__law_draw, fd__law_draw, G__law_draw, g__law_draw, k__law_draw, b__law_draw⟩ := C__law_draw
  obtain ⟨f__law_ids, fd__law_ids, G__law_ids, g__law_ids, k__law_ids, b__law_ids⟩ := C__law_ids
  obtain ⟨f__law_many, fd__law_many, G__law_many, g__law_many, k__law_many, b__law_many⟩ := C__law_many
  obtain ⟨f__law_same, fd__law_same, G__law_same, g__law_same, k__law_same, b__law_same⟩ := C__law_same
  obtain ⟨f__law_shuffled, fd__law_shuffled, G__law_shuffled, g__law_shuffled, k__law_shuffled, b__law_shuffled⟩ := C__law_shuffled
  obtain ⟨f__law_source, fd__law_source, G__law_source, g__law_source, k__law_source, b__law_source⟩ := C__law_source
  obtain ⟨f__law_threaded, fd__law_threaded, G__law_threaded, g__law_threaded, k__law_threaded, b__law_threaded⟩ := C__law_threaded
  obtain ⟨f__law_threads, fd__law_threads, G__law_threads, g__law_threads, k__law_threads, b__law_threads⟩ := C__law_threads
  obtain ⟨f_threads_of, fd_threads_of, G_threads_of, g_threads_of, k_threads_of, b_threads_of⟩ := C_threads_of
  refine F.ok sc_law (fun vs H Q E h => ?_) (fun cdv A outer s₀ H vs Q E hr h => ?_)
  · obtain ⟨a, ns, rfl, _⟩ := h; rfl
  · obtain ⟨a, ns, rfl, hA, hlen, hP, q⟩ := h
    refine ⟨_, (pss_cons (ps_set (i := 1) sc_law.nd rfl (Or.inr rfl) (pe_call G__law_source (hr.mono (by decide)) (by rfl) g__law_source k__law_source b__law_source .nil pass0 (pa_cons (pv 0) pa_nil)))
      (pss_cons (ps_set (i := 2) sc_law.nd rfl (Or.inr rfl) (pe_call G__law_ids (hr.mono (by decide)) (by rfl) g__law_ids k__law_ids b__law_ids .nil pass0 (pa_cons (pv 1) (pa_cons (pe_call G__law_many (hr.mono (by decide)) (by rfl) g__law_many k__law_many b__law_many .nil pass0 (pa_cons (pv 1) (pa_cons pe_int (pa_cons pe_int (pa_cons pe_int pa_nil))))) pa_nil))))
      (pss_cons (ps_set (i := 3) sc_law.nd rfl (Or.inr rfl) (pe_cmpR op_eq (pe_call G__law_draw (hr.mono (by decide)) (by rfl) g__law_draw k__law_draw b__law_draw .nil pass0 (pa_cons (pv 1) (pa_cons pe_int pa_nil))) pe_int (nomark _)))
      (pss_cons (ps_setLc (i := 4) (own := [("k", 9)]) (g := gName 9) (tt := tYes) rfl sc_law.nd rfl rfl (sw_true rfl rfl rfl (by decide +kernel)) (pi_range1 (by rfl) T.n_range (pa_cons (pe_callB call_len_seq (by rfl) T.n_len PySem.boot_len (pa_cons (pv 2) pa_nil)) pa_nil)) (blkOk_by (own := [("k", 9)]) (N := N_law) (sc := defScope s_law) (by decide +kernel)) (fun _ _ _ _ _ => pg_name (i := 9) sc_law.nd rfl (Or.inl rfl)) (fun _ _ _ _ _ => pts_nil) (fun _ _ _ _ _ => (pe_call G__law_threaded (hr.mono (by decide)) (by rfl) g__law_threaded k__law_threaded b__law_threaded .nil pass0 (pa_cons (pv 1) (pa_cons (pv 2) (pa_cons (pv 9) (pa_cons (pv 3) pa_nil)))))))
      (pss_cons (ps_set (i := 5) sc_law.nd rfl (Or.inl rfl) (pe_call G__law_threads (hr.mono (by decide)) (by rfl) g__law_threads k__law_threads b__law_threads .nil pass0 (pa_cons (pv 4) pa_nil)))
      (pss_cons (ps_for PassesOwn.never rfl (pi_range1 (by rfl) T.n_range (pa_cons pe_int pa_nil)) (pg_name (i := 6) sc_law.nd rfl (Or.inl rfl))
      (pss_one (ps_if (pt_not (pt_val (pe_call G__law_same (hr.mono (by decide)) (by rfl) g__law_same k__law_same b__law_same .nil pass0 (pa_cons (pe_call G_threads_of (hr.mono (by decide)) (by rfl) g_threads_of k_threads_of b_threads_of .nil pass0 (pa_cons (pe_callTy call_tuple_of (by rfl) T.n_tuple (by decide +kernel) (pa_cons (pe_call G__law_shuffled (hr.mono (by decide)) (by rfl) g__law_shuffled k__law_shuffled b__law_shuffled .nil pass0 (pa_cons (pv 1) (pa_cons (pv 4) pa_nil))) pa_nil)) pa_nil)) (pa_cons (pv 5) pa_nil)))))
        (pss_one (ps_ret pe_bl))
        pss_nil)))
      (pss_cons (ps_for PassesOwn.never rfl (pi_range1 (by rfl) T.n_range (pa_cons (pe_callB (call_min2 rfl) (by rfl) T.n_min (by decide +kernel) (pa_cons pe_int (pa_cons (pe_callB call_len_seq (by rfl) T.n_len PySem.boot_len (pa_cons (pv 4) pa_nil)) pa_nil))) pa_nil)) (pg_name (i := 6) sc_law.nd rfl (Or.inl rfl))
      (pss_cons (ps_set (i := 7) sc_law.nd rfl (Or.inl rfl) (pe_call G__law_draw (hr.mono (by decide)) (by rfl) g__law_draw k__law_draw b__law_draw .nil pass0 (pa_cons (pv 1) (pa_cons (pe_callB call_len_seq (by rfl) T.n_len PySem.boot_len (pa_cons (pv 4) pa_nil)) pa_nil))))
        (pss_cons (ps_set (i := 8) sc_law.nd rfl (Or.inl rfl) (pe_op L2.op_cat (pe_slice sl_list (pv 4) po_none (po_some (pv 7))) (pe_slice sl_list (pv 4) (po_some (pe_op op_add (pv 7) pe_int)) po_none)))
        (pss_one (ps_if (pt_not (pt_val (pe_call G__law_same (hr.mono (by decide)) (by rfl) g__law_same k__law_same b__law_same .nil pass0 (pa_cons (pe_call G_threads_of (hr.mono (by decide)) (by rfl) g_threads_of k_threads_of b_threads_of .nil pass0 (pa_cons (pe_callTy call_tuple_of (by rfl) T.n_tuple (by decide +kernel) (pa_cons (pv 8) pa_nil)) pa_nil)) (pa_cons (pe_call G__law_threads (hr.mono (by decide)) (by rfl) g__law_threads k__law_threads b__law_threads .nil pass0 (pa_cons (pv 8) pa_nil)) pa_nil)))))
        (pss_one (ps_ret pe_bl))
        pss_nil)))))
      (pss_one (ps_ret (pe_call G__law_same (hr.mono (by decide)) (by rfl) g__law_same k__law_same b__law_same .nil pass0 (pa_cons (pe_call G_threads_of (hr.mono (by decide)) (by rfl) g_threads_of k_threads_of b_threads_of .nil pass0 (pa_cons (pe_tup pa_nil) pa_nil)) (pa_cons (pe_tup pa_nil) pa_nil)))))))))))), ?_⟩
    have small : ∀ n : Nat, n ≤ 30000 → n < sizeLine := fun n h => Nat.lt_of_le_of_lt h (by decide)
    have tb0 : LamX.Tabs (tabT PT) H := fun p hp => by rw [List.mem_singleton.mp hp]; exact LamX.TabS.nil hP
    refine ⟨_, rfl, a, ns, rfl, hA, hlen, fun s b H1 hs m1 S1 => ?_⟩
    have tb1 := tabs_same tb0 m1
    have S1 := S1.mono (d := 1000002) (by decide)
    refine ⟨_, rfl, _, rfl, s, b, 0, 8, 16, 1000000, rfl, by decide, by decide, by decide, by decide, S1, fun n H2 n0 n1 x2 S2 => ?_⟩
    have tb2 := tabs_ext tb1 x2 S1
    refine ⟨s, b, n, 900000, rfl, by omega, S2.mono (by decide), fun I U il H3 hI0 hI rI ndU Ul x3 S3 => ?_⟩
    have tb3 := tabs_ext tb2 x3 (S2.mono (d := 0) (by decide))
    have Is : I ≠ s := S2.ne hI0
    refine ⟨_, rfl, s, b, 4, 800000, rfl, by decide, by decide, S3.mono (by decide), fun v H4 v0 v1 x4 S4 => ⟨rfl, ?_⟩⟩
    have tb4 := tabs_ext tb3 x4 (S3.mono (d := 0) (by decide))
    have hI4 := x4 _ _ Is hI
    have rI4 := rI.mono (IsId.tt (TT.ext (K := K) x4 (S3.mono (d := 0) (by decide))))
    have il4 := rI4.len
    generalize decide (V.int v = V.int 1) = ch
    refine ⟨_, rfl, I, _, rfl, .inl (SqL.of hI4), _, rfl, by omega, by omega, fun N hN => ?_⟩
    have n5 := same_new (o := HO.lst []) hN
    have Ns := S4.ne hN
    have Na := S4.nea hN
    have NI : N ≠ I := (ne_of_none hI4 hN).symm
    refine lc_range (lo := 0) (n := ((il.length : Nat) : Int).toNat) (fun i H' => ∃ (ts : List Th) (us : List V), H' N = some (.lst us) ∧ RL (NtAt K H') ts us ∧ ts.map (·.id) = U.take i ∧ i ≤ 23 ∧ H' I = some (.lst il) ∧ RL (IsId H') U il ∧ LamX.Tabs (tabT PT) H' ∧ Src H' s b (700000 - 100 * i)) ⟨[], [], upd_same, rfl, rfl, by omega, n5 _ _ hI4, rI4.mono (IsId.tt (TT.same (K := K) n5)), tabs_same tb4 n5, (S4.ext n5).mono (by decide)⟩ ?_ ?_
    · rintro i H5 hi ⟨ts, us, h5, r5, e5, i5, hI5, rI5, tb5, S5⟩
      obtain ⟨x, hx⟩ : ∃ x, U[i]? = some x := ⟨_, List.getElem?_eq_getElem (by omega)⟩
      have il23 := (List.getElem?_eq_some_iff.mp hx).1
      obtain ⟨c, hc⟩ : ∃ c, c = 700000 - 100 * (i + 1) := ⟨_, rfl⟩
      have S5 := S5.mono (d := c + 20) (by omega)
      refine ⟨rfl, _, rfl, _, rfl, _, rfl, _, rfl, s, b, I, U, il, i, x, ch, c, congrArg (fun z => [V.ref s, V.ref I, V.int z, V.bl ch]) (Int.zero_add _), hI5, Is, rI5, by omega, hx, S5, fun t v H6 et nt x6 S6 => ?_⟩
      have T6 := TT.ext (K := K) x6 S5
      have h6 := x6 _ _ Ns h5
      have ul := r5.len
      have tl : ts.length = i := by
        have := congrArg List.length e5
        rw [List.length_map, List.length_take] at this
        omega
      have T7 := TT.put (K := K) (o := HO.lst (us ++ [v])) h6
      refine ⟨us, h6, small _ (by omega), ts ++ [t], us ++ [v], upd_same, (r5.mono (NtAt.tt (T6.trans T7))).snoc (nt.tt T7), ?_, by omega, by rw [upd_ne NI.symm]; exact x6 _ _ Is hI5, rI5.mono (IsId.tt (T6.trans T7)), tabs_lst (tabs_ext tb5 x6 S5) h6, by rw [← hc]; exact S6.put Ns Na⟩
      rw [List.map_append, e5, List.take_add_one, hx, show [t].map (·.id) = [t.id] from rfl, et]
      rfl
    rintro H5 ⟨ts, us, h5, r5, e5, i5, hI5, rI5, tb5, S5⟩
    clear hI5 rI5 rI4 hI4 rI hI hI0 n5 hN
    have nd : Dis ts := by
      unfold Dis
      rw [e5]
      exact ndU.sublist (List.take_sublist _ _)
    have tl : ts.length ≤ 23 := by
      have := congrArg List.length e5
      rw [List.length_map, List.length_take] at this
      omega
    have ul := r5.len
    have S5 := S5.mono (d := 500000) (by omega)
    refine ⟨_, rfl, ts, N, us, rfl, SqL.of h5, r5, nd, by omega, fun du H6 m6 d6 => ?_⟩
    have T6 := TT.same (K := K) m6
    have S6 := S5.ext m6
    have dl := thr_dl nd tl
    refine ⟨_, rfl, by decide, by decide, ?_⟩
    refine for_range (lo := 0) (n := (3 : Int).toNat) (fun i σ H' => ∃ (v6 v7 v8 v9 : Option V), σ = [some (.ref a), some (.ref s), some (.ref I), some (.bl ch), some (.ref N), some du, v6, v7, v8, v9] ∧ H' N = some (.lst us) ∧ RL (NtAt K H') ts us ∧ DV K H' (thrD ts) du ∧ LamX.Tabs (tabT PT) H' ∧ i ≤ 3 ∧ Src H' s b (400000 - 100 * i)) ⟨none, none, none, _, rfl, m6 _ _ h5, r5.mono (NtAt.tt T6), d6, tabs_same tb5 m6, by omega, S6.mono (by decide)⟩ ?_ ?_
    · rintro i σ H7 hi ⟨v6, v7, v8, v9, rfl, h7, r7, d7, tb7, i3, S7⟩
      obtain ⟨c, hc⟩ : ∃ c, c = 400000 - 100 * (i + 1) := ⟨_, rfl⟩
      have S7 := S7.mono (d := c + us.length) (by omega)
      refine ⟨_, rfl, _, rfl, s, b, N, us, c, rfl, .inl (SqL.of h7), by omega, S7, fun d ys H8 hd hd8 pm x8 S8 => ?_⟩
      have T8 := TT.ext (K := K) x8 S7
      refine ⟨d, ys, rfl, .inl ⟨SqL.of hd8, fun t ht => ?_⟩⟩
      have n9 := same_new (o := HO.tup ys) ht
      have T9 := T8.trans (TT.same n9)
      obtain ⟨ms, pq, rm⟩ := (r7.mono (NtAt.tt T9)).perm pm.symm
      refine ⟨ms, t, ys, rfl, SqT.of upd_same, rm, nd.perm pq, by rw [← pq.length_eq]; omega, tabs_same (tabs_ext tb7 x8 S7) n9, fun u H10 x10 tb10 d10 => ?_⟩
      have T10 := T9.trans (TT.extN x10)
      rw [thr_perm nd pq] at d10
      have S10 := (S8.ext n9).extN x10
      refine ⟨_, rfl, thrD ts, u, du, rfl, d10, d7.tk T10.1, dl, _, rfl, iteF ?_⟩
      exact ⟨_, _, _, _, rfl, x10 _ _ (n9 _ _ (x8 _ _ Ns h7)) (fun _ e => by cases e), r7.mono (NtAt.tt T10), d7.tk T10.1, tb10, by omega, by rw [← hc]; exact S10⟩
    rintro σ H7 ⟨v6, v7, v8, v9, rfl, h7, r7, d7, tb7, i3, S7⟩
    have S7 := S7.mono (d := 300000) (by decide)
    clear m6 T6 S6 d6 h5 r5 tb5 S5
    refine ⟨_, rfl, N, _, rfl, .inl (SqL.of h7), _, _, rfl, _, rfl, ?_, ?_, ?_⟩
    · split <;> omega
    · split <;> omega
    refine for_range (lo := 0) (n := (if ((us.length : Nat) : Int) < 3 then ((us.length : Nat) : Int) else 3).toNat) (fun i σ H' => ∃ (v6 v7 v8 v9 : Option V), σ = [some (.ref a), some (.ref s), some (.ref I), some (.bl ch), some (.ref N), some du, v6, v7, v8, v9] ∧ H' N = some (.lst us) ∧ RL (NtAt K H') ts us ∧ LamX.Tabs (tabT PT) H' ∧ i ≤ 3 ∧ Src H' s b (200000 - 100 * i)) ⟨_, _, _, _, rfl, h7, r7, tb7, by omega, S7.mono (by decide)⟩ ?_ ?_
    · rintro i σ H8 hi ⟨v6, v7, v8, v9, rfl, h8, r8, tb8, i3, S8⟩
      have i3 : i < 3 ∧ i < us.length := by
        by_cases c : ((us.length : Nat) : Int) < 3
        · rw [if_pos c] at hi; omega
        · rw [if_neg c] at hi; omega
      obtain ⟨c, hc⟩ : ∃ c, c = 200000 - 100 * (i + 1) := ⟨_, rfl⟩
      have S8 := S8.mono (d := c + 1) (by omega)
      refine ⟨_, rfl, _, rfl, N, _, rfl, .inl (SqL.of h8), s, b, (us.length : Int), c, rfl, by omega, by omega, S8, fun p H9 p0 p1 x9 S9 => ?_⟩
      have T9 := TT.ext (K := K) x9 S8
      have h9 := x9 _ _ Ns h8
      refine ⟨_, rfl, _, rfl, _, rfl, N, us, rfl, SqL.of h9, fun Z hZ => ?_⟩
      rw [cutV_to p0]
      have n10 := same_new (o := HO.lst (us.take p.toNat)) hZ
      refine ⟨_, rfl, _, rfl, _, _, rfl, rfl, _, rfl, N, us, rfl, SqL.of (n10 _ _ h9), fun Z2 hZ2 => ?_⟩
      rw [cutV_from (by omega)]
      have n11 := same_new (o := HO.lst (us.drop (p + 1).toNat)) hZ2
      refine ⟨Z, Z2, _, _, rfl, rfl, n11 _ _ upd_same, upd_same, by rw [List.length_take, List.length_drop]; exact Nat.le_of_lt (small _ (by omega)), fun X hX => ?_⟩
      have ex : us.take p.toNat ++ us.drop (p + 1).toNat = us.eraseIdx p.toNat := by
        rw [List.eraseIdx_eq_take_drop_succ, show (p + 1).toNat = p.toNat + 1 by omega]
      rw [ex]
      have n12 := same_new (o := HO.lst (us.eraseIdx p.toNat)) hX
      have m12 := (n10.trans n11).trans n12
      have T12 := T9.trans (TT.same (K := K) m12)
      have hX12 : upd (upd (upd H9 Z (HO.lst (us.take p.toNat))) Z2 (HO.lst (us.drop (p + 1).toNat))) X (HO.lst (us.eraseIdx p.toNat)) X = some (.lst (us.eraseIdx p.toNat)) := upd_same
      have tb12 := tabs_same (tabs_ext tb8 x9 S8) m12
      have S12 := S9.ext m12
      have h12 := m12 _ _ h9
      clear hX hZ hZ2 n10 n11 n12 m12
      generalize upd (upd (upd H9 Z (HO.lst (us.take p.toNat))) Z2 (HO.lst (us.drop (p + 1).toNat))) X (HO.lst (us.eraseIdx p.toNat)) = H12 at *
      have rE := (r8.mono (NtAt.tt T12)).erase p.toNat
      have ndE := dis_erase nd p.toNat
      have tlE : (ts.eraseIdx p.toNat).length ≤ 23 := Nat.le_trans (List.length_eraseIdx_le _ _) tl
      refine ⟨_, rfl, X, _, rfl, .inl ⟨SqL.of hX12, fun t ht => ?_⟩⟩
      have n13 := same_new (o := HO.tup (us.eraseIdx p.toNat)) ht
      have T13 := TT.same (K := K) n13
      refine ⟨_, t, _, rfl, SqT.of upd_same, rE.mono (NtAt.tt T13), ndE, by omega, tabs_same tb12 n13, fun u H14 x14 tb14 d14 => ?_⟩
      have T14 := T13.trans (TT.extN (K := K) x14)
      have hX14 := x14 _ _ (n13 _ _ hX12) (fun _ e => by cases e)
      refine ⟨_, rfl, _, X, _, rfl, SqL.of hX14, rE.mono (NtAt.tt T14), ndE, by omega, fun w H15 m15 d15 => ?_⟩
      have T15 := T14.trans (TT.same (K := K) m15)
      refine ⟨_, u, w, rfl, d14.tk (TK.same m15), d15, thr_dl ndE tlE, _, rfl, iteF ?_⟩
      exact ⟨_, _, _, _, rfl, m15 _ _ (x14 _ _ (n13 _ _ h12) (fun _ e => by cases e)), (r8.mono (NtAt.tt T12)).mono (NtAt.tt T15), tabs_same tb14 m15, by omega, by rw [← hc]; exact ((S12.ext n13).extN x14).ext m15⟩
    rintro σ H8 ⟨v6, v7, v8, v9, rfl, h8, r8, tb8, i3, S8⟩
    refine ⟨Nat.zero_le _, fun t ht => ?_⟩
    have n9 := same_new (o := HO.tup []) ht
    refine ⟨[], t, [], rfl, SqT.of upd_same, rfl, List.nodup_nil, Nat.zero_le _, tabs_same tb8 n9, fun u H10 x10 tb10 d10 => ?_⟩
    rw [thr_nil] at d10
    refine ⟨Nat.zero_le _, fun t2 ht2 => ?_⟩
    have n11 := same_new (o := HO.tup []) ht2
    exact ⟨.tup [], u, .ref t2, rfl, d10.tk (TK.same n11), ⟨t2, [], rfl, SqT.of upd_same, dln⟩, ⟨Nat.zero_le _, fun x hx => by cases hx⟩, q _⟩
end

end Z
namespace Z
open PySem L2 SX
set_option maxHeartbeats 0 in
theorem all_mk {l : PySem.W.OpenLaw} {w : World} {K : PySem.W.Frag} {h : Heap} {mg : Str → Option Value} {fa : Addr} (X : K.In h) (G : h.Ns mainGlobals mg) (hfa : mg "law" = some (.ref fa))
    {f0 : Addr} {od0 an0 : Option Addr} {sl0 : Array (Option Value)} {oc0 kV0 dc0 pm0 cd0 ct0 : Value}
    {f1 : Addr} {od1 an1 : Option Addr} {sl1 : Array (Option Value)} {oc1 kV1 dc1 pm1 cd1 ct1 : Value}
    {C2 P2 : Addr}
    {f2 : Addr} {od2 an2 : Option Addr} {sl2 : Array (Option Value)} {oc2 kV2 dc2 pm2 ct2 : Value}
    {f3 : Addr} {od3 an3 : Option Addr} {sl3 : Array (Option Value)} {oc3 kV3 dc3 pm3 cd3 ct3 : Value}
    {f4 : Addr} {od4 an4 : Option Addr} {sl4 : Array (Option Value)} {oc4 kV4 dc4 pm4 cd4 ct4 : Value}
    {f5 : Addr} {od5 an5 : Option Addr} {sl5 : Array (Option Value)} {oc5 kV5 dc5 pm5 cd5 ct5 : Value}
    {f6 : Addr} {od6 an6 : Option Addr} {sl6 : Array (Option Value)} {oc6 kV6 dc6 pm6 cd6 ct6 : Value}
    {f7 : Addr} {od7 an7 : Option Addr} {sl7 : Array (Option Value)} {oc7 kV7 dc7 pm7 cd7 ct7 : Value}
    {f8 : Addr} {od8 an8 : Option Addr} {sl8 : Array (Option Value)} {oc8 kV8 dc8 pm8 cd8 ct8 : Value}
    {f9 : Addr} {od9 an9 : Option Addr} {sl9 : Array (Option Value)} {oc9 kV9 dc9 pm9 cd9 ct9 : Value}
    {f10 : Addr} {od10 an10 : Option Addr} {sl10 : Array (Option Value)} {oc10 kV10 dc10 pm10 cd10 ct10 : Value}
    {f11 : Addr} {od11 an11 : Option Addr} {sl11 : Array (Option Value)} {oc11 kV11 dc11 pm11 cd11 ct11 : Value}
    {f12 : Addr} {od12 an12 : Option Addr} {sl12 : Array (Option Value)} {oc12 kV12 dc12 pm12 cd12 ct12 : Value}
    {f13 : Addr} {od13 an13 : Option Addr} {sl13 : Array (Option Value)} {oc13 kV13 dc13 pm13 cd13 ct13 : Value}
    {f14 : Addr} {od14 an14 : Option Addr} {sl14 : Array (Option Value)} {oc14 kV14 dc14 pm14 cd14 ct14 : Value}
    {f15 : Addr} {od15 an15 : Option Addr} {sl15 : Array (Option Value)} {oc15 kV15 dc15 pm15 cd15 ct15 : Value}
    {f16 : Addr} {od16 an16 : Option Addr} {sl16 : Array (Option Value)} {oc16 kV16 dc16 pm16 cd16 ct16 : Value}
    {f17 : Addr} {od17 an17 : Option Addr} {sl17 : Array (Option Value)} {oc17 kV17 dc17 pm17 cd17 ct17 : Value}
    {f18 : Addr} {od18 an18 : Option Addr} {sl18 : Array (Option Value)} {oc18 kV18 dc18 pm18 cd18 ct18 : Value}
    {f19 : Addr} {od19 an19 : Option Addr} {sl19 : Array (Option Value)} {oc19 kV19 dc19 pm19 cd19 ct19 : Value}
    (a0 : PySem.W.nsIn K mainGlobals "place_of" = some (some (.ref f0))) (l0 : K.lookup f0 = some ⟨oc0, od0, .func (PySem.W.fnOf "place_of" "place_of" (defArgs s_place_of) (defBody s_place_of) (defScope s_place_of) .none kV0 dc0 pm0 an0 cd0 ct0), sl0⟩) (c0 : PySem.W.codeIn K cd0 "place_of" = true) (k0 : PySem.W.keepIn K (.ref f0) = true)
    (a1 : PySem.W.nsIn K mainGlobals "parent_of" = some (some (.ref f1))) (l1 : K.lookup f1 = some ⟨oc1, od1, .func (PySem.W.fnOf "parent_of" "parent_of" (defArgs s_parent_of) (defBody s_parent_of) (defScope s_parent_of) .none kV1 dc1 pm1 an1 cd1 ct1), sl1⟩) (c1 : PySem.W.codeIn K cd1 "parent_of" = true) (k1 : PySem.W.keepIn K (.ref f1) = true)
    (a2 : PySem.W.nsIn K mainGlobals "threads_of" = some (some (.ref f2))) (l2 : K.lookup f2 = some ⟨oc2, od2, .func (PySem.W.fnOf "threads_of" "threads_of" (defArgs s_threads_of) (defBody s_threads_of) (defScope s_threads_of) .none kV2 dc2 pm2 an2 (.ref C2) ct2), sl2⟩) (c2 : PySem.W.codeIn K (.ref C2) "threads_of" = true) (k2 : PySem.W.keepIn K (.ref f2) = true)
    (ch2 : PySem.W.codeHdIn K C2 P2 = true)
    (cn2 : K.lookup P2 = none)
    (ct2 : h.get? P2 = some { cls := .none, data := .fields #[] })
    (a3 : PySem.W.nsIn K mainGlobals "_law_mix" = some (some (.ref f3))) (l3 : K.lookup f3 = some ⟨oc3, od3, .func (PySem.W.fnOf "_law_mix" "_law_mix" (defArgs s__law_mix) (defBody s__law_mix) (defScope s__law_mix) .none kV3 dc3 pm3 an3 cd3 ct3), sl3⟩) (c3 : PySem.W.codeIn K cd3 "_law_mix" = true) (k3 : PySem.W.keepIn K (.ref f3) = true)
    (a4 : PySem.W.nsIn K mainGlobals "_law_source" = some (some (.ref f4))) (l4 : K.lookup f4 = some ⟨oc4, od4, .func (PySem.W.fnOf "_law_source" "_law_source" (defArgs s__law_source) (defBody s__law_source) (defScope s__law_source) .none kV4 dc4 pm4 an4 cd4 ct4), sl4⟩) (c4 : PySem.W.codeIn K cd4 "_law_source" = true) (k4 : PySem.W.keepIn K (.ref f4) = true)
    (a5 : PySem.W.nsIn K mainGlobals "_law_draw" = some (some (.ref f5))) (l5 : K.lookup f5 = some ⟨oc5, od5, .func (PySem.W.fnOf "_law_draw" "_law_draw" (defArgs s__law_draw) (defBody s__law_draw) (defScope s__law_draw) .none kV5 dc5 pm5 an5 cd5 ct5), sl5⟩) (c5 : PySem.W.codeIn K cd5 "_law_draw" = true) (k5 : PySem.W.keepIn K (.ref f5) = true)
    (a6 : PySem.W.nsIn K mainGlobals "_law_pick" = some (some (.ref f6))) (l6 : K.lookup f6 = some ⟨oc6, od6, .func (PySem.W.fnOf "_law_pick" "_law_pick" (defArgs s__law_pick) (defBody s__law_pick) (defScope s__law_pick) .none kV6 dc6 pm6 an6 cd6 ct6), sl6⟩) (c6 : PySem.W.codeIn K cd6 "_law_pick" = true) (k6 : PySem.W.keepIn K (.ref f6) = true)
    (a7 : PySem.W.nsIn K mainGlobals "_law_once_in" = some (some (.ref f7))) (l7 : K.lookup f7 = some ⟨oc7, od7, .func (PySem.W.fnOf "_law_once_in" "_law_once_in" (defArgs s__law_once_in) (defBody s__law_once_in) (defScope s__law_once_in) .none kV7 dc7 pm7 an7 cd7 ct7), sl7⟩) (c7 : PySem.W.codeIn K cd7 "_law_once_in" = true) (k7 : PySem.W.keepIn K (.ref f7) = true)
    (a8 : PySem.W.nsIn K mainGlobals "_law_shuffled" = some (some (.ref f8))) (l8 : K.lookup f8 = some ⟨oc8, od8, .func (PySem.W.fnOf "_law_shuffled" "_law_shuffled" (defArgs s__law_shuffled) (defBody s__law_shuffled) (defScope s__law_shuffled) .none kV8 dc8 pm8 an8 cd8 ct8), sl8⟩) (c8 : PySem.W.codeIn K cd8 "_law_shuffled" = true) (k8 : PySem.W.keepIn K (.ref f8) = true)
    (a9 : PySem.W.nsIn K mainGlobals "_law_new_name" = some (some (.ref f9))) (l9 : K.lookup f9 = some ⟨oc9, od9, .func (PySem.W.fnOf "_law_new_name" "_law_new_name" (defArgs s__law_new_name) (defBody s__law_new_name) (defScope s__law_new_name) .none kV9 dc9 pm9 an9 cd9 ct9), sl9⟩) (c9 : PySem.W.codeIn K cd9 "_law_new_name" = true) (k9 : PySem.W.keepIn K (.ref f9) = true)
    (a10 : PySem.W.nsIn K mainGlobals "_law_names" = some (some (.ref f10))) (l10 : K.lookup f10 = some ⟨oc10, od10, .func (PySem.W.fnOf "_law_names" "_law_names" (defArgs s__law_names) (defBody s__law_names) (defScope s__law_names) .none kV10 dc10 pm10 an10 cd10 ct10), sl10⟩) (c10 : PySem.W.codeIn K cd10 "_law_names" = true) (k10 : PySem.W.keepIn K (.ref f10) = true)
    (a11 : PySem.W.nsIn K mainGlobals "_law_is_int" = some (some (.ref f11))) (l11 : K.lookup f11 = some ⟨oc11, od11, .func (PySem.W.fnOf "_law_is_int" "_law_is_int" (defArgs s__law_is_int) (defBody s__law_is_int) (defScope s__law_is_int) .none kV11 dc11 pm11 an11 cd11 ct11), sl11⟩) (c11 : PySem.W.codeIn K cd11 "_law_is_int" = true) (k11 : PySem.W.keepIn K (.ref f11) = true)
    (a12 : PySem.W.nsIn K mainGlobals "_law_same" = some (some (.ref f12))) (l12 : K.lookup f12 = some ⟨oc12, od12, .func (PySem.W.fnOf "_law_same" "_law_same" (defArgs s__law_same) (defBody s__law_same) (defScope s__law_same) .none kV12 dc12 pm12 an12 cd12 ct12), sl12⟩) (c12 : PySem.W.codeIn K cd12 "_law_same" = true) (k12 : PySem.W.keepIn K (.ref f12) = true)
    (a13 : PySem.W.nsIn K mainGlobals "_law_many" = some (some (.ref f13))) (l13 : K.lookup f13 = some ⟨oc13, od13, .func (PySem.W.fnOf "_law_many" "_law_many" (defArgs s__law_many) (defBody s__law_many) (defScope s__law_many) .none kV13 dc13 pm13 an13 cd13 ct13), sl13⟩) (c13 : PySem.W.codeIn K cd13 "_law_many" = true) (k13 : PySem.W.keepIn K (.ref f13) = true)
    (a14 : PySem.W.nsIn K mainGlobals "_law_ids" = some (some (.ref f14))) (l14 : K.lookup f14 = some ⟨oc14, od14, .func (PySem.W.fnOf "_law_ids" "_law_ids" (defArgs s__law_ids) (defBody s__law_ids) (defScope s__law_ids) .none kV14 dc14 pm14 an14 cd14 ct14), sl14⟩) (c14 : PySem.W.codeIn K cd14 "_law_ids" = true) (k14 : PySem.W.keepIn K (.ref f14) = true)
    (a15 : PySem.W.nsIn K mainGlobals "_law_refs" = some (some (.ref f15))) (l15 : K.lookup f15 = some ⟨oc15, od15, .func (PySem.W.fnOf "_law_refs" "_law_refs" (defArgs s__law_refs) (defBody s__law_refs) (defScope s__law_refs) .none kV15 dc15 pm15 an15 cd15 ct15), sl15⟩) (c15 : PySem.W.codeIn K cd15 "_law_refs" = true) (k15 : PySem.W.keepIn K (.ref f15) = true)
    (a16 : PySem.W.nsIn K mainGlobals "_law_threaded" = some (some (.ref f16))) (l16 : K.lookup f16 = some ⟨oc16, od16, .func (PySem.W.fnOf "_law_threaded" "_law_threaded" (defArgs s__law_threaded) (defBody s__law_threaded) (defScope s__law_threaded) .none kV16 dc16 pm16 an16 cd16 ct16), sl16⟩) (c16 : PySem.W.codeIn K cd16 "_law_threaded" = true) (k16 : PySem.W.keepIn K (.ref f16) = true)
    (a17 : PySem.W.nsIn K mainGlobals "_law_parent" = some (some (.ref f17))) (l17 : K.lookup f17 = some ⟨oc17, od17, .func (PySem.W.fnOf "_law_parent" "_law_parent" (defArgs s__law_parent) (defBody s__law_parent) (defScope s__law_parent) .none kV17 dc17 pm17 an17 cd17 ct17), sl17⟩) (c17 : PySem.W.codeIn K cd17 "_law_parent" = true) (k17 : PySem.W.keepIn K (.ref f17) = true)
    (a18 : PySem.W.nsIn K mainGlobals "_law_threads" = some (some (.ref f18))) (l18 : K.lookup f18 = some ⟨oc18, od18, .func (PySem.W.fnOf "_law_threads" "_law_threads" (defArgs s__law_threads) (defBody s__law_threads) (defScope s__law_threads) .none kV18 dc18 pm18 an18 cd18 ct18), sl18⟩) (c18 : PySem.W.codeIn K cd18 "_law_threads" = true) (k18 : PySem.W.keepIn K (.ref f18) = true)
    (a19 : PySem.W.nsIn K mainGlobals "law" = some (some (.ref f19))) (l19 : K.lookup f19 = some ⟨oc19, od19, .func (PySem.W.fnOf "law" "law" (defArgs s_law) (defBody s_law) (defScope s_law) .none kV19 dc19 pm19 an19 cd19 ct19), sl19⟩) (c19 : PySem.W.codeIn K cd19 "law" = true) (k19 : PySem.W.keepIn K (.ref f19) = true)
    (z_abs : PySem.W.nsIn K mainGlobals "abs" = some none)
    (z_bool : PySem.W.nsIn K mainGlobals "bool" = some none)
    (z_int : PySem.W.nsIn K mainGlobals "int" = some none)
    (z_isinstance : PySem.W.nsIn K mainGlobals "isinstance" = some none)
    (z_len : PySem.W.nsIn K mainGlobals "len" = some none)
    (z_list : PySem.W.nsIn K mainGlobals "list" = some none)
    (z_min : PySem.W.nsIn K mainGlobals "min" = some none)
    (z_range : PySem.W.nsIn K mainGlobals "range" = some none)
    (z_reversed : PySem.W.nsIn K mainGlobals "reversed" = some none)
    (z_sorted : PySem.W.nsIn K mainGlobals "sorted" = some none)
    (z_str : PySem.W.nsIn K mainGlobals "str" = some none)
    (z_tuple : PySem.W.nsIn K mainGlobals "tuple" = some none) :
    LamX.LawAtS l w K CX0 52 63 "script" mg fa h := by
  have e := hfa.symm.trans (PySem.W.mg_of X G a19)
  cases e
  have T : Tx mg := ⟨PySem.W.mg_none_of X G z_abs, PySem.W.mg_none_of X G z_bool, PySem.W.mg_none_of X G z_int, PySem.W.mg_none_of X G z_isinstance, PySem.W.mg_none_of X G z_len, PySem.W.mg_none_of X G z_list, PySem.W.mg_none_of X G z_min, PySem.W.mg_none_of X G z_range, PySem.W.mg_none_of X G z_reversed, PySem.W.mg_none_of X G z_sorted, PySem.W.mg_none_of X G z_str, PySem.W.mg_none_of X G z_tuple⟩
  refine ⟨PySem.W.fnOf "law" "law" (defArgs s_law) (defBody s_law) (defScope s_law) .none kV19 dc19 pm19 an19 cd19 ct19, [(C2, P2)], sp_lawT K P2, (fun p hp => by rw [List.mem_singleton.mp hp]; exact ct2), (fun p hp => by rw [List.mem_singleton.mp hp]; exact cn2), (fun p hp => by rw [List.mem_singleton.mp hp]; exact PySem.W.codeHd_of_K X ch2), (fun s v => .of_eq rfl), (fun H a ns hl _ hP hS => ⟨a, ns, rfl, hS, hl, hP _ (List.mem_singleton.mpr rfl), fun _ => rfl⟩), fun base _ _ TBs => ?_⟩
  have TB2 := TBs (C2, P2) (by simp)
  have D_place_of : Df K mg "place_of" s_place_of ["notice"] := ⟨f0, _, fun_mk (st := s_place_of) l0 c0 k0, PySem.W.mg_of X G a0, (fun_mk (st := s_place_of) l0 c0 k0).binds (ps := ["notice"]) fun _ _ _ _ _ _ us hl => match us, hl with | [_], _ => rfl⟩
  have D_parent_of : Df K mg "parent_of" s_parent_of ["notice", "by_id"] := ⟨f1, _, fun_mk (st := s_parent_of) l1 c1 k1, PySem.W.mg_of X G a1, (fun_mk (st := s_parent_of) l1 c1 k1).binds (ps := ["notice", "by_id"]) fun _ _ _ _ _ _ us hl => match us, hl with | [_, _], _ => rfl⟩
  have D_threads_of : DfT K mg "threads_of" s_threads_of ["notices"] C2 := ⟨f2, _, ⟨⟨_, _, _, _, _, _, _, _, rfl, l2, c2⟩, k2⟩, PySem.W.mg_of X G a2, (fun_mk (st := s_threads_of) l2 c2 k2).binds (ps := ["notices"]) fun _ _ _ _ _ _ us hl => match us, hl with | [_], _ => rfl⟩
  have D__law_mix : Df K mg "_law_mix" s__law_mix ["seed", "turn"] := ⟨f3, _, fun_mk (st := s__law_mix) l3 c3 k3, PySem.W.mg_of X G a3, (fun_mk (st := s__law_mix) l3 c3 k3).binds (ps := ["seed", "turn"]) fun _ _ _ _ _ _ us hl => match us, hl with | [_, _], _ => rfl⟩
  have D__law_source : Df K mg "_law_source" s__law_source ["script"] := ⟨f4, _, fun_mk (st := s__law_source) l4 c4 k4, PySem.W.mg_of X G a4, (fun_mk (st := s__law_source) l4 c4 k4).binds (ps := ["script"]) fun _ _ _ _ _ _ us hl => match us, hl with | [_], _ => rfl⟩
  have D__law_draw : Df K mg "_law_draw" s__law_draw ["source", "many"] := ⟨f5, _, fun_mk (st := s__law_draw) l5 c5 k5, PySem.W.mg_of X G a5, (fun_mk (st := s__law_draw) l5 c5 k5).binds (ps := ["source", "many"]) fun _ _ _ _ _ _ us hl => match us, hl with | [_, _], _ => rfl⟩
  have D__law_pick : Df K mg "_law_pick" s__law_pick ["source", "row"] := ⟨f6, _, fun_mk (st := s__law_pick) l6 c6 k6, PySem.W.mg_of X G a6, (fun_mk (st := s__law_pick) l6 c6 k6).binds (ps := ["source", "row"]) fun _ _ _ _ _ _ us hl => match us, hl with | [_, _], _ => rfl⟩
  have D__law_once_in : Df K mg "_law_once_in" s__law_once_in ["source", "many"] := ⟨f7, _, fun_mk (st := s__law_once_in) l7 c7 k7, PySem.W.mg_of X G a7, (fun_mk (st := s__law_once_in) l7 c7 k7).binds (ps := ["source", "many"]) fun _ _ _ _ _ _ us hl => match us, hl with | [_, _], _ => rfl⟩
  have D__law_shuffled : Df K mg "_law_shuffled" s__law_shuffled ["source", "row"] := ⟨f8, _, fun_mk (st := s__law_shuffled) l8 c8 k8, PySem.W.mg_of X G a8, (fun_mk (st := s__law_shuffled) l8 c8 k8).binds (ps := ["source", "row"]) fun _ _ _ _ _ _ us hl => match us, hl with | [_, _], _ => rfl⟩
  have D__law_new_name : Df K mg "_law_new_name" s__law_new_name ["source", "used"] := ⟨f9, _, fun_mk (st := s__law_new_name) l9 c9 k9, PySem.W.mg_of X G a9, (fun_mk (st := s__law_new_name) l9 c9 k9).binds (ps := ["source", "used"]) fun _ _ _ _ _ _ us hl => match us, hl with | [_, _], _ => rfl⟩
  have D__law_names : Df K mg "_law_names" s__law_names ["source", "many"] := ⟨f10, _, fun_mk (st := s__law_names) l10 c10 k10, PySem.W.mg_of X G a10, (fun_mk (st := s__law_names) l10 c10 k10).binds (ps := ["source", "many"]) fun _ _ _ _ _ _ us hl => match us, hl with | [_, _], _ => rfl⟩
  have D__law_is_int : Df K mg "_law_is_int" s__law_is_int ["value"] := ⟨f11, _, fun_mk (st := s__law_is_int) l11 c11 k11, PySem.W.mg_of X G a11, (fun_mk (st := s__law_is_int) l11 c11 k11).binds (ps := ["value"]) fun _ _ _ _ _ _ us hl => match us, hl with | [_], _ => rfl⟩
  have D__law_same : Df K mg "_law_same" s__law_same ["actual", "due"] := ⟨f12, _, fun_mk (st := s__law_same) l12 c12 k12, PySem.W.mg_of X G a12, (fun_mk (st := s__law_same) l12 c12 k12).binds (ps := ["actual", "due"]) fun _ _ _ _ _ _ us hl => match us, hl with | [_, _], _ => rfl⟩
  have D__law_many : Df K mg "_law_many" s__law_many ["source", "least", "wide", "more"] := ⟨f13, _, fun_mk (st := s__law_many) l13 c13 k13, PySem.W.mg_of X G a13, (fun_mk (st := s__law_many) l13 c13 k13).binds (ps := ["source", "least", "wide", "more"]) fun _ _ _ _ _ _ us hl => match us, hl with | [_, _, _, _], _ => rfl⟩
  have D__law_ids : Df K mg "_law_ids" s__law_ids ["source", "many"] := ⟨f14, _, fun_mk (st := s__law_ids) l14 c14 k14, PySem.W.mg_of X G a14, (fun_mk (st := s__law_ids) l14 c14 k14).binds (ps := ["source", "many"]) fun _ _ _ _ _ _ us hl => match us, hl with | [_, _], _ => rfl⟩
  have D__law_refs : Df K mg "_law_refs" s__law_refs ["source", "ident", "ids"] := ⟨f15, _, fun_mk (st := s__law_refs) l15 c15 k15, PySem.W.mg_of X G a15, (fun_mk (st := s__law_refs) l15 c15 k15).binds (ps := ["source", "ident", "ids"]) fun _ _ _ _ _ _ us hl => match us, hl with | [_, _, _], _ => rfl⟩
  have D__law_threaded : Df K mg "_law_threaded" s__law_threaded ["source", "ids", "k", "chained"] := ⟨f16, _, fun_mk (st := s__law_threaded) l16 c16 k16, PySem.W.mg_of X G a16, (fun_mk (st := s__law_threaded) l16 c16 k16).binds (ps := ["source", "ids", "k", "chained"]) fun _ _ _ _ _ _ us hl => match us, hl with | [_, _, _, _], _ => rfl⟩
  have D__law_parent : Df K mg "_law_parent" s__law_parent ["notice", "notices"] := ⟨f17, _, fun_mk (st := s__law_parent) l17 c17 k17, PySem.W.mg_of X G a17, (fun_mk (st := s__law_parent) l17 c17 k17).binds (ps := ["notice", "notices"]) fun _ _ _ _ _ _ us hl => match us, hl with | [_, _], _ => rfl⟩
  have D__law_threads : Df K mg "_law_threads" s__law_threads ["notices"] := ⟨f18, _, fun_mk (st := s__law_threads) l18 c18 k18, PySem.W.mg_of X G a18, (fun_mk (st := s__law_threads) l18 c18 k18).binds (ps := ["notices"]) fun _ _ _ _ _ _ us hl => match us, hl with | [_], _ => rfl⟩
  have C__law_mix := ok__law_mix (P := l.prog) (w := w) (base := base) D__law_mix T 
  have C__law_draw := ok__law_draw (P := l.prog) (w := w) (base := base) D__law_draw T C__law_mix
  have C__law_new_name := ok__law_new_name (P := l.prog) (w := w) (base := base) D__law_new_name T C__law_draw
  have C__law_names := ok__law_names (P := l.prog) (w := w) (base := base) D__law_names T C__law_new_name
  have C__law_pick := ok__law_pick (P := l.prog) (w := w) (base := base) D__law_pick T C__law_draw
  have C__law_ids := ok__law_ids (P := l.prog) (w := w) (base := base) D__law_ids T C__law_draw C__law_names C__law_pick
  have C__law_once_in := ok__law_once_in (P := l.prog) (w := w) (base := base) D__law_once_in T C__law_draw
  have C__law_many := ok__law_many (P := l.prog) (w := w) (base := base) D__law_many T C__law_draw C__law_once_in
  have C__law_is_int := ok__law_is_int (P := l.prog) (w := w) (base := base) D__law_is_int T 
  have C__law_same := ok__law_same (P := l.prog) (w := w) (base := base) D__law_same T C__law_is_int 50
  have C__law_shuffled := ok__law_shuffled (P := l.prog) (w := w) (base := base) D__law_shuffled T C__law_draw
  have C__law_source := ok__law_source (P := l.prog) (w := w) (base := base) D__law_source T C__law_mix
  have C__law_refs := ok__law_refs (P := l.prog) (w := w) (base := base) D__law_refs T C__law_draw
  have C__law_threaded := ok__law_threaded (P := l.prog) (w := w) (base := base) D__law_threaded T C__law_draw C__law_refs
  have C__law_parent := ok__law_parent (P := l.prog) (w := w) (base := base) D__law_parent T 
  have C__law_threads := ok__law_threads (P := l.prog) (w := w) (base := base) D__law_threads T C__law_parent
  have C_place_of := ok_place_of (P := l.prog) (w := w) (base := base) D_place_of T 
  have C_parent_of := ok_parent_of (P := l.prog) (w := w) (base := base) D_parent_of T C_place_of
  have C_threads_of := ok_threads_of (P := l.prog) (w := w) (base := base) TB2 D_threads_of T C_parent_of
  exact ok_law (fun_mk (st := s_law) l19 c19 k19) T C__law_draw C__law_ids C__law_many C__law_same C__law_shuffled C__law_source C__law_threaded C__law_threads C_threads_of
theorem walk {l : PySem.W.OpenLaw} {q : Program} {loose : List Str} {XP : (Str → Option Value) → Heap → Prop} {YP : World → Heap → Prop} {d : DefRec} {K : Params → PySem.W.Frag} (hn : l.most = some 63) (hdf : d.params.defaults = [])
    (hY : ∀ (w : World) (h : Heap), YP w h → (K w.params).In h)
    (F : ∀ (w : World) (mg : Str → Option Value) (fa : Addr) (h : Heap), YP w h → (K w.params).In h → h.Ns mainGlobals mg → mg d.name = some (.ref fa) → LamX.LawAtS l w (K w.params) CX0 52 63 "script" mg fa h) :
    PySem.W.WalkO q loose XP YP l.row.toRowW d [] (fun f vs => PySem.call f vs) :=
  LamX.walk_ofTs (n := 63) (k := 52) (x := "script") (CX := fun _ => CX0) hn (by decide) hdf ⟨rfl, by decide, by decide⟩ hY F fun _ _ _ _ _ z => z
end Z
open PySem PySem.W PyProof.Rows in
set_option maxRecDepth 100000 in
set_option maxHeartbeats 0 in
theorem PySem.Challenge.cw_criermoot_k49_threads_holds : PySem.Challenge.rw_criermoot_k49_threads.Holds := by
  w_on; o_law; k_head; (case hw => w_witness2)
  k_fill
  refine Z.walk (l := PySem.Challenge.rw_criermoot_k49_threads) rfl rfl (fun w h Y => PySem.W.km_in_of Y) ?F
  case F =>
    intro w mg fa h Y KX G hmg
    refine' Z.all_mk (P2 := 30) KX G hmg ?a0 ?l0 ?c0 ?k0 ?a1 ?l1 ?c1 ?k1 ?a2 ?l2 ?c2 ?k2 ?ch2 ?cn2 ?ct2 ?a3 ?l3 ?c3 ?k3 ?a4 ?l4 ?c4 ?k4 ?a5 ?l5 ?c5 ?k5 ?a6 ?l6 ?c6 ?k6 ?a7 ?l7 ?c7 ?k7 ?a8 ?l8 ?c8 ?k8 ?a9 ?l9 ?c9 ?k9 ?a10 ?l10 ?c10 ?k10 ?a11 ?l11 ?c11 ?k11 ?a12 ?l12 ?c12 ?k12 ?a13 ?l13 ?c13 ?k13 ?a14 ?l14 ?c14 ?k14 ?a15 ?l15 ?c15 ?k15 ?a16 ?l16 ?c16 ?k16 ?a17 ?l17 ?c17 ?k17 ?a18 ?l18 ?c18 ?k18 ?a19 ?l19 ?c19 ?k19 ?z_abs ?z_bool ?z_int ?z_isinstance ?z_len ?z_list ?z_min ?z_range ?z_reversed ?z_sorted ?z_str ?z_tuple
    (case a0 => k_is)
    (case l0 => k_is)
    (case c0 => k_is)
    (case k0 => k_is)
    (case a1 => k_is)
    (case l1 => k_is)
    (case c1 => k_is)
    (case k1 => k_is)
    (case a2 => k_is)
    (case l2 => k_is)
    (case c2 => k_is)
    (case k2 => k_is)
    (case ch2 => kernel_rfl)
    (case cn2 => first | rfl | kernel_rfl | k_is)
    (case ct2 => exact PySem.W.km_tabs_of Y _ (by decide))
    (case a3 => k_is)
    (case l3 => k_is)
    (case c3 => k_is)
    (case k3 => k_is)
    (case a4 => k_is)
    (case l4 => k_is)
    (case c4 => k_is)
    (case k4 => k_is)
    (case a5 => k_is)
    (case l5 => k_is)
    (case c5 => k_is)
    (case k5 => k_is)
    (case a6 => k_is)
    (case l6 => k_is)
    (case c6 => k_is)
    (case k6 => k_is)
    (case a7 => k_is)
    (case l7 => k_is)
    (case c7 => k_is)
    (case k7 => k_is)
    (case a8 => k_is)
    (case l8 => k_is)
    (case c8 => k_is)
    (case k8 => k_is)
    (case a9 => k_is)
    (case l9 => k_is)
    (case c9 => k_is)
    (case k9 => k_is)
    (case a10 => k_is)
    (case l10 => k_is)
    (case c10 => k_is)
    (case k10 => k_is)
    (case a11 => k_is)
    (case l11 => k_is)
    (case c11 => k_is)
    (case k11 => k_is)
    (case a12 => k_is)
    (case l12 => k_is)
    (case c12 => k_is)
    (case k12 => k_is)
    (case a13 => k_is)
    (case l13 => k_is)
    (case c13 => k_is)
    (case k13 => k_is)
    (case a14 => k_is)
    (case l14 => k_is)
    (case c14 => k_is)
    (case k14 => k_is)
    (case a15 => k_is)
    (case l15 => k_is)
    (case c15 => k_is)
    (case k15 => k_is)
    (case a16 => k_is)
    (case l16 => k_is)
    (case c16 => k_is)
    (case k16 => k_is)
    (case a17 => k_is)
    (case l17 => k_is)
    (case c17 => k_is)
    (case k17 => k_is)
    (case a18 => k_is)
    (case l18 => k_is)
    (case c18 => k_is)
    (case k18 => k_is)
    (case a19 => k_is)
    (case l19 => k_is)
    (case c19 => k_is)
    (case k19 => k_is)
    (case z_abs => k_is)
    (case z_bool => k_is)
    (case z_int => k_is)
    (case z_isinstance => k_is)
    (case z_len => k_is)
    (case z_list => k_is)
    (case z_min => k_is)
    (case z_range => k_is)
    (case z_reversed => k_is)
    (case z_sorted => k_is)
    (case z_str => k_is)
    (case z_tuple => k_is)
