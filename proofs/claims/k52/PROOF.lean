import PyProof.Rows.All
import Wide.All
import OpenK.AllK
import Wide.FinOn
import HandS.Base
import HandS.Call
import HandS.List
import HandS.Comp
import HandS.Ends
import HandS.Dict
import HandS.Iter
import HandS.Text
import HandS.Words
import HandS.WordsList
import HandS.Conv
import HandS.Codes
import HandS.IsInst
import HandS.Replace
import HandS.StrMore
import HandS.TupAny
import HandS.WideBits
import HandS.ForExc
import HandS.ExcInit
import HandS.ExcField
import HandS.ExcIs
import KE.KExcIs
import HandS.Property
import HandS.Sort
import HandS.Deep
import KE.SortData
import KE.DataMinMax
import KE.KSortTupAny
import KE.KDictSum
import KE.KDictItemsList
import KE.KDictCopyH
import PyProof.DictUpdate
import PyProof.Transfer
import HandS.DictTup
import HandS.ExcOwn
import HandS.ExcValue
import PyProof.MinMaxWalk
import KE.GoesEnum
import KE.GoesMore
import HandS.Rev
import HandS.ReplaceLit
import PyProof.Rows.StrCut
import HandS.TupMul
import HandS.Zip
import HandS.DictComp
import PySem.Challenge.RW_criermoot_k52_whole_desks
set_option Elab.async false
set_option linter.all false
set_option maxRecDepth 100000
namespace Z
open PySem L2

/-! ### heaps -/
/-- all that was tracked is as it was, but for what stands at s -/
def Ext (s : Addr) (H H' : Hp) : Prop := ∀ b o, b ≠ s → H b = some o → H' b = some o
theorem Ext.refl (s : Addr) (H : Hp) : Ext s H H := fun _ _ _ h => h
theorem Ext.trans {s : Addr} {H H1 H2 : Hp} (a : Ext s H H1) (b : Ext s H1 H2) : Ext s H H2 := fun c o n h => b c o n (a c o n h)
theorem Ext.of {s : Addr} {H H' : Hp} (a : Same H H') : Ext s H H' := fun c o _ h => a c o h
theorem Ext.new {s p : Addr} {H : Hp} {o : HO} (n : H p = none) : Ext s H (upd H p o) := fun b u _ h => by
  rw [upd_ne (ne_of_none h n)]; exact h
theorem Ext.put {s : Addr} {H : Hp} {o : HO} : Ext s H (upd H s o) := fun b u n h => by
  rw [upd_ne n]; exact h
theorem same_new {p : Addr} {H : Hp} {o : HO} (n : H p = none) : Same H (upd H p o) := fun b u h => by
  rw [upd_ne (ne_of_none h n)]; exact h
theorem Ext.seqT {K : PySem.W.Frag} {s a : Addr} {H H' : Hp} {xs ys : List V} (x : Ext s H H') (hs : H s = some (.lst ys)) (h : SqT K H a xs) : SqT K H' a xs := by
  rcases h with (h | ⟨o, h⟩) | h
  · exact .inl (.inl (x _ _ (fun e => by rw [e, hs] at h; cases h) h))
  · exact .inl (.inr ⟨o, x _ _ (fun e => by rw [e, hs] at h; cases h) h⟩)
  · exact .inr h
theorem Ext.seqL {K : PySem.W.Frag} {s a : Addr} {H H' : Hp} {xs : List V} (x : Ext s H H') (n : a ≠ s) (h : SqL K H a xs) : SqL K H' a xs := by
  rcases h with (h | ⟨o, h⟩) | h
  · exact .inl (.inl (x _ _ n h))
  · exact .inl (.inr ⟨o, x _ _ n h⟩)
  · exact .inr h

theorem and_nn {x : Int} (hx : 0 ≤ x) (k : Nat) : 0 ≤ Builtin.bitAnd x (1 * 2 ^ k - 1) := by
  rw [Int.one_mul, Bits.bitAnd_mask k hx]
  exact Int.emod_nonneg _ (Int.ne_of_gt (Int.pow_pos (by decide)))
/-! ### the source of draws -/
def Src (H : Hp) (s a : Addr) (c : Nat) : Prop := ∃ (ns : List Int) (i b e t : Int),
  H s = some (.lst [.ref a, .int i, .int b, .int e, .int t]) ∧ H a = some (.lst (ns.map V.int)) ∧ a ≠ s ∧ ns.length ≤ 63 ∧ 0 ≤ i ∧ i ≤ 63 ∧ 0 ≤ b ∧ 0 ≤ e ∧ e < 2147483647 ∧ 0 ≤ t ∧ t + c < 4000000000000000000
theorem Src.lst {H : Hp} {s a : Addr} {c : Nat} (h : Src H s a c) : ∃ xs, H s = some (.lst xs) := by
  obtain ⟨_, _, _, _, _, h, _⟩ := h; exact ⟨_, h⟩
theorem Src.mono {H : Hp} {s a : Addr} {c d : Nat} (h : Src H s a c) (l : d ≤ c) : Src H s a d := by
  obtain ⟨ns, i, b, e, t, h1, h2, h3, h4, h5, h6, h7, h8, h9, h10, h11⟩ := h
  exact ⟨ns, i, b, e, t, h1, h2, h3, h4, h5, h6, h7, h8, h9, h10, by omega⟩
theorem Src.ext {H H' : Hp} {s a : Addr} {c : Nat} (h : Src H s a c) (x : Same H H') : Src H' s a c := by
  obtain ⟨ns, i, b, e, t, h1, h2, h3⟩ := h
  exact ⟨ns, i, b, e, t, x _ _ h1, x _ _ h2, h3⟩
theorem Src.new {H : Hp} {s a p : Addr} {o : HO} {c : Nat} (h : Src H s a c) (n : H p = none) : Src (upd H p o) s a c := h.ext (same_new n)
theorem Src.ne {H : Hp} {s a p : Addr} {c : Nat} (h : Src H s a c) (n : H p = none) : p ≠ s := by
  obtain ⟨xs, e⟩ := h.lst
  exact (ne_of_none e n).symm
theorem Src.nea {H : Hp} {s a p : Addr} {c : Nat} (h : Src H s a c) (n : H p = none) : p ≠ a := by
  obtain ⟨ns, i, b, e, t, h1, h2, h3⟩ := h
  exact (ne_of_none h2 n).symm
theorem Src.put {H : Hp} {s a p : Addr} {o : HO} {c : Nat} (h : Src H s a c) (n : p ≠ s) (m : p ≠ a) : Src (upd H p o) s a c := by
  obtain ⟨ns, i, b, e', t, h1, h2, h3⟩ := h
  exact ⟨ns, i, b, e', t, by rw [upd_ne n.symm]; exact h1, by rw [upd_ne m.symm]; exact h2, h3⟩

/-! ### defs and their callers -/
section
variable (P : Program) (w : World) (K : PySem.W.Frag) (mg : Str → Option Value) (base : Heap)
/-- a def as callers use it -/
def Cal (x : Str) (ps : List Str) (k : Nat) (sp : Sp) : Prop := ∃ (f : Addr) (fd : FuncData), FnOk P w K mg base CX0 k f fd ps sp ∧ mg x = some (.ref f) ∧ PySem.W.keepIn K (.ref f) = true ∧ Binds K fd ps []
/-- a def as the top has left it -/
def Df (x : Str) (st : Stmt) (ps : List Str) : Prop := ∃ (f : Addr) (fd : FuncData), Fun K x x st f fd ∧ mg x = some (.ref f) ∧ Binds K fd ps []
end
theorem Cal.mono {P : Program} {w : World} {K : PySem.W.Frag} {mg : Str → Option Value} {base : Heap} {x : Str} {ps : List Str} {j k : Nat} {sp : Sp} (C : Cal P w K mg base x ps j sp) (h : j ≤ k) : Cal P w K mg base x ps k sp := by
  obtain ⟨f, fd, G, g, kp, b⟩ := C
  exact ⟨f, fd, G.mono h, g, kp, b⟩

/-! ### the promises of the drawing defs -/
def sp__law_mix : Sp := fun vs H Q _ => ∃ (x y : Int), vs = [.int x, .int y] ∧ 0 ≤ x ∧ x < 9000000000000000000 ∧ 0 ≤ y ∧ y < 9000000000000000000 ∧ ∀ v : Int, 0 ≤ v → v < 2147483647 → Q (.int v) H
def sp__law_source (K : PySem.W.Frag) : Sp := fun vs H Q _ => ∃ (a : Addr) (ns : List Int), vs = [.ref a] ∧ SqL K H a (ns.map V.int) ∧ ns.length ≤ 63 ∧ ∀ (s b : Addr) (H' : Hp), H s = none → Same H H' → Src H' s b 3000000000000000000 → Q (.ref s) H'
def sp__law_draw : Sp := fun vs H Q _ => ∃ (s a : Addr) (m : Int) (c : Nat), vs = [.ref s, .int m] ∧ 0 < m ∧ m < 1073741824 ∧ Src H s a (c + 1) ∧ ∀ (v : Int) (H' : Hp), 0 ≤ v → v < m → Ext s H H' → Src H' s a c → Q (.int v) H'

/-! ### data -/
inductive D where
  | non | bl (b : Bool) | int (i : Int) | str (x : Str) | tup (xs : List D)
mutual
def DV (K : PySem.W.Frag) (H : Hp) : D → V → Prop
  | .non, v => v = .non
  | .bl b, v => v = .bl b
  | .int i, v => v = .int i
  | .str x, v => v = .str x
  | .tup ds, v => ∃ a vs, v = .ref a ∧ SqT K H a vs ∧ DVs K H ds vs
def DVs (K : PySem.W.Frag) (H : Hp) : List D → List V → Prop
  | [], vs => vs = []
  | d :: ds, vs => ∃ v r, vs = v :: r ∧ DV K H d v ∧ DVs K H ds r
end
mutual
theorem DV.ext {K : PySem.W.Frag} {H H' : Hp} (x : ∀ a xs, SqT K H a xs → SqT K H' a xs) : ∀ {d : D} {v : V}, DV K H d v → DV K H' d v
  | .non, _, h => by unfold DV at *; exact h
  | .bl _, _, h => by unfold DV at *; exact h
  | .int _, _, h => by unfold DV at *; exact h
  | .str _, _, h => by unfold DV at *; exact h
  | .tup ds, v, h => by
    unfold DV at *
    obtain ⟨a, vs, e, q, r⟩ := h
    exact ⟨a, vs, e, x _ _ q, DVs.ext x r⟩
theorem DVs.ext {K : PySem.W.Frag} {H H' : Hp} (x : ∀ a xs, SqT K H a xs → SqT K H' a xs) : ∀ {ds : List D} {vs : List V}, DVs K H ds vs → DVs K H' ds vs
  | [], _, h => by unfold DVs at *; exact h
  | d :: ds, vs, h => by
    unfold DVs at *
    obtain ⟨v, r, e, q, t⟩ := h
    exact ⟨v, r, e, DV.ext x q, DVs.ext x t⟩
end
theorem DVs.len {K : PySem.W.Frag} {H : Hp} : ∀ {ds : List D} {vs : List V}, DVs K H ds vs → vs.length = ds.length
  | [], _, h => by unfold DVs at h; subst h; rfl
  | d :: ds, vs, h => by
    unfold DVs at h
    obtain ⟨v, r, e, q, t⟩ := h
    rw [e, List.length_cons, List.length_cons, DVs.len t]
theorem DVs.get {K : PySem.W.Frag} {H : Hp} : ∀ {ds : List D} {vs : List V} {i : Nat} {d : D}, DVs K H ds vs → ds[i]? = some d → ∃ v, vs[i]? = some v ∧ DV K H d v
  | [], _, i, d, h, e => by simp at e
  | x :: ds, vs, i, d, h, e => by
    unfold DVs at h
    obtain ⟨v, r, e1, q, t⟩ := h
    subst e1
    cases i with
    | zero =>
      have : x = d := by simpa using e
      subst this
      exact ⟨v, rfl, q⟩
    | succ i => exact DVs.get (i := i) t (by simpa using e)
theorem DVs.strs {K : PySem.W.Frag} {H : Hp} : ∀ (xs : List Str), DVs K H (xs.map D.str) (xs.map V.str)
  | [] => by unfold DVs; rfl
  | x :: xs => by
    unfold DVs
    exact ⟨_, _, rfl, by unfold DV; rfl, DVs.strs xs⟩
theorem DVs.ints {K : PySem.W.Frag} {H : Hp} : ∀ (xs : List Int), DVs K H (xs.map D.int) (xs.map V.int)
  | [] => by unfold DVs; rfl
  | x :: xs => by
    unfold DVs
    exact ⟨_, _, rfl, by unfold DV; rfl, DVs.ints xs⟩
/-- tuples lie within fewer than n others -/
def DL : Nat → D → Prop
  | 0, _ => False
  | n + 1, .tup xs => xs.length ≤ 1000000 ∧ ∀ x ∈ xs, DL n x
  | _ + 1, _ => True
theorem TyX.ofT {K : PySem.W.Frag} {H : Hp} {a : Addr} {xs : List V} (h : SqT K H a xs) : TyX K H (.ref a) (.type "tuple") := by
  rcases h with (h | ⟨o, h⟩) | ⟨o, _, _, e, c, _⟩
  · exact .base (.tup h)
  · exact .fTuple h
  · exact .kTuple e c
def sp__law_is_int (K : PySem.W.Frag) : Sp := fun vs H Q _ => ∃ i : Int, vs = [.int i] ∧ Q (.bl true) H
/-- of two values with the same data it tells True -/
def sp__law_same (K : PySem.W.Frag) (n : Nat) : Sp := fun vs H Q _ => ∃ (d : D) (v u : V), vs = [v, u] ∧ DV K H d v ∧ DV K H d u ∧ DL n d ∧ Q (.bl true) H

/-! ### texts by their signs -/
open SX (S S_cat S_len S_inj)
theorem S_lst (l : List Nat) : (S l).cps.toList = l := rfl
theorem S_of (x : Str) : x = S x.cps.toList := (SX.S_tl x).symm
theorem S_app (a b : List Nat) : S a ++ S b = S (a ++ b) := S_cat a b
/-- a for over the signs of a text -/
theorem for_str {l : List Nat} {g : TG} {tb : TS} {D : Ends} {σ : St} {H : Hp} (Pv : Nat → St → Hp → Prop) (h0 : Pv 0 σ H)
    (hs : ∀ i c σ H, l[i]? = some c → Pv i σ H → g (.str (S [c])) σ H fun σ2 H2 => tb { D with nx := Pv (i + 1), ct := Pv (i + 1), bk := D.nx } σ2 H2) (hd : ∀ σ H, Pv l.length σ H → D.nx σ H) :
    ∃ W : Nat → Nat → St → Hp → Prop, (∃ m, W 0 m σ H) ∧ ∀ i m σ H, W i m σ H →
      ((Its (S l)).stop i H ∧ D.nx σ H) ∨ ((Its (S l)).go i H ∧ ∃ N : St → Hp → Prop, (∀ σ' H', N σ' H' → ∃ m', m' < m ∧ W (i + 1) m' σ' H') ∧ ∀ x H', (Its (S l)).yld i H x H' → g x σ H' fun σ2 H2 => tb { D with nx := N, ct := N, bk := D.nx } σ2 H2) := by
  refine ⟨fun i m σ H => m = l.length - i ∧ i ≤ l.length ∧ Pv i σ H, ⟨l.length, by simp, Nat.zero_le _, h0⟩, ?_⟩
  rintro i m σ H ⟨rfl, hi, p⟩
  by_cases hlt : i < l.length
  · refine .inr ⟨by show i < l.toArray.size; simpa using hlt, Pv (i + 1), fun σ' H' p' => ⟨l.length - (i + 1), by omega, rfl, hlt, p'⟩, fun x H' y => ?_⟩
    obtain ⟨e, c, hc, y⟩ := y
    subst e y
    exact hs i c σ _ (by simpa using hc) p
  · have e : i = l.length := by omega
    subst e
    exact .inl ⟨by show l.toArray.size ≤ l.length; simp, hd σ H p⟩
/-- a comprehension over the signs of a text -/
theorem lc_str {l : List Nat} {g : TG} {tt : TT} {te : TE} {vs : List Nat} {σ : St} {H1 : Hp} {D : Addr} {Qd : Hp → Prop} (Pv : Nat → Hp → Prop) (h0 : Pv 0 (upd H1 D (.lst [])))
    (hs : ∀ i c H, l[i]? = some c → Pv i H → g (.str (S [c])) (wipe σ vs) H fun σ2 H2 => wipe σ2 vs = wipe σ vs ∧ tt σ2 H2 fun b H3 =>
      if b = true then te σ2 H3 fun y H4 => ∃ acc, H4 D = some (.lst acc) ∧ acc.length < sizeLine ∧ Pv (i + 1) (upd H4 D (.lst (acc ++ [y]))) else Pv (i + 1) H3) (hd : ∀ H, Pv l.length H → Qd H) :
    ∃ W : Nat → Nat → Hp → Prop, (∃ m, W 0 m (upd H1 D (.lst []))) ∧ ∀ i m H, W i m H →
      ((Its (S l)).stop i H ∧ Qd H) ∨ ((Its (S l)).go i H ∧ ∃ Nx : Hp → Prop, (∀ H', Nx H' → ∃ m', m' < m ∧ W (i + 1) m' H') ∧ ∀ x H', (Its (S l)).yld i H x H' → g x (wipe σ vs) H' fun σ2 H2 => wipe σ2 vs = wipe σ vs ∧ tt σ2 H2 fun b H3 =>
        if b = true then te σ2 H3 fun y H4 => ∃ acc, H4 D = some (.lst acc) ∧ acc.length < sizeLine ∧ Nx (upd H4 D (.lst (acc ++ [y]))) else Nx H3) := by
  refine ⟨fun i m H => m = l.length - i ∧ i ≤ l.length ∧ Pv i H, ⟨l.length, by simp, Nat.zero_le _, h0⟩, ?_⟩
  rintro i m H ⟨rfl, hi, p⟩
  by_cases hlt : i < l.length
  · refine .inr ⟨by show i < l.toArray.size; simpa using hlt, Pv (i + 1), fun H' p' => ⟨l.length - (i + 1), by omega, rfl, hlt, p'⟩, fun x H' y => ?_⟩
    obtain ⟨e, c, hc, y⟩ := y
    subst e y
    exact hs i c _ (by simpa using hc) p
  · have e : i = l.length := by omega
    subst e
    exact .inl ⟨by show l.toArray.size ≤ l.length; simp, hd H p⟩
/-- signs of rows -/
def Asc (l : List Nat) : Prop := ∀ x ∈ l, 32 ≤ x ∧ x ≤ 126
theorem Asc.nil : Asc [] := fun _ h => nomatch h
theorem Asc.app {a b : List Nat} (x : Asc a) (y : Asc b) : Asc (a ++ b) := fun c h => (List.mem_append.mp h).elim (x c) (y c)
theorem Asc.by_ {l : List Nat} (h : l.all (fun x => decide (32 ≤ x) && decide (x ≤ 126)) = true) : Asc l := fun x m => by
  have := List.all_eq_true.mp h x m
  simp at this
  exact this
theorem Asc.all128 {l : List Nat} (h : Asc l) : l.all (· < 128) = true := List.all_eq_true.mpr fun x m => decide_eq_true (by have := h x m; omega)
theorem joinNil : ∀ ls : List (List Nat), TL.joinL [] ls = ls.flatten
  | [] => rfl
  | [x] => by simp [TL.joinL]
  | x :: y :: r => by
    have := joinNil (y :: r)
    simp only [TL.joinL] at *
    rw [List.flatten_cons, ← this]
    simp [TL.joinL]
theorem join_nil (ls : List (List Nat)) : Txt.join (S []) (ls.map S) = S ls.flatten := by
  rw [SX.join_S, joinNil]

/-! ### texts, further -/
abbrev tl (x : Str) : List Nat := x.cps.toList
theorem tl_S (l : List Nat) : tl (S l) = l := rfl
theorem S_tl (x : Str) : S (tl x) = x := rfl
theorem tl_app (x y : Str) : tl (x ++ y) = tl x ++ tl y := TL.tl_append x y
theorem tl_len (x : Str) : x.length = (tl x).length := by show x.cps.size = x.cps.toList.length; simp
theorem tl_ext {x y : Str} (h : tl x = tl y) : x = y := TL.ext_tl h
theorem at_str {x : Str} {i : Int} (h0 : 0 ≤ i) (h1 : i < (x.length : Int)) : ∃ c, x.cps[i.toNat]? = some c ∧ (tl x)[i.toNat]? = some c ∧ c ∈ tl x := by
  have h : i.toNat < (tl x).length := by rw [← tl_len]; omega
  refine ⟨(tl x)[i.toNat], ?_, List.getElem?_eq_getElem h, List.getElem_mem h⟩
  have := List.getElem?_eq_getElem h
  rw [← this]; simp [tl]
/-- small letters and digits -/
def Low (l : List Nat) : Prop := ∀ x ∈ l, (97 ≤ x ∧ x ≤ 122) ∨ (48 ≤ x ∧ x ≤ 57)
theorem Low.nil : Low [] := fun _ h => nomatch h
theorem Low.app {a b : List Nat} (x : Low a) (y : Low b) : Low (a ++ b) := fun c h => (List.mem_append.mp h).elim (x c) (y c)
theorem Low.asc {a : List Nat} (x : Low a) : Asc a := fun c h => by have := x c h; omega
theorem low_num (n : Nat) : Low (TL.numL n) := fun c h => .inr (by have := TL.numL_digits n c h; omega)
theorem num_len : ∀ n : Nat, (TL.numL n).length ≤ n + 1 := fun n => by
  induction n using Nat.strongRecOn with
  | ind n ih =>
    by_cases h : n < 10
    · rw [TL.numL_lt h]; simp
    · rw [TL.numL_step (by omega), List.length_append]
      have := ih (n / 10) (by omega)
      simp; omega
/-- a name: a letter, then letters and digits -/
def Nm (l : List Nat) : Prop := (∃ c r, l = c :: r ∧ 97 ≤ c ∧ c ≤ 122) ∧ Low l
theorem Nm.app {a b : List Nat} (x : Nm a) (y : Low b) : Nm (a ++ b) := by
  obtain ⟨⟨c, r, e, h⟩, l⟩ := x
  exact ⟨⟨c, r ++ b, by rw [e]; rfl, h⟩, l.app y⟩
theorem flat_strs (xs : List Str) : (xs.map V.str).all flatV = true := List.all_eq_true.mpr fun x h => by
  obtain ⟨y, _, rfl⟩ := List.mem_map.mp h; rfl
theorem inV_strs (x : Str) (xs : List Str) : inV (V.str x) (xs.map V.str) = decide (x ∈ xs) := by
  unfold inV
  induction xs with
  | nil => rfl
  | cons y ys ih =>
    rw [List.map_cons, List.any_cons, ih]
    by_cases e : x = y
    · subst e; simp [eqV]
    · have : ¬ y = x := fun h => e h.symm
      simp [eqV, e, this]
def sp__law_new_name (K : PySem.W.Frag) : Sp := fun vs H Q _ => ∃ (s a u : Addr) (us : List Str) (c : Nat), vs = [.ref s, .ref u] ∧ SqL K H u (us.map V.str) ∧ u ≠ s ∧ us.length ≤ 60 ∧ Src H s a (c + 8) ∧
  ∀ (x : Str) (H' : Hp), Nm (tl x) → (tl x).length ≤ 70 → Ext s H H' → Src H' s a c → Q (.str x) H'
def sp__law_names (K : PySem.W.Frag) : Sp := fun vs H Q _ => ∃ (s a : Addr) (m c : Nat), vs = [.ref s, .int m] ∧ m ≤ 60 ∧ Src H s a (c + 8 * m) ∧
  ∀ (u : Addr) (us : List Str) (H' : Hp), H u = none → H' u = some (.lst (us.map V.str)) → us.length = m → (∀ x ∈ us, Nm (tl x) ∧ (tl x).length ≤ 70) → Ext s H H' → Src H' s a c → Q (.ref u) H'
def sp__law_row : Sp := fun vs H Q _ => ∃ (s a : Addr) (m : Int) (c : Nat), vs = [.ref s, .int m] ∧ 0 ≤ m ∧ m ≤ 1000 ∧ Src H s a (c + m.toNat) ∧
  ∀ (x : Str) (H' : Hp), Asc (tl x) → (tl x).length = m.toNat → Ext s H H' → Src H' s a c → Q (.str x) H'

/-! ### rules that name the written part themselves (for the blocks of comprehensions) -/
section
variable {X : Cx} {K : PySem.W.Frag}
/-- len of a text -/
theorem call_lenS : CallR X (.builtin "len") (fun xs H Q => ∃ x : Str, xs = [.str x] ∧ x.length ≤ sizeLine ∧ Q (.int x.length) H) := by
  intro pins s σ H xs us Q I r h
  obtain ⟨x, e, hl, q⟩ := h
  exact call_len pins s σ H xs us Q I r ⟨.str x, x.length, e, ⟨hl, rfl⟩, q⟩
theorem call_lenQ (h : X.K = K) : CallR X (.builtin "len") (fun xs H Q => ∃ p ys, xs = [.ref p] ∧ (SqL K H p ys ∨ SqT K H p ys) ∧ Q (.int ys.length) H) := by
  subst h; exact call_len_seq
theorem ix_listQ (h : X.K = K) : IxR X (rIxL K) := by subst h; exact ix_list
theorem ix_tupQ (h : X.K = K) : IxR X (rIxT K) := by subst h; exact ix_tup
theorem in_seqQ (h : X.K = K) : OpR X (compareOp .In) (rIn K false) := by subst h; exact op_in_seq
theorem notIn_seqQ (h : X.K = K) : OpR X (compareOp .NotIn) (rIn K true) := by subst h; exact op_notIn_seq
theorem isiQ (h : X.K = K) : CallR X (.builtin "isinstance") (rIsi K) := by subst h; exact call_isi
end

/-- texts of one sign each -/
def Ones (p : Nat → Prop) (xs : List Str) : Prop := ∀ x ∈ xs, ∃ c, tl x = [c] ∧ p c
theorem Ones.tail {p : Nat → Prop} {x : Str} {xs : List Str} (h : Ones p (x :: xs)) : Ones p xs := fun y m => h y (List.mem_cons_of_mem _ m)
theorem ones_len {p : Nat → Prop} : ∀ {xs : List Str}, (∀ x ∈ xs, ∃ c, tl x = [c] ∧ p c) → (xs.map (·.length)).sum = xs.length
  | [], _ => rfl
  | x :: xs, h => by
    obtain ⟨c, e, _⟩ := h x List.mem_cons_self
    have : x.length = 1 := by rw [tl_len, e]; rfl
    rw [List.map_cons, List.sum_cons, ones_len (Ones.tail h), List.length_cons, this]
    omega
/-- their only signs -/
def heads (xs : List Str) : List Nat := xs.map fun x => (tl x).headD 0
theorem tl_join0 (xs : List Str) : tl (Txt.join (S []) xs) = (xs.map tl).flatten := by
  have e : xs = (xs.map tl).map S := by rw [List.map_map]; exact (List.map_id _).symm
  have h := join_nil (xs.map tl)
  rw [← e] at h
  show tl (Txt.join (S []) xs) = _
  rw [h]
theorem ones_join {p : Nat → Prop} {xs : List Str} (h : ∀ x ∈ xs, ∃ c, tl x = [c] ∧ p c) : tl (Txt.join (S []) xs) = heads xs := by
  rw [tl_join0]
  induction xs with
  | nil => rfl
  | cons x xs ih =>
    obtain ⟨c, e, _⟩ := h x List.mem_cons_self
    rw [List.map_cons, List.flatten_cons, ih (Ones.tail h), e]
    show c :: heads xs = (tl x).headD 0 :: heads xs
    rw [e]; rfl
theorem ones_all {p : Nat → Prop} {xs : List Str} (h : ∀ x ∈ xs, ∃ c, tl x = [c] ∧ p c) : ∀ c ∈ heads xs, p c := fun c m => by
  obtain ⟨x, hx, e⟩ := List.mem_map.mp m
  obtain ⟨d, e2, hd⟩ := h x hx
  rw [e2] at e
  have : d = c := e
  rw [← this]; exact hd
theorem str0 : Str.ofString "" = S [] := rfl
theorem ones_room {p : Nat → Prop} {xs : List Str} (h : ∀ x ∈ xs, ∃ c, tl x = [c] ∧ p c) : (xs.map (·.length)).sum + xs.length * (Str.ofString "").length = xs.length := by
  rw [ones_len h]; show xs.length + xs.length * 0 = xs.length; omega
theorem ones_joinE {p : Nat → Prop} {xs : List Str} (h : ∀ x ∈ xs, ∃ c, tl x = [c] ∧ p c) : tl (Txt.join (Str.ofString "") xs) = heads xs := ones_join h
theorem ones_asc {xs : List Str} (h : ∀ x ∈ xs, ∃ c, tl x = [c] ∧ 32 ≤ c ∧ c ≤ 126) : Asc (heads xs) := fun c m => ones_all (p := fun c => 32 ≤ c ∧ c ≤ 126) h c m
theorem heads_len (xs : List Str) : (heads xs).length = xs.length := List.length_map _

theorem alpha_mem {c : Nat} (h : c ∈ tl (Str.ofString "abcdefghijklmnopqrstuvwxyz")) : 97 ≤ c ∧ c ≤ 122 := by
  have : (tl (Str.ofString "abcdefghijklmnopqrstuvwxyz")).all (fun c => decide (97 ≤ c) && decide (c ≤ 122)) = true := by decide +kernel
  have := List.all_eq_true.mp this c h
  simp at this; exact this
theorem low_mem {c : Nat} (h : c ∈ tl (Str.ofString "abcdefghijklmnopqrstuvwxyz" ++ Str.ofString "0123456789")) : (97 ≤ c ∧ c ≤ 122) ∨ (48 ≤ c ∧ c ≤ 57) := by
  rw [tl_app] at h
  have : (tl (Str.ofString "abcdefghijklmnopqrstuvwxyz") ++ tl (Str.ofString "0123456789")).all (fun c => (decide (97 ≤ c) && decide (c ≤ 122)) || (decide (48 ≤ c) && decide (c ≤ 57))) = true := by decide +kernel
  have := List.all_eq_true.mp this c h
  simp at this; exact this

theorem log_small {i : Nat} (h : i ≤ 1000000) : (Int.natAbs (0 + (i : Int))).log2 < 1920 := by
  rw [Int.zero_add, Int.natAbs_natCast]
  by_cases e : i = 0
  · subst e; decide
  · rw [Nat.log2_lt e]
    exact Nat.lt_of_le_of_lt h (Nat.lt_of_lt_of_le (by decide : 1000000 < 2 ^ 20) (Nat.pow_le_pow_right (by decide) (by decide)))

theorem fold_take {α β : Type} {f : β → α → β} {a : β} {l : List α} {i : Nat} {c : α} (h : l[i]? = some c) : (l.take (i + 1)).foldl f a = f ((l.take i).foldl f a) c := by
  rw [List.take_add_one, h, List.foldl_append]
  rfl
theorem fold_all {α β : Type} {f : β → α → β} {a : β} {l : List α} : (l.take l.length).foldl f a = l.foldl f a := by rw [List.take_length]
theorem in_abc {c : Nat} : decide (c ∈ (Str.ofString "abcdefghijklmnopqrstuvwxyz").cps.toList) = (decide (97 ≤ c) && decide (c ≤ 122)) := by
  have e : (Str.ofString "abcdefghijklmnopqrstuvwxyz").cps.toList = List.range' 97 26 := by decide +kernel
  rw [e, Bool.eq_iff_iff, decide_eq_true_iff, List.mem_range'_1]
  simp only [Bool.and_eq_true, decide_eq_true_eq]
  omega
theorem in_ABC {c : Nat} : decide (c ∈ (Str.ofString "ABCDEFGHIJKLMNOPQRSTUVWXYZ").cps.toList) = (decide (65 ≤ c) && decide (c ≤ 90)) := by
  have e : (Str.ofString "ABCDEFGHIJKLMNOPQRSTUVWXYZ").cps.toList = List.range' 65 26 := by decide +kernel
  rw [e, Bool.eq_iff_iff, decide_eq_true_iff, List.mem_range'_1]
  simp only [Bool.and_eq_true, decide_eq_true_eq]
  omega
theorem in_012 {c : Nat} : decide (c ∈ (Str.ofString "0123456789").cps.toList) = (decide (48 ≤ c) && decide (c ≤ 57)) := by
  have e : (Str.ofString "0123456789").cps.toList = List.range' 48 10 := by decide +kernel
  rw [e, Bool.eq_iff_iff, decide_eq_true_iff, List.mem_range'_1]
  simp only [Bool.and_eq_true, decide_eq_true_eq]
  omega
theorem in_abc012 {c : Nat} : decide (c ∈ (Str.ofString "abcdefghijklmnopqrstuvwxyz0123456789").cps.toList) = ((decide (97 ≤ c) && decide (c ≤ 122)) || (decide (48 ≤ c) && decide (c ≤ 57))) := by
  have e : (Str.ofString "abcdefghijklmnopqrstuvwxyz0123456789").cps.toList = List.range' 97 26 ++ List.range' 48 10 := by decide +kernel
  rw [e, Bool.eq_iff_iff, decide_eq_true_iff, List.mem_append, List.mem_range'_1, List.mem_range'_1]
  simp only [Bool.and_eq_true, Bool.or_eq_true, decide_eq_true_eq]
  omega
/-- literal texts -/
theorem tl_mapS (ws : List Str) : (ws.map tl).map S = ws := by rw [List.map_map]; exact List.map_id _

theorem strs_at (zs : List Str) {v : Int} (h0 : 0 ≤ v) (h1 : v < (zs.length : Int)) : ∃ z, z ∈ zs ∧ atI (zs.map V.str) v = some (.str z) := by
  have h : v.toNat < zs.length := by omega
  exact ⟨zs[v.toNat], List.getElem_mem h, at_of (j := v.toNat) (by omega) (by rw [List.getElem?_map, List.getElem?_eq_getElem h]; rfl)⟩
theorem tl_upper {x : Str} (h : Asc (tl x)) : tl (Txt.upper x) = (tl x).map PyProof.Rows.up1 := congrArg tl (SX.upper_S (a := tl x) h.all128)
theorem asc_upper {x : Str} (h : Asc (tl x)) : Asc (tl (Txt.upper x)) := by
  rw [tl_upper h]
  intro c hc
  obtain ⟨d, hd, e⟩ := List.mem_map.mp hc
  have := h d hd
  unfold PyProof.Rows.up1 at e
  split at e <;> omega
theorem len_upper {x : Str} (h : Asc (tl x)) : (tl (Txt.upper x)).length = (tl x).length := by rw [tl_upper h, List.length_map]
theorem DL.strs {n : Nat} (xs : List Str) (h : xs.length ≤ 1000000) : DL (n + 2) (.tup (xs.map D.str)) := ⟨by rw [List.length_map]; exact h, fun d m => by obtain ⟨x, _, rfl⟩ := List.mem_map.mp m; exact True.intro⟩
theorem DV.strs {K : PySem.W.Frag} {H : Hp} {p : Addr} {xs : List Str} (h : H p = some (.tup (xs.map V.str))) : DV K H (.tup (xs.map D.str)) (.ref p) := by
  unfold DV
  exact ⟨p, _, rfl, SqT.of h, DVs.strs xs⟩
def sp_law (K : PySem.W.Frag) : Sp := fun vs H Q _ => ∃ (a : Addr) (ns : List Int), vs = [.ref a] ∧ SqL K H a (ns.map V.int) ∧ ns.length ≤ 63 ∧ ∀ H', Q (.bl true) H'
end Z
namespace Z
open PySem L2 SX
/-! ### cuts -/
theorem sIx_pos {n d : Nat} {i : Int} (h : 0 ≤ i) : HT.sIx n d (some i) = min i.toNat n := by
  obtain ⟨k, rfl⟩ := Int.eq_ofNat_of_zero_le h
  rw [HT.sIx_nat]; rfl
theorem cutS_to {z : Str} {i : Int} (h : 0 ≤ i) : tl (cutS z none (some i)) = (tl z).take i.toNat := by
  show ((tl z).drop 0).take (HT.sIx z.length z.length (some i) - 0) = _
  rw [sIx_pos h, List.drop_zero, Nat.sub_zero, tl_len]
  by_cases e : i.toNat ≤ (tl z).length
  · rw [Nat.min_eq_left e]
  · rw [Nat.min_eq_right (by omega), List.take_length, List.take_of_length_le (by omega)]
theorem cutS_from {z : Str} {i : Int} (h : 0 ≤ i) : tl (cutS z (some i) none) = (tl z).drop i.toNat := by
  show ((tl z).drop (HT.sIx z.length 0 (some i))).take (z.length - HT.sIx z.length 0 (some i)) = _
  rw [sIx_pos h, tl_len]
  by_cases e : i.toNat ≤ (tl z).length
  · rw [Nat.min_eq_left e, List.take_of_length_le (by rw [List.length_drop]; omega)]
  · rw [Nat.min_eq_right (by omega), List.drop_of_length_le (l := tl z) (i := i.toNat) (by omega), List.drop_of_length_le (Nat.le_refl _), List.take_nil]
theorem cutS_mid {z : Str} {i j : Int} (h : 0 ≤ i) (h2 : 0 ≤ j) : tl (cutS z (some i) (some j)) = ((tl z).drop i.toNat).take (j.toNat - i.toNat) := by
  show ((tl z).drop (HT.sIx z.length 0 (some i))).take (HT.sIx z.length z.length (some j) - HT.sIx z.length 0 (some i)) = _
  rw [sIx_pos h, sIx_pos h2, tl_len]
  by_cases e : i.toNat ≤ (tl z).length
  · rw [Nat.min_eq_left e]
    by_cases f : j.toNat ≤ (tl z).length
    · rw [Nat.min_eq_left f]
    · rw [Nat.min_eq_right (by omega), List.take_of_length_le (by rw [List.length_drop]; omega), List.take_of_length_le (by rw [List.length_drop]; omega)]
  · rw [Nat.min_eq_right (a := i.toNat) (by omega), List.drop_of_length_le (Nat.le_refl _), List.drop_of_length_le (l := tl z) (i := i.toNat) (by omega)]; simp
theorem cutV_to {xs : List V} {i : Int} (h : 0 ≤ i) : cutV xs none (some i) = xs.take i.toNat := by
  show ((xs.drop 0).take (HT.sIx xs.length xs.length (some i) - 0)) = _
  rw [sIx_pos h, List.drop_zero, Nat.sub_zero]
  by_cases e : i.toNat ≤ xs.length
  · rw [Nat.min_eq_left e]
  · rw [Nat.min_eq_right (by omega), List.take_length, List.take_of_length_le (by omega)]
theorem cutV_from {xs : List V} {i : Int} (h : 0 ≤ i) : cutV xs (some i) none = xs.drop i.toNat := by
  show ((xs.drop (HT.sIx xs.length 0 (some i))).take (xs.length - HT.sIx xs.length 0 (some i))) = _
  rw [sIx_pos h]
  by_cases e : i.toNat ≤ xs.length
  · rw [Nat.min_eq_left e, List.take_of_length_le (by rw [List.length_drop]; omega)]
  · rw [Nat.min_eq_right (by omega), List.drop_of_length_le (l := xs) (i := i.toNat) (by omega), List.drop_of_length_le (Nat.le_refl _), List.take_nil]
/-- the text k times -/
def rep (k : Nat) (l : List Nat) : List Nat := (List.replicate k l).flatten
theorem rep_fold (x : Array Nat) : ∀ (k : Nat) (a : Array Nat), ((List.replicate k x).foldl (· ++ ·) a).toList = a.toList ++ rep k x.toList
  | 0, a => by simp [rep]
  | k + 1, a => by
    rw [List.replicate_succ, List.foldl_cons, rep_fold x k]
    simp [rep, List.replicate_succ]
theorem rep_len (k : Nat) (l : List Nat) : (rep k l).length = k * l.length := by
  induction k with
  | zero => simp [rep]
  | succ k ih => unfold rep at *; rw [List.replicate_succ, List.flatten_cons, List.length_append, ih, Nat.succ_mul]; omega
theorem rep_mem {k : Nat} {l : List Nat} {c : Nat} (h : c ∈ rep k l) : c ∈ l := by
  obtain ⟨x, hx, hc⟩ := List.mem_flatten.mp h
  rw [(List.mem_replicate.mp hx).2] at hc; exact hc
section
variable {X : Cx}
/-- s * k -/
theorem op_mul_str : OpR X (binaryOp .Mult) (fun x y H Q => ∃ (z : Str) (k : Int), x = .str z ∧ y = .int k ∧ k ≤ 100000 ∧ (-100000 ≤ k) ∧ (tl z).length * k.toNat ≤ 10000000 ∧ ∀ r : Str, tl r = rep k.toNat (tl z) → Q (.str r) H) := by
  intro pins s σ H x y v u Q I rx ry h
  obtain ⟨z, k, rfl, rfl, h1, h0, hz, q⟩ := h
  obtain ⟨t, rfl⟩ := rx
  obtain ⟨t', rfl⟩ := ry
  have hz' : z.length * k.toNat ≤ 10000000 := by rw [tl_len]; exact hz
  have small := PyProof.Rows.short24 (n := z.length * k.toNat) (Nat.le_trans hz' (by decide))
  refine P.mul_str ?_ (fun a b => ?_) (fun _ _ => small) ?_
  · rw [decide_eq_false (by omega), decide_eq_false (by omega)]; rfl
  · have hk : 1 ≤ k := by omega
    have hm : (z.length : Int) * k ≤ 10000000 := by
      have : ((z.length * k.toNat : Nat) : Int) ≤ 10000000 := by omega
      rw [Int.natCast_mul, Int.toNat_of_nonneg (by omega)] at this; exact this
    have hle : (z.length : Int) ≤ (2 ^ 63 - 1) / k := by
      rw [Int.le_ediv_iff_mul_le (by omega)]
      exact Int.le_trans hm (by decide)
    omega
  · by_cases hk : k < 1
    · rw [if_pos hk]
      refine ⟨by decide, ?_⟩
      exact ⟨.str Str.empty, H, I.tok _, ⟨_, rfl⟩, q _ (by rw [show k.toNat = 0 by omega]; rfl)⟩
    · rw [if_neg hk]
      by_cases hb : (k == 1 || z.length == 0) = true
      · rw [if_pos hb]
        refine ⟨.str z, H, I, ⟨_, rfl⟩, q _ ?_⟩
        rw [Bool.or_eq_true] at hb
        rcases hb with e | e
        · have : k = 1 := by simpa using e
          subst this; simp [rep]
        · have e : z.length = 0 := by simpa using e
          rw [tl_len] at e
          have : tl z = [] := List.length_eq_zero_iff.mp e
          rw [this]
          exact (List.length_eq_zero_iff.mp (by rw [rep_len]; rfl)).symm
      · rw [if_neg hb]
        have hr : tl (⟨(List.replicate k.toNat z.cps).foldl (· ++ ·) #[]⟩ : Str) = rep k.toNat (tl z) := by
          show ((List.replicate k.toNat z.cps).foldl (· ++ ·) #[]).toList = _
          rw [rep_fold]; simp [tl]
        refine ⟨?_, ?_⟩
        · rw [tl_len, hr, rep_len, Nat.mul_comm]
          exact Nat.le_trans hz (by decide)
        · exact ⟨.str _, H, I.tok _, ⟨_, rfl⟩, q _ hr⟩
end
section
variable {X : Cx} {K : PySem.W.Frag}
/-- t + u, of tuples -/
theorem op_cat (hK : X.K = K) : OpR X (binaryOp .Add) (fun x y H Q => ∃ a b xs ys, x = .ref a ∧ y = .ref b ∧ SqT K H a xs ∧ SqT K H b ys ∧ xs.length + ys.length ≤ sizeLine ∧
    ∀ p H', Same H H' → SqT K H' p (xs ++ ys) → Q (.ref p) H') := by
  subst hK
  intro pins s σ H x y v u Q I rx ry h
  obtain ⟨a, b, xs, ys, e1, e2, ha, hb, hz, q⟩ := h
  refine op_catA pins s σ H x y v u Q I rx ry ⟨a, b, xs, ys, e1, e2, ha, hb, hz, fun e => ?_, fun _ e => ?_, fun _ _ p hp => q p _ (same_new hp) (SqT.of upd_same)⟩
  · subst e; exact q b H (Same.refl _) hb
  · subst e; exact q a H (Same.refl _) (by rw [List.append_nil]; exact ha)
/-- t[lo:hi] of a tuple -/
theorem sl_tupS (hK : X.K = K) : SlR X (fun x lo hi H Q => ∃ a xs, x = .ref a ∧ SqT K H a xs ∧ ∀ p H', Same H H' → SqT K H' p (cutV xs lo hi) → Q (.ref p) H') := by
  subst hK
  intro pins s σ H x v vl vu lo hi sl Q I rx hs pl pu h
  obtain ⟨a, xs, e, hx, q⟩ := h
  refine sl_tupA pins s σ H x v vl vu lo hi sl Q I rx hs pl pu ⟨a, xs, e, hx, fun hw => q a H (Same.refl _) ?_, fun _ p hp => q p _ (same_new hp) (SqT.of upd_same)⟩
  have : cutV xs lo hi = xs := by
    show (xs.drop (HT.sIx xs.length 0 lo)).take (HT.sIx xs.length xs.length hi - HT.sIx xs.length 0 lo) = xs
    rw [hw.1, hw.2, List.drop_zero, Nat.sub_zero, List.take_length]
  rw [this]; exact hx
end
theorem _root_.L2.Same.tup {K : PySem.W.Frag} {H H' : Hp} {a : Addr} {xs : List V} (e : Same H H') (h : SqT K H a xs) : SqT K H' a xs := by
  rcases h with (h | ⟨o, h⟩) | h
  · exact .inl (.inl (e _ _ h))
  · exact .inl (.inr ⟨o, e _ _ h⟩)
  · exact .inr h

/-- a comprehension over a range that makes texts by draws (at most d of them for each) -/
theorem lc_strs {j n d : Nat} {te : TE} {vs : List Nat} {σ : St} {H : Hp} {D s a : Addr} {c : Nat} {Qd : Hp → Prop} (p : Str → Prop) (hD : H D = none) (hS : Src H s a (c + n * d)) (hn : n ≤ 100000)
    (hw : ∀ i : Nat, wipe ((wipe σ vs).set j (some (.int (0 + (i : Int))))) vs = wipe σ vs)
    (hs : ∀ (i c' : Nat) (H1 : Hp) (R : VK), i < n → Ext s H H1 → Src H1 s a (c' + d) → (∀ (x : Str) (H2 : Hp), p x → Ext s H1 H2 → Src H2 s a c' → R (.str x) H2) → te ((wipe σ vs).set j (some (.int (0 + (i : Int))))) H1 R)
    (hd : ∀ (xs : List Str) (H' : Hp), H' D = some (.lst (xs.map V.str)) → xs.length = n → (∀ x ∈ xs, p x) → Ext s H H' → Src H' s a c → Qd H') :
    ∃ W : Nat → Nat → Hp → Prop, (∃ m, W 0 m (upd H D (.lst []))) ∧ ∀ i m H, W i m H →
      ((Itr 0 n).stop i H ∧ Qd H) ∨ ((Itr 0 n).go i H ∧ ∃ Nx : Hp → Prop, (∀ H', Nx H' → ∃ m', m' < m ∧ W (i + 1) m' H') ∧ ∀ x H', (Itr 0 n).yld i H x H' → gName j x (wipe σ vs) H' fun σ2 H2 => wipe σ2 vs = wipe σ vs ∧ tYes σ2 H2 fun b H3 =>
        if b = true then te σ2 H3 fun y H4 => ∃ acc, H4 D = some (.lst acc) ∧ acc.length < sizeLine ∧ Nx (upd H4 D (.lst (acc ++ [y]))) else Nx H3) := by
  have Ds : D ≠ s := hS.ne hD
  have Da : D ≠ a := hS.nea hD
  refine lc_range (lo := 0) (n := n) (fun i H' => ∃ xs : List Str, H' D = some (.lst (xs.map V.str)) ∧ xs.length = i ∧ (∀ x ∈ xs, p x) ∧ Ext s H H' ∧ Src H' s a (c + (n - i) * d)) ?_ ?_ ?_
  · exact ⟨[], upd_same, rfl, (fun _ h => by cases h), Ext.new hD, (hS.new hD).mono (by simp)⟩
  · rintro i H' hi ⟨xs, hx, hl, hA, hE, hS'⟩
    refine ⟨hw i, ?_⟩
    show te _ H' _
    have e : c + (n - i) * d = c + (n - (i + 1)) * d + d := by
      rw [show n - i = n - (i + 1) + 1 by omega, Nat.succ_mul]; omega
    refine hs i (c + (n - (i + 1)) * d) H' _ hi hE (by rw [← e]; exact hS') (fun x H2 hp hE2 hS2 => ?_)
    refine ⟨xs.map V.str, hE2 _ _ Ds hx, ?_, xs ++ [x], by rw [upd_same, List.map_append]; rfl, by rw [List.length_append]; simp [hl], fun y hy => ?_, ?_, hS2.put Ds Da⟩
    · rw [List.length_map]; exact Nat.lt_of_lt_of_le (show xs.length < 100000 by omega) (by decide)
    · rcases List.mem_append.mp hy with h | h
      · exact hA y h
      · rw [List.mem_singleton.mp h]; exact hp
    · intro b o hb hH
      rw [upd_ne (ne_of_none hH hD)]; exact hE2 _ _ hb (hE _ _ hb hH)
  · rintro H' ⟨xs, hx, hl, hA, hE, hS'⟩
    exact hd xs H' hx hl hA hE (hS'.mono (by omega))
theorem atI_pos {α : Type} {xs : List α} {v : Int} {x : α} (h0 : 0 ≤ v) (h : xs[v.toNat]? = some x) : atI xs v = some x := by
  have e : v = (v.toNat : Int) := by omega
  rw [e]; exact atI_nat h
/-- any item of a list of texts -/
def sp__law_pick (K : PySem.W.Frag) : Sp := fun vs H Q _ =>
  (∃ (s a r : Addr) (xs : List V) (c : Nat), vs = [.ref s, .ref r] ∧ SqL K H r xs ∧ r ≠ s ∧ xs ≠ [] ∧ xs.length ≤ 100000 ∧ Src H s a (c + 1) ∧ ∀ (v : V) (H' : Hp), v ∈ xs → Ext s H H' → Src H' s a c → Q v H') ∨
  (∃ (s a : Addr) (x : Str) (c : Nat), vs = [.ref s, .str x] ∧ tl x ≠ [] ∧ (tl x).length ≤ 100000 ∧ Src H s a (c + 1) ∧ ∀ (ch : Nat) (H' : Hp), ch ∈ tl x → Ext s H H' → Src H' s a c → Q (.str (S [ch])) H')
def sp__law_once_in : Sp := fun vs H Q _ => ∃ (s a : Addr) (m : Int) (c : Nat), vs = [.ref s, .int m] ∧ 0 < m ∧ m < 1073741824 ∧ Src H s a (c + 1) ∧ ∀ (b : Bool) (H' : Hp), Ext s H H' → Src H' s a c → Q (.bl b) H'
end Z
namespace Z
open PySem L2
/-! ### own errors: raised, caught, asked -/
section
variable (P : Program) (w : World) (K : PySem.W.Frag) (mg : Str → Option Value) (base : Heap)
/-- a def that may raise, as callers use it -/
def CalX (x : Str) (ps : List Str) (k : Nat) (sp : Sp) : Prop := ∃ (f : Addr) (fd : FuncData), FnOk P w K mg base (L2.CX P w) k f fd ps sp ∧ mg x = some (.ref f) ∧ PySem.W.keepIn K (.ref f) = true ∧ Binds K fd ps []
end
/-- an own error class with an __init__ of its own (at fI) -/
structure XOk (K : PySem.W.Frag) (mg : Str → Option Value) (x : Str) (C : Addr) : Prop where
  g : mg x = some (.ref C)
  o : OexC K C
  e : ExcC K C
theorem XOk.xf {K : PySem.W.Frag} {mg : Str → Option Value} {x : Str} {C : Addr} (T : XOk K mg x C) : XfC K C := ⟨T.e.hg, T.e.hk, T.e.hs, T.e.hd⟩
/-- the class's __init__(self, f): self.f = f -/
def sp_init (K : PySem.W.Frag) (C : Addr) (f : Str) : Sp := fun vs H Q _ => ∃ (a : Addr) (v : V), vs = [.ref a, v] ∧ OexC K C ∧ PySem.W.findIn K (.ref C) f = some none ∧ H a = some (exo a C none) ∧
  ∀ dx, H dx = none → dx ≠ a → Q .non (upd (upd H dx (exd dx [(f, v)])) a (exo a C (some dx)))
/-- isinstance(e, c), e the caught error at a -/
def rIsX (K : PySem.W.Frag) (cls : Value) (d : Option Addr) (a : Addr) : List V → Hp → VK → Prop := fun xs H Q => ∃ (D dd : Addr) (c : V) (cv : Value) (b : Bool) (fs : List (Str × V)), cls = .ref D ∧ d = some dd ∧ ExcC K D ∧ xs = [.ref a, c] ∧ H dd = some (.xd fs) ∧ ClsV c cv ∧
  PySem.W.kitOne K cls cv = some b ∧ Q (.bl b) H
def rIsXT (K : PySem.W.Frag) (cls : Value) (d : Option Addr) (a : Addr) : List V → Hp → VK → Prop := fun xs H Q => ∃ (D dd tp : Addr) (cs : List V) (us : List Value) (b : Bool) (fs : List (Str × V)), cls = .ref D ∧ d = some dd ∧ ExcC K D ∧ xs = [.ref a, .ref tp] ∧ H dd = some (.xd fs) ∧
  H tp = some (.tup cs) ∧ Paired ClsV cs us ∧ PySem.W.kitAny K cls us = some b ∧ Q (.bl b) H
section
variable {X : Cx} {a : Addr} {oe : Obj} {cls : Value} {d : Option Addr} {pn : List (Addr × Obj)}
theorem inst_at {pins : List (Addr × Obj)} {σ : St} {H : Hp} {s : Shared} {D dd : Addr} {fs : List (Str × V)} (I : Inv (X.suite a ((a, oe) :: pn)) pins σ H s) (hz : Zc (.ref D) (some dd) oe) (hf : ∃ vs, oe.data = .fields vs) (hd : H dd = some (.xd fs)) :
    ∃ od, PySem.W.InstAt s.heap a oe D (some od) := by
  obtain ⟨hget, _⟩ := I.pin (a, oe) (List.mem_append.mpr (.inl List.mem_cons_self))
  obtain ⟨vs, hv⟩ := hf
  have hx : ObjOk X.prog X.w H s.heap dd (.xd fs) := I.hok dd _ hd
  obtain ⟨mA, hns, hr⟩ := hx
  obtain ⟨od, ho, hl⟩ := lookIn_ns hns
  exact ⟨od, ⟨hget, hz.1, by unfold PySem.W.notCls; rw [hv] <;> rfl, by rw [hz.2]; exact ho⟩⟩
theorem kitx_D {K : PySem.W.Frag} {D x : Addr} {ox : Obj} {od : Option Obj} (C : ExcC K D) : PySem.W.KitX K (.ref x) (.ref D) (fun h => PySem.W.InstAt h x ox D od) := by
  refine PySem.W.kitx_exc ?_ C.hg C.hk C.hs C.ha C.hn C.ht C.hm
  have h := C.hd
  obtain ⟨cd, hc, _⟩ := PySem.W.any_some h
  rw [hc]; rfl
theorem call_isX (hz : Zc cls d oe) (hf : ∃ vs, oe.data = .fields vs) : CallR (X.suite a ((a, oe) :: pn)) (.builtin "isinstance") (rIsX X.K cls d a) := by
  intro pins s σ H xs us Q I r h
  obtain ⟨D, dd, c, cv, b, fs, rfl, rfl, C, rfl, hd, k, e, q⟩ := h
  obtain ⟨u1, u2, rfl, r1, r2⟩ := vals2 r
  have e2 := k.eq r2
  subst e2
  obtain rfl : u1 = Value.ref a := r1
  obtain ⟨od, J⟩ := inst_at I hz hf hd
  exact PySem.W.kia_one (kitx_D C) I.kIn J e (fun z => nomatch z) fun tk => ⟨.bl b, H, I.kept (t' := tk) fun _ _ z => z, rfl, q⟩
theorem call_isXT (hz : Zc cls d oe) (hf : ∃ vs, oe.data = .fields vs) : CallR (X.suite a ((a, oe) :: pn)) (.builtin "isinstance") (rIsXT X.K cls d a) := by
  intro pins s σ H xs us Q I r h
  obtain ⟨D, dd, tp, cs, ws, b, fs, rfl, rfl, C, rfl, hd, hT, k, e, q⟩ := h
  obtain ⟨u1, u2, rfl, r1, r2⟩ := vals2 r
  obtain rfl : u2 = Value.ref tp := r2
  obtain rfl : u1 = Value.ref a := r1
  obtain ⟨od, J⟩ := inst_at I hz hf hd
  obtain ⟨_, its, rv, o, h1, h2, n, h3⟩ := (show ObjOk X.prog X.w H s.heap tp (.tup cs) from I.hok tp _ hT)
  have e3 := ClsV.all k rv
  subst e3
  obtain ⟨oc, od', dt, sl⟩ := o
  simp only at h2 h3
  subst h2 h3
  exact PySem.W.kia_tup (kitx_D C) I.kIn J h1 e (fun z => nomatch z) fun tk => ⟨.bl b, H, I.kept (t' := tk) fun _ _ z => z, rfl, q⟩
end
/-- the heap behind a made error -/
theorem made_same {H : Hp} {a dx : Addr} {o1 o2 o3 o4 : HO} (ha : H a = none) (hd : H dx = none) : Same H (upd (del (upd (upd (upd H a o1) dx o2) a o3) a) dx o4) := fun b u h => by
  rw [upd_ne (ne_of_none h hd), del_ne (ne_of_none h ha), upd_ne (ne_of_none h ha), upd_ne (ne_of_none h hd), upd_ne (ne_of_none h ha)]; exact h
/-- what a raised error tells: behind it all stands that stood -/
theorem paired1 {c : V} {u : Value} (k : ClsV c u) : Paired ClsV [c] [u] := .cons k .nil
end Z
namespace Z
open PySem L2 SX
open PySem.Builtin.Str (occurrences lastOccurrence subAt)
theorem at_one {x : Str} {c hi k : Nat} (h : hi ≤ (tl x).length) : StrLaws.At x (S [c]) hi k ↔ k < hi ∧ (tl x)[k]? = some c := by
  have e := StrLaws.subAt_one x c k
  have l1 : (S [c]).length = 1 := rfl
  unfold StrLaws.At
  constructor
  · rintro ⟨h1, h2⟩
    rw [l1] at h1
    refine ⟨by omega, e.mp ⟨?_, h2⟩⟩
    show k + 1 ≤ x.length
    rw [tl_len]; omega
  · rintro ⟨h1, h2⟩
    have h3 := e.mpr h2
    exact ⟨by rw [l1]; omega, h3.2⟩
theorem find_from (x : Str) (c : Nat) {i : Int} (h : 0 ≤ i) :
    (Txt.find3 x (S [c]) i = -1 ∧ ∀ k : Nat, i ≤ (k : Int) → (tl x)[k]? ≠ some c) ∨ ∃ k : Nat, Txt.find3 x (S [c]) i = (k : Int) ∧ i ≤ (k : Int) ∧ (tl x)[k]? = some c ∧ ∀ j : Nat, i ≤ (j : Int) → j < k → (tl x)[j]? ≠ some c := by
  obtain ⟨n, rfl⟩ := Int.eq_ofNat_of_zero_le h
  have hf : fromIndex x.length (n : Int) = n := by
    unfold fromIndex
    rw [if_neg (by omega), Int.max_eq_right (by omega)]; rfl
  unfold Txt.find3
  rw [hf, StrLaws.occ_eq]
  have hx : x.length = (tl x).length := tl_len x
  rcases StrLaws.occ_first x (S [c]) x.length 1 (Nat.le_refl _) (List.range' n (x.length + 1 - n)) n (fun i hi => (List.mem_range'_1.mp hi).1) with ⟨h0, hn⟩ | ⟨pre, a, post, e, h0, ha, hn⟩
  · refine .inl ⟨by rw [h0], fun k hk hc => ?_⟩
    have hlt := (List.getElem?_eq_some_iff.mp hc).1
    exact hn k (List.mem_range'_1.mpr ⟨by omega, by omega⟩) ((at_one (by omega)).mpr ⟨by omega, hc⟩)
  · have h1 := (at_one (by omega)).mp ha
    have hm : a ∈ List.range' n (x.length + 1 - n) := by rw [e]; simp
    refine .inr ⟨a, ?_, by have := (List.mem_range'_1.mp hm).1; omega, h1.2, fun j hj hl hc => ?_⟩
    · cases hq : (forIn (List.range' n (x.length + 1 - n)) ((#[] : Array Nat), n) (StrLaws.occBody x (S [c]) x.length 1)).run.fst.toList with
      | nil =>
        have : (forIn (List.range' n (x.length + 1 - n)) ((#[] : Array Nat), n) (StrLaws.occBody x (S [c]) x.length 1)).run.fst = #[] := Array.toList_eq_nil_iff.mp hq
        rw [this] at h0; simp at h0
      | cons b r =>
        have hb : (forIn (List.range' n (x.length + 1 - n)) ((#[] : Array Nat), n) (StrLaws.occBody x (S [c]) x.length 1)).run.fst[0]? = some b := by
          rw [← Array.getElem?_toList, hq]; rfl
        rw [hb] at h0
        cases h0; rfl
    · have hjm : j ∈ pre := by
        have hlt := (List.getElem?_eq_some_iff.mp hc).1
        have hjr : j ∈ List.range' n (x.length + 1 - n) := List.mem_range'_1.mpr ⟨by omega, by omega⟩
        have hp : (pre ++ a :: post).Pairwise (· < ·) := by rw [← e]; exact List.pairwise_lt_range'
        rw [e] at hjr
        rcases List.mem_append.mp hjr with q | q
        · exact q
        · rcases List.mem_cons.mp q with q | q
          · omega
          · have := (List.pairwise_cons.mp (List.pairwise_append.mp hp).2.1).1 j q
            omega
      exact hn j hjm ((at_one (by omega)).mpr ⟨by have := (List.getElem?_eq_some_iff.mp hc).1; omega, hc⟩)
theorem rfind_in (x : Str) (c : Nat) {i m : Int} (h : 0 ≤ i) (hm : 0 ≤ m) :
    (Txt.rfindIn x (S [c]) i m = -1 ∧ ∀ k : Nat, i ≤ (k : Int) → (k : Int) < m → (tl x)[k]? ≠ some c) ∨ ∃ k : Nat, Txt.rfindIn x (S [c]) i m = (k : Int) ∧ i ≤ (k : Int) ∧ (k : Int) < m ∧ (tl x)[k]? = some c ∧ ∀ j : Nat, k < j → (j : Int) < m → (tl x)[j]? ≠ some c := by
  obtain ⟨n, rfl⟩ := Int.eq_ofNat_of_zero_le h
  obtain ⟨e, rfl⟩ := Int.eq_ofNat_of_zero_le hm
  have hf : fromIndex x.length (n : Int) = n := by
    unfold fromIndex
    rw [if_neg (by omega), Int.max_eq_right (by omega)]; rfl
  have ht : toIndexW x.length (e : Int) = min e x.length := by
    unfold toIndexW
    rw [if_neg (by omega), Int.max_eq_right (by omega)]; rfl
  have hx : x.length = (tl x).length := tl_len x
  unfold Txt.rfindIn
  rw [hf, ht, StrLaws.last_eq]
  have key := StrLaws.last_run x (S [c]) (min e x.length) (List.range' n (min e x.length + 1 - n)) [] none (fun _ h => nomatch h) (fun _ h => nomatch h) List.pairwise_lt_range'
  rw [List.nil_append] at key
  cases hq : (forIn (List.range' n (min e x.length + 1 - n)) none (StrLaws.lastBody x (S [c]) (min e x.length))).run with
  | none =>
    rw [hq] at key
    refine .inl ⟨rfl, fun k hk hk2 hc => ?_⟩
    have hlt := (List.getElem?_eq_some_iff.mp hc).1
    exact key k (List.mem_range'_1.mpr ⟨by omega, by omega⟩) ((at_one (by omega)).mpr ⟨by omega, hc⟩)
  | some a =>
    rw [hq] at key
    obtain ⟨ha, hl⟩ := key
    have h1 := (at_one (by omega)).mp ha
    have hr : n ≤ a := by
      -- the last place is one of those that were looked at
      have : ∀ (l : List Nat) (st : Option Nat) (b : Nat), (forIn l st (StrLaws.lastBody x (S [c]) (min e x.length))).run = some b → st = some b ∨ b ∈ l := by
        intro l
        induction l with
        | nil => intro st b hb; exact .inl hb
        | cons d l ih =>
          intro st b hb
          rw [List.forIn_cons] at hb
          unfold StrLaws.lastBody at hb
          split at hb
          · rcases ih _ _ hb with q | q
            · exact .inr (by cases q; exact List.mem_cons_self)
            · exact .inr (List.mem_cons_of_mem _ q)
          · rcases ih _ _ hb with q | q
            · exact .inl q
            · exact .inr (List.mem_cons_of_mem _ q)
      rcases this _ _ _ hq with q | q
      · cases q
      · exact (List.mem_range'_1.mp q).1
    refine .inr ⟨a, rfl, by omega, by omega, h1.2, fun j hj hj2 hc => ?_⟩
    have hlt := (List.getElem?_eq_some_iff.mp hc).1
    exact hl j (List.mem_range'_1.mpr ⟨by omega, by omega⟩) hj ((at_one (by omega)).mpr ⟨by omega, hc⟩)

theorem tl_inj : ∀ {a b : List Str}, a.map tl = b.map tl → a = b
  | [], [], _ => rfl
  | [], _ :: _, h => by cases h
  | _ :: _, [], h => by cases h
  | x :: a, y :: b, h => by
    rw [List.map_cons, List.map_cons] at h
    obtain ⟨h1, h2⟩ := List.cons.inj h
    rw [tl_ext h1, tl_inj h2]
theorem DV.strsT {K : PySem.W.Frag} {H : Hp} {p : Addr} {xs : List Str} (h : SqT K H p (xs.map V.str)) : DV K H (.tup (xs.map D.str)) (.ref p) := by
  unfold DV
  exact ⟨p, _, rfl, h, DVs.strs xs⟩
end Z
namespace Z
open PySem L2 SX
/-! ### methods of own classes -/
section
variable (P : Program) (w : World) (K : PySem.W.Frag) (mg : Str → Option Value) (base : Heap)
/-- a method, with its promise -/
def CalM (C : Addr) (m : Str) (ps : List Str) (k : Nat) (sp : Sp) : Prop := ∃ (f : Addr) (fd : FuncData), FnOk P w K mg base CX0 k f fd ps sp ∧ Meth K C m f ∧ Binds K fd ps []
def CalI (C : Addr) (ps : List Str) (k : Nat) (sp : Sp) : Prop := ∃ (f : Addr) (fd : FuncData), FnOk P w K mg base CX0 k f fd ps sp ∧ Mk K C f ∧ Binds K fd ps []
def CalP (C : Addr) (m : Str) (ps : List Str) (k : Nat) (sp : Sp) : Prop := ∃ (p f : Addr) (fd : FuncData), FnOk P w K mg base CX0 k f fd ps sp ∧ PropOf K C m p f ∧ Binds K fd ps []
def DfM (C : Addr) (m q : Str) (st : Stmt) (ps : List Str) : Prop := ∃ (f : Addr) (fd : FuncData), Fun K m q st f fd ∧ Meth K C m f ∧ Binds K fd ps []
def DfI (C : Addr) (q : Str) (st : Stmt) (ps : List Str) : Prop := ∃ (f : Addr) (fd : FuncData), Fun K "__init__" q st f fd ∧ Mk K C f ∧ Binds K fd ps []
def DfP (C : Addr) (m q : Str) (st : Stmt) (ps : List Str) : Prop := ∃ (p f : Addr) (fd : FuncData), Fun K m q st f fd ∧ PropOf K C m p f ∧ Binds K fd ps []
end
/-- all but these stays -/
def ExtL (ms : List Addr) (H H' : Hp) : Prop := ∀ b o, b ∉ ms → H b = some o → H' b = some o
theorem ExtL.refl (ms : List Addr) (H : Hp) : ExtL ms H H := fun _ _ _ h => h
theorem ExtL.trans {ms : List Addr} {H H1 H2 : Hp} (a : ExtL ms H H1) (b : ExtL ms H1 H2) : ExtL ms H H2 := fun c o n h => b c o n (a c o n h)
theorem ExtL.of {ms : List Addr} {H H' : Hp} (a : Same H H') : ExtL ms H H' := fun c o _ h => a c o h
theorem ExtL.ofExt {ms : List Addr} {s : Addr} {H H' : Hp} (a : Ext s H H') (m : s ∈ ms) : ExtL ms H H' := fun c o n h => a c o (fun e => n (by rw [e]; exact m)) h
theorem ExtL.mono {ms ns : List Addr} {H H' : Hp} (a : ExtL ms H H') (m : ∀ x ∈ ms, x ∈ ns) : ExtL ns H H' := fun c o n h => a c o (fun e => n (m c e)) h
theorem ExtL.put {ms : List Addr} {p : Addr} {H : Hp} {o : HO} (m : p ∈ ms) : ExtL ms H (upd H p o) := fun c u n h => by
  rw [upd_ne (fun e => n (by rw [e]; exact m))]; exact h
theorem ExtL.new {ms : List Addr} {p : Addr} {H : Hp} {o : HO} (n : H p = none) : ExtL ms H (upd H p o) := ExtL.of (same_new n)
end Z
namespace Z
open PySem PySem.W PySem.Calls PyProof.Rows L2
/-! ### data, as the sorts and comparisons see it -/
mutual
def py : D → PyData
  | .non => .none
  | .bl b => .bool b
  | .int i => .int i
  | .str x => .str x
  | .tup xs => .tuple (pys xs)
def pys : List D → List PyData
  | [] => []
  | d :: ds => py d :: pys ds
end
theorem pys_map : ∀ ds : List D, pys ds = ds.map py
  | [] => by simp [pys]
  | d :: ds => by rw [pys, pys_map ds, List.map_cons]
section
variable {K : Frag} {H : Hp}
mutual
theorem DV.dp : ∀ {d : D} {v : V}, DV K H d v → Dp K H v (py d)
  | .non, _, h => by unfold DV at h; subst h; unfold py; exact .non
  | .bl b, _, h => by unfold DV at h; subst h; unfold py; exact .bl b
  | .int i, _, h => by unfold DV at h; subst h; unfold py; exact .int i
  | .str x, _, h => by unfold DV at h; subst h; unfold py; exact .str x
  | .tup ds, _, h => by
    unfold DV at h
    obtain ⟨a, vs, rfl, q, r⟩ := h
    unfold py
    exact .tup q (DVs.dpa r)
theorem DVs.dpa : ∀ {ds : List D} {vs : List V}, DVs K H ds vs → DpAll K H vs (pys ds)
  | [], _, h => by unfold DVs at h; subst h; unfold pys; exact .nil
  | d :: ds, _, h => by
    unfold DVs at h
    obtain ⟨v, r, rfl, q, t⟩ := h
    unfold pys
    exact .cons (DV.dp q) (DVs.dpa t)
end
end
mutual
theorem py_eqv : ∀ (d e : D), alike (py d) (py e) = true → (PyData.eqv (py d) (py e) = true ↔ d = e)
  | .non, .non, _ => by simp [py, PyData.eqv]
  | .bl b, .bl c, _ => by simp [py, PyData.eqv]
  | .int b, .int c, _ => by simp [py, PyData.eqv]
  | .str b, .str c, _ => by simp [py, PyData.eqv]
  | .tup xs, .tup ys, h => by
    have := pys_eqv xs ys (by simpa [py, alike] using h)
    simp only [py, PyData.eqv, D.tup.injEq]
    exact this
  | .non, .bl _, h | .non, .int _, h | .non, .str _, h | .non, .tup _, h => by simp [py, alike] at h
  | .bl _, .non, h | .bl _, .int _, h | .bl _, .str _, h | .bl _, .tup _, h => by simp [py, alike] at h
  | .int _, .non, h | .int _, .bl _, h | .int _, .str _, h | .int _, .tup _, h => by simp [py, alike] at h
  | .str _, .non, h | .str _, .bl _, h | .str _, .int _, h | .str _, .tup _, h => by simp [py, alike] at h
  | .tup _, .non, h | .tup _, .bl _, h | .tup _, .int _, h | .tup _, .str _, h => by simp [py, alike] at h
theorem pys_eqv : ∀ (d e : List D), alikeAll (pys d) (pys e) = true → (PyData.eqvAll (pys d) (pys e) = true ↔ d = e)
  | [], [], _ => by simp [pys, PyData.eqvAll]
  | [], y :: ys, _ => by simp [pys, PyData.eqvAll]
  | x :: xs, [], _ => by simp [pys, PyData.eqvAll]
  | x :: xs, y :: ys, h => by
    have h' : alike (py x) (py y) = true ∧ alikeAll (pys xs) (pys ys) = true := by simpa [pys, alikeAll] using h
    simp only [pys, PyData.eqvAll, Bool.and_eq_true, List.cons.injEq, py_eqv x y h'.1, pys_eqv xs ys h'.2]
end
/-- compared with another by == -/
def eqD (d e : D) : Bool := PyData.eqv (py d) (py e)
theorem eqD_iff {d e : D} (h : alike (py d) (py e) = true) : eqD d e = true ↔ d = e := py_eqv d e h
def Okd (d : D) : Prop := SeqAt.shaped (py d) = true
def Okl (ds : List D) : Prop := SeqAt.shaped (.list (pys ds)) = true
mutual
def fine : Nat → D → Bool
  | _, .non => true
  | _, .bl _ => true
  | _, .int _ => true
  | _, .str x => PyData.strOk x
  | 0, .tup _ => false
  | n + 1, .tup xs => fines n xs
def fines : Nat → List D → Bool
  | _, [] => true
  | n, d :: ds => fine n d && fines n ds
end
mutual
theorem fine_lay : ∀ {n : Nat} {d : D}, fine n d = true → (py d).canLay0 = true ∧ (py d).depth ≤ n
  | n, .non, _ => by simp [py, PyData.canLay0, PyData.depth]
  | n, .bl _, _ => by simp [py, PyData.canLay0, PyData.depth]
  | n, .int _, _ => by simp [py, PyData.canLay0, PyData.depth]
  | n, .str x, h => by
    have h' : PyData.strOk x = true := by cases n <;> simpa [fine] using h
    refine ⟨by simpa [py, PyData.canLay0] using h', by simp [py, PyData.depth]⟩
  | 0, .tup _, h => by simp [fine] at h
  | n + 1, .tup xs, h => by
    have h' := fines_lay (show fines n xs = true by simpa [fine] using h)
    refine ⟨by simpa [py, PyData.canLay0] using h'.1, ?_⟩
    simp only [py, PyData.depth]
    have := h'.2
    omega
theorem fines_lay : ∀ {n : Nat} {ds : List D}, fines n ds = true → PyData.canLayAll0 (pys ds) = true ∧ PyData.depthAll (pys ds) ≤ n
  | n, [], _ => by simp [pys, PyData.canLayAll0, PyData.depthAll]
  | n, d :: ds, h => by
    have h' : fine n d = true ∧ fines n ds = true := by simpa [fines] using h
    have h1 := fine_lay h'.1
    have h2 := fines_lay h'.2
    refine ⟨by simp [pys, PyData.canLayAll0, h1.1, h2.1], ?_⟩
    simp only [pys, PyData.depthAll]
    have := h1.2
    have := h2.2
    omega
end
theorem fine_ok {n : Nat} {d : D} (h : fine n d = true) (hn : n ≤ 60 := by decide) : Okd d := by
  have := fine_lay h
  unfold Okd SeqAt.shaped
  rw [this.1, decide_eq_true (by omega)]; rfl
theorem fines_ok {n : Nat} {ds : List D} (h : fines n ds = true) (hn : n ≤ 60 := by decide) : Okl ds := by
  have := fines_lay h
  unfold Okl SeqAt.shaped
  have e : (PyData.list (pys ds)).canLay0 = true := by simpa [PyData.canLay0] using this.1
  have f : (PyData.list (pys ds)).depth ≤ 64 := by simp only [PyData.depth]; omega
  rw [e, decide_eq_true f]; rfl
theorem fines_map {α : Type} {f : α → D} {n : Nat} : ∀ {l : List α}, (∀ x ∈ l, fine n (f x) = true) → fines n (l.map f) = true
  | [], _ => by simp [fines]
  | x :: l, h => by
    rw [List.map_cons, fines, h x (by simp), fines_map fun y m => h y (List.mem_cons_of_mem _ m)]; rfl
theorem fine_tup {n : Nat} {ds : List D} (h : fines n ds = true) : fine (n + 1) (.tup ds) = true := by simpa [fine] using h
theorem fine_low {n : Nat} {x : Str} (h : ∀ c ∈ tl x, c < 1114112) : fine n (.str x) = true := by
  have : PyData.strOk x = true := by
    unfold PyData.strOk
    rw [← Array.all_toList, List.all_eq_true]
    exact fun c m => decide_eq_true (h c m)
  cases n <;> simpa [fine] using this
theorem fines_cons {n : Nat} {d : D} {ds : List D} (h : fine n d = true) (t : fines n ds = true) : fines n (d :: ds) = true := by rw [fines, h, t]; rfl
theorem fines_nil {n : Nat} : fines n [] = true := by rw [fines]
theorem fine_int {n : Nat} {i : Int} : fine n (.int i) = true := by cases n <;> simp [fine]
theorem fine_non {n : Nat} : fine n .non = true := by cases n <;> simp [fine]
section
variable {X : Cx}
/-- == and != of data -/
def rEqDD (K : Frag) : R2 := fun x y H Q => ∃ d e, DV K H d x ∧ DV K H e y ∧ Okd d ∧ Okd e ∧ Q (.bl (eqD d e)) H
def rNeDD (K : Frag) : R2 := fun x y H Q => ∃ d e, DV K H d x ∧ DV K H e y ∧ Okd d ∧ Okd e ∧ Q (.bl (!eqD d e)) H
theorem op_eqDD (hu : X.A.units + 64 < cLine) : OpR X (compareOp .Eq) (rEqDD X.K) := by
  intro pins s σ H x y v u Q I rx ry h
  obtain ⟨d, e, hd, he, sd, se, q⟩ := h
  exact op_eqD hu pins s σ H x y v u Q I rx ry ⟨_, _, hd.dp, he.dp, sd, se, q⟩
theorem op_neDD (hu : X.A.units + 64 < cLine) : OpR X (compareOp .NotEq) (rNeDD X.K) := by
  intro pins s σ H x y v u Q I rx ry h
  obtain ⟨d, e, hd, he, sd, se, q⟩ := h
  exact op_neD hu pins s σ H x y v u Q I rx ry ⟨_, _, hd.dp, he.dp, sd, se, q⟩
/-- in and not in over a list of data -/
def rInDD (K : Frag) (neg : Bool) : R2 := fun x y H Q => ∃ (d : D) (a : Addr) (vs : List V) (ds : List D), DV K H d x ∧ y = .ref a ∧ SqL K H a vs ∧ DVs K H ds vs ∧ Okd d ∧ Okl ds ∧ Q (.bl (if neg then !ds.any (fun z => eqD z d) else ds.any fun z => eqD z d)) H
theorem any_pys (d : D) (ds : List D) : ((pys ds).any fun z => PyData.eqv z (py d)) = ds.any fun z => eqD z d := by
  rw [pys_map, List.any_map]; rfl
theorem op_inDD (hu : X.A.units + 65 < cLine) : OpR X (compareOp .In) (rInDD X.K false) := by
  intro pins s σ H x y v u Q I rx ry h
  obtain ⟨d, a, vs, ds, hd, rfl, hs, he, sd, se, q⟩ := h
  exact op_inD hu pins s σ H _ _ v u Q I rx ry ⟨_, _, hd.dp, .lst hs he.dpa, sd, se, by rw [any_pys]; exact q⟩
theorem op_notInDD (hu : X.A.units + 65 < cLine) : OpR X (compareOp .NotIn) (rInDD X.K true) := by
  intro pins s σ H x y v u Q I rx ry h
  obtain ⟨d, a, vs, ds, hd, rfl, hs, he, sd, se, q⟩ := h
  exact op_notInD hu pins s σ H _ _ v u Q I rx ry ⟨_, _, hd.dp, .lst hs he.dpa, sd, se, by rw [any_pys]; exact q⟩
theorem any_eqD {α : Type} {f : α → D} {d : α} {l : List α} (hf : ∀ x ∈ l, f x = f d → x = d) (h : ∀ x ∈ l, alike (py (f x)) (py (f d)) = true) : (l.map f).any (fun z => eqD z (f d)) = true ↔ d ∈ l := by
  rw [List.any_eq_true]
  constructor
  · rintro ⟨z, hz, e⟩
    obtain ⟨x, hx, rfl⟩ := List.mem_map.mp hz
    rw [← hf x hx ((eqD_iff (h x hx)).mp e)]; exact hx
  · intro m
    exact ⟨f d, List.mem_map_of_mem m, (eqD_iff (h d m)).mpr rfl⟩
/-- sorted(xs), xs a list of data -/
def dle {β : Type} (f : β → D) : β → β → Bool := dataLe false fun b => py (f b)
def rSortDD (K : Frag) : List V → Hp → VK → Prop := fun vs H Q => ∃ (a : Addr) (us : List V) (β : Type) (l : List β) (f : β → D), vs = [.ref a] ∧ SqL K H a us ∧ DVs K H (l.map f) us ∧ AllAlike (l.map fun b => py (f b)) ∧ Sortable (l.map fun b => py (f b)) ∧ (∀ b ∈ l, (py (f b)).depth ≤ 60) ∧
  ∀ (ys : List V) (p : Addr), H p = none → DVs K H ((l.mergeSort (dle f)).map f) ys → Q (.ref p) (upd H p (.lst ys))
theorem dvs_each {K : Frag} {H : Hp} {β : Type} {f : β → D} : ∀ {l : List β} {us : List V} {vs : List Value}, DVs K H (l.map f) us → Vals us vs → EachIs (fun u b => ∃ v, RelV v u ∧ DV K H (f b) v) vs l
  | [], _, _, h, r => by
    unfold List.map DVs at h; subst h; cases r; exact .nil
  | b :: l, _, _, h, r => by
    obtain ⟨v, t, rfl, q, h2⟩ := h
    cases r with
    | cons r1 r2 => exact .cons ⟨v, r1, q⟩ (dvs_each h2 r2)
theorem each_dvs {K : Frag} {H : Hp} {β : Type} {f : β → D} : ∀ {l : List β} {vs : List Value}, EachIs (fun u b => ∃ v, RelV v u ∧ DV K H (f b) v) vs l → ∃ us, DVs K H (l.map f) us ∧ Vals us vs
  | [], _, h => by cases h; exact ⟨[], by unfold List.map DVs; rfl, .nil⟩
  | b :: l, _, h => by
    cases h with
    | cons h1 h2 =>
      obtain ⟨v, r1, q⟩ := h1
      obtain ⟨us, d, r2⟩ := each_dvs h2
      exact ⟨v :: us, ⟨v, us, rfl, q, d⟩, .cons r1 r2⟩
theorem each_reads {pins : List (Addr × Obj)} {σ : L2.St} {H : Hp} {s : Shared} (I : Inv X pins σ H s) {β : Type} {f : β → D} {l : List β} {vs : List Value} (h : EachIs (fun u b => ∃ v, RelV v u ∧ DV X.K H (f b) v) vs l) :
    EachIs (fun u b => ∃ as, Reads s.heap u (py (f b)) as) vs l := h.mono fun u b ⟨v, r, q⟩ => Dp.reads I _ _ _ q.dp r
theorem vals_len : ∀ {us : List V} {vs : List Value}, Vals us vs → us.length = vs.length
  | _, _, .nil => rfl
  | _, _, .cons _ r => by rw [List.length_cons, List.length_cons, vals_len r]
theorem hu_big {n : Nat} (h : X.A.units + 65 < cLine) (k : n ≤ 60) : X.A.units + 2 + n < cLine := by omega
theorem cr_sortDD (hu : X.A.units + 65 < cLine) : CallR X (.builtin "sorted") (rSortDD X.K) := by
  intro pins s σ H vs us Q I r h
  obtain ⟨a, xs, β, l, f, rfl, hs, hd, hal, hsb, hdp, q⟩ := h
  obtain ⟨its, rv, hl, hz⟩ := I.list hs
  obtain ⟨u, rfl, ru⟩ := vals1 r
  obtain rfl : u = Value.ref a := ru
  have e := dvs_each hd rv
  have hlen := vals_len rv
  have hlen2 := e.length
  refine PySem.W.sorted_data (enc := fun b => py (f b)) hl.isList e (each_reads I e) hal hsb (by omega) (fun b m => hu_big hu (hdp b m)) fun out ho eo => ?_
  obtain ⟨ys, dy, ry⟩ := each_dvs eo
  have fr : H (s.heap.objs.size + 1) = none := I.hok.fresh (Nat.le_succ _)
  obtain ⟨n, hn⟩ := sortedAll_at s.heap its (List.toArray out)
  refine ⟨.ref _, upd H _ (.lst ys), I.laid (t' := s.toks) (fun b o g => sortedAll_old g) (Nat.le_succ _) ⟨?_, out, n, ry, hn⟩, rfl, q ys _ fr dy⟩
  rw [vals_len ry]; omega
/-- min(xs), max(xs) of data -/
def rMinDD (K : Frag) (mx : Bool) : List V → Hp → VK → Prop := fun vs H Q => ∃ (a : Addr) (us : List V) (β : Type) (l : List β) (f : β → D), vs = [.ref a] ∧ SqL K H a us ∧ DVs K H (l.map f) us ∧ AllAlike (l.map fun b => py (f b)) ∧ (∀ b ∈ l, f b ≠ .non) ∧ (∀ b ∈ l, (py (f b)).depth ≤ 60) ∧ l ≠ [] ∧
  ∀ (m : β) (v : V), m ∈ l → (∀ y ∈ l, (if mx then dataLt (py (f m)) (py (f y)) else dataLt (py (f y)) (py (f m))) = false) → DV K H (f m) v → Q v H
theorem depth_all {β : Type} {g : β → PyData} : ∀ {l : List β}, (∀ b ∈ l, (g b).depth ≤ 60) → PyData.depthAll (l.map g) ≤ 60
  | [], _ => by simp [PyData.depthAll]
  | b :: l, h => by
    have h1 := h b (by simp)
    have h2 := depth_all (l := l) fun c m => h c (List.mem_cons_of_mem _ m)
    rw [List.map_cons, PyData.depthAll]; omega
theorem lt_irr (x : PyData) : dataLt x x = false := lex_irrefl _
theorem minD_mem (x : PyData) : ∀ xs : List PyData, minD x xs ∈ x :: xs := by
  intro xs
  unfold minD
  suffices h : ∀ (xs : List PyData) (a : PyData) (L : List PyData), a ∈ L → (∀ y ∈ xs, y ∈ L) → xs.foldl (fun a y => if dataLt y a then y else a) a ∈ L from h xs x (x :: xs) (by simp) (fun y m => List.mem_cons_of_mem _ m)
  intro xs
  induction xs with
  | nil => intro a L h _; exact h
  | cons y ys ih =>
    intro a L h k
    rw [List.foldl_cons]
    refine ih _ L ?_ fun z m => k z (List.mem_cons_of_mem _ m)
    split
    · exact k y (by simp)
    · exact h
def pyLe (a b : PyData) : Bool := !dataLt b a
theorem pyLe_total : TotalLe pyLe := sortLe_total (listOrd itemOrd) false keyToks
theorem lt_of_pyLe {a b : PyData} (h : pyLe a b = true) : dataLt b a = false := by unfold pyLe at h; simpa using h
theorem pyLe_of {a b : PyData} (h : dataLt b a = false) : pyLe a b = true := by unfold pyLe; rw [h]; rfl
theorem pyLe_lt {a b : PyData} (h : dataLt a b = true) : pyLe a b = true := (pyLe_total.total a b).elim id fun k => by
  have := lt_of_pyLe k
  rw [this] at h; cases h
theorem minD_le : ∀ (xs : List PyData) (x : PyData), ∀ y ∈ x :: xs, pyLe (minD x xs) y = true := by
  intro xs
  suffices h : ∀ (xs : List PyData) (a : PyData) (L : List PyData), (∀ y ∈ L, pyLe a y = true) → ∀ y, y ∈ L ∨ y ∈ xs → pyLe (xs.foldl (fun a y => if dataLt y a then y else a) a) y = true from fun x y m => h xs x [x] (fun z m => by rw [List.mem_singleton.mp m]; exact pyLe_total.refl x) y (by
    rcases List.mem_cons.mp m with e | e
    · exact .inl (by rw [e]; simp)
    · exact .inr e)
  intro xs
  induction xs with
  | nil => intro a L h y m; exact h y (m.resolve_right (by simp))
  | cons z zs ih =>
    intro a L h y m
    rw [List.foldl_cons]
    refine ih _ (z :: L) ?_ y ?_
    · intro w mw
      by_cases c : dataLt z a = true
      · rw [if_pos c]
        rcases List.mem_cons.mp mw with e | e
        · rw [e]; exact pyLe_total.refl z
        · exact pyLe_total.trans _ _ _ (pyLe_lt c) (h w e)
      · rw [if_neg c]
        rcases List.mem_cons.mp mw with e | e
        · rw [e]; exact pyLe_of (by simpa using c)
        · exact h w e
    · rcases m with m | m
      · exact .inl (List.mem_cons_of_mem _ m)
      · rcases List.mem_cons.mp m with e | e
        · exact .inl (by rw [e]; simp)
        · exact .inr e
theorem maxD_mem (x : PyData) : ∀ xs : List PyData, maxD x xs ∈ x :: xs := by
  intro xs
  unfold maxD
  suffices h : ∀ (xs : List PyData) (a : PyData) (L : List PyData), a ∈ L → (∀ y ∈ xs, y ∈ L) → xs.foldl (fun a y => if dataLt a y then y else a) a ∈ L from h xs x (x :: xs) (by simp) (fun y m => List.mem_cons_of_mem _ m)
  intro xs
  induction xs with
  | nil => intro a L h _; exact h
  | cons y ys ih =>
    intro a L h k
    rw [List.foldl_cons]
    refine ih _ L ?_ fun z m => k z (List.mem_cons_of_mem _ m)
    split
    · exact k y (by simp)
    · exact h
theorem maxD_le : ∀ (xs : List PyData) (x : PyData), ∀ y ∈ x :: xs, pyLe y (maxD x xs) = true := by
  intro xs
  suffices h : ∀ (xs : List PyData) (a : PyData) (L : List PyData), (∀ y ∈ L, pyLe y a = true) → ∀ y, y ∈ L ∨ y ∈ xs → pyLe y (xs.foldl (fun a y => if dataLt a y then y else a) a) = true from fun x y m => h xs x [x] (fun z m => by rw [List.mem_singleton.mp m]; exact pyLe_total.refl x) y (by
    rcases List.mem_cons.mp m with e | e
    · exact .inl (by rw [e]; simp)
    · exact .inr e)
  intro xs
  induction xs with
  | nil => intro a L h y m; exact h y (m.resolve_right (by simp))
  | cons z zs ih =>
    intro a L h y m
    rw [List.foldl_cons]
    refine ih _ (z :: L) ?_ y ?_
    · intro w mw
      by_cases c : dataLt a z = true
      · rw [if_pos c]
        rcases List.mem_cons.mp mw with e | e
        · rw [e]; exact pyLe_total.refl z
        · exact pyLe_total.trans _ _ _ (h w e) (pyLe_lt c)
      · rw [if_neg c]
        rcases List.mem_cons.mp mw with e | e
        · rw [e]; exact pyLe_of (by simpa using c)
        · exact h w e
    · rcases m with m | m
      · exact .inl (List.mem_cons_of_mem _ m)
      · rcases List.mem_cons.mp m with e | e
        · exact .inl (by rw [e]; simp)
        · exact .inr e
theorem each_get {β : Type} {R : Value → β → Prop} : ∀ {vs : List Value} {l : List β} {i : Nat} {v : Value}, EachIs R vs l → vs[i]? = some v → ∃ b, l[i]? = some b ∧ R v b
  | _, _, _, _, .nil, h => by simp at h
  | _, _, 0, _, .cons h1 _, h => by cases (show some _ = some _ from h); exact ⟨_, rfl, h1⟩
  | _, _, i + 1, _, .cons _ t, h => each_get (i := i) t (by simpa using h)
theorem min_pick {pins : List (Addr × Obj)} {σ : L2.St} {H : Hp} {s : Shared} (I : Inv X pins σ H s) {β : Type} {l : List β} {f : β → D} {its : List Value} (e : EachIs (fun u b => ∃ v, RelV v u ∧ DV X.K H (f b) v) its l) (hal : AllAlike (l.map fun b => py (f b))) {i : Nat} {v : Value} {h' : Heap} {m : PyData} {bs : List Addr}
    (hv : its[i]? = some v) (hr : Reads h' v m bs) (kp : ∀ b o, s.heap.get? b = some o → h'.get? b = some o) (hm : m ∈ l.map fun b => py (f b)) : ∃ b w, b ∈ l ∧ RelV w v ∧ DV X.K H (f b) w ∧ py (f b) = m := by
  obtain ⟨b, hb, w, rw', dw⟩ := each_get e hv
  have mb := List.mem_of_getElem? hb
  obtain ⟨as, r1⟩ := Dp.reads I _ _ _ dw.dp rw'
  have r2 : Reads h' v (py (f b)) as := PyProof.Rows.Reads.keeps kp r1
  exact ⟨b, w, mb, rw', dw, alike_unique _ _ _ _ _ (hal _ (List.mem_map_of_mem mb) _ hm) r2 hr⟩
theorem cr_minDD (hu : X.A.units + 65 < cLine) (hc : X.calm = true) : CallR X (.builtin "min") (rMinDD X.K false) := by
  intro pins s σ H vs us Q I r h
  obtain ⟨a, xs, β, l, f, rfl, hs, hd, hal, hnn, hdp, hne, q⟩ := h
  obtain ⟨its, rv, hl, hz⟩ := I.list hs
  obtain ⟨u, rfl, ru⟩ := vals1 r
  obtain rfl : u = Value.ref a := ru
  have e := dvs_each hd rv
  obtain ⟨b0, l', rfl⟩ : ∃ b0 l', l = b0 :: l' := by
    cases l with
    | nil => exact absurd rfl hne
    | cons b r => exact ⟨b, r, rfl⟩
  obtain ⟨as, hra⟩ := Dp.readsAll I _ _ _ hd.dpa rv
  have ep : pys ((b0 :: l').map f) = py (f b0) :: l'.map (fun b => py (f b)) := by rw [pys_map, List.map_map]; rfl
  rw [ep] at hra
  have hal' : AllAlike (py (f b0) :: l'.map (fun b => py (f b))) := hal
  refine min_list_data (I.ok.hd hc) hl.isList (vs := its.toArray) (by simpa using hra) ⟨fun x mx y my => hal' x mx y my, fun x mx => ?_⟩ ?_ fun i v h' tk bs hv hr kp => ?_
  · obtain ⟨b, hb, rfl⟩ := List.mem_map.mp (show x ∈ (b0 :: l').map (fun b => py (f b)) from mx)
    intro e0
    refine hnn b hb ?_
    cases hf : f b with
    | non => rfl
    | _ => rw [hf] at e0; simp [py] at e0
  · have := depth_all hdp
    rw [List.map_cons] at this
    omega
  · obtain ⟨b, w, mb, rw', dw, em⟩ := min_pick I e hal (by simpa using hv) hr kp (minD_mem _ _)
    refine ⟨w, H, I.kept kp, rw', q b w mb (fun y my => ?_) dw⟩
    have := minD_le (l'.map fun b => py (f b)) (py (f b0)) (py (f y)) (List.mem_map_of_mem (f := fun b => py (f b)) my)
    rw [← em] at this
    exact lt_of_pyLe this
theorem cr_maxDD (hu : X.A.units + 65 < cLine) (hc : X.calm = true) : CallR X (.builtin "max") (rMinDD X.K true) := by
  intro pins s σ H vs us Q I r h
  obtain ⟨a, xs, β, l, f, rfl, hs, hd, hal, hnn, hdp, hne, q⟩ := h
  obtain ⟨its, rv, hl, hz⟩ := I.list hs
  obtain ⟨u, rfl, ru⟩ := vals1 r
  obtain rfl : u = Value.ref a := ru
  have e := dvs_each hd rv
  obtain ⟨b0, l', rfl⟩ : ∃ b0 l', l = b0 :: l' := by
    cases l with
    | nil => exact absurd rfl hne
    | cons b r => exact ⟨b, r, rfl⟩
  obtain ⟨as, hra⟩ := Dp.readsAll I _ _ _ hd.dpa rv
  have ep : pys ((b0 :: l').map f) = py (f b0) :: l'.map (fun b => py (f b)) := by rw [pys_map, List.map_map]; rfl
  rw [ep] at hra
  have hal' : AllAlike (py (f b0) :: l'.map (fun b => py (f b))) := hal
  refine max_list_data (I.ok.hd hc) hl.isList (vs := its.toArray) (by simpa using hra) ⟨fun x mx y my => hal' x mx y my, fun x mx => ?_⟩ ?_ fun i v h' tk bs hv hr kp => ?_
  · obtain ⟨b, hb, rfl⟩ := List.mem_map.mp (show x ∈ (b0 :: l').map (fun b => py (f b)) from mx)
    intro e0
    refine hnn b hb ?_
    cases hf : f b with
    | non => rfl
    | _ => rw [hf] at e0; simp [py] at e0
  · have := depth_all hdp
    rw [List.map_cons] at this
    omega
  · obtain ⟨b, w, mb, rw', dw, em⟩ := min_pick I e hal (by simpa using hv) hr kp (maxD_mem _ _)
    refine ⟨w, H, I.kept kp, rw', q b w mb (fun y my => ?_) dw⟩
    have := maxD_le (l'.map fun b => py (f b)) (py (f b0)) (py (f y)) (List.mem_map_of_mem (f := fun b => py (f b)) my)
    rw [← em] at this
    exact lt_of_pyLe this
/-- what a sorted list of data is -/
theorem dle_total {β : Type} (f : β → D) : TotalLe (dle f) := sortLe_total (listOrd itemOrd) false fun b => keyToks (py (f b))
theorem sort_perm {β : Type} (f : β → D) (l : List β) : (l.mergeSort (dle f)).Perm l := List.mergeSort_perm l _
theorem sort_pw {β : Type} (f : β → D) (l : List β) : (l.mergeSort (dle f)).Pairwise fun a b => dle f a b = true := sort_pairwise (dle_total f) l
theorem dle_str {β : Type} {f : β → Str} {a b : β} : dle (fun b => D.str (f b)) a b = !decide (tl (f b) < tl (f a)) := by
  show (!dataLt (py (.str (f b))) (py (.str (f a)))) = _
  rw [py, py, dataLt_str]
/-- the same, the written part named -/
theorem op_eqDDQ {K : Frag} (h : X.K = K) (hu : X.A.units + 65 < cLine) : OpR X (compareOp .Eq) (rEqDD K) := by subst h; exact op_eqDD (by omega)
theorem op_neDDQ {K : Frag} (h : X.K = K) (hu : X.A.units + 65 < cLine) : OpR X (compareOp .NotEq) (rNeDD K) := by subst h; exact op_neDD (by omega)
theorem op_inDDQ {K : Frag} (h : X.K = K) (hu : X.A.units + 65 < cLine) : OpR X (compareOp .In) (rInDD K false) := by subst h; exact op_inDD hu
theorem op_notInDDQ {K : Frag} (h : X.K = K) (hu : X.A.units + 65 < cLine) : OpR X (compareOp .NotIn) (rInDD K true) := by subst h; exact op_notInDD hu
theorem cr_sortDDQ {K : Frag} (h : X.K = K) (hu : X.A.units + 65 < cLine) : CallR X (.builtin "sorted") (rSortDD K) := by subst h; exact cr_sortDD hu
theorem cr_minDDQ {K : Frag} (h : X.K = K) (hu : X.A.units + 65 < cLine) (hc : X.calm = true) : CallR X (.builtin "min") (rMinDD K false) := by subst h; exact cr_minDD hu hc
theorem cr_maxDDQ {K : Frag} (h : X.K = K) (hu : X.A.units + 65 < cLine) (hc : X.calm = true) : CallR X (.builtin "max") (rMinDD K true) := by subst h; exact cr_maxDD hu hc
theorem aa_of {β : Type} {f : β → D} {l : List β} (h : ∀ b c, alike (py (f b)) (py (f c)) = true) : AllAlike (l.map fun b => py (f b)) := AllAlike.of h
theorem aa_str {β : Type} {f : β → Str} {l : List β} : AllAlike (l.map fun b => py (.str (f b))) := aa_of fun _ _ => by simp [py, alike]
theorem aa_int {β : Type} {f : β → Int} {l : List β} : AllAlike (l.map fun b => py (.int (f b))) := aa_of fun _ _ => by simp [py, alike]
theorem so_str {β : Type} {f : β → Str} {l : List β} : Sortable (l.map fun b => py (.str (f b))) := Sortable.others fun b => ⟨by simp [py], fun _ => by simp [py]⟩
theorem so_tup {β : Type} {f : β → D} {l : List β} (h : ∀ b, ∃ x r, f b = .tup (x :: r)) : Sortable (l.map fun b => py (f b)) := Sortable.tuples fun b => by
  obtain ⟨x, r, e⟩ := h b
  exact ⟨py x, pys r, by rw [e, py, pys]⟩
theorem lt_of_dl {x y : Str} (h : (if false = true then dataLt (py (.str y)) (py (.str x)) else dataLt (py (.str x)) (py (.str y))) = false) : ¬ tl x < tl y := by
  simp only [Bool.false_eq_true, if_false, py] at h
  rw [dataLt_str] at h
  exact of_decide_eq_false h
theorem room65 {k : Nat} {A : Around} (r : Room k A) : A.units + 65 < cLine := by have := r.un; omega
end
end Z
namespace Z
open PySem PySem.W PySem.Calls PyProof.Rows L2
/-! ### sorted of whatever can be collected, dicts among them -/
section
variable {prog : Program} {w : World} {A : Around} {E : Value → Shared → Prop} {s : Shared}
theorem each_ix {β : Type} {R : Value → β → Prop} : ∀ {vs : List Value} {bs : List β}, EachIs R vs bs → EachIs (fun v b => ∃ j : Nat, vs[j]? = some v ∧ bs[j]? = some b) vs bs
  | _, _, .nil => .nil
  | _, _, .cons h t => .cons ⟨0, rfl, rfl⟩ ((each_ix t).mono fun v b ⟨j, h1, h2⟩ => ⟨j + 1, h1, h2⟩)
theorem sorted_by {x : Value} {β : Type} {enc : β → PyData} {bs : List β} {C : Heap → List Value → Prop} {Q : Value → Shared → Prop}
    (hcol : ∀ {R' : List Value → Shared → Prop}, (∀ (h' : Heap) (tk : Nat) (vs : List Value), (∀ b o, s.heap.get? b = some o → h'.get? b = some o) → C h' vs → R' vs { s with heap := h', toks := tk }) → wpAny (model prog w) A.in1 (collect x) R' E s)
    (hC : ∀ h' vs, C h' vs → EachIs (fun v b => ∃ as, Reads h' v (enc b) as) vs bs)
    (hal : AllAlike (bs.map enc)) (hk : Sortable (bs.map enc)) (hL : bs.length ≤ sizeLine) (hu : ∀ b ∈ bs, A.units + 2 + (enc b).depth < cLine)
    (h : ∀ (h1 h' : Heap) (tk : Nat) (a : Addr) (vs out : List Value) (n : Nat), C h1 vs → (∀ b o, s.heap.get? b = some o → h1.get? b = some o) → (∀ b o, h1.get? b = some o → h'.get? b = some o) → h1.objs.size = a → h'.get? a = some (seqObj "list" out.toArray n) → out.length = bs.length →
      EachIs (fun v b => ∃ j : Nat, vs[j]? = some v ∧ bs[j]? = some b) out (bs.mergeSort (dataLe false enc)) → Q (.ref a) { s with heap := h', toks := tk }) :
    wpAny (model prog w) A (call (.builtin "sorted") [x]) Q E s := by
  refine call_function_entry kind_sorted plain_sorted entry_sorted (args_sorted1 _) ?_
  unfold Builtin.«sorted»
  refine wpAny_bind (m := checkCount "sorted" 1 1 _) (wpAny_pure ?_)
  refine wpAny_bind (hcol fun h1 tk vs kp hc => ?_)
  have er := hC h1 vs hc
  have el := er.length
  refine wpAny_bind (wpAny_newList ?_ (by omega))
  have ho : (h1.push { cls := .type "list", data := .seq vs.toArray }).get? h1.objs.size = some (seqObj "list" vs.toArray 0) := Heap.get?_push_size _ rfl
  have old : ∀ b o, h1.get? b = some o → (h1.push { cls := .type "list", data := .seq vs.toArray }).get? b = some o := fun b o e => Heap.get?_push_of_some _ e
  refine wpAny_bind (wpAny_holding (wpAny_mono (PySem.W.list_sort_data (A := A.in1) (enc := enc) (s := { s with heap := h1.push { cls := .type "list", data := .seq vs.toArray }, toks := tk }) ho (each_ix er) ?_ hal hk hL (fun b m => hu b m) fun out lo eo => ?_) (fun _ s' x => x) fun _ _ e => e))
  · refine er.mono fun v b ⟨as, r⟩ => ?_
    exact ⟨as, PyProof.Rows.Reads.keeps old r, fun m => by
      obtain ⟨o, ho⟩ := PyProof.On.reads_mem_get r _ m
      exact absurd (Heap.lt_size ho) (Nat.lt_irrefl _)⟩
  · obtain ⟨n, hn⟩ := sortedHeap_at (h := h1.push { cls := .type "list", data := .seq vs.toArray }) (out := List.toArray out) ho
    refine wpAny_pure ⟨_, rfl, h h1 _ _ _ vs out n hc kp (fun b o e => ?_) rfl hn lo eo⟩
    have lt := Heap.lt_size e
    rw [sortedHeap_old (Nat.ne_of_lt lt) (by rw [size_push']; exact Nat.lt_succ_of_lt lt)]
    exact old b o e
end
/-! ### keys, values and items of dicts, sorted -/
def kD : Key → D
  | .inl i => .int i
  | .inr x => .str x
theorem kD_dv {K : Frag} {H : Hp} : ∀ k : Key, DV K H (kD k) (kV k)
  | .inl i => by unfold kD; unfold DV; rfl
  | .inr x => by unfold kD; unfold DV; rfl
theorem kD_dvs {K : Frag} {H : Hp} : ∀ l : List Key, DVs K H (l.map kD) (l.map kV)
  | [] => by unfold List.map DVs; rfl
  | k :: l => ⟨_, _, rfl, kD_dv k, kD_dvs l⟩
theorem dvs_kD {K : Frag} {H : Hp} : ∀ {l : List Key} {ys : List V}, DVs K H (l.map kD) ys → ys = l.map kV
  | [], _, h => by unfold List.map DVs at h; exact h
  | .inl i :: l, _, h => by
    obtain ⟨v, r, rfl, q, t⟩ := h
    unfold kD DV at q
    rw [q, dvs_kD t]; rfl
  | .inr i :: l, _, h => by
    obtain ⟨v, r, rfl, q, t⟩ := h
    unfold kD DV at q
    rw [q, dvs_kD t]; rfl
theorem so_key {l : List Key} : Sortable (l.map fun k => py (kD k)) := Sortable.others fun k => by
  cases k with
  | inl i => exact ⟨by simp [kD, py], fun _ => by simp [kD, py]⟩
  | inr x => exact ⟨by simp [kD, py], fun _ => by simp [kD, py]⟩
theorem each_of_ix {β : Type} {R : Value → β → Prop} : ∀ {vs : List Value} {bs : List β}, vs.length = bs.length → (∀ (i : Nat) (v : Value) (b : β), vs[i]? = some v → bs[i]? = some b → R v b) → EachIs R vs bs
  | [], [], _, _ => .nil
  | [], _ :: _, h, _ => by simp at h
  | _ :: _, [], h, _ => by simp at h
  | v :: vs, b :: bs, h, k => .cons (k 0 v b rfl rfl) (each_of_ix (by simpa using h) fun i v' b' h1 h2 => k (i + 1) v' b' h1 h2)
theorem vals_of_each {β : Type} {R : Value → β → Prop} {f : β → V} : ∀ {out : List Value} {l : List β}, EachIs R out l → (∀ v b, R v b → RelV (f b) v) → Vals (l.map f) out
  | _, _, .nil, _ => .nil
  | _, _, .cons h t, k => .cons (k _ _ h) (vals_of_each t k)
theorem pair_get {α β : Type} {F : α → β → Prop} : ∀ {l₁ : List α} {l₂ : List β} {j : Nat} {x : α}, Paired F l₁ l₂ → l₁[j]? = some x → ∃ y, l₂[j]? = some y ∧ F x y
  | _, _, _, _, .nil, h => by simp at h
  | _, _, 0, _, .cons a _, h => by cases (show some _ = some _ from h); exact ⟨_, rfl, a⟩
  | _, _, j + 1, _, .cons _ t, h => pair_get (j := j) t (by simpa using h)
theorem kV_rel {P : Program} {w : World} {k : Key} {u : Value} (h : (mixKind P w).is k u = true) : RelV (kV k) u := by
  rcases keyIs_shape h with ⟨i, t, e1, e2⟩ | ⟨x, t, e1, e2⟩
  · subst e1; subst e2; exact ⟨t, rfl⟩
  · subst e1; subst e2; exact ⟨t, rfl⟩
theorem Dp.reads0 {h : Heap} (k : Key) {u : Value} (r : RelV (kV k) u) : ∃ as, Reads h u (py (kD k)) as := by
  cases k with
  | inl i => obtain ⟨t, e⟩ := (show ∃ t, u = Value.int i t from r); subst e; exact ⟨_, by unfold kD py; exact Reads.int i t⟩
  | inr x => obtain ⟨t, e⟩ := (show ∃ t, u = Value.str x t from r); subst e; exact ⟨_, by unfold kD py; exact Reads.str x t⟩
theorem no_get {h h' : Heap} (k : ∀ b o, h.get? b = some o → h'.get? b = some o) : h.get? h'.objs.size = none := by
  cases e : h.get? h'.objs.size with
  | none => rfl
  | some o => exact absurd (Heap.lt_size (k _ _ e)) (Nat.lt_irrefl _)
section
variable {X : Cx}
/-- what stands in the entries -/
theorem kv_raw {H : Hp} {h : Heap} {a : Addr} {kvs : List (Key × V)} (ok : HOk X.prog X.w H h) (e : H a = some (.dK kvs)) : kvs.length ≤ sizeLine ∧ (a == sysModules) = false ∧ ∃ es ep, h.DictRaw a es ep ∧ es.size = kvs.length ∧
    ∀ i (hi : i < es.size) k v, kvs[i]? = some (k, v) → RelV (kV k) es[i].key ∧ RelV v es[i].val := by
  obtain ⟨z, hd, vs, rel, dd⟩ := dk_of ok e
  obtain ⟨es, ep, hr, hs, he⟩ := dd.raw
  have hl : kvs.length = vs.length := Paired.length rel
  refine ⟨z, hd, es, ep, hr, by omega, fun i hi k v hk => ?_⟩
  obtain ⟨⟨k', u⟩, hp, h1, h2⟩ := pair_get rel hk
  have h1' : k = k' := h1
  subst h1'
  obtain ⟨q1, q2⟩ := he i hi k u hp
  exact ⟨kV_rel q1, by rw [q2]; exact h2⟩
def rSortKeys : List V → Hp → VK → Prop := fun vs H Q => ∃ (a : Addr) (kvs : List (Key × V)), vs = [.ref a] ∧ H a = some (.dK kvs) ∧ AllAlike ((kvs.map (·.1)).map fun k => py (kD k)) ∧
  ∀ p, H p = none → Q (.ref p) (upd H p (.lst (((kvs.map (·.1)).mergeSort (dle kD)).map kV)))
theorem cr_sortKeys (hu : X.A.units + 65 < cLine) (hc : X.calm = true) : CallR X (.builtin "sorted") rSortKeys := by
  intro pins s σ H vs us Q I r h
  obtain ⟨a, kvs, rfl, ha, hal, q⟩ := h
  obtain ⟨u, rfl, ru⟩ := vals1 r
  obtain rfl : u = Value.ref a := ru
  obtain ⟨z, lo, es, ep, hr, hs, he⟩ := kv_raw I.hok ha
  have hh : X.A.handled = none := I.ok.hd hc
  refine sorted_by (enc := fun k => py (kD k)) (bs := kvs.map (·.1)) (C := fun h' vs => (∀ b o, s.heap.get? b = some o → h'.get? b = some o) ∧ EachIs (fun u k => RelV (kV k) u) vs (kvs.map (·.1)))
    (fun {R'} k => kdu_collect (KdlSrc.rawDict (prog := X.prog) (w := X.w) lo) hh hr (by omega) fun h' tk acc kp hI => k h' tk acc.toList kp ⟨kp, each_of_ix (by rw [Array.length_toList, hI.1, List.length_map, hs]) fun i v k hv hk => ?_⟩)
    (fun h' vs c => c.2.mono fun u k ru => Dp.reads0 k ru) hal so_key (by rw [List.length_map]; exact z) (fun k _ => by
      have : (py (kD k)).depth = 0 := by cases k <;> simp [kD, py, PyData.depth]
      rw [this]; exact hu_big hu (by decide)) fun h1 h' tk b vs out n c kp1 kp2 eb hb lo' eo => ?_
  · rw [Array.getElem?_toList] at hv
    obtain ⟨hi, rfl⟩ := hI.2 i v hv
    rw [List.getElem?_map] at hk
    cases hk' : kvs[i]? with
    | none => rw [hk'] at hk; cases hk
    | some p =>
      rw [hk'] at hk
      obtain rfl := Option.some.inj hk
      exact (he i hi p.1 p.2 hk').1
  · have ng : s.heap.get? b = none := by rw [← eb]; exact no_get kp1
    have fr : H b = none := I.hok.gone ng
    have vo : Vals (((kvs.map (·.1)).mergeSort (dle kD)).map kV) out := vals_of_each eo fun v k ⟨j, h1, h2⟩ => by
      obtain ⟨k', hk', rk⟩ := each_get c.2 h1
      rw [h2] at hk'
      obtain rfl := Option.some.inj hk'
      exact rk
    refine ⟨.ref b, upd H b (.lst _), I.laidN (t' := tk) (fun b o g => kp2 b o (kp1 b o g)) ng fr ⟨?_, out, n, vo, hb⟩, rfl, q b fr⟩
    rw [vals_len vo, lo', List.length_map]; exact z
/-- the view d.values() at p -/
def valuesO (p d : Addr) : HO := .ext fun h => h.IsValuesView p d
theorem valuesO_ok {P : Program} {w : World} {H : Hp} {h : Heap} {p d : Addr} (e : h.get? p = some { cls := .type "dict_values", data := .fields #[.ref d] }) : ObjOk P w H h p (valuesO p d) :=
  ⟨⟨_, e, rfl, rfl⟩, ⟨_, e⟩, fun h1 h2 x k => let ⟨o, ho, r⟩ := x; ⟨o, k o ho, r⟩⟩
def rValuesK : V → List V → Hp → VK → Prop := fun x xs H Q => ∃ (a : Addr) (kvs : List (Key × V)), x = .ref a ∧ xs = [] ∧ H a = some (.dK kvs) ∧ ∀ p, H p = none → Q (.ref p) (upd H p (valuesO p a))
def rItemsK : V → List V → Hp → VK → Prop := fun x xs H Q => ∃ (a : Addr) (kvs : List (Key × V)), x = .ref a ∧ xs = [] ∧ H a = some (.dK kvs) ∧ ∀ p, H p = none → Q (.ref p) (upd H p (L2.DX.itemsO p a))
theorem mt_itemsK : MtR X "dict.items" rItemsK := by
  intro pins s σ H x xs v us Q I rx rxs h
  obtain ⟨a, kvs, rfl, rfl, ha, q⟩ := h
  cases rx
  cases rxs
  obtain ⟨z, hd, es, ep, hr, hs, he⟩ := kv_raw I.hok ha
  refine DT.callItems (es := es) (ep := ep) hd hr ?_
  have hf : H s.heap.objs.size = none := I.hok.fresh (Nat.le_refl _)
  exact ⟨.ref s.heap.objs.size, upd H s.heap.objs.size (L2.DX.itemsO s.heap.objs.size a), I.laid (t' := s.toks) (fun b u e => Heap.get?_push_of_some _ e) (Nat.le_refl _) (L2.DX.itemsO_ok (Heap.get?_push_size _ rfl)), rfl, q _ hf⟩
/-- sorted of such a view -/
def rSortVals (K : Frag) : List V → Hp → VK → Prop := fun vs H Q => ∃ (p a : Addr) (kvs : List (Key × V)) (β : Type) (l : List β) (f : β → D), vs = [.ref p] ∧ H p = some (valuesO p a) ∧ H a = some (.dK kvs) ∧ DVs K H (l.map f) (kvs.map (·.2)) ∧ AllAlike (l.map fun b => py (f b)) ∧ PySem.W.Sortable (l.map fun b => py (f b)) ∧ (∀ b ∈ l, (py (f b)).depth ≤ 60) ∧
  ∀ (ys : List V) (r : Addr), H r = none → DVs K H ((l.mergeSort (dle f)).map f) ys → Q (.ref r) (upd H r (.lst ys))
theorem cr_sortVals (hu : X.A.units + 65 < cLine) (hc : X.calm = true) : CallR X (.builtin "sorted") (rSortVals X.K) := by
  intro pins s σ H vs us Q I r h
  obtain ⟨p, a, kvs, β, l, f, rfl, hp, ha, hd, hal, hsb, hdp, q⟩ := h
  obtain ⟨u, rfl, ru⟩ := vals1 r
  obtain rfl : u = Value.ref p := ru
  have view : s.heap.IsValuesView p a := (show ObjOk X.prog X.w H s.heap p (valuesO p a) from I.hok p _ hp).1
  obtain ⟨z, lo, es, ep, hr, hs, he⟩ := kv_raw I.hok ha
  have hh : X.A.handled = none := I.ok.hd hc
  have ll : l.length = kvs.length := by have := hd.len; rw [List.length_map, List.length_map] at this; omega
  have dv : ∀ (i : Nat) (b : β) (k : Key) (v : V), l[i]? = some b → kvs[i]? = some (k, v) → DV X.K H (f b) v := fun i b k v hb hk => by
    obtain ⟨v', hv', d⟩ := hd.get (i := i) (d := f b) (by rw [List.getElem?_map, hb]; rfl)
    rw [List.getElem?_map, hk] at hv'
    obtain rfl := Option.some.inj hv'
    exact d
  refine sorted_by (enc := fun b => py (f b)) (bs := l) (C := fun h' vs => (∀ b o, s.heap.get? b = some o → h'.get? b = some o) ∧ EachIs (fun u b => ∃ v, RelV v u ∧ DV X.K H (f b) v) vs l)
    (fun {R'} k => kdu_collect (KdlSrc.rawValues (prog := X.prog) (w := X.w)) hh ⟨view, hr⟩ (by omega) fun h' tk acc kp hI => k h' tk acc.toList kp ⟨kp, each_of_ix (by rw [Array.length_toList, hI.1, ll, hs]) fun i v b hv hb => ?_⟩)
    (fun h' vs c => c.2.mono fun u b ⟨v, rv, d⟩ => by
      obtain ⟨as, rr⟩ := Dp.reads I _ _ _ d.dp rv
      exact ⟨as, PyProof.Rows.Reads.keeps c.1 rr⟩) hal hsb (by omega) (fun b m => hu_big hu (hdp b m)) fun h1 h' tk b vs out n c kp1 kp2 eb hb lo' eo => ?_
  · rw [Array.getElem?_toList] at hv
    obtain ⟨hi, rfl⟩ := hI.2 i v hv
    obtain ⟨⟨k, v⟩, hk⟩ : ∃ p, kvs[i]? = some p := ⟨_, List.getElem?_eq_getElem (by omega)⟩
    exact ⟨v, (he i hi k v hk).2, dv i b k v hb hk⟩
  · have ng : s.heap.get? b = none := by rw [← eb]; exact no_get kp1
    have fr : H b = none := I.hok.gone ng
    have eo2 : EachIs (fun u b => ∃ v, RelV v u ∧ DV X.K H (f b) v) out (l.mergeSort (dle f)) := eo.mono fun v k ⟨j, h1, h2⟩ => by
      obtain ⟨k', hk', rk⟩ := each_get c.2 h1
      rw [h2] at hk'
      obtain rfl := Option.some.inj hk'
      exact rk
    obtain ⟨ys, dy, ry⟩ := each_dvs eo2
    refine ⟨.ref b, upd H b (.lst ys), I.laidN (t' := tk) (fun b o g => kp2 b o (kp1 b o g)) ng fr ⟨?_, out, n, ry, hb⟩, rfl, q ys b fr dy⟩
    rw [vals_len ry, lo', ll]; exact z
/-- d.update(e) -/
def rUpdK : V → List V → Hp → VK → Prop := fun x xs H Q => ∃ (a b : Addr) (kvs more : List (Key × V)), x = .ref a ∧ xs = [.ref b] ∧ a ≠ b ∧ H a = some (.dK kvs) ∧ H b = some (.dK more) ∧ kvs.length + more.length ≤ sizeLine ∧ Q .non (upd H a (.dK (mergeK kvs more)))
theorem mt_updK : MtR X "dict.update" rUpdK := by
  intro pins s σ H x xs v us Q I rx rxs h
  obtain ⟨a, b, kvs, more, rfl, rfl, ab, ha, hb, hz, q⟩ := h
  cases rx
  obtain ⟨u, rfl, ru⟩ := rxs.one
  cases ru
  obtain ⟨z, hd, vs, rel, dd⟩ := dk_of I.hok ha
  obtain ⟨z', hd', vs', rel', dd'⟩ := dk_of I.hok hb
  refine call_meetsIn PySem.F.slot_dict_update dd.typeIs PySem.F.entry_dict_update (PySem.F.args_dict_update_2 _ _) (meets_dict_update (mixKind X.prog X.w) a b ab hd')
    ⟨vs, vs', dd, dd', by rw [← rel.length, ← rel'.length]; exact hz, fun h' d1 d2 hs => ⟨.non, _, ?_, rfl, q⟩⟩
  have he : ∃ q, h'.get? a = some q := let ⟨q, _, _, hq, _⟩ := d1; ⟨q, hq⟩
  exact d_write I (by rw [ha]; exact True.intro) hs he (dk_new (Nat.le_trans (length_mergeK _ _) hz) hd (KV.merge rel' rel) d1)
theorem mt_valuesK : MtR X "dict.values" rValuesK := by
  intro pins s σ H x xs v us Q I rx rxs h
  obtain ⟨a, kvs, rfl, rfl, ha, q⟩ := h
  cases rx
  cases rxs
  obtain ⟨z, hd, es, ep, hr, hs, he⟩ := kv_raw I.hok ha
  have hf : H s.heap.objs.size = none := I.hok.fresh (Nat.le_refl _)
  refine call_meetsIn PySem.F.slot_dict_values hr.typeIs PySem.F.entry_dict_values (PySem.F.args_dict_values_1 _) (meets_dict_values_raw (prog := X.prog) (w := X.w) a hd) ⟨⟨es, ep, hr⟩, ?_⟩
  exact ⟨.ref s.heap.objs.size, upd H s.heap.objs.size (valuesO s.heap.objs.size a), I.laid (t' := s.toks) (fun b u e => Heap.get?_push_of_some _ e) (Nat.le_refl _) (valuesO_ok (Heap.get?_push_size _ rfl)), rfl, q _ hf⟩
end
section
variable {prog : Program} {w : World} {A : Around} {E : Value → Shared → Prop} {s : Shared}
theorem bestX (bt : Nat → Nat → Bool) : (bt 1 0 = false ∧ argBest bt 1 = 0) ∨ (bt 1 0 = true ∧ argBest bt 1 = 1) := by
  by_cases h : bt 1 (argBest bt 0) = true
  · exact .inr ⟨h, if_pos h⟩
  · exact .inl ⟨Bool.eq_false_iff.mpr h, if_neg h⟩
/-- the larger one -/
theorem max_strX {x y : Str} {t u : Tok} {Q : Value → Shared → Prop} (calm : A.handled = none)
    (h : ∀ (hp : Heap) (tk : Nat), (∀ b o, s.heap.get? b = some o → hp.get? b = some o) → Q (if decide (tl x < tl y) = true then .str y u else .str x t) { s with heap := hp, toks := tk }) : wpAny (model prog w) A (call (.builtin "max") [.str x t, .str y u]) Q E s := by
  have tp : (s.heap.push { cls := .type "tuple", data := .seq #[.str x t, .str y u] }).IsTuple s.heap.objs.size #[.str x t, .str y u] := ⟨_, Heap.get?_push_size _ rfl, rfl, 0, rfl⟩
  have z1 : (s.heap.push { cls := .type "tuple", data := .seq #[.str x t, .str y u] }).objs.size = s.heap.objs.size + 1 := Heap.size_push ..
  refine call_max_two (wpAny_pyIter_tuple tp ?_)
  refine ⟨_, [_, s.heap.objs.size], [_], _, _, _, fun i j => decide ((if j = 0 then x else y).cps.toList < (if i = 0 then x else y).cps.toList), rfl, Walks.tuple (A := A.in1) calm _ s.heap.objs.size (by rw [z1]; exact Nat.ne_of_lt (Nat.lt_succ_self _)) #[.str x t, .str y u], ⟨⟨_, Heap.get?_push_size _ rfl, rfl, rfl⟩, tp.push _⟩, fun b hb => ?_, by simp, fun i j vi vj s1 Q1 E1 gi gj q => ?_, fun v hp tk hv kp => ?_⟩
  · show b < ((s.heap.push _).push _).objs.size
    rw [Heap.size_push]
    simp only [List.mem_cons, List.not_mem_nil, or_false] at hb
    rcases hb with e | e <;> subst e
    · exact Nat.lt_succ_self _
    · rw [z1]; exact Nat.lt_succ_of_lt (Nat.lt_succ_self _)
  · have pick : ∀ {k : Nat} {v : Value}, (#[Value.str x t, Value.str y u])[k]? = some v → ∃ tt, v = .str (if k = 0 then x else y) tt := fun {k v} g => by
      match k, g with
      | 0, g => exact ⟨t, (Option.some.inj g).symm⟩
      | 1, g => exact ⟨u, (Option.some.inj g).symm⟩
      | k + 2, g => simp at g
    obtain ⟨ti, rfl⟩ := pick gi
    obtain ⟨tj, rfl⟩ := pick gj
    exact PySem.P.gt_str q
  · have old : ∀ b o, s.heap.get? b = some o → hp.get? b = some o := fun b o g => by
      refine kp b o (fun m => ?_) (Heap.get?_push_of_some _ (Heap.get?_push_of_some _ g))
      have lt := Heap.lt_size g
      rw [List.mem_singleton.mp m, z1] at lt
      exact absurd lt (Nat.not_lt_of_lt (Nat.lt_succ_self _))
    have hv' : (#[Value.str x t, Value.str y u])[argBest (fun i j => decide ((if j = 0 then x else y).cps.toList < (if i = 0 then x else y).cps.toList)) 1]? = some v := hv
    rcases bestX (fun i j => decide ((if j = 0 then x else y).cps.toList < (if i = 0 then x else y).cps.toList)) with ⟨e0, e⟩ | ⟨e0, e⟩
    · rw [e] at hv'
      have ev : Value.str x t = v := Option.some.inj hv'
      have := h hp tk old
      have e1 : (decide (tl x < tl y)) = false := e0
      rw [e1] at this
      rw [← ev]; exact this
    · rw [e] at hv'
      have ev : Value.str y u = v := Option.some.inj hv'
      have := h hp tk old
      have e1 : (decide (tl x < tl y)) = true := e0
      rw [e1] at this
      rw [← ev]; exact this
theorem min_strX {x y : Str} {t u : Tok} {Q : Value → Shared → Prop} (calm : A.handled = none)
    (h : ∀ (hp : Heap) (tk : Nat), (∀ b o, s.heap.get? b = some o → hp.get? b = some o) → Q (if decide (tl y < tl x) = true then .str y u else .str x t) { s with heap := hp, toks := tk }) : wpAny (model prog w) A (call (.builtin "min") [.str x t, .str y u]) Q E s := by
  have tp : (s.heap.push { cls := .type "tuple", data := .seq #[.str x t, .str y u] }).IsTuple s.heap.objs.size #[.str x t, .str y u] := ⟨_, Heap.get?_push_size _ rfl, rfl, 0, rfl⟩
  have z1 : (s.heap.push { cls := .type "tuple", data := .seq #[.str x t, .str y u] }).objs.size = s.heap.objs.size + 1 := Heap.size_push ..
  refine call_min_two (wpAny_pyIter_tuple tp ?_)
  refine ⟨_, [_, s.heap.objs.size], [_], _, _, _, fun i j => decide ((if i = 0 then x else y).cps.toList < (if j = 0 then x else y).cps.toList), rfl, Walks.tuple (A := A.in1) calm _ s.heap.objs.size (by rw [z1]; exact Nat.ne_of_lt (Nat.lt_succ_self _)) #[.str x t, .str y u], ⟨⟨_, Heap.get?_push_size _ rfl, rfl, rfl⟩, tp.push _⟩, fun b hb => ?_, by simp, fun i j vi vj s1 Q1 E1 gi gj q => ?_, fun v hp tk hv kp => ?_⟩
  · show b < ((s.heap.push _).push _).objs.size
    rw [Heap.size_push]
    simp only [List.mem_cons, List.not_mem_nil, or_false] at hb
    rcases hb with e | e <;> subst e
    · exact Nat.lt_succ_self _
    · rw [z1]; exact Nat.lt_succ_of_lt (Nat.lt_succ_self _)
  · have pick : ∀ {k : Nat} {v : Value}, (#[Value.str x t, Value.str y u])[k]? = some v → ∃ tt, v = .str (if k = 0 then x else y) tt := fun {k v} g => by
      match k, g with
      | 0, g => exact ⟨t, (Option.some.inj g).symm⟩
      | 1, g => exact ⟨u, (Option.some.inj g).symm⟩
      | k + 2, g => simp at g
    obtain ⟨ti, rfl⟩ := pick gi
    obtain ⟨tj, rfl⟩ := pick gj
    exact PySem.P.lt_str q
  · have old : ∀ b o, s.heap.get? b = some o → hp.get? b = some o := fun b o g => by
      refine kp b o (fun m => ?_) (Heap.get?_push_of_some _ (Heap.get?_push_of_some _ g))
      have lt := Heap.lt_size g
      rw [List.mem_singleton.mp m, z1] at lt
      exact absurd lt (Nat.not_lt_of_lt (Nat.lt_succ_self _))
    have hv' : (#[Value.str x t, Value.str y u])[argBest (fun i j => decide ((if i = 0 then x else y).cps.toList < (if j = 0 then x else y).cps.toList)) 1]? = some v := hv
    rcases bestX (fun i j => decide ((if i = 0 then x else y).cps.toList < (if j = 0 then x else y).cps.toList)) with ⟨e0, e⟩ | ⟨e0, e⟩
    · rw [e] at hv'
      have ev : Value.str x t = v := Option.some.inj hv'
      have := h hp tk old
      have e1 : (decide (tl y < tl x)) = false := e0
      rw [e1] at this
      rw [← ev]; exact this
    · rw [e] at hv'
      have ev : Value.str y u = v := Option.some.inj hv'
      have := h hp tk old
      have e1 : (decide (tl y < tl x)) = true := e0
      rw [e1] at this
      rw [← ev]; exact this
end
section
variable {X : Cx}
def minP (x y : Str) : Str := if decide (tl y < tl x) = true then y else x
def maxP (x y : Str) : Str := if decide (tl x < tl y) = true then y else x
theorem call_maxX (hc : X.calm = true) : CallR X (.builtin "max") (fun xs H Q => ∃ x y : Str, xs = [.str x, .str y] ∧ Q (.str (maxP x y)) H) := by
  intro pins s σ H xs us Q I r h
  obtain ⟨x, y, rfl, q⟩ := h
  obtain ⟨u, w', rfl, ⟨t, rfl⟩, ⟨t', rfl⟩⟩ := vals2 r
  refine max_strX (I.ok.hd hc) fun hp tk old => ?_
  refine ⟨.str (maxP x y), H, I.kept old, ?_, q⟩
  unfold maxP
  split
  · exact ⟨t', rfl⟩
  · exact ⟨t, rfl⟩
theorem call_minX (hc : X.calm = true) : CallR X (.builtin "min") (fun xs H Q => ∃ x y : Str, xs = [.str x, .str y] ∧ Q (.str (minP x y)) H) := by
  intro pins s σ H xs us Q I r h
  obtain ⟨x, y, rfl, q⟩ := h
  obtain ⟨u, w', rfl, ⟨t, rfl⟩, ⟨t', rfl⟩⟩ := vals2 r
  refine min_strX (I.ok.hd hc) fun hp tk old => ?_
  refine ⟨.str (minP x y), H, I.kept old, ?_, q⟩
  unfold minP
  split
  · exact ⟨t', rfl⟩
  · exact ⟨t, rfl⟩
end
end Z
namespace Z
open PySem L2 SX
def top (i : Nat) : Stmt := PySem.Challenge.pw_criermoot_k52_whole_desks.main.body.getD i (.Pass ⟨0, 0, 0, 0⟩)
abbrev s_Story____init__ : Stmt := inClass (top 2) 0
abbrev N_Story____init__ : List Str := ["self", "limit"]
theorem sc_Story____init__ : FnScope ["self", "limit"] ["self", "limit"] (defScope s_Story____init__) := ⟨rfl, rfl, rfl, by decide +kernel, rfl, by decide +kernel, by decide +kernel⟩
abbrev s_Story__last : Stmt := inClass (top 2) 1
abbrev N_Story__last : List Str := ["self"]
theorem sc_Story__last : FnScope ["self"] ["self"] (defScope s_Story__last) := ⟨rfl, rfl, rfl, by decide +kernel, rfl, by decide +kernel, by decide +kernel⟩
abbrev s_Story__new : Stmt := inClass (top 2) 2
abbrev N_Story__new : List Str := ["self", "number", "id"]
theorem sc_Story__new : FnScope ["self", "number", "id"] ["self", "number", "id"] (defScope s_Story__new) := ⟨rfl, rfl, rfl, by decide +kernel, rfl, by decide +kernel, by decide +kernel⟩
abbrev s_Story__gone : Stmt := inClass (top 2) 3
abbrev N_Story__gone : List Str := ["self", "number"]
theorem sc_Story__gone : FnScope ["self", "number"] ["self", "number"] (defScope s_Story__gone) := ⟨rfl, rfl, rfl, by decide +kernel, rfl, by decide +kernel, by decide +kernel⟩
abbrev s_Story__keep_change : Stmt := inClass (top 2) 4
abbrev N_Story__keep_change : List Str := ["self", "change"]
theorem sc_Story__keep_change : FnScope ["self", "change"] ["self", "change"] (defScope s_Story__keep_change) := ⟨rfl, rfl, rfl, by decide +kernel, rfl, by decide +kernel, by decide +kernel⟩
abbrev s_Story__since : Stmt := inClass (top 2) 6
abbrev N_Story__since : List Str := ["self", "stamp", "many"]
theorem sc_Story__since : FnScope ["self", "stamp", "many"] ["self", "stamp"] (defScope s_Story__since) := ⟨rfl, rfl, rfl, by decide +kernel, rfl, by decide +kernel, by decide +kernel⟩
abbrev s_Story__pairs : Stmt := inClass (top 2) 7
abbrev N_Story__pairs : List Str := ["self"]
theorem sc_Story__pairs : FnScope ["self"] ["self"] (defScope s_Story__pairs) := ⟨rfl, rfl, rfl, by decide +kernel, rfl, by decide +kernel, by decide +kernel⟩
abbrev s_Desk____init__ : Stmt := inClass (top 3) 0
abbrev N_Desk____init__ : List Str := ["self"]
theorem sc_Desk____init__ : FnScope ["self"] ["self"] (defScope s_Desk____init__) := ⟨rfl, rfl, rfl, by decide +kernel, rfl, by decide +kernel, by decide +kernel⟩
abbrev s_Desk__stamp : Stmt := inClass (top 3) 1
abbrev N_Desk__stamp : List Str := ["self"]
theorem sc_Desk__stamp : FnScope ["self"] ["self"] (defScope s_Desk__stamp) := ⟨rfl, rfl, rfl, by decide +kernel, rfl, by decide +kernel, by decide +kernel⟩
abbrev s_Desk__view : Stmt := inClass (top 3) 2
abbrev N_Desk__view : List Str := ["self"]
theorem sc_Desk__view : FnScope ["self"] ["self"] (defScope s_Desk__view) := ⟨rfl, rfl, rfl, by decide +kernel, rfl, by decide +kernel, by decide +kernel⟩
abbrev s_Desk__hear : Stmt := inClass (top 3) 3
abbrev N_Desk__hear : List Str := ["self", "answer", "word", "last", "told", "change", "number", "id"]
theorem sc_Desk__hear : FnScope ["self", "answer", "word", "last", "told", "change", "number", "id"] ["self", "answer"] (defScope s_Desk__hear) := ⟨rfl, rfl, rfl, by decide +kernel, rfl, by decide +kernel, by decide +kernel⟩
abbrev s_Desk__do_change : Stmt := inClass (top 3) 4
abbrev N_Desk__do_change : List Str := ["self", "change"]
theorem sc_Desk__do_change : FnScope ["self", "change"] ["self", "change"] (defScope s_Desk__do_change) := ⟨rfl, rfl, rfl, by decide +kernel, rfl, by decide +kernel, by decide +kernel⟩
abbrev s__law_mix : Stmt := top 5
abbrev N__law_mix : List Str := ["seed", "turn", "number"]
theorem sc__law_mix : FnScope ["seed", "turn", "number"] ["seed", "turn"] (defScope s__law_mix) := ⟨rfl, rfl, rfl, by decide +kernel, rfl, by decide +kernel, by decide +kernel⟩
abbrev s__law_source : Stmt := top 6
abbrev N__law_source : List Str := ["script", "seed", "k"]
theorem sc__law_source : FnScope ["script", "seed", "k"] ["script"] (defScope s__law_source) := ⟨rfl, rfl, rfl, by decide +kernel, rfl, by decide +kernel, by decide +kernel⟩
abbrev s__law_draw : Stmt := top 7
abbrev N__law_draw : List Str := ["source", "many", "cell", "value"]
theorem sc__law_draw : FnScope ["source", "many", "cell", "value"] ["source", "many"] (defScope s__law_draw) := ⟨rfl, rfl, rfl, by decide +kernel, rfl, by decide +kernel, by decide +kernel⟩
abbrev s__law_pick : Stmt := top 8
abbrev N__law_pick : List Str := ["source", "row"]
theorem sc__law_pick : FnScope ["source", "row"] ["source", "row"] (defScope s__law_pick) := ⟨rfl, rfl, rfl, by decide +kernel, rfl, by decide +kernel, by decide +kernel⟩
abbrev s__law_once_in : Stmt := top 9
abbrev N__law_once_in : List Str := ["source", "many"]
theorem sc__law_once_in : FnScope ["source", "many"] ["source", "many"] (defScope s__law_once_in) := ⟨rfl, rfl, rfl, by decide +kernel, rfl, by decide +kernel, by decide +kernel⟩
abbrev s__law_new_name : Stmt := top 10
abbrev N__law_new_name : List Str := ["source", "used", "letters", "size", "name", "k", "tried"]
theorem sc__law_new_name : FnScope ["source", "used", "letters", "size", "name", "k", "tried"] ["source", "used"] (defScope s__law_new_name) := ⟨rfl, rfl, rfl, by decide +kernel, rfl, by decide +kernel, by decide +kernel⟩
abbrev s__law_names : Stmt := top 11
abbrev N__law_names : List Str := ["source", "many", "used", "k"]
theorem sc__law_names : FnScope ["source", "many", "used", "k"] ["source", "many"] (defScope s__law_names) := ⟨rfl, rfl, rfl, by decide +kernel, rfl, by decide +kernel, by decide +kernel⟩
abbrev s__law_is_int : Stmt := top 12
abbrev N__law_is_int : List Str := ["value"]
theorem sc__law_is_int : FnScope ["value"] ["value"] (defScope s__law_is_int) := ⟨rfl, rfl, rfl, by decide +kernel, rfl, by decide +kernel, by decide +kernel⟩
abbrev s__law_same : Stmt := top 13
abbrev N__law_same : List Str := ["actual", "due", "k"]
theorem sc__law_same : FnScope ["actual", "due", "k"] ["actual", "due"] (defScope s__law_same) := ⟨rfl, rfl, rfl, by decide +kernel, rfl, by decide +kernel, by decide +kernel⟩
abbrev s__law_many : Stmt := top 14
abbrev N__law_many : List Str := ["source", "least", "wide", "more", "many"]
theorem sc__law_many : FnScope ["source", "least", "wide", "more", "many"] ["source", "least", "wide", "more"] (defScope s__law_many) := ⟨rfl, rfl, rfl, by decide +kernel, rfl, by decide +kernel, by decide +kernel⟩
abbrev s__law_number : Stmt := top 15
abbrev N__law_number : List Str := ["source", "view", "number", "menu"]
theorem sc__law_number : FnScope ["source", "view", "number", "menu"] ["source", "view"] (defScope s__law_number) := ⟨rfl, rfl, rfl, by decide +kernel, rfl, by decide +kernel, by decide +kernel⟩
abbrev s__law_changes : Stmt := top 16
abbrev N__law_changes : List Str := ["source", "many", "names", "view", "found", "k", "number"]
theorem sc__law_changes : FnScope ["source", "many", "names", "view", "found", "k", "number"] ["source", "many"] (defScope s__law_changes) := ⟨rfl, rfl, rfl, by decide +kernel, rfl, by decide +kernel, by decide +kernel⟩
abbrev s__law_view : Stmt := top 17
abbrev N__law_view : List Str := ["changes", "table", "change", "number"]
theorem sc__law_view : FnScope ["changes", "table", "change", "number"] ["changes"] (defScope s__law_view) := ⟨rfl, rfl, rfl, by decide +kernel, rfl, by decide +kernel, by decide +kernel⟩
abbrev s__law_do : Stmt := top 18
abbrev N__law_do : List Str := ["story", "change"]
theorem sc__law_do : FnScope ["story", "change"] ["story", "change"] (defScope s__law_do) := ⟨rfl, rfl, rfl, by decide +kernel, rfl, by decide +kernel, by decide +kernel⟩
abbrev s__law_desk_right : Stmt := top 19
abbrev N__law_desk_right : List Str := ["desk", "stamp", "views"]
theorem sc__law_desk_right : FnScope ["desk", "stamp", "views"] ["desk", "stamp", "views"] (defScope s__law_desk_right) := ⟨rfl, rfl, rfl, by decide +kernel, rfl, by decide +kernel, by decide +kernel⟩
abbrev s__law_misses_right : Stmt := top 20
abbrev N__law_misses_right : List Str := ["story", "firsts", "views", "last", "first", "desk"]
theorem sc__law_misses_right : FnScope ["story", "firsts", "views", "last", "first", "desk"] ["story", "firsts", "views"] (defScope s__law_misses_right) := ⟨rfl, rfl, rfl, by decide +kernel, rfl, by decide +kernel, by decide +kernel⟩
abbrev s__law_own_answer : Stmt := top 21
abbrev N__law_own_answer : List Str := ["source", "changes", "views", "stamp", "last"]
theorem sc__law_own_answer : FnScope ["source", "changes", "views", "stamp", "last"] ["source", "changes", "views", "stamp", "last"] (defScope s__law_own_answer) := ⟨rfl, rfl, rfl, by decide +kernel, rfl, by decide +kernel, by decide +kernel⟩
abbrev s__law_desks_hear : Stmt := top 22
abbrev N__law_desks_hear : List Str := ["source", "story", "desks", "stamps", "changes", "views", "last", "k", "answer"]
theorem sc__law_desks_hear : FnScope ["source", "story", "desks", "stamps", "changes", "views", "last", "k", "answer"] ["source", "story", "desks", "stamps", "changes", "views", "last"] (defScope s__law_desks_hear) := ⟨rfl, rfl, rfl, by decide +kernel, rfl, by decide +kernel, by decide +kernel⟩
abbrev s_law : Stmt := top 23
abbrev N_law : List Str := ["script", "source", "story", "changes", "k", "views", "desks", "stamps", "firsts"]
theorem sc_law : FnScope ["script", "source", "story", "changes", "k", "views", "desks", "stamps", "firsts"] ["script"] (defScope s_law) := ⟨rfl, rfl, rfl, by decide +kernel, rfl, by decide +kernel, by decide +kernel⟩
structure Tx (mg : Str → Option Value) : Prop where
  n_abs : mg "abs" = none
  n_bool : mg "bool" = none
  n_int : mg "int" = none
  n_isinstance : mg "isinstance" = none
  n_len : mg "len" = none
  n_list : mg "list" = none
  n_range : mg "range" = none
  n_sorted : mg "sorted" = none
  n_str : mg "str" = none
  n_tuple : mg "tuple" = none
structure To (K : PySem.W.Frag) (mg : Str → Option Value) (A_Story A_Desk : Addr) : Prop where
  g_Story : mg "Story" = some (.ref A_Story)
  c_Story : Cls K A_Story
  n_Story_limit : NoAttr K A_Story "_limit"
  n_Story_stamp : NoAttr K A_Story "_stamp"
  n_Story_changes : NoAttr K A_Story "_changes"
  n_Story_numbers : NoAttr K A_Story "_numbers"
  g_Desk : mg "Desk" = some (.ref A_Desk)
  c_Desk : Cls K A_Desk
  n_Desk_stamp : NoAttr K A_Desk "_stamp"
  n_Desk_numbers : NoAttr K A_Desk "_numbers"
end Z
namespace Z
open PySem PySem.Spec PyProof.Rows L2 SX
/-! ### enumerate(text) -/
def ItEs (x : Str) : It := ⟨fun i _ => i < x.cps.size, fun i H v H' => ∃ (T : Addr) (c : Nat), v = .ref T ∧ H T = none ∧ H' = upd H T (.tup [.int (i : Nat), .str ⟨#[c]⟩]) ∧ x.cps[i]? = some c, fun i _ => i = x.cps.size⟩
theorem turn_enumS {P : Program} {w : World} {K : PySem.W.Frag} {elts : List Expr} {kk : Nat} {tpos : Pos} (x : Str) (t : Tok) (e it : Addr) :
    Turn P w K (.Tuple elts kk tpos) (ItEs x) [e, it] e (fun i h => (∃ old, IsEnum h e it ((i : Nat) : Int) old) ∧ h.IsStrIter it (strIterType x) x t i ∧ e ≠ it) where
  mem := by simp
  obj := fun i h st b hb => by
    obtain ⟨⟨old, he⟩, ⟨o, ho, hc, hd⟩, _⟩ := st
    have e' : b = e ∨ b = it := by simpa using hb
    rcases e' with z | z
    · rw [z]; exact ⟨_, he, fun v q => nomatch q⟩
    · rw [z]; exact ⟨o, ho, fun v q => by rw [hd] at q; cases q⟩
  keep := fun i h h' st k => by
    obtain ⟨⟨old, he⟩, ⟨o, ho, r⟩, hne⟩ := st
    exact ⟨⟨old, k e (by simp) _ he⟩, ⟨o, k it (by simp) o ho, r⟩, hne⟩
  item := by
    intro X hP hw hK hc i pins s σ H E I hf st hg
    subst hP hw hK
    obtain ⟨⟨old, he⟩, hit, hne⟩ := st
    have hel : e < s.heap.objs.size := Heap.lt_size he
    have hil : it < s.heap.objs.size := by obtain ⟨_, q, _⟩ := hit; exact Heap.lt_size q
    have D := Draws.text (prog := X.prog) (w := X.w) (A := X.A.in1) (I.ok.hd hc) it x t
    refine wpAny_pyNext_enum_itemC D he hit hg hne (by simp [hne]) fun v h' tk hv ho hit' hT hsz hk => ?_
    obtain ⟨c, u, hcx, rfl⟩ := hv
    refine ⟨_, rfl, wpAny_letOwnedTupleGo_enum (s := { s with heap := h', toks := tk + 1 }) ho fun h'' he' sb => ?_⟩
    have hT2 : h''.get? s.heap.objs.size = some { cls := .type "tuple", data := .seq #[.int i tk, .str ⟨#[c]⟩ u] } := (sb.2 _ (Nat.ne_of_gt hel)).trans hT
    have new : ObjOk X.prog X.w (upd H s.heap.objs.size (.tup [.int (i : Nat), .str ⟨#[c]⟩])) h'' s.heap.objs.size (.tup [.int (i : Nat), .str ⟨#[c]⟩]) :=
      ⟨by show 2 ≤ sizeLine; decide, [.int i tk, .str ⟨#[c]⟩ u], .cons ⟨_, rfl⟩ (.cons ⟨_, rfl⟩ .nil), ⟨_, hT2, rfl, _, rfl⟩⟩
    have I1 : Inv X pins σ (upd H s.heap.objs.size (.tup [.int (i : Nat), .str ⟨#[c]⟩])) { s with heap := h'', toks := tk + 1 } :=
      I.turnedNew (ch := [e, it]) (fun b ob hb q => (sb.2 b (fun z => hb (by simp [z]))).trans (hk b ob (fun z => hb (by simp [z])) (fun z => hb (by simp [z])) q)) hf (Nat.le_refl _) new
    refine ⟨.ref s.heap.objs.size, _, I1, rfl, ⟨_, c, rfl, I.hok.fresh (Nat.le_refl _), rfl, hcx⟩, ⟨⟨.str ⟨#[c]⟩ u, ?_⟩, ?_, hne⟩, fun b hb => ?_⟩
    · have e1 : ((i + 1 : Nat) : Int) = (i : Int) + 1 := by omega
      rw [e1]; exact he'
    · obtain ⟨o, q, r⟩ := hit'
      exact ⟨o, (sb.2 it (Ne.symm hne)).trans q, r⟩
    · have hb' : b < s.heap.objs.size := by
        have e' : b = e ∨ b = it := by simpa using hb
        rcases e' with z | z
        · rw [z]; exact hel
        · rw [z]; exact hil
      rw [upd_ne (Nat.ne_of_lt hb')]
      exact (hf b hb).1
  done := by
    intro X hP hw hK hc i pins s σ H E I hf st hg
    subst hP hw hK
    obtain ⟨⟨old, he⟩, hit, hne⟩ := st
    obtain ⟨f0, f1, f2, f3, f4, f5⟩ := hf it (by simp)
    have hg' : i = x.cps.size := hg
    subst hg'
    have D := Draws.text (prog := X.prog) (w := X.w) (A := X.A.in1) (I.ok.hd hc) it x t
    exact wpAny_pyNext_enum_endD D he hit fun h' eb => ⟨rfl, I.turned (t' := s.toks) (fun b o hb q => eb b o hb q) f0 f1 f3 f4 f5⟩
  self := fun A i s Q E st h => let ⟨⟨_, he⟩, _⟩ := st; wpAny_pyIter_enum he h
def iEnumS (ta : TA) : TI := fun σ H R => ta σ H fun vs H1 => ∃ x : Str, vs = [.str x] ∧ R (ItEs x) H1
theorem pi_enumS {X : Cx} {e : Expr} {ta : TA} {p pos tpos : Pos} {elts : List Expr} {kk : Nat} (hg : Gl X "enumerate") (hm : X.mg "enumerate" = none) (ha : PA X [e] ta) (hs : starEach [e] X.env = [(false, eval e X.env)] := by rfl) :
    PI X (.Tuple elts kk tpos) (.Call (.Name "enumerate" p) [e] [] pos) (iEnumS ta) := by
  refine ⟨fun pins s σ H R I h => ?_⟩
  refine Call_ (ld_blt I hg hm boot_enumerate (PyProof.Rows.callWith_type1 (thn (ha.run pos pins s σ H _ I h) fun us s1 ⟨vs, H1, I1, r1, q1⟩ => ?_) hs rfl))
  obtain ⟨x, ex, q⟩ := q1
  subst ex
  cases r1 with
  | cons r rr =>
    cases rr
    obtain ⟨t, rfl⟩ := r
    refine call_enumerate_str fun h' he hit hsz hk => wpAny_pyIter_enum he ?_
    have I2 : Inv X pins σ H1 { s1 with heap := h' } := I1.kept (t' := s1.toks) hk
    refine ⟨s1.heap.objs.size + 1, [s1.heap.objs.size + 1, s1.heap.objs.size], _, _, H1, rfl, I2, turn_enumS x t (s1.heap.objs.size + 1) s1.heap.objs.size, ⟨⟨.none, he⟩, hit, Nat.succ_ne_self _⟩, fun b hb => ?_, q⟩
    have e' : b = s1.heap.objs.size + 1 ∨ b = s1.heap.objs.size := by simpa using hb
    have hle : s1.heap.objs.size ≤ b := by
      rcases e' with z | z
      · rw [z]; exact Nat.le_add_right _ _
      · rw [z]; exact Nat.le_refl _
    exact I1.fpOk hle (I1.hok.fresh hle)
theorem for_enumS {l : List Nat} {g : TG} {tb : TS} {D : Ends} {σ : L2.St} {H : Hp} (Pv : Nat → L2.St → Hp → Prop) (h0 : Pv 0 σ H)
    (hs : ∀ i c T σ H, l[i]? = some c → Pv i σ H → H T = none → g (.ref T) σ (upd H T (.tup [.int (i : Nat), .str (S [c])])) fun σ2 H2 => tb { D with nx := Pv (i + 1), ct := Pv (i + 1), bk := D.nx } σ2 H2) (hd : ∀ σ H, Pv l.length σ H → D.nx σ H) :
    ∃ W : Nat → Nat → L2.St → Hp → Prop, (∃ m, W 0 m σ H) ∧ ∀ i m σ H, W i m σ H →
      ((ItEs (S l)).stop i H ∧ D.nx σ H) ∨ ((ItEs (S l)).go i H ∧ ∃ N : L2.St → Hp → Prop, (∀ σ' H', N σ' H' → ∃ m', m' < m ∧ W (i + 1) m' σ' H') ∧ ∀ x H', (ItEs (S l)).yld i H x H' → g x σ H' fun σ2 H2 => tb { D with nx := N, ct := N, bk := D.nx } σ2 H2) := by
  refine ⟨fun i m σ H => m = l.length - i ∧ i ≤ l.length ∧ Pv i σ H, ⟨l.length, by simp, Nat.zero_le _, h0⟩, ?_⟩
  rintro i m σ H ⟨rfl, hi, p⟩
  by_cases hlt : i < l.length
  · refine .inr ⟨by show i < l.toArray.size; simpa using hlt, Pv (i + 1), fun σ' H' p' => ⟨l.length - (i + 1), by omega, rfl, hlt, p'⟩, fun x H' y => ?_⟩
    obtain ⟨T, c, rfl, hT, rfl, hc⟩ := y
    exact hs i c T _ _ (by simpa using hc) p hT
  · have e : i = l.length := by omega
    subst e
    exact .inl ⟨by show l.length = l.toArray.size; simp, hd σ H p⟩
end Z
namespace Z
open PySem L2 SX
/-! ### where a beginning stands in a glob -/
abbrev nts (l : List Nat) : List V := l.map fun k : Nat => V.int (k : Int)
def st0 (g : List Nat) : Nat → Prop
  | 0 => True
  | i + 1 => g[i]? = some 42 ∧ st0 g i
def nxt (g : List Nat) (M : Nat → Prop) (c : Nat) : Nat → Prop
  | 0 => False
  | i + 1 => (g[i]? = some 42 ∧ (nxt g M c i ∨ M (i + 1))) ∨ (g[i]? ≠ some 42 ∧ M i ∧ (g[i]? = some 63 ∨ g[i]? = some c))
def stand (g b : List Nat) : Nat → Prop := b.foldl (fun M c => nxt g M c) (st0 g)
/-- closed along stars -/
def closed (g : List Nat) (M : Nat → Prop) : Prop := ∀ y, M y → g[y]? = some 42 → M (y + 1)
def within (g : List Nat) (M : Nat → Prop) : Prop := ∀ y, M y → y ≤ g.length
theorem st0_closed (g : List Nat) : closed g (st0 g) := fun _ h e => ⟨e, h⟩
theorem st0_within (g : List Nat) : within g (st0 g) := fun y h => by
  cases y with
  | zero => omega
  | succ i => have := (List.getElem?_eq_some_iff.mp h.1).1; omega
theorem nxt_closed (g : List Nat) (M : Nat → Prop) (c : Nat) : closed g (nxt g M c) := fun _ h e => .inl ⟨e, .inl h⟩
theorem nxt_within (g : List Nat) (M : Nat → Prop) (c : Nat) : within g (nxt g M c) := fun y h => by
  cases y with
  | zero => omega
  | succ i =>
    rcases h with ⟨h, _⟩ | ⟨_, _, h | h⟩ <;> (have := (List.getElem?_eq_some_iff.mp h).1; omega)
theorem stand_nil (g : List Nat) : stand g [] = st0 g := rfl
theorem stand_snoc (g b : List Nat) (c : Nat) : stand g (b ++ [c]) = nxt g (stand g b) c := by unfold stand; rw [List.foldl_append]; rfl
theorem stand_ok (g b : List Nat) : closed g (stand g b) ∧ within g (stand g b) := by
  unfold stand
  rw [← List.reverse_reverse b, List.foldl_reverse]
  cases b.reverse with
  | nil => exact ⟨st0_closed g, st0_within g⟩
  | cons c r => exact ⟨nxt_closed g _ c, nxt_within g _ c⟩
/-- the places, ascending -/
def Asd (ps : List Nat) (M : Nat → Prop) : Prop := ps.Pairwise (· < ·) ∧ ∀ y, y ∈ ps ↔ M y
theorem asd_one : ∀ {a b : List Nat}, a.Pairwise (· < ·) → b.Pairwise (· < ·) → (∀ y, y ∈ a ↔ y ∈ b) → a = b
  | [], [], _, _, _ => rfl
  | [], y :: b, _, _, h => by have := (h y).mpr (by simp); cases this
  | x :: a, [], _, _, h => by have := (h x).mp (by simp); cases this
  | x :: a, y :: b, pa, pb, h => by
    have ha := List.pairwise_cons.mp pa
    have hb := List.pairwise_cons.mp pb
    have e : x = y := by
      have h1 := (h x).mp (by simp)
      have h2 := (h y).mpr (by simp)
      rcases List.mem_cons.mp h1 with e | e
      · exact e
      · rcases List.mem_cons.mp h2 with f | f
        · exact f.symm
        · have := hb.1 x e; have := ha.1 y f; omega
    subst e
    rw [asd_one ha.2 hb.2 fun z => ?_]
    constructor
    · intro hz
      rcases List.mem_cons.mp ((h z).mp (List.mem_cons_of_mem _ hz)) with e | e
      · subst e; have := ha.1 z hz; omega
      · exact e
    · intro hz
      rcases List.mem_cons.mp ((h z).mpr (List.mem_cons_of_mem _ hz)) with e | e
      · subst e; have := hb.1 z hz; omega
      · exact e
theorem Asd.one {a b : List Nat} {M : Nat → Prop} (x : Asd a M) (y : Asd b M) : a = b := asd_one x.1 y.1 fun z => (x.2 z).trans (y.2 z).symm
theorem Asd.congr {a : List Nat} {M N : Nat → Prop} (x : Asd a M) (h : ∀ y, M y ↔ N y) : Asd a N := ⟨x.1, fun y => (x.2 y).trans (h y)⟩
theorem Asd.len {a : List Nat} {M : Nat → Prop} {g : List Nat} (x : Asd a M) (w : within g M) : a.length ≤ g.length + 1 := by
  have : ∀ (n : Nat) (l : List Nat), l.Pairwise (· < ·) → (∀ y ∈ l, y < n) → l.length ≤ n := by
    intro n
    induction n with
    | zero => intro l _ h; cases l with
      | nil => simp
      | cons y r => have := h y (by simp); omega
    | succ n ih =>
      intro l p h
      rcases List.eq_nil_or_concat l with e | ⟨r, z, e⟩
      · subst e; simp
      · subst e
        rw [List.concat_eq_append] at p h ⊢
        have h2 := ih r (List.pairwise_append.mp p).1 (fun y hy => by
          have := (List.pairwise_append.mp p).2.2 y hy z (by simp)
          have := h z (by simp)
          omega)
        rw [List.length_append]; simp; exact h2
  exact this (g.length + 1) a x.1 fun y hy => by have := w y ((x.2 y).mp hy); omega
/-- a row of stars behind x -/
def isRun (g : List Nat) (x k : Nat) : Prop := (∀ j, j < k → g[x + j]? = some 42) ∧ g[x + k]? ≠ some 42
/-- places that are built up: L so far, m the greatest one that was put in, A what was put in -/
structure Up (g L : List Nat) (m : Nat) (A : Nat → Prop) : Prop where
  asc : L.Pairwise (· < ·)
  cl : ∀ y ∈ L, g[y]? = some 42 → y + 1 ∈ L
  gap : ∀ y z, m ≤ y → y ≤ z → z ∈ L → y ∈ L
  has : ∀ y, A y → y ∈ L
  only : ∀ (N : Nat → Prop), closed g N → (∀ y, A y → N y) → ∀ y ∈ L, N y
theorem Up.nil (g : List Nat) : Up g [] 0 (fun _ => False) := ⟨.nil, (fun _ h => by cases h), (fun _ _ _ _ h => by cases h), (fun _ h => h.elim), (fun _ _ _ _ h => by cases h)⟩
theorem Up.stay {g L : List Nat} {m x z : Nat} {A : Nat → Prop} (u : Up g L m A) (hm : m ≤ x) (hz : z ∈ L) (hx : x ≤ z) : Up g L x (fun y => A y ∨ y = x) :=
  ⟨u.asc, u.cl, fun y z a b c => u.gap y z (by omega) b c, fun y h => h.elim (u.has y) fun e => by subst e; exact u.gap _ _ hm hx hz, fun N c h => u.only N c fun y a => h y (.inl a)⟩
theorem run_mem {x k y : Nat} : y ∈ List.range' x (k + 1) ↔ x ≤ y ∧ y ≤ x + k := by rw [List.mem_range'_1]; omega
theorem Up.more {g L : List Nat} {m x k : Nat} {A : Nat → Prop} (u : Up g L m A) (hl : ∀ y ∈ L, y < x) (hr : isRun g x k) : Up g (L ++ List.range' x (k + 1)) x (fun y => A y ∨ y = x) := by
  refine ⟨?_, ?_, ?_, ?_, ?_⟩
  · exact List.pairwise_append.mpr ⟨u.asc, List.pairwise_lt_range', fun a ha b hb => by have := hl a ha; have := (run_mem.mp hb).1; omega⟩
  · intro y hy e
    rcases List.mem_append.mp hy with h | h
    · exact List.mem_append_left _ (u.cl y h e)
    · refine List.mem_append_right _ (run_mem.mpr ?_)
      have := run_mem.mp h
      by_cases q : y = x + k
      · subst q; exact absurd e hr.2
      · omega
  · intro y z hy hyz hz
    rcases List.mem_append.mp hz with h | h
    · have := hl z h; omega
    · have := run_mem.mp h
      exact List.mem_append_right _ (run_mem.mpr ⟨by omega, by omega⟩)
  · intro y h
    rcases h with h | e
    · exact List.mem_append_left _ (u.has y h)
    · subst e; exact List.mem_append_right _ (run_mem.mpr ⟨Nat.le_refl _, by omega⟩)
  · intro N c h y hy
    rcases List.mem_append.mp hy with q | q
    · exact u.only N c (fun z a => h z (.inl a)) y q
    · obtain ⟨q1, q2⟩ := run_mem.mp q
      have : ∀ j, j ≤ k → N (x + j) := by
        intro j
        induction j with
        | zero => intro _; exact h x (.inr rfl)
        | succ j ih => intro hj; exact c _ (ih (by omega)) (hr.1 j (by omega))
      have := this (y - x) (by omega)
      rwa [show x + (y - x) = y by omega] at this
theorem Up.congr {g L : List Nat} {m : Nat} {A B : Nat → Prop} (u : Up g L m A) (h : ∀ y, A y ↔ B y) : Up g L m B :=
  ⟨u.asc, u.cl, u.gap, fun y b => u.has y ((h y).mpr b), fun N c q => u.only N c fun y a => q y ((h y).mp a)⟩
/-- what is put in by the places of M that are taken -/
def puts (g : List Nat) (c : Nat) (T : Nat → Prop) (y : Nat) : Prop := (T y ∧ ∃ i, y = i + 1 ∧ g[i]? = some 42) ∨ ∃ i, y = i + 1 ∧ T i ∧ (g[i]? = some 63 ∨ g[i]? = some c)
theorem puts_next {g : List Nat} {M : Nat → Prop} {c : Nat} (hc : c ≠ 42) (cl : closed g M) {L : List Nat} {m : Nat} (u : Up g L m (puts g c M)) : Asd L (nxt g M c) := by
  refine ⟨u.asc, fun y => ⟨fun hy => u.only _ (nxt_closed g M c) (fun y p => ?_) y hy, ?_⟩⟩
  · rcases p with ⟨t, i, rfl, e⟩ | ⟨i, rfl, t, e⟩
    · exact .inl ⟨e, .inr t⟩
    · refine .inr ⟨fun q => ?_, t, e⟩
      rcases e with e | e <;> rw [e] at q
      · cases q
      · exact hc (Option.some.inj q)
  · intro h
    induction y with
    | zero => exact h.elim
    | succ i ih =>
      rcases h with ⟨e, h | h⟩ | ⟨_, t, e⟩
      · exact u.cl i (ih h) e
      · exact u.has _ (.inl ⟨h, i, rfl, e⟩)
      · exact u.has _ (.inr ⟨i, rfl, t, e⟩)
theorem start_asd {g L : List Nat} {m : Nat} (u : Up g L m (fun y => y = 0)) : Asd L (st0 g) := by
  refine ⟨u.asc, fun y => ⟨fun hy => u.only _ (st0_closed g) (fun y e => by subst e; exact True.intro) y hy, ?_⟩⟩
  intro h
  induction y with
  | zero => exact u.has 0 rfl
  | succ i ih => exact u.cl i (ih h.2) h.1
/-! ### promises -/
def sp_add_place : Sp := fun vs H Q _ => ∃ (g : Str) (p : Addr) (x : Nat) (L : List Nat) (m : Nat) (A : Nat → Prop), vs = [.str g, .ref p, .int (x : Int)] ∧ H p = some (.lst (nts L)) ∧ Up (tl g) L m A ∧ m ≤ x ∧ x ≤ (tl g).length ∧ (∀ y ∈ L, y ≤ (tl g).length) ∧ (tl g).length ≤ 10000 ∧
  ∀ (L' : List Nat) (H' : Hp), H' p = some (.lst (nts L')) → (∀ b, b ≠ p → H' b = H b) → Up (tl g) L' x (fun y => A y ∨ y = x) → (∀ y ∈ L', y ≤ (tl g).length) → Q .non H'
def sp_follows (K : PySem.W.Frag) : Sp := fun vs H Q _ => ∃ (g : Str) (a : Addr) (c : Nat) (ps : List Nat) (M : Nat → Prop), vs = [.str g, .ref a, .str (S [c])] ∧ SqT K H a (nts ps) ∧ Asd ps M ∧ closed (tl g) M ∧ within (tl g) M ∧ c ≠ 42 ∧ (tl g).length ≤ 10000 ∧
  ∀ (q : Addr) (qs : List Nat) (H' : Hp), Same H H' → H' q = some (.tup (nts qs)) → Asd qs (nxt (tl g) M c) → Q (.ref q) H'
def sp_standing (K : PySem.W.Frag) : Sp := fun vs H Q _ => ∃ (g b : Str), vs = [.str g, .str b] ∧ (∀ c ∈ tl b, c ≠ 42) ∧ (tl g).length ≤ 10000 ∧
  ∀ (q : Addr) (qs : List Nat) (H' : Hp), Same H H' → H' q = some (.tup (nts qs)) → Asd qs (stand (tl g) (tl b)) → Q (.ref q) H'
open Classical in
def sp_fits (K : PySem.W.Frag) : Sp := fun vs H Q _ => ∃ (g b : Str), vs = [.str g, .str b] ∧ (∀ c ∈ tl b, c ≠ 42) ∧ (tl g).length ≤ 10000 ∧
  ∀ (H' : Hp), Same H H' → Q (.bl (decide (stand (tl g) (tl b) (tl g).length))) H'
theorem inV_nts (n : Nat) (l : List Nat) : inV (V.int (n : Int)) (nts l) = decide (n ∈ l) := by
  unfold inV nts
  induction l with
  | nil => rfl
  | cons y ys ih =>
    rw [List.map_cons, List.any_cons, ih]
    by_cases e : n = y
    · subst e; simp [eqV]
    · have : ¬ (y : Int) = (n : Int) := fun h => e (by omega)
      simp [eqV, e, this]
theorem flat_nts (xs : List Nat) : (nts xs).all flatV = true := List.all_eq_true.mpr fun x h => by
  obtain ⟨y, _, rfl⟩ := List.mem_map.mp h; rfl
theorem DVs.nats {K : PySem.W.Frag} {H : Hp} (xs : List Nat) : DVs K H (xs.map fun k : Nat => D.int (k : Int)) (nts xs) := by
  have := DVs.ints (K := K) (H := H) (xs.map fun k : Nat => (k : Int))
  rwa [List.map_map, List.map_map] at this
theorem DV.nats {K : PySem.W.Frag} {H : Hp} {p : Addr} {xs : List Nat} (h : SqT K H p (nts xs)) : DV K H (.tup (xs.map fun k : Nat => D.int (k : Int))) (.ref p) := by
  unfold DV
  exact ⟨p, _, rfl, h, DVs.nats xs⟩
theorem DL.nats {n : Nat} (xs : List Nat) (h : xs.length ≤ 1000000) : DL (n + 2) (.tup (xs.map fun k : Nat => D.int (k : Int))) := ⟨by rw [List.length_map]; exact h, fun d m => by obtain ⟨x, _, rfl⟩ := List.mem_map.mp m; exact True.intro⟩
end Z
namespace Z
open PySem L2 SX
/-! ### patterns -/
def parts (p : List Nat) : List (List Nat) := TL.spl [44] 0 [] p
theorem spl_bound (c0 : Nat) : ∀ (l acc : List Nat), (∀ q ∈ TL.spl [c0] 0 acc l, q.length ≤ acc.length + l.length) ∧ (TL.spl [c0] 0 acc l).length ≤ l.length + 1
  | [], acc => by
    rw [TL.spl_nil]
    exact ⟨fun q h => by rw [List.mem_singleton.mp h]; exact Nat.le_refl _, Nat.le_refl _⟩
  | c :: r, acc => by
    cases h : TL.pre [c0] (c :: r) with
    | true =>
      rw [TL.spl_hit h]
      have ih := spl_bound c0 r []
      refine ⟨fun q hq => ?_, ?_⟩
      · rcases List.mem_cons.mp hq with e | e
        · subst e; omega
        · have := ih.1 q e; rw [List.length_nil] at this; rw [List.length_cons]; omega
      · have := ih.2; show (TL.spl [c0] 0 [] r).length + 1 ≤ r.length + 1 + 1; omega
    | false =>
      rw [TL.spl_miss h]
      have ih := spl_bound c0 r (acc ++ [c])
      refine ⟨fun q hq => ?_, ?_⟩
      · have := ih.1 q hq; rw [List.length_append] at this; rw [List.length_cons]; simp at this; omega
      · rw [List.length_cons]; have := ih.2; omega
theorem parts_len {p q : List Nat} (h : q ∈ parts p) : q.length ≤ p.length := by have := (spl_bound 44 p []).1 q h; rw [List.length_nil] at this; omega
theorem parts_num (p : List Nat) : (parts p).length ≤ p.length + 1 := (spl_bound 44 p []).2
/-- an item: its sign, its glob -/
def isBar (it : List Nat) : Bool := decide (it.take 1 = [33])
def globOf (it : List Nat) : List Nat := if isBar it = true then it.drop 1 else it
theorem globOf_len (it : List Nat) : (globOf it).length ≤ it.length := by
  unfold globOf; split
  · rw [List.length_drop]; omega
  · exact Nat.le_refl _
def fit (g b : List Nat) : Prop := stand g b g.length
open Classical in
noncomputable def letsL (its : List (List Nat)) (b : List Nat) : Bool := its.foldl (fun ans it => if fit (globOf it) b then !isBar it else ans) false
open Classical in
theorem lets_skip (b : List Nat) : ∀ (its : List (List Nat)) (v : Bool), (∀ it ∈ its, ¬ fit (globOf it) b) → its.foldl (fun ans it => if fit (globOf it) b then !isBar it else ans) v = v
  | [], _, _ => rfl
  | x :: r, v, h => by rw [List.foldl_cons, if_neg (h x (by simp))]; exact lets_skip b r v fun y hy => h y (List.mem_cons_of_mem _ hy)
theorem lets_last {its : List (List Nat)} {b : List Nat} {i : Nat} {it : List Nat} (h : its[i]? = some it) (hf : fit (globOf it) b) (hn : ∀ (j : Nat) (y : List Nat), i < j → its[j]? = some y → ¬ fit (globOf y) b) : letsL its b = !isBar it := by
  classical
  unfold letsL
  have e : its = its.take i ++ it :: its.drop (i + 1) := by
    obtain ⟨h1, h2⟩ := List.getElem?_eq_some_iff.mp h
    rw [← h2, List.getElem_cons_drop, List.take_append_drop]
  rw [e, List.foldl_append, List.foldl_cons, if_pos hf]
  refine lets_skip b _ _ fun y hy => ?_
  obtain ⟨j, hj, e2⟩ := List.getElem_of_mem hy
  refine hn (i + 1 + j) y (by omega) ?_
  have := List.getElem?_eq_getElem hj
  rw [List.getElem?_drop, e2] at this
  exact this
theorem lets_none {its : List (List Nat)} {b : List Nat} (hn : ∀ (j : Nat) (y : List Nat), its[j]? = some y → ¬ fit (globOf y) b) : letsL its b = false := by
  classical
  unfold letsL
  refine lets_skip b _ _ fun y hy => ?_
  obtain ⟨j, hj, e⟩ := List.getElem_of_mem hy
  exact hn j y (by rw [List.getElem?_eq_getElem hj, e])
def Clean (b : List Nat) : Prop := ∀ c ∈ b, c ≠ 42
theorem bar_starts (x : Str) : Txt.startswith x (Str.ofString "!") = isBar (tl x) := by
  have e := StrLaws.subAt_one x 33 0
  have e0 : ((tl x)[0]? = some 33) ↔ (tl x).take 1 = [33] := by
    cases tl x with
    | nil => simp
    | cons y r => simp
  unfold Txt.startswith isBar
  rw [Bool.eq_iff_iff, Bool.and_eq_true, decide_eq_true_iff, decide_eq_true_iff, ← e0]
  exact e
theorem bar_cut (x : Str) : decide (V.str (cutS x none (some 1)) = V.str (Str.ofString "!")) = isBar (tl x) := by
  unfold isBar
  rw [Bool.eq_iff_iff, decide_eq_true_iff, decide_eq_true_iff]
  have e : tl (cutS x none (some 1)) = (tl x).take 1 := cutS_to (by decide)
  constructor
  · intro h
    have h2 := congrArg tl (V.str.inj h)
    rw [e] at h2; exact h2
  · intro h
    exact congrArg V.str (tl_ext (by rw [e, h]; rfl))
/-- the law's places: those that lie ahead of a star, too -/
def Lax (g : List Nat) (N M : Nat → Prop) : Prop := ∀ y, M y ↔ (N y ∨ (g[y]? = some 42 ∧ N (y + 1)))
theorem lax_start (g : List Nat) : Lax g (st0 g) (st0 g) := fun y => ⟨.inl, fun h => h.elim id fun k => k.2.2⟩
/-- what the law puts in, ahead of its last loop -/
def lawA (g : List Nat) (M : Nat → Prop) (c : Nat) (y : Nat) : Prop := (M y ∧ g[y]? = some 42) ∨ ∃ i, y = i + 1 ∧ M i ∧ (g[i]? = some 63 ∨ g[i]? = some c)
def lawB (g : List Nat) (A : Nat → Prop) : Nat → Prop
  | 0 => A 0
  | i + 1 => A (i + 1) ∨ (lawB g A i ∧ g[i]? = some 42)
theorem lax_next {g : List Nat} {N M : Nat → Prop} {c : Nat} (hc : c ≠ 42) (cl : closed g N) (l : Lax g N M) : Lax g (nxt g N c) (lawB g (lawA g M c)) := by
  have ns : ∀ i : Nat, (g[i]? = some 63 ∨ g[i]? = some c) → g[i]? ≠ some 42 := fun i h e => by
    rcases h with h | h <;> rw [h] at e
    · cases e
    · exact hc (Option.some.inj e)
  have bA : ∀ y, lawA g M c y → lawB g (lawA g M c) y := fun y h => by
    cases y with
    | zero => exact h
    | succ i => exact .inl h
  have fA : ∀ y, lawA g M c y → nxt g N c y ∨ (g[y]? = some 42 ∧ nxt g N c (y + 1)) := fun y h => by
    rcases h with ⟨m, e⟩ | ⟨i, rfl, m, k⟩
    · refine .inr ⟨e, .inl ⟨e, .inr ?_⟩⟩
      rcases (l y).mp m with n | ⟨_, n⟩
      · exact cl y n e
      · exact n
    · refine .inl (.inr ⟨ns i k, ?_, k⟩)
      rcases (l i).mp m with n | ⟨q, _⟩
      · exact n
      · exact absurd q (ns i k)
  have back : ∀ y, nxt g N c y → lawB g (lawA g M c) y := fun y => by
    induction y with
    | zero => intro h; exact h.elim
    | succ i ih =>
      rintro (⟨e, h | h⟩ | ⟨_, n, k⟩)
      · exact .inr ⟨ih h, e⟩
      · exact .inr ⟨bA i (.inl ⟨(l i).mpr (.inr ⟨e, h⟩), e⟩), e⟩
      · exact .inl (.inr ⟨i, rfl, (l i).mpr (.inl n), k⟩)
  intro y
  constructor
  · induction y with
    | zero => intro h; exact fA 0 h
    | succ i ih =>
      rintro (h | ⟨h, e⟩)
      · exact fA _ h
      · rcases ih h with n | ⟨_, n⟩
        · exact .inl (.inl ⟨e, .inl n⟩)
        · exact .inl n
  · rintro (h | ⟨e, h⟩)
    · exact back y h
    · rcases h with ⟨_, h | h⟩ | ⟨q, _⟩
      · exact back y h
      · exact bA y (.inl ⟨(l y).mpr (.inr ⟨e, h⟩), e⟩)
      · exact absurd e q
/-! ### promises -/
def itemV (it : List Nat) : List V := [.int (if isBar it = true then 0 else 1), .str (S (globOf it))]
def sp_items_of (K : PySem.W.Frag) : Sp := fun vs H Q _ => ∃ (p : Str), vs = [.str p] ∧ (tl p).length ≤ 3000 ∧
  ∀ (q : Addr) (ts : List Addr) (H' : Hp), Same H H' → H' q = some (.tup (ts.map V.ref)) → ts.length = (parts (tl p)).length → (∀ (i : Nat) (t : Addr) (it : List Nat), ts[i]? = some t → (parts (tl p))[i]? = some it → H' t = some (.tup (itemV it))) → Q (.ref q) H'
def sp_lets (K : PySem.W.Frag) : Sp := fun vs H Q _ => ∃ (p b : Str), vs = [.str p, .str b] ∧ (tl p).length ≤ 3000 ∧ Clean (tl b) ∧ ∀ H', Same H H' → Q (.bl (letsL (parts (tl p)) (tl b))) H'
def sp_lets_one (K : PySem.W.Frag) : Sp := fun vs H Q _ => ∃ (p : Str) (a : Addr) (bs : List Str), vs = [.str p, .ref a] ∧ SqT K H a (bs.map V.str) ∧ (tl p).length ≤ 3000 ∧ bs.length ≤ 1000 ∧ (∀ b ∈ bs, Clean (tl b)) ∧ ∀ H', Same H H' → Q (.bl (bs.any fun b => letsL (parts (tl p)) (tl b))) H'
open Classical in
def sp__law_fits (K : PySem.W.Frag) : Sp := fun vs H Q _ => ∃ (g b : Str), vs = [.str g, .str b] ∧ Clean (tl b) ∧ (tl g).length ≤ 10000 ∧ ∀ (H' : Hp), Same H H' → Q (.bl (decide (fit (tl g) (tl b)))) H'
def sp__law_lets (K : PySem.W.Frag) : Sp := sp_lets K
def sp__law_lets_some (K : PySem.W.Frag) : Sp := sp_lets_one K
theorem split_bar (p : Str) : Txt.split p (Str.ofString ",") = (parts (tl p)).map S := split_S (a := tl p) (b := [44]) (by decide) (by decide)

/-! ### lists of truth values -/
def Bs (bs : List Bool) (n : Nat) (M : Nat → Prop) : Prop := bs.length = n + 1 ∧ ∀ y, bs[y]? = some true ↔ M y
theorem Bs.set {bs : List Bool} {n k : Nat} {M : Nat → Prop} (h : Bs bs n M) (hk : k ≤ n) : Bs (bs.set k true) n (fun y => M y ∨ y = k) := by
  refine ⟨by rw [List.length_set]; exact h.1, fun y => ?_⟩
  rw [List.getElem?_set]
  by_cases e : k = y
  · subst e
    rw [if_pos rfl, if_pos (by have := h.1; omega)]
    exact ⟨fun _ => .inr rfl, fun _ => rfl⟩
  · rw [if_neg e]
    exact ⟨fun q => .inl ((h.2 y).mp q), fun q => q.elim (h.2 y).mpr fun z => absurd z.symm e⟩
theorem Bs.congr {bs : List Bool} {n : Nat} {M N : Nat → Prop} (h : Bs bs n M) (e : ∀ y, M y ↔ N y) : Bs bs n N := ⟨h.1, fun y => (h.2 y).trans (e y)⟩
theorem Bs.get {bs : List Bool} {n k : Nat} {M : Nat → Prop} (h : Bs bs n M) (hk : k ≤ n) : ∃ b : Bool, bs[k]? = some b ∧ (b = true ↔ M k) := by
  have hl : k < bs.length := by have := h.1; omega
  refine ⟨bs[k], List.getElem?_eq_getElem hl, ?_⟩
  rw [← h.2 k, List.getElem?_eq_getElem hl]
  exact ⟨fun e => by rw [e], fun e => Option.some.inj e⟩
theorem atI_bl {bs : List Bool} {k : Nat} {b : Bool} {z : Int} (hz : z = (k : Int)) (h : bs[k]? = some b) : atI (bs.map V.bl) z = some (.bl b) := at_of hz (by rw [List.getElem?_map, h]; rfl)
theorem ixN_pos {n k : Nat} {z : Int} (hz : z = (k : Int)) (h : k < n) : ixN n z = some k := by
  subst hz
  unfold ixN
  rw [if_pos (by omega), if_pos (by omega)]; rfl
theorem map_set_bl (bs : List Bool) (k : Nat) : (bs.map V.bl).set k (.bl true) = (bs.set k true).map V.bl := by rw [List.map_set]
theorem bs_false (n : Nat) : Bs (List.replicate (n + 1) false) n (fun _ => False) := by
  refine ⟨List.length_replicate, fun y => ⟨fun h => ?_, fun h => h.elim⟩⟩
  rw [List.getElem?_replicate] at h
  split at h <;> cases h
theorem flatten_one (n : Nat) : (List.replicate n [V.bl false]).flatten = (List.replicate n false).map V.bl := by
  induction n with
  | zero => rfl
  | succ n ih => rw [List.replicate_succ, List.flatten_cons, ih, List.replicate_succ, List.map_cons]; rfl
end Z
namespace Z
open PySem L2 SX
def sp13 (f n : Nat) : Sp := fun vs H Q _ => ∃ (s a : Addr) (c : Nat), vs = [.ref s] ∧ Src H s a (c + f) ∧ ∀ (x : Str) (H' : Hp), (tl x).length ≤ n → Ext s H H' → Src H' s a c → Q (.str x) H'
def sp13_bent : Sp := fun vs H Q _ => ∃ (s a : Addr) (x : Str) (c : Nat), vs = [.ref s, .str x] ∧ (tl x).length ≤ 1000 ∧ Src H s a (c + 10) ∧ ∀ (y : Str) (H' : Hp), (tl y).length ≤ (tl x).length + 3 → Ext s H H' → Src H' s a c → Q (.str y) H'
theorem ext_free {H H1 : Hp} {s a u : Addr} {c : Nat} (x : Ext s H H1) (S : Src H1 s a c) (h : H1 u = none) : H u = none := by
  cases e : H u with
  | none => rfl
  | some o =>
    by_cases q : u = s
    · subst q
      obtain ⟨xs, e2⟩ := S.lst
      rw [h] at e2; cases e2
    · have := x _ _ q e
      rw [h] at this; cases this
theorem joinL_len {s : List Nat} {n : Nat} : ∀ {ls : List (List Nat)}, (∀ l ∈ ls, l.length ≤ n) → (TL.joinL s ls).length ≤ ls.length * (n + s.length)
  | [], _ => by simp [TL.joinL]
  | [x], h => by have := h x (by simp); show x.length ≤ 1 * (n + s.length); omega
  | x :: y :: r, h => by
    have ih := joinL_len (s := s) (ls := y :: r) (fun l m => h l (List.mem_cons_of_mem _ m))
    have := h x (by simp)
    show (x ++ (s ++ TL.joinL s (y :: r))).length ≤ ((y :: r).length + 1) * (n + s.length)
    rw [List.length_append, List.length_append, Nat.succ_mul]
    omega
theorem tl_joinS (s : Str) (xs : List Str) : tl (Txt.join s xs) = TL.joinL (tl s) (xs.map tl) := by
  have h := join_S (tl s) (xs.map tl)
  rw [tl_mapS] at h
  exact congrArg tl h
theorem sum_len {n : Nat} : ∀ {xs : List Str}, (∀ x ∈ xs, (tl x).length ≤ n) → (xs.map (·.length)).sum ≤ xs.length * n
  | [], _ => by simp
  | x :: xs, h => by
    have := h x (by simp)
    have ih := sum_len (n := n) (xs := xs) (fun y m => h y (List.mem_cons_of_mem _ m))
    rw [List.map_cons, List.sum_cons, List.length_cons, Nat.succ_mul, tl_len]; omega
theorem cut_le (x : Str) (i j : Option Int) : (tl (cutS x i j)).length ≤ (tl x).length := by
  show ((List.drop _ (tl x)).take _).length ≤ _
  rw [List.length_take, List.length_drop]; omega
theorem len_mem {n : Nat} {xs : List Str} {w : V} (h : ∀ x ∈ xs, (tl x).length ≤ n) (m : w ∈ xs.map V.str) : ∃ x, w = V.str x ∧ (tl x).length ≤ n := by
  obtain ⟨x, hx, rfl⟩ := List.mem_map.mp m
  exact ⟨x, rfl, h x hx⟩
end Z
namespace Z
open PySem L2 SX
/-! ### patterns: scanning and splitting -/
def okc (c : Nat) : Bool := decide (c ∈ tl (Str.ofString "abcdefghijklmnopqrstuvwxyz0123456789.*?"))
theorem okc_44 : okc 44 = false := by decide +kernel
theorem okc_33 : okc 33 = false := by decide +kernel
def step (a c : Nat) : Bool := (decide (c = 33) && decide (a = 44)) || (decide (c = 44) && (decide (a ≠ 44) && decide (a ≠ 33))) || okc c
/-- all signs may follow each other, behind a -/
def runs : Nat → List Nat → Bool
  | _, [] => true
  | a, c :: r => step a c && runs c r
def lastOf : Nat → List Nat → Nat
  | a, [] => a
  | _, c :: r => lastOf c r
def globP (it : List Nat) : List Nat := if decide (it.take 1 = [33]) = true then it.drop 1 else it
def goodItem (it : List Nat) : Bool := decide (globP it ≠ []) && (globP it).all okc
/-- an item so far: what stands behind its ! is of glob signs -/
def part1 (acc : List Nat) : Bool := (globP acc).all okc
theorem runs_app (a : Nat) (l m : List Nat) : runs a (l ++ m) = (runs a l && runs (lastOf a l) m) := by
  induction l generalizing a with
  | nil => simp [runs, lastOf]
  | cons c r ih => show (step a c && runs c (r ++ m)) = ((step a c && runs c r) && runs (lastOf c r) m); rw [ih, Bool.and_assoc]
theorem last_app (a c : Nat) (l : List Nat) : lastOf a (l ++ [c]) = c := by
  induction l generalizing a with
  | nil => rfl
  | cons d r ih => exact ih d
theorem globP_app {acc : List Nat} {c : Nat} (h : acc ≠ []) : globP (acc ++ [c]) = globP acc ++ [c] := by
  cases acc with
  | nil => exact absurd rfl h
  | cons d r =>
    unfold globP
    show (if decide ([d] = [33]) = true then r ++ [c] else d :: (r ++ [c])) = (if decide ([d] = [33]) = true then r else d :: r) ++ [c]
    split <;> rfl
/-- the last sign ahead, as the scan sees it: the accumulated item behind a comma -/
theorem good_last {acc : List Nat} (h : part1 acc = true) : goodItem acc = (decide (lastOf 44 acc ≠ 44) && decide (lastOf 44 acc ≠ 33)) := by
  rcases List.eq_nil_or_concat acc with e | ⟨l, c, e⟩
  · subst e; decide
  · rw [List.concat_eq_append] at e
    subst e
    rw [last_app]
    unfold goodItem
    rw [show (globP (l ++ [c])).all okc = true from h, Bool.and_true]
    by_cases hl : l = []
    · subst hl
      by_cases e33 : c = 33
      · subst e33; decide
      · have g : globP ([] ++ [c]) = [c] := by
          unfold globP
          rw [if_neg (by simp [e33])]; rfl
        have oc : okc c = true := by
          have h' : (globP ([] ++ [c])).all okc = true := h
          rw [g] at h'
          simpa using h'
        have e44 : c ≠ 44 := fun e => by rw [e, okc_44] at oc; cases oc
        rw [g, decide_eq_true (show [c] ≠ [] by simp), decide_eq_true e44, decide_eq_true e33]; rfl
    · have g := globP_app (c := c) hl
      have h' : (globP (l ++ [c])).all okc = true := h
      rw [g, List.all_append] at h'
      have oc : okc c = true := by
        have := (Bool.and_eq_true_iff.mp h').2
        simpa using this
      have e44 : c ≠ 44 := fun e => by rw [e, okc_44] at oc; cases oc
      have e33 : c ≠ 33 := fun e => by rw [e, okc_33] at oc; cases oc
      rw [g, decide_eq_true (show globP l ++ [c] ≠ [] by simp), decide_eq_true e44, decide_eq_true e33]; rfl
theorem part_step {acc : List Nat} {c : Nat} (h : part1 acc = true) (hc : c ≠ 44) : part1 (acc ++ [c]) = step (lastOf 44 acc) c := by
  unfold step
  rw [decide_eq_false hc, Bool.false_and, Bool.or_false]
  by_cases hl : acc = []
  · subst hl
    by_cases e33 : c = 33
    · subst e33; decide
    · have g : globP ([] ++ [c]) = [c] := by
        unfold globP
        rw [if_neg (by simp [e33])]; rfl
      unfold part1
      rw [g, decide_eq_false e33, Bool.false_and, Bool.false_or]
      simp
  · unfold part1
    rw [globP_app hl, List.all_append, show (globP acc).all okc = true from h]
    have l44 : lastOf 44 acc ≠ 44 := by
      rcases List.eq_nil_or_concat acc with e | ⟨l, d, e⟩
      · exact absurd e hl
      · rw [List.concat_eq_append] at e
        subst e
        rw [last_app]
        intro e
        subst e
        by_cases hl2 : l = []
        · subst hl2
          revert h; decide +kernel
        · have h' : (globP (l ++ [44])).all okc = true := h
          rw [globP_app hl2, List.all_append] at h'
          have := (Bool.and_eq_true_iff.mp h').2
          simp [okc_44] at this
    rw [decide_eq_false l44, Bool.and_false, Bool.false_or]
    simp
theorem bad_part (l : List Nat) : ∀ acc : List Nat, part1 acc = false → (TL.spl [44] 0 acc l).all goodItem = false := by
  induction l with
  | nil =>
    intro acc h
    rw [TL.spl_nil]
    show (goodItem acc && true) = false
    unfold goodItem
    rw [show (globP acc).all okc = false from h, Bool.and_false]; rfl
  | cons c r ih =>
    intro acc h
    by_cases hc : c = 44
    · subst hc
      rw [TL.spl_hit (show TL.pre [44] (44 :: r) = true by show ([44] == [44]) = true; rfl)]
      show (goodItem acc && _) = false
      unfold goodItem
      rw [show (globP acc).all okc = false from h, Bool.and_false, Bool.false_and]
    · rw [TL.spl_miss (show TL.pre [44] (c :: r) = false by show ([c] == [44]) = false; simp [hc])]
      refine ih _ ?_
      have hl : acc ≠ [] := fun e => by rw [e] at h; revert h; decide
      unfold part1
      rw [globP_app hl, List.all_append, show (globP acc).all okc = false from h, Bool.false_and]
theorem spl_good (l : List Nat) : ∀ acc : List Nat, part1 acc = true → (TL.spl [44] 0 acc l).all goodItem = (runs (lastOf 44 acc) l && (decide (lastOf (lastOf 44 acc) l ≠ 44) && decide (lastOf (lastOf 44 acc) l ≠ 33))) := by
  induction l with
  | nil =>
    intro acc h
    rw [TL.spl_nil]
    show (goodItem acc && true) = _
    rw [Bool.and_true, good_last h]; rfl
  | cons c r ih =>
    intro acc h
    by_cases hc : c = 44
    · subst hc
      rw [TL.spl_hit (show TL.pre [44] (44 :: r) = true by show ([44] == [44]) = true; rfl)]
      show (goodItem acc && (TL.spl [44] 0 [] r).all goodItem) = ((step (lastOf 44 acc) 44 && runs 44 r) && _)
      rw [ih [] (by decide), good_last h]
      have : step (lastOf 44 acc) 44 = (decide (lastOf 44 acc ≠ 44) && decide (lastOf 44 acc ≠ 33)) := by
        unfold step
        rw [okc_44]; simp
      rw [this]
      show (_ && (runs 44 r && (decide (lastOf 44 r ≠ 44) && decide (lastOf 44 r ≠ 33)))) = _
      rw [show lastOf (lastOf 44 acc) (44 :: r) = lastOf 44 r from rfl]
      simp only [Bool.and_assoc]
    · rw [TL.spl_miss (show TL.pre [44] (c :: r) = false by show ([c] == [44]) = false; simp [hc])]
      by_cases hs : step (lastOf 44 acc) c = true
      · rw [ih (acc ++ [c]) (by rw [part_step h hc]; exact hs), last_app]
        show _ = ((step (lastOf 44 acc) c && runs c r) && _)
        rw [hs, Bool.true_and]; rfl
      · have hs' : step (lastOf 44 acc) c = false := Bool.eq_false_iff.mpr hs
        show _ = ((step (lastOf 44 acc) c && runs c r) && _)
        rw [hs', Bool.false_and, Bool.false_and]
        have np : part1 (acc ++ [c]) = false := by rw [part_step h hc]; exact hs'
        exact bad_part r _ np
theorem spl_count (l : List Nat) : ∀ acc : List Nat, (TL.spl [44] 0 acc l).length = l.count 44 + 1 := by
  induction l with
  | nil => intro acc; rw [TL.spl_nil]; rfl
  | cons c r ih =>
    intro acc
    by_cases hc : c = 44
    · subst hc
      rw [TL.spl_hit (show TL.pre [44] (44 :: r) = true by show ([44] == [44]) = true; rfl), List.count_cons_self]
      show (TL.spl [44] 0 [] r).length + 1 = _
      rw [ih]
    · rw [TL.spl_miss (show TL.pre [44] (c :: r) = false by show ([c] == [44]) = false; simp [hc]), ih, List.count_cons_of_ne hc]
/-- a pattern, as the law splits it -/
def isPat (l : List Nat) : Bool := decide (l.length ≤ 60) && (decide ((TL.spl [44] 0 [] l).length ≤ 8) && (TL.spl [44] 0 [] l).all goodItem)
def endOk (a : Nat) : Bool := decide (a ≠ 44) && decide (a ≠ 33)
theorem isPat_eq (l : List Nat) : isPat l = (decide (l.length ≤ 60) && (decide (l.count 44 ≤ 7) && (runs 44 l && endOk (lastOf 44 l)))) := by
  unfold isPat endOk
  rw [spl_good l [] (by decide), spl_count]
  rw [show decide (l.count 44 + 1 ≤ 8) = decide (l.count 44 ≤ 7) by rw [decide_eq_decide]; omega]
  rfl
/-- the beginning of some pattern, as the law asks it -/
def isBeg (l : List Nat) : Bool := isPat l || isPat (l ++ [97])
theorem isBeg_eq (l : List Nat) : isBeg l = (runs 44 l && (decide (l.count 44 ≤ 7) && (decide (l.length ≤ 59) || (decide (l.length ≤ 60) && endOk (lastOf 44 l))))) := by
  unfold isBeg
  rw [isPat_eq, isPat_eq, runs_app, last_app, List.length_append, List.count_append]
  rw [show runs (lastOf 44 l) [97] = true by show (step _ 97 && true) = true; unfold step; rw [show okc 97 = true by decide +kernel]; simp, show endOk 97 = true by decide]
  rw [show List.count 44 [97] = 0 by decide, Nat.add_zero, Bool.and_true, Bool.and_true]
  rw [show decide (l.length + [97].length ≤ 60) = decide (l.length ≤ 59) by rw [decide_eq_decide]; show l.length + 1 ≤ 60 ↔ _; omega]
  cases runs 44 l <;> cases decide (l.count 44 ≤ 7) <;> cases decide (l.length ≤ 59) <;> cases decide (l.length ≤ 60) <;> cases endOk (lastOf 44 l) <;> rfl
/-- a sign behind a, behind k commas, at the place n -/
def may (c a k n : Nat) : Bool := if c = 33 then decide (a = 44) && decide (n < 59) else if c = 44 then (decide (a ≠ 44) && decide (a ≠ 33)) && (decide (k < 7) && decide (n < 59)) else okc c && decide (n < 60)
theorem isBeg_snoc (l : List Nat) (c : Nat) : isBeg (l ++ [c]) = (isBeg l && may c (lastOf 44 l) (l.count 44) l.length) := by
  rw [isBeg_eq, isBeg_eq, runs_app, last_app, List.length_append, List.count_append]
  show ((runs 44 l && (step (lastOf 44 l) c && true)) && (decide (l.count 44 + List.count 44 [c] ≤ 7) && (decide (l.length + 1 ≤ 59) || (decide (l.length + 1 ≤ 60) && endOk c)))) = _
  unfold may step
  by_cases h33 : c = 33
  · subst h33
    rw [if_pos rfl, show List.count 44 [33] = 0 by decide, okc_33, show endOk 33 = false by decide, decide_eq_true (rfl : (33 : Nat) = 33), decide_eq_false (show ¬ (33 : Nat) = 44 by decide)]
    by_cases hn : l.length < 59
    · rw [decide_eq_true (show l.length + 1 ≤ 59 by omega), decide_eq_true (show l.length ≤ 59 by omega), decide_eq_true hn]
      cases runs 44 l <;> cases decide (lastOf 44 l = 44) <;> cases decide (l.count 44 ≤ 7) <;> simp
    · rw [decide_eq_false (show ¬ l.length + 1 ≤ 59 by omega), decide_eq_false hn]
      simp
  · rw [if_neg h33]
    by_cases h44 : c = 44
    · subst h44
      rw [if_pos rfl, show List.count 44 [44] = 1 by decide, okc_44, show endOk 44 = false by decide, decide_eq_true (rfl : (44 : Nat) = 44), decide_eq_false h33]
      rw [show decide (l.count 44 + 1 ≤ 7) = decide (l.count 44 < 7) by rw [decide_eq_decide]; omega]
      by_cases hn : l.length < 59
      · rw [decide_eq_true (show l.length + 1 ≤ 59 by omega), decide_eq_true (show l.length ≤ 59 by omega), decide_eq_true hn]
        by_cases hk : l.count 44 < 7
        · rw [decide_eq_true hk, decide_eq_true (show l.count 44 ≤ 7 by omega)]; simp
        · rw [decide_eq_false hk]; simp
      · rw [decide_eq_false (show ¬ l.length + 1 ≤ 59 by omega), decide_eq_false hn]
        simp
    · rw [if_neg h44, show List.count 44 [c] = 0 by rw [List.count_cons_of_ne h44]; rfl, decide_eq_false h33, decide_eq_false h44, Nat.add_zero]
      have : endOk c = true := by unfold endOk; rw [decide_eq_true h44, decide_eq_true h33]; rfl
      rw [this]
      by_cases hn : l.length < 60
      · rw [decide_eq_true (show l.length + 1 ≤ 60 by omega), decide_eq_true (show l.length ≤ 59 by omega), decide_eq_true hn]
        cases runs 44 l <;> cases okc c <;> cases decide (l.count 44 ≤ 7) <;> simp
      · rw [decide_eq_false (show ¬ l.length + 1 ≤ 59 by omega), decide_eq_false (show ¬ l.length + 1 ≤ 60 by omega), decide_eq_false hn]
        simp
theorem isPat_of_beg {l : List Nat} (h : isBeg l = true) : isPat l = endOk (lastOf 44 l) := by
  rw [isPat_eq]
  rw [isBeg_eq] at h
  simp only [Bool.and_eq_true, Bool.or_eq_true] at h
  obtain ⟨h1, h2, h3⟩ := h
  rw [h1, h2]
  have : l.length ≤ 60 := by rcases h3 with h | h
                             · have := of_decide_eq_true h; omega
                             · exact of_decide_eq_true h.1
  rw [decide_eq_true this]; rfl
theorem eqL {x y : Str} : V.str x = V.str y ↔ tl x = tl y := ⟨fun h => by injection h with h; rw [h], fun h => by rw [tl_ext h]⟩
theorem split_comma (x : Str) : Txt.split x (Str.ofString ",") = (TL.spl [44] 0 [] (tl x)).map S := split_S (a := tl x) (b := [44]) (by decide) (by decide)
def sp_isPat : Sp := fun vs H Q _ => ∃ (x : Str), vs = [.str x] ∧ (tl x).length ≤ 2000 ∧ ∀ H', Same H H' → Q (.bl (isPat (tl x))) H'
def sp_may_stand : Sp := fun vs H Q _ => ∃ (c a k n : Nat), vs = [.str (S [c]), .str (S [a]), .int (k : Int), .int (n : Int)] ∧ Q (.bl (may c a k n)) H
/-- where a text is wrong -/
def wrongAt (l : List Nat) (o : Option Nat) : Prop := match o with
  | some k => (∀ j, j < k → j < l.length → isBeg (l.take (j + 1)) = true) ∧ ((k < l.length ∧ isBeg (l.take (k + 1)) = false) ∨ (k = l.length ∧ isPat l = false))
  | none => (∀ j, j < l.length → isBeg (l.take (j + 1)) = true) ∧ isPat l = true
theorem wrongAt_one {l : List Nat} {o p : Option Nat} (x : wrongAt l o) (y : wrongAt l p) : o = p := by
  have key : ∀ (k m : Nat), wrongAt l (some k) → wrongAt l (some m) → ¬ k < m := fun k m x y h => by
    obtain ⟨_, x2⟩ := x
    obtain ⟨y1, y2⟩ := y
    have ml : m ≤ l.length := by rcases y2 with h | h <;> omega
    rcases x2 with x2 | x2
    · have := y1 k h x2.1
      rw [x2.2] at this; cases this
    · omega
  have mix : ∀ k : Nat, wrongAt l (some k) → wrongAt l none → False := fun k x y => by
    obtain ⟨_, x2⟩ := x
    obtain ⟨y1, y2⟩ := y
    rcases x2 with x2 | x2
    · have := y1 k x2.1
      rw [x2.2] at this; cases this
    · rw [x2.2] at y2; cases y2
  cases o with
  | none => cases p with
    | none => rfl
    | some m => exact (mix m y x).elim
  | some k => cases p with
    | none => exact (mix k x y).elim
    | some m =>
      have h1 := key k m x y
      have h2 := key m k y x
      rw [show k = m by omega]
def optV : Option Nat → V
  | none => .non
  | some k => .int (k : Int)
def sp_wrong_place : Sp := fun vs H Q _ => ∃ (x : Str), vs = [.str x] ∧ (tl x).length ≤ 2000 ∧ ∀ o H', wrongAt (tl x) o → Same H H' → Q (optV o) H'
def sgnI (it : List Nat) : Int := if decide (it.take 1 = [33]) = true then 0 else 1
def itemP (it : List Nat) : List V := [.int (sgnI it), .str (S (globP it))]
def itemD (it : List Nat) : D := .tup [.int (sgnI it), .str (S (globP it))]
def sp_sign_and_glob : Sp := fun vs H Q _ => ∃ (x : Str), vs = [.str x] ∧ (tl x).length ≤ 2000 ∧ ∀ (t : Addr), H t = none → Q (.ref t) (upd H t (.tup (itemP (tl x))))
def dueD (l : List Nat) : Option Nat → D
  | some k => .tup [.str (Str.ofString "bad"), .int (k : Int)]
  | none => .tup [.str (Str.ofString "read"), .tup ((TL.spl [44] 0 [] l).map itemD)]
def sp_due (K : PySem.W.Frag) : Sp := fun vs H Q _ => ∃ (x : Str), vs = [.str x] ∧ (tl x).length ≤ 1000 ∧ ∀ o v H', wrongAt (tl x) o → DV K H' (dueD (tl x) o) v → Same H H' → Q v H'
theorem DVs.items {K : PySem.W.Frag} {H : Hp} : ∀ {its : List (List Nat)} {ts : List Addr}, ts.length = its.length → (∀ (k : Nat) (t : Addr) (it : List Nat), ts[k]? = some t → its[k]? = some it → H t = some (.tup (itemP it))) → DVs K H (its.map itemD) (ts.map V.ref)
  | [], [], _, _ => by unfold DVs; rfl
  | [], _ :: _, h, _ => by simp at h
  | _ :: _, [], h, _ => by simp at h
  | it :: its, t :: ts, h, f => by
    refine ⟨.ref t, ts.map V.ref, rfl, ?_, DVs.items (by simpa using h) fun k t' it' h1 h2 => f (k + 1) t' it' (by simpa using h1) (by simpa using h2)⟩
    exact ⟨t, _, rfl, SqT.of (f 0 t it rfl rfl), _, _, rfl, by unfold DV; rfl, _, _, rfl, by unfold DV; rfl, rfl⟩
def sp_write_pattern (K : PySem.W.Frag) : Sp := fun vs H Q _ => ∃ (a : Addr) (ts : List Addr) (its : List (List Nat)), vs = [.ref a] ∧ SqT K H a (ts.map V.ref) ∧ ts.length = its.length ∧ its.length ≤ 100 ∧ (∀ it ∈ its, it.length ≤ 1000) ∧ (∀ (k : Nat) (t : Addr) (it : List Nat), ts[k]? = some t → its[k]? = some it → SqT K H t (itemP it)) ∧
  ∀ (y : Str) (H' : Hp), tl y = TL.joinL [44] its → Same H H' → Q (.str y) H'
theorem join_spl (l : List Nat) : ∀ acc : List Nat, TL.joinL [44] (TL.spl [44] 0 acc l) = acc ++ l := by
  induction l with
  | nil => intro acc; rw [TL.spl_nil, List.append_nil]; rfl
  | cons c r ih =>
    intro acc
    by_cases hc : c = 44
    · subst hc
      rw [TL.spl_hit (show TL.pre [44] (44 :: r) = true by show ([44] == [44]) = true; rfl)]
      have e := ih []
      have ne : TL.spl [44] 0 [] r ≠ [] := fun h => by
        have := spl_count r []
        rw [h] at this; cases this
      show TL.joinL [44] (acc :: TL.spl [44] 0 [] r) = _
      cases hs : TL.spl [44] 0 [] r with
      | nil => exact absurd hs ne
      | cons y ys =>
        show acc ++ ([44] ++ TL.joinL [44] (y :: ys)) = _
        rw [← hs, e]; rfl
    · rw [TL.spl_miss (show TL.pre [44] (c :: r) = false by show ([c] == [44]) = false; simp [hc]), ih, List.append_assoc]; rfl
theorem DVs.items_inv {K : PySem.W.Frag} {H : Hp} : ∀ {its : List (List Nat)} {vs : List V}, DVs K H (its.map itemD) vs → ∃ ts : List Addr, vs = ts.map V.ref ∧ ts.length = its.length ∧ ∀ (k : Nat) (t : Addr) (it : List Nat), ts[k]? = some t → its[k]? = some it → SqT K H t (itemP it)
  | [], vs, h => by unfold DVs at h; subst h; exact ⟨[], rfl, rfl, fun k t it h1 h2 => by simp at h1⟩
  | it :: its, vs, h => by
    obtain ⟨v, r, rfl, h1, h2⟩ := h
    obtain ⟨ts, rfl, hl, hk⟩ := DVs.items_inv h2
    unfold itemD DV at h1
    obtain ⟨a, xs, rfl, hS, h3⟩ := h1
    obtain ⟨v1, r1, rfl, e1, h4⟩ := h3
    obtain ⟨v2, r2, rfl, e2, h5⟩ := h4
    unfold DV at e1 e2
    unfold DVs at h5
    subst e1 e2 h5
    refine ⟨a :: ts, rfl, by rw [List.length_cons, hl, List.length_cons], fun k t it' g1 g2 => ?_⟩
    cases k with
    | zero =>
      have ea : a = t := Option.some.inj g1
      have ei : it = it' := Option.some.inj g2
      subst ea ei
      exact hS
    | succ k => exact hk k t it' (by simpa using g1) (by simpa using g2)
def sp_read_pattern (K : PySem.W.Frag) (C : Addr) : Sp := fun vs H Q E => ∃ (x : Str), vs = [.str x] ∧ (tl x).length ≤ 1000 ∧
  (∀ (u : Addr) (ts : List Addr) (H1 : Hp), wrongAt (tl x) none → Same H H1 → H1 u = some (.tup (ts.map V.ref)) → ts.length = (TL.spl [44] 0 [] (tl x)).length → (∀ (i : Nat) (t : Addr) (it : List Nat), ts[i]? = some t → (TL.spl [44] 0 [] (tl x))[i]? = some it → H1 t = some (.tup (itemP it))) → Q (.ref u) H1) ∧
  (∀ (k : Nat) (dd : Addr) (H1 : Hp), wrongAt (tl x) (some k) → Same H H1 → H1 dd = some (.xd [("at", .int (k : Int))]) → E (.ref C) (some dd) H1)
end Z
namespace Z
open PySem PySem.Spec PyProof.Rows L2 SX
/-! ### name = text[..]; text = text.replace(name, ''): the token of the name is known -/
theorem nsSet_det {M : Model} {Γ : PySem.Ctx} {E : Value → Pos → Shared → Prop} {p : Pos} {s : Shared} {a : Addr} {m : Str → Option Value} (hn : s.heap.Ns a m) (name : Str) (v : Value) :
    ∃ h', h'.Ns a (fun x => if x = name then some v else m x) ∧ ∀ Q, Sem.wp M Γ (nsSet a name v) Q E p s ↔ Q () p { s with heap := h', toks := s.toks + 1 } := by
  have key : ∃ h', ∀ Q, Sem.wp M Γ (nsSet a name v) Q E p s ↔ Q () p { s with heap := h', toks := s.toks + 1 } := by
    obtain ⟨o, es, ep, ho, hd, hk, hm⟩ := hn
    have hany : es.any (·.refKey) = false := by
      rw [Array.any_eq_false']
      intro e he
      obtain ⟨n, t, h⟩ := hk e he
      simp [DictEntry.refKey, h]
    apply Exists.intro
    intro Q
    simp only [nsSet, strHash, Sem.wp_bind', Sem.wp_cmd_ask, Sem.wp_pure', Sem.wp_cmd_mkText]
    rw [Sem.wp_loadPart_of M Γ E p { s with toks := s.toks + 1 } (o := o) _ ho]
    simp only [hd, aRefKeyMayBeTheName_eq, aRefKeyMayBeTheNameByArray, hany, Bool.and_false, Bool.false_eq_true, if_false, Sem.wp_cmd_updatePart]
    exact ⟨fun h => h.2, fun h => ⟨by rw [ho]; rfl, h⟩⟩
  obtain ⟨h', hq⟩ := key
  refine ⟨h', ?_, hq⟩
  have := (hq _).mp (Sem.wp_nsSet M Γ E p s hn name v (fun _ _ s' => ∃ h2 : Heap, h2.Ns a (fun x => if x = name then some v else m x) ∧ s' = { s with heap := h2, toks := s.toks + 1 }) (fun h2 a1 _ => ⟨h2, a1, rfl⟩))
  obtain ⟨h2, a1, e⟩ := this
  have e2 : h' = h2 := congrArg Shared.heap e
  rw [e2]; exact a1
theorem store_det {M : Model} {A : Around} {E : Value → Shared → Prop} {s : Shared} {env : Env} {name : Str} {m : Str → Option Value} {v : Value} {Q : Unit → Shared → Prop} (hl : env.kindOf name = some .local) (hn : s.heap.Ns env.locals m)
    (hp : (env.scope.kind == .class || (env.scope.kind == .module && env.locals != env.globals)) = false) (h : wpAny M A (storeName env name v) Q E s) :
    wpAny M A (storeName env name v) (fun u s' => Q u s' ∧ s'.heap.Ns env.locals (fun x => if x = name then some v else m x) ∧ s'.toks = s.toks + 1) E s := by
  rw [storeName_local hl hp] at h ⊢
  intro Γ p hΓ
  obtain ⟨h', a1, hq⟩ := nsSet_det (M := M) (Γ := Γ) (E := fun e _ s' => E e s') (p := p) hn name v
  have h1 := (hq _).mp (h Γ p hΓ)
  exact (hq _).mpr ⟨h1, a1, rfl⟩
section
variable {X : Cx}
def tRepS (l o : Nat) (tb : TE) (u : TS) : TS := fun D σ H => ∃ z : Str, σ[l]? = some (some (.str z)) ∧ tb σ H fun y H1 => ∃ (i : Int) (c : Nat), y = .int i ∧ 0 ≤ i ∧ i < 2 ^ 63 ∧ i < z.length ∧ z.cps[i.toNat]? = some c ∧ z.length ≤ 1000000 ∧
  u D ((σ.set o (some (.str ⟨#[c]⟩))).set l (some (.str (Txt.replace z ⟨#[c]⟩ (Str.ofString ""))))) H1
theorem psst_rep {l o j : Nat} {nl no : Str} {eb : Expr} {rest : List Stmt} {tb : TE} {u : TS} {p1 p2 p3 p4 p5 p6 p7 p8 c1 ap pos : Pos} (hN : X.N.Nodup) (hl : X.N[l]? = some nl) (ho : X.N[o]? = some no) (hlo : o ≠ l)
    (kl : X.env.scope.names.lookup nl = some .local) (ko : X.env.scope.names.lookup no = some .local) (hb : PE X eb tb) (hs : PlainIxT eb) (h2 : PSsT X rest u)
    (hs1 : swapsWith (.Subscript (.Name nl p2) eb p3) (some (.Name no p1)) p4.line X.env = pure false := by rfl)
    (hs2 : swapsWith (.Call (.Attribute (.Name nl p6) "replace" ap) [.Name no p7, .Constant (.str (Str.ofString "")) j c1] [] pos) (some (.Name nl p5)) p8.line X.env = pure false := by rfl)
    (hst : starEach [.Name no p7, .Constant (.str (Str.ofString "")) j c1] X.env = [(false, eval (.Name no p7) X.env), (false, eval (.Constant (.str (Str.ofString "")) j c1) X.env)] := by rfl)
    (hbase : attributeBase (.Name nl p6) "replace" X.env (eval (.Name nl p6) X.env) = eval (.Name nl p6) X.env := by rfl) (hline : (ap.endLine == pos.line) = true := by rfl)
    (hd : (nl == ("__debug__" : Str)) = false := by decide) (hc : (nl == ("__classdict__" : Str)) = false := by decide) (hd' : (no == ("__debug__" : Str)) = false := by decide) :
    PSsT X (.Assign [.Name no p1] (.Subscript (.Name nl p2) eb p3) p4 :: .Assign [.Name nl p5] (.Call (.Attribute (.Name nl p6) "replace" ap) [.Name no p7, .Constant (.str (Str.ofString "")) j c1] [] pos) p8 :: rest) (tRepS l o tb u) := by
  intro pins s σ H D h0 I h
  obtain ⟨z, hz, h⟩ := h
  refine wpAny_execs_cons (wpAny_Assign_Name (Subscript_ (raw_name hl (.inl kl) I hz (fun uz rz => ?_) hd hc)) hs1)
  obtain ⟨tz, rfl⟩ := rz
  refine wpAny_mono (PySem.wpAny_toks (hb.run pins s σ H _ I h)) (fun ub s2 q => ?_) (fun _ _ x => x.2)
  obtain ⟨hk, y, H1, I2, ry, i, c, rfl, i0, i63, il, hcc, hzl, q⟩ := q
  obtain ⟨ti, rfl⟩ := ry
  have e := PySem.StrLaws.seqIndex_nonneg i0 il
  have n0 : s2.toks ≠ 0 := by omega
  refine tail_any (typeIs_str s2 z tz) slot_str_getitem.lookup (getItem_str (c := c) (by
    have e1 : decide (i < -(2 ^ 63 : Int)) = false := decide_eq_false (by omega)
    have e2 : decide (i ≥ 2 ^ 63) = false := decide_eq_false (by omega)
    rw [e1, e2] <;> rfl) (by rw [e]; exact hcc) ?_) (hs _ _)
  have I2' := I2.tok (s2.toks + 1)
  obtain ⟨m, hn, _⟩ := id I2'.loc
  have hp : (X.env.scope.kind == .class || (X.env.scope.kind == .module && X.env.locals != X.env.globals)) = false := by rw [I2.ok.kind]; rfl
  have st := store_ok (M := model X.prog X.w) (A := X.A) (E := X.xe) (v := V.str ⟨#[c]⟩) (u := Value.str ⟨#[c]⟩ s2.toks) (Q := fun _ s' => Inv X pins (σ.set o (some (V.str ⟨#[c]⟩))) H1 s') I2' hN ho (.inl ko) ⟨_, rfl⟩ (fun s' I' => I') (.inr ko)
  refine wpAny_mono (store_det ko hn hp st) (fun _ s3 q3 => ?_) (fun _ _ x => x)
  obtain ⟨I3, hn3, ht3⟩ := q3
  have ht3' : s3.toks = s2.toks + 1 + 1 := ht3
  have hz3 : (σ.set o (some (V.str ⟨#[c]⟩)))[l]? = some (some (.str z)) := by rw [List.getElem?_set_ne hlo]; exact hz
  have B : wpAny (model X.prog X.w) X.A (exec (.Assign [.Name nl p5] (.Call (.Attribute (.Name nl p6) "replace" ap) [.Name no p7, .Constant (.str (Str.ofString "")) j c1] [] pos) p8) X.env) (fun f s4 => f = .next ∧ Inv X pins ((σ.set o (some (V.str ⟨#[c]⟩))).set l (some (.str (Txt.replace z ⟨#[c]⟩ (Str.ofString ""))))) H1 s4) X.xe s3 := by
    refine wpAny_Assign_Name (PySem.Call_method2 hbase hst hline (raw_name hl (.inl kl) I3 hz3 (fun uz2 rz2 => ?_) hd hc)) hs2
    obtain ⟨tz2, rfl⟩ := rz2
    refine ⟨"str", _, PySem.F.plainAttrs_str, PySem.F.slot_str_replace, PySem.F.type_str_replace, typeIs_str _ _ _, (fun _ e => nomatch e), Calls.callWith_builtin rfl (Calls.evalArgs_plain (Calls.spliced_cons ?_))⟩
    refine wpAny_Name (wpAny_loadName_local I3.ok.kind ko hn3 (if_pos rfl) ?_) hd'
    refine Calls.spliced_cons (Calls.Constant_str (Calls.spliced_nil ?_))
    have n1 : s3.toks ≠ 0 := by omega
    have n2 : s2.toks ≠ s3.toks := by omega
    refine PySem.SC.replace (u := s2.toks) (v := s3.toks) n0 n1 n2 ?_ ?_ fun t' k => ?_
    · rfl
    · show z.length + (z.length + 1) * 0 ≤ _; omega
    exact store_ok (v := V.str (Txt.replace z ⟨#[c]⟩ (Str.ofString ""))) (u := Value.str (Txt.replace z ⟨#[c]⟩ (Str.ofString "")) t') (I3.tok k) hN hl (.inl kl) ⟨_, rfl⟩ (fun s' I' => ⟨rfl, I'⟩) (.inr kl)
  refine wpAny_execs_cons (wpAny_mono (PySem.wpAny_toks B) (fun f s4 q4 => ?_) (fun _ _ x => x.2))
  obtain ⟨hk4, rfl, I4⟩ := q4
  exact h2 pins s4 _ H1 D (by omega) I4 q
end
end Z
namespace Z
open PySem L2 SX
/-! ### items that are joined, and split again -/
theorem spl_no {it : List Nat} : (44 ∉ it) → ∀ acc : List Nat, TL.spl [44] 0 acc it = [acc ++ it] := by
  induction it with
  | nil => intro _ acc; rw [TL.spl_nil, List.append_nil]
  | cons c r ih =>
    intro h acc
    have hc : c ≠ 44 := fun e => h (by rw [e]; exact List.mem_cons_self)
    rw [TL.spl_miss (show TL.pre [44] (c :: r) = false by show ([c] == [44]) = false; simp [hc]), ih (fun m => h (List.mem_cons_of_mem _ m)), List.append_assoc]; rfl
theorem spl_cut {it m : List Nat} : (44 ∉ it) → ∀ acc : List Nat, TL.spl [44] 0 acc (it ++ 44 :: m) = (acc ++ it) :: TL.spl [44] 0 [] m := by
  induction it with
  | nil =>
    intro _ acc
    rw [List.nil_append, TL.spl_hit (show TL.pre [44] (44 :: m) = true by show ([44] == [44]) = true; rfl), List.append_nil]; rfl
  | cons c r ih =>
    intro h acc
    have hc : c ≠ 44 := fun e => h (by rw [e]; exact List.mem_cons_self)
    show TL.spl [44] 0 acc (c :: (r ++ 44 :: m)) = _
    rw [TL.spl_miss (show TL.pre [44] (c :: (r ++ 44 :: m)) = false by show ([c] == [44]) = false; simp [hc]), ih (fun m => h (List.mem_cons_of_mem _ m)), List.append_assoc]; rfl
theorem spl_join : ∀ {its : List (List Nat)}, its ≠ [] → (∀ it ∈ its, 44 ∉ it) → TL.spl [44] 0 [] (TL.joinL [44] its) = its
  | [], h, _ => absurd rfl h
  | [x], _, h => by
    show TL.spl [44] 0 [] x = [x]
    rw [spl_no (h x (by simp))]; rfl
  | x :: y :: r, _, h => by
    show TL.spl [44] 0 [] (x ++ ([44] ++ TL.joinL [44] (y :: r))) = _
    rw [show x ++ ([44] ++ TL.joinL [44] (y :: r)) = x ++ 44 :: TL.joinL [44] (y :: r) from rfl, spl_cut (h x (by simp)), spl_join (by simp) (fun z m => h z (List.mem_cons_of_mem _ m))]; rfl
/-- a text whose items are right -/
def GP (l : List Nat) : Prop := (TL.spl [44] 0 [] l).all goodItem = true
def okG (l : List Nat) : Prop := l ≠ [] ∧ ∀ c ∈ l, okc c = true
theorem good_no {it : List Nat} (h : goodItem it = true) : 44 ∉ it := fun m => by
  unfold goodItem at h
  have h2 := List.all_eq_true.mp (Bool.and_eq_true_iff.mp h).2
  unfold globP at h2
  by_cases e : it.take 1 = [33]
  · rw [if_pos (decide_eq_true e)] at h2
    cases it with
    | nil => cases m
    | cons c r =>
      have : c = 33 := by simpa using e
      subst this
      rcases List.mem_cons.mp m with q | q
      · cases q
      · have := h2 44 q; rw [okc_44] at this; cases this
  · rw [if_neg (fun q => e (of_decide_eq_true q))] at h2
    have := h2 44 m; rw [okc_44] at this; cases this
theorem okG.no33 {g : List Nat} (h : okG g) : ¬ g.take 1 = [33] := fun e => by
  cases g with
  | nil => exact h.1 rfl
  | cons c r =>
    have : c = 33 := by simpa using e
    subst this
    have := h.2 33 (by simp); rw [okc_33] at this; cases this
theorem good_glob {g : List Nat} (h : okG g) : goodItem g = true ∧ goodItem (33 :: g) = true := by
  have ha : g.all okc = true := List.all_eq_true.mpr h.2
  constructor
  · unfold goodItem globP
    rw [if_neg (fun q => h.no33 (of_decide_eq_true q)), ha, decide_eq_true h.1]; rfl
  · have e : globP (33 :: g) = g := by unfold globP; rw [if_pos (decide_eq_true (by simp))]; rfl
    unfold goodItem
    rw [e, ha, decide_eq_true h.1]; rfl
theorem GP.join {its : List (List Nat)} (ne : its ≠ []) (h : ∀ it ∈ its, goodItem it = true) : GP (TL.joinL [44] its) := by
  unfold GP
  rw [spl_join ne fun it m => good_no (h it m)]
  exact List.all_eq_true.mpr h
theorem lastOf_app (m : List Nat) : ∀ (l : List Nat) (a : Nat), lastOf a (l ++ m) = lastOf (lastOf a l) m
  | [], _ => rfl
  | c :: r, _ => lastOf_app m r c
theorem runs_ok {m : List Nat} : ∀ a : Nat, (∀ c ∈ m, okc c = true) → runs a m = true := by
  induction m with
  | nil => intro a _; rfl
  | cons c r ih =>
    intro a h
    show (step a c && runs c r) = true
    rw [ih c (fun d hd => h d (List.mem_cons_of_mem _ hd))]
    unfold step
    rw [h c (by simp)]; simp
theorem last_ok {m : List Nat} : ∀ a : Nat, (∀ c ∈ m, okc c = true) → m ≠ [] → endOk (lastOf a m) = true := by
  induction m with
  | nil => intro a _ h; exact absurd rfl h
  | cons c r ih =>
    intro a h _
    show endOk (lastOf c r) = true
    by_cases e : r = []
    · subst e
      show endOk c = true
      have hc := h c (by simp)
      unfold endOk
      rw [decide_eq_true (show c ≠ 44 from fun e => by rw [e, okc_44] at hc; cases hc), decide_eq_true (show c ≠ 33 from fun e => by rw [e, okc_33] at hc; cases hc)]; rfl
    · exact ih c (fun d hd => h d (List.mem_cons_of_mem _ hd)) e
theorem GP_iff {l : List Nat} : GP l ↔ (runs 44 l && endOk (lastOf 44 l)) = true := by
  unfold GP
  rw [spl_good l [] (by decide)]; rfl
theorem GP.app {l m : List Nat} (h : GP l) (hm : ∀ c ∈ m, okc c = true) : GP (l ++ m) := by
  by_cases e : m = []
  · subst e; rw [List.append_nil]; exact h
  rw [GP_iff] at h ⊢
  obtain ⟨h1, h2⟩ := Bool.and_eq_true_iff.mp h
  rw [runs_app, lastOf_app, h1, runs_ok _ hm, last_ok _ hm e]; rfl
/-- the other sign -/
def turnI (it : List Nat) : List Nat := if isBar it = true then it.drop 1 else 33 :: it
def oppI (l : List Nat) : List (List Nat) := [42] :: (parts l).map turnI
def oppL (l : List Nat) : List Nat := TL.joinL [44] (oppI l)
theorem globOf_nb {x : List Nat} (h : isBar x = false) : globOf x = x := by unfold globOf; rw [if_neg (by rw [h]; exact Bool.false_ne_true)]
theorem turn_good {it : List Nat} (h : goodItem it = true) : goodItem (turnI it) = true ∧ globOf (turnI it) = globOf it ∧ isBar (turnI it) = !isBar it := by
  have hg : okG (globOf it) := by
    unfold goodItem at h
    obtain ⟨h1, h2⟩ := Bool.and_eq_true_iff.mp h
    exact ⟨of_decide_eq_true h1, List.all_eq_true.mp h2⟩
  unfold turnI
  by_cases e : isBar it = true
  · have eg : globOf it = it.drop 1 := by unfold globOf; rw [if_pos e]
    rw [if_pos e, ← eg]
    have nb : isBar (globOf it) = false := by unfold isBar; exact decide_eq_false hg.no33
    exact ⟨(good_glob hg).1, globOf_nb nb, by rw [nb, e]; rfl⟩
  · have e' : isBar it = false := by simpa using e
    have eg : globOf it = it := by unfold globOf; rw [if_neg e]
    rw [if_neg e]
    have hb : isBar (33 :: it) = true := by unfold isBar; exact decide_eq_true (by simp)
    rw [eg] at hg
    refine ⟨(good_glob hg).2, ?_, by rw [hb, e']; rfl⟩
    rw [eg]; unfold globOf; rw [if_pos hb]; rfl
theorem GP.good {l it : List Nat} (h : GP l) (m : it ∈ parts l) : goodItem it = true := List.all_eq_true.mp h it m
theorem opp_good {l : List Nat} (h : GP l) : ∀ it ∈ oppI l, goodItem it = true := fun it m => by
  rcases List.mem_cons.mp m with e | m
  · subst e; decide +kernel
  · obtain ⟨x, hx, rfl⟩ := List.mem_map.mp m
    exact (turn_good (h.good hx)).1
theorem opp_parts {l : List Nat} (h : GP l) : parts (oppL l) = oppI l := spl_join (by unfold oppI; simp) fun it m => good_no (opp_good h it m)
theorem isPat_opp {l : List Nat} (h : GP l) : isPat (oppL l) = (decide ((oppL l).length ≤ 60) && decide ((parts l).length ≤ 7)) := by
  unfold isPat
  have e : TL.spl [44] 0 [] (oppL l) = oppI l := opp_parts h
  rw [e, List.all_eq_true.mpr (opp_good h), Bool.and_true]
  rw [show decide ((oppI l).length ≤ 8) = decide ((parts l).length ≤ 7) by
    rw [decide_eq_decide]; unfold oppI; rw [List.length_cons, List.length_map]; omega]
theorem fit_star (b : List Nat) : fit [42] b := by
  have key : ∀ (b : List Nat) (M : Nat → Prop), M 1 → (b.foldl (fun M c => nxt [42] M c) M) 1 := by
    intro b
    induction b with
    | nil => intro M h; exact h
    | cons c r ih => intro M h; exact ih _ (.inl ⟨rfl, .inr h⟩)
  exact key b _ ⟨rfl, True.intro⟩
open Classical in
theorem lets_opp {l b : List Nat} (h : GP l) : letsL (oppI l) b = !letsL (parts l) b := by
  have key : ∀ (its : List (List Nat)) (v : Bool), (∀ it ∈ its, goodItem it = true) →
      (its.map turnI).foldl (fun ans it => if fit (globOf it) b then !isBar it else ans) (!v) = !(its.foldl (fun ans it => if fit (globOf it) b then !isBar it else ans) v) := by
    intro its
    induction its with
    | nil => intro v _; rfl
    | cons x r ih =>
      intro v hg
      obtain ⟨_, t2, t3⟩ := turn_good (hg x (by simp))
      rw [List.map_cons, List.foldl_cons, List.foldl_cons, t2, t3, ← ih _ (fun y hy => hg y (List.mem_cons_of_mem _ hy))]
      congr 1
      by_cases hf : fit (globOf x) b
      · rw [if_pos hf, if_pos hf]
      · rw [if_neg hf, if_neg hf]
  have := key (parts l) false fun it m => h.good m
  unfold letsL
  unfold oppI
  rw [List.foldl_cons]
  have g42 : globOf [42] = [42] := by decide +kernel
  rw [g42, if_pos (fit_star b), show (!isBar [42]) = !false by decide +kernel]
  exact this
theorem isBeg_take {l : List Nat} (h : isBeg l = true) (k : Nat) : isBeg (l.take k) = true := by
  have key : ∀ (m : Nat), m ≤ l.length → isBeg (l.take (l.length - m)) = true := by
    intro m
    induction m with
    | zero => intro _; rw [Nat.sub_zero, List.take_length]; exact h
    | succ m ih =>
      intro hm
      have h1 := ih (by omega)
      have e : l.length - m = l.length - (m + 1) + 1 := by omega
      have hi : l.length - (m + 1) < l.length := by omega
      rw [e, List.take_add_one, List.getElem?_eq_getElem hi] at h1
      have h2 : isBeg (l.take (l.length - (m + 1)) ++ [l[l.length - (m + 1)]]) = true := h1
      rw [isBeg_snoc] at h2
      exact (Bool.and_eq_true_iff.mp h2).1
  by_cases hk : k ≤ l.length
  · have := key (l.length - k) (by omega)
    rw [show l.length - (l.length - k) = k by omega] at this; exact this
  · rw [List.take_of_length_le (by omega)]; exact h
theorem pat_wrong {l : List Nat} {o : Option Nat} (w : wrongAt l o) : decide (optV o = V.non) = isPat l := by
  cases o with
  | none => rw [w.2]; rfl
  | some k =>
    cases e : isPat l with
    | false => exact decide_eq_false (fun h => by cases h)
    | true =>
      have hb : isBeg l = true := by unfold isBeg; rw [e]; rfl
      have := wrongAt_one w (p := none) ⟨fun j _ => isBeg_take hb _, e⟩
      cases this
def sp_is_pattern : Sp := fun vs H Q _ => ∃ (x : Str), vs = [.str x] ∧ (tl x).length ≤ 2000 ∧ ∀ H', Same H H' → Q (.bl (isPat (tl x))) H'
def oppD (l : List Nat) : D := if isPat (oppL l) = true then .tup [.str (Str.ofString "told"), .str (S (oppL l))] else .tup [.str (Str.ofString "large"), .str (Str.ofString "pattern")]
def sp_opp (K : PySem.W.Frag) : Sp := fun vs H Q _ => ∃ (x : Str), vs = [.str x] ∧ (tl x).length ≤ 200 ∧ GP (tl x) ∧ ∀ v H', DV K H' (oppD (tl x)) v → Same H H' → Q v H'
def sp_opposite (K : PySem.W.Frag) (C : Addr) : Sp := fun vs H Q E => ∃ (x : Str), vs = [.str x] ∧ (tl x).length ≤ 200 ∧ GP (tl x) ∧ (isPat (oppL (tl x)) = true → ∀ H', Same H H' → Q (.str (S (oppL (tl x)))) H') ∧
  (isPat (oppL (tl x)) = false → ∀ (dd : Addr) (H1 : Hp), Same H H1 → H1 dd = some (.xd [("part", .str (Str.ofString "pattern"))]) → E (.ref C) (some dd) H1)
def sp_write_patternL (K : PySem.W.Frag) : Sp := fun vs H Q _ => ∃ (a : Addr) (ts : List Addr) (its : List (List Nat)), vs = [.ref a] ∧ SqL K H a (ts.map V.ref) ∧ ts.length = its.length ∧ its.length ≤ 1000 ∧ (∀ it ∈ its, it.length ≤ 1000) ∧ (∀ (k : Nat) (t : Addr) (it : List Nat), ts[k]? = some t → its[k]? = some it → SqT K H t (itemP it)) ∧
  ∀ (y : Str) (H' : Hp), tl y = TL.joinL [44] its → Same H H' → Q (.str y) H'
def sp_sight (K : PySem.W.Frag) : Sp := fun vs H Q _ => ∃ (a b : Addr) (ps bs : List Str), vs = [.ref a, .ref b] ∧ SqT K H a (ps.map V.str) ∧ SqT K H b (bs.map V.str) ∧ (∀ p ∈ ps, (tl p).length ≤ 3000) ∧ ps.length ≤ 1000 ∧ bs.length ≤ 1000 ∧ (∀ b ∈ bs, Clean (tl b)) ∧
  ∀ (t : Addr) (H' : Hp), Same H H' → SqT K H' t ((ps.map fun p => if (bs.any fun b => letsL (parts (tl p)) (tl b)) = true then (1 : Int) else 0).map V.int) → Q (.ref t) H'
def sp_lets_someL (K : PySem.W.Frag) : Sp := fun vs H Q _ => ∃ (p : Str) (a : Addr) (bs : List Str), vs = [.str p, .ref a] ∧ SqL K H a (bs.map V.str) ∧ (tl p).length ≤ 3000 ∧ bs.length ≤ 1000 ∧ (∀ b ∈ bs, Clean (tl b)) ∧ ∀ H', Same H H' → Q (.bl (bs.any fun b => letsL (parts (tl p)) (tl b))) H'
def sp_pattern_right (K : PySem.W.Frag) : Sp := fun vs H Q _ => ∃ (p : Str) (a : Addr) (bs : List Str), vs = [.str p, .ref a] ∧ SqL K H a (bs.map V.str) ∧ (tl p).length ≤ 200 ∧ GP (tl p) ∧ bs.length ≤ 1000 ∧ (∀ b ∈ bs, Clean (tl b)) ∧ ∀ H', Same H H' → Q (.bl true) H'
/-! ### signs, boards, globs, patterns, as they are drawn -/
abbrev sgs (cs : List Nat) : List V := cs.map fun c => V.str (S [c])
def No42 (l : List Nat) : Prop := ∀ c ∈ l, c ≠ 42
theorem No42.app {a b : List Nat} (x : No42 a) (y : No42 b) : No42 (a ++ b) := fun c h => (List.mem_append.mp h).elim (x c) (y c)
def Sgns (cs : List Nat) : Prop := cs.length = 4 ∧ ∀ c ∈ cs, (97 ≤ c ∧ c ≤ 122) ∨ (48 ≤ c ∧ c ≤ 57)
theorem okc_low {c : Nat} (h : (97 ≤ c ∧ c ≤ 122) ∨ (48 ≤ c ∧ c ≤ 57)) : okc c = true := by
  have e : tl (Str.ofString "abcdefghijklmnopqrstuvwxyz0123456789.*?") = List.range' 97 26 ++ List.range' 48 10 ++ [46, 42, 63] := by decide +kernel
  unfold okc
  rw [e]
  refine decide_eq_true (List.mem_append_left _ (List.mem_append.mpr ?_))
  rw [List.mem_range'_1, List.mem_range'_1]
  omega
def Wds (us : List Str) : Prop := us ≠ [] ∧ us.length ≤ 9 ∧ ∀ x ∈ us, Nm (tl x) ∧ (tl x).length ≤ 8
/-- tuples stay -/
def TK (K : PySem.W.Frag) (H H' : Hp) : Prop := ∀ a xs, SqT K H a xs → SqT K H' a xs
theorem TK.same {K : PySem.W.Frag} {H H' : Hp} (h : Same H H') : TK K H H' := fun _ _ q => h.tup q
theorem TK.ext {K : PySem.W.Frag} {H H' : Hp} {s a : Addr} {c : Nat} (h : Ext s H H') (S : Src H s a c) : TK K H H' := fun _ _ q => h.seqT S.lst.choose_spec q
theorem TK.trans {K : PySem.W.Frag} {H H1 H2 : Hp} (x : TK K H H1) (y : TK K H1 H2) : TK K H H2 := fun a xs q => y a xs (x a xs q)
/-- signs of boards -/
def Bdc (l : List Nat) : Prop := ∀ c ∈ l, (97 ≤ c ∧ c ≤ 122) ∨ (48 ≤ c ∧ c ≤ 57) ∨ c = 46
theorem Low.bdc {l : List Nat} (h : Low l) : Bdc l := fun c m => (h c m).elim .inl fun q => .inr (.inl q)
theorem Bdc.clean {l : List Nat} (h : Bdc l) : Clean l := fun c m => by have := h c m; omega
theorem Bdc.okc {l : List Nat} (h : Bdc l) : ∀ c ∈ l, okc c = true := fun c m => by
  rcases h c m with q | q | q
  · exact okc_low (.inl q)
  · exact okc_low (.inr q)
  · subst q; decide +kernel
theorem Low.okc {l : List Nat} (h : Low l) : ∀ c ∈ l, Z.okc c = true := h.bdc.okc
theorem Nm.ne {l : List Nat} (h : Nm l) : l ≠ [] := fun e => by obtain ⟨⟨c, r, e2, _⟩, _⟩ := h; rw [e] at e2; cases e2
theorem joinL_mem {s : List Nat} : ∀ {ls : List (List Nat)} {c : Nat}, c ∈ TL.joinL s ls → c ∈ s ∨ ∃ l ∈ ls, c ∈ l
  | [], c, h => by cases h
  | [x], c, h => .inr ⟨x, by simp, h⟩
  | x :: y :: r, c, h => by
    have h' : c ∈ x ++ (s ++ TL.joinL s (y :: r)) := h
    rcases List.mem_append.mp h' with q | q
    · exact .inr ⟨x, by simp, q⟩
    · rcases List.mem_append.mp q with q | q
      · exact .inl q
      · rcases joinL_mem q with q | ⟨l, m, q⟩
        · exact .inl q
        · exact .inr ⟨l, List.mem_cons_of_mem _ m, q⟩
theorem joinL_ne {s : List Nat} {ls : List (List Nat)} (h : ls ≠ []) (hx : ∀ l ∈ ls, l ≠ []) : TL.joinL s ls ≠ [] := fun e => by
  match ls, h with
  | [x], _ => exact hx x (by simp) e
  | x :: y :: r, _ =>
    have e' : x ++ (s ++ TL.joinL s (y :: r)) = [] := e
    exact hx x (by simp) (List.append_eq_nil_iff.mp e').1
def sp8__law_new_name (K : PySem.W.Frag) : Sp := fun vs H Q _ => ∃ (s a u : Addr) (us : List Str) (c : Nat), vs = [.ref s, .ref u] ∧ SqL K H u (us.map V.str) ∧ u ≠ s ∧ us.length ≤ 9 ∧ Src H s a (c + 8) ∧
  ∀ (x : Str) (H' : Hp), Nm (tl x) → (tl x).length ≤ 8 → Ext s H H' → Src H' s a c → Q (.str x) H'
def sp8__law_names (K : PySem.W.Frag) : Sp := fun vs H Q _ => ∃ (s a : Addr) (m c : Nat), vs = [.ref s, .int m] ∧ m ≤ 9 ∧ Src H s a (c + 8 * m) ∧
  ∀ (u : Addr) (us : List Str) (H' : Hp), H u = none → H' u = some (.lst (us.map V.str)) → us.length = m → (∀ x ∈ us, Nm (tl x) ∧ (tl x).length ≤ 8) → Ext s H H' → Src H' s a c → Q (.ref u) H'
def sp2__law_words (K : PySem.W.Frag) : Sp := fun vs H Q _ => ∃ (s a : Addr) (c : Nat), vs = [.ref s] ∧ Src H s a (c + 100) ∧
  ∀ (u : Addr) (us : List Str) (H' : Hp), H u = none → H' u = some (.lst (us.map V.str)) → Wds us → Ext s H H' → Src H' s a c → Q (.ref u) H'
def sp2__law_board (K : PySem.W.Frag) : Sp := fun vs H Q _ => ∃ (s a u : Addr) (us : List Str) (c : Nat), vs = [.ref s, .ref u] ∧ SqL K H u (us.map V.str) ∧ u ≠ s ∧ Wds us ∧ Src H s a (c + 10) ∧
  ∀ (x : Str) (H' : Hp), Bdc (tl x) → tl x ≠ [] → (tl x).length ≤ 30 → Ext s H H' → Src H' s a c → Q (.str x) H'
def sp2__law_boards (K : PySem.W.Frag) : Sp := fun vs H Q _ => ∃ (s a u : Addr) (us : List Str) (m : Int) (c : Nat), vs = [.ref s, .ref u, .int m] ∧ SqL K H u (us.map V.str) ∧ u ≠ s ∧ Wds us ∧ 0 < m ∧ m ≤ 10 ∧ Src H s a (c + 200) ∧
  ∀ (t : Addr) (bs : List Str) (H' : Hp), H' t = some (.tup (bs.map V.str)) → bs.length ≤ 10 → (∀ x ∈ bs, Bdc (tl x) ∧ (tl x).length ≤ 30) → Ext s H H' → Src H' s a c → Q (.ref t) H'
def sp2__law_glob (K : PySem.W.Frag) : Sp := fun vs H Q _ => ∃ (s a u : Addr) (us : List Str) (c : Nat), vs = [.ref s, .ref u] ∧ SqL K H u (us.map V.str) ∧ u ≠ s ∧ Wds us ∧ Src H s a (c + 20) ∧
  ∀ (x : Str) (H' : Hp), okG (tl x) → (tl x).length ≤ 40 → Ext s H H' → Src H' s a c → Q (.str x) H'
def sp2__law_pattern (K : PySem.W.Frag) : Sp := fun vs H Q _ => ∃ (s a u : Addr) (us : List Str) (c : Nat), vs = [.ref s, .ref u] ∧ SqL K H u (us.map V.str) ∧ u ≠ s ∧ Wds us ∧ Src H s a (c + 200) ∧
  ∀ (x : Str) (H' : Hp), GP (tl x) → (tl x).length ≤ 130 → Ext s H H' → Src H' s a c → Q (.str x) H'
def sp__law_shuffled (K : PySem.W.Frag) : Sp := fun vs H Q _ => ∃ (s a r : Addr) (xs : List V) (c : Nat), vs = [.ref s, .ref r] ∧ SqL K H r xs ∧ r ≠ s ∧ xs.length ≤ 1000 ∧ Src H s a (c + xs.length) ∧
  ∀ (d : Addr) (ys : List V) (H' : Hp), H d = none → H' d = some (.lst ys) → ys.length = xs.length → (∀ y ∈ ys, y ∈ xs) → Ext s H H' → Src H' s a c → Q (.ref d) H'
def sp2__law_signs : Sp := fun vs H Q _ => ∃ (s a : Addr) (c : Nat), vs = [.ref s] ∧ Src H s a (c + 10) ∧
  ∀ (u : Addr) (cs : List Nat) (H' : Hp), H u = none → H' u = some (.lst (sgs cs)) → Sgns cs → Ext s H H' → Src H' s a c → Q (.ref u) H'
def sp2__law_free_glob (K : PySem.W.Frag) : Sp := fun vs H Q _ => ∃ (s a u : Addr) (cs : List Nat) (m : Int) (c : Nat), vs = [.ref s, .ref u, .int m] ∧ SqL K H u (sgs cs) ∧ u ≠ s ∧ Sgns cs ∧ 0 < m ∧ m ≤ 60 ∧ Src H s a (c + 100) ∧
  ∀ (g : Str) (H' : Hp), okG (tl g) → ((tl g).length : Int) ≤ m → Ext s H H' → Src H' s a c → Q (.str g) H'
def sp__law_put : Sp := fun vs H Q _ => ∃ (t : Str) (c : Nat), vs = [.str t, .str (S [c])] ∧ c ≠ 42 ∧ No42 (tl t) ∧ (tl t).length ≤ 9000 ∧ ∀ (y : Str) (H' : Hp), Same H H' → No42 (tl y) → (tl y).length ≤ (tl t).length + 1 → Q (.str y) H'
def sp__law_drawn (K : PySem.W.Frag) : Sp := fun vs H Q _ => ∃ (s a u w : Addr) (cs : List Nat) (us : List Str) (c : Nat), vs = [.ref s, .ref u, .ref w] ∧ SqL K H u (sgs cs) ∧ u ≠ s ∧ Sgns cs ∧ SqL K H w (us.map V.str) ∧ w ≠ s ∧ Wds us ∧ Src H s a (c + 2000) ∧
  ∀ (x : Str) (H' : Hp), GP (tl x) → (tl x).length ≤ 200 → Ext s H H' → Src H' s a c → Q (.str x) H'
def sp__law_board_for (K : PySem.W.Frag) : Sp := fun vs H Q _ => ∃ (s a u : Addr) (p : Str) (cs : List Nat) (c : Nat), vs = [.ref s, .str p, .ref u] ∧ (tl p).length ≤ 200 ∧ H u = some (.lst (sgs cs)) ∧ u ≠ s ∧ Sgns cs ∧ Src H s a (c + 2000) ∧
  ∀ (y : Str) (H' : Hp), No42 (tl y) → (tl y).length ≤ 500 → Ext s H H' → Src H' s a c → Q (.str y) H'
theorem strike_len (c : Nat) : ∀ {l : List Nat}, l.Nodup → l.length ≤ (l.filter (· != c)).length + 1
  | [], _ => by simp
  | x :: r, h => by
    have hh := List.nodup_cons.mp h
    by_cases e : x = c
    · subst e
      have : r.filter (· != x) = r := List.filter_eq_self.mpr fun y hy => by
        have : y ≠ x := fun e => hh.1 (e ▸ hy)
        simp [this]
      rw [List.filter_cons_of_neg (by simp), this, List.length_cons]; exact Nat.le_refl _
    · rw [List.filter_cons_of_pos (by simp [e]), List.length_cons, List.length_cons]
      have := strike_len c hh.2
      omega
theorem tl_strike (z : Str) (c : Nat) : tl (Txt.replace z ⟨#[c]⟩ (Str.ofString "")) = (tl z).filter (· != c) := PyProof.Rows.replace_strikes z c
theorem cut_mem (x : Str) (i j : Option Int) : ∀ c ∈ tl (cutS x i j), c ∈ tl x := fun c h => by
  have h' : c ∈ (List.drop _ (tl x)).take _ := h
  exact List.mem_of_mem_drop (List.mem_of_mem_take h')
/-- what is stripped at the end is a piece -/
theorem rstrip_sub (x y : Str) : (∀ c ∈ tl (Txt.rstripChars x y), c ∈ tl x) ∧ (tl (Txt.rstripChars x y)).length ≤ (tl x).length := by
  have e : ∃ i j, tl (Txt.rstripChars x y) = ((tl x).drop i).take (j - i) := by
    have h := PyProof.Rows.stripBy_eq y.cps.contains false true x
    apply Exists.intro; apply Exists.intro
    refine (congrArg tl h).trans ?_
    show (x.cps.extract _ _).toList = _
    rw [Array.toList_extract]
  obtain ⟨i, j, e⟩ := e
  rw [e]
  exact ⟨fun c m => List.mem_of_mem_drop (List.mem_of_mem_take m), by rw [List.length_take, List.length_drop]; omega⟩
/-- a walk over the signs of a text behind a token -/
theorem pit_str {X : Cx} {tg e : Expr} {te : TE} (he : PET X e te) : PIT X tg e (iStr te) := by
  intro pins s σ H R h0 I h
  refine thn (he pins s σ H _ h0 I h) fun v s1 hh => ?_
  obtain ⟨y, H1, I1, r1, x, rfl, q⟩ := hh
  obtain ⟨t, rfl⟩ := r1
  have J := fun (ty : String) (hty : ty = "str_ascii_iterator" ∨ ty = "str_iterator") => pi_one (tk := s1.toks) I1 (tg := tg) (R := R) ⟨.type ty, none, .fields #[.str x t, .int 0 0], #[]⟩ (turn_str _ x t ty hty) ⟨_, Heap.get?_push_size _ rfl, rfl, rfl⟩ q
  by_cases ha : x.cps.all (· < 128) = true
  · exact wpAny_pyIter_ascii ha (J _ (.inl rfl))
  · exact wpAny_pyIter_wide (by simpa using ha) (J _ (.inr rfl))
theorem strs_of {ws : List V} {bs : List Str} (h : ∀ y ∈ ws, y ∈ bs.map V.str) : ∃ cs : List Str, ws = cs.map V.str ∧ ∀ c ∈ cs, c ∈ bs := by
  induction ws with
  | nil => exact ⟨[], rfl, fun _ h => by cases h⟩
  | cons w ws ih =>
    obtain ⟨cs, e, k⟩ := ih fun y hy => h y (List.mem_cons_of_mem _ hy)
    obtain ⟨b, hb, rfl⟩ := List.mem_map.mp (h w (by simp))
    exact ⟨b :: cs, by rw [e]; rfl, fun c hc => by
      rcases List.mem_cons.mp hc with e | hc
      · rw [e]; exact hb
      · exact k c hc⟩
theorem joinL_sum : ∀ {ls : List (List Nat)}, ls ≠ [] → (TL.joinL [44] ls).length + 1 = (ls.map fun it => it.length + 1).sum
  | [], h => absurd rfl h
  | [x], _ => by show x.length + 1 = _; simp
  | x :: y :: r, _ => by
    have ih := joinL_sum (ls := y :: r) (by simp)
    show (x ++ ([44] ++ TL.joinL [44] (y :: r))).length + 1 = _
    rw [List.map_cons, List.sum_cons, ← ih, List.length_append, List.length_append]
    show x.length + (1 + _) + 1 = _
    omega
theorem turn_len (it : List Nat) : (turnI it).length ≤ it.length + 1 := by
  unfold turnI
  split
  · rw [List.length_drop]; omega
  · exact Nat.le_refl _
theorem turn_sum : ∀ ls : List (List Nat), ((ls.map turnI).map fun it => it.length + 1).sum ≤ (ls.map fun it => it.length + 1).sum + ls.length
  | [] => Nat.le_refl _
  | x :: r => by
    have := turn_sum r
    have := turn_len x
    rw [List.map_cons, List.map_cons, List.map_cons, List.sum_cons, List.sum_cons, List.length_cons]
    omega
theorem opp_len (l : List Nat) : (oppL l).length ≤ 2 * l.length + 3 := by
  have h1 := joinL_sum (ls := oppI l) (by unfold oppI; simp)
  have h2 := turn_sum (parts l)
  have h3 := parts_num l
  have ne : parts l ≠ [] := fun h => by
    have := spl_count l []
    have h' : TL.spl [44] 0 [] l = [] := h
    rw [h'] at this; cases this
  have h4 := joinL_sum ne
  have e : TL.joinL [44] (parts l) = l := join_spl l []
  rw [e] at h4
  have h5 : ((oppI l).map fun it => it.length + 1).sum = 2 + (((parts l).map turnI).map fun it => it.length + 1).sum := by
    unfold oppI; rw [List.map_cons, List.sum_cons]; rfl
  have h6 : (oppL l).length = (TL.joinL [44] (oppI l)).length := rfl
  omega
theorem joinL_snoc {y : List Nat} : ∀ {ls : List (List Nat)}, ls ≠ [] → TL.joinL [44] (ls ++ [y]) = TL.joinL [44] ls ++ 44 :: y
  | [], h => absurd rfl h
  | [x], _ => rfl
  | x :: z :: r, _ => by
    have ih := joinL_snoc (y := y) (ls := z :: r) (by simp)
    show x ++ ([44] ++ TL.joinL [44] (z :: r ++ [y])) = (x ++ ([44] ++ TL.joinL [44] (z :: r))) ++ 44 :: y
    rw [ih]; simp
theorem DL_opp (l : List Nat) : DL 3 (oppD l) := by
  unfold oppD
  split
  · refine ⟨by show 2 ≤ _; decide, fun x hx => ?_⟩
    rcases List.mem_cons.mp hx with e | hx
    · subst e; exact True.intro
    · rw [List.mem_singleton.mp hx]; exact True.intro
  · refine ⟨by show 2 ≤ _; decide, fun x hx => ?_⟩
    rcases List.mem_cons.mp hx with e | hx
    · subst e; exact True.intro
    · rw [List.mem_singleton.mp hx]; exact True.intro
theorem DV_pair {K : PySem.W.Frag} {H : Hp} {t : Addr} {x y : Str} (h : SqT K H t [V.str x, V.str y]) : DV K H (.tup [.str x, .str y]) (.ref t) :=
  ⟨t, _, rfl, h, _, _, rfl, by unfold DV; rfl, _, _, rfl, by unfold DV; rfl, rfl⟩
theorem DV_pair_inv {K : PySem.W.Frag} {H : Hp} {v : V} {x y : Str} (h : DV K H (.tup [.str x, .str y]) v) : ∃ t, v = .ref t ∧ SqT K H t [V.str x, V.str y] := by
  obtain ⟨t, vs, rfl, hS, h3⟩ := h
  obtain ⟨u1, r1, rfl, e1, h4⟩ := h3
  obtain ⟨u2, r2, rfl, e2, h5⟩ := h4
  unfold DV at e1 e2
  unfold DVs at h5
  subst e1 e2 h5
  exact ⟨t, rfl, hS⟩
end Z
namespace Z
open PySem PySem.W PySem.Calls PyProof.Rows L2
/-! ### sorted(tuples of texts and numbers), min and max of two texts -/
/-- a text where the shape says so, elsewhere a number -/
def Shp (shape : Nat → Bool) : Nat → List V → Prop
  | _, [] => True
  | i, .int _ :: r => shape i = false ∧ Shp shape (i + 1) r
  | i, .str _ :: r => shape i = true ∧ Shp shape (i + 1) r
  | _, _ :: _ => False
/-- what the sort asks of a tuple in the heap -/
def TupAt (h : Heap) (shape : Nat → Bool) (v : Value) : Prop := ∃ (a : Addr) (o : Obj) (us : List Value) (n : Nat) (as : List (Int ⊕ List Nat)), v = .ref a ∧ h.get? a = some o ∧ o.cls = .type "tuple" ∧ o.data = .seq us.toArray n ∧ tupItems shape 0 us = some as ∧
  ∃ f, us[0]? = some f ∧ (shape 0 = false → ∃ k t, f = .int k t) ∧ (shape 0 = true → ∃ x t, f = .str x t)
theorem TupAt.keep {h h' : Heap} {shape : Nat → Bool} {v : Value} (p : TupAt h shape v) (k : ∀ b o, h.get? b = some o → o.cls = .type "tuple" → h'.get? b = some o) : TupAt h' shape v := by
  obtain ⟨a, o, us, n, as, e, g, c, r⟩ := p
  exact ⟨a, o, us, n, as, e, k _ _ g c, c, r⟩
theorem shp_items {shape : Nat → Bool} : ∀ {ws : List V} {us : List Value} {i : Nat}, Shp shape i ws → Vals ws us → ∃ l, tupItems shape i us = some l
  | [], _, _, _, r => by cases r; exact ⟨[], by simp [tupItems]⟩
  | .int k :: ws, _, i, h, r => by
    cases r with
    | cons r1 r2 =>
      obtain ⟨t, rfl⟩ := r1
      obtain ⟨l, hl⟩ := shp_items h.2 r2
      exact ⟨.inl k :: l, by simp [tupItems, h.1, hl]⟩
  | .str x :: ws, _, i, h, r => by
    cases r with
    | cons r1 r2 =>
      obtain ⟨t, rfl⟩ := r1
      obtain ⟨l, hl⟩ := shp_items h.2 r2
      exact ⟨.inr x.cps.toList :: l, by simp [tupItems, h.1, hl]⟩
  | .non :: _, _, _, h, _ => by unfold Shp at h; exact h.elim
  | .bl _ :: _, _, _, h, _ => by unfold Shp at h; exact h.elim
  | .ref _ :: _, _, _, h, _ => by unfold Shp at h; exact h.elim
  | .ty _ :: _, _, _, h, _ => by unfold Shp at h; exact h.elim
  | .byt _ :: _, _, _, h, _ => by unfold Shp at h; exact h.elim
  | .flt _ :: _, _, _, h, _ => by unfold Shp at h; exact h.elim
theorem shp_first {shape : Nat → Bool} {ws : List V} {us : List Value} (h : Shp shape 0 ws) (ne : ws ≠ []) (r : Vals ws us) : ∃ f, us[0]? = some f ∧ (shape 0 = false → ∃ k t, f = .int k t) ∧ (shape 0 = true → ∃ x t, f = .str x t) := by
  cases r with
  | nil => exact absurd rfl ne
  | @cons w u ws us r1 r2 =>
    refine ⟨u, rfl, fun e => ?_, fun e => ?_⟩
    · cases w with
      | int k => obtain ⟨t, rfl⟩ := r1; exact ⟨k, t, rfl⟩
      | str x => have := h.1; rw [e] at this; cases this
      | _ => unfold Shp at h; exact h.elim
    · cases w with
      | str x => obtain ⟨t, rfl⟩ := r1; exact ⟨x, t, rfl⟩
      | int x => have := h.1; rw [e] at this; cases this
      | _ => unfold Shp at h; exact h.elim
section
variable {prog : Program} {w : World} {A : Around} {E : Value → Shared → Prop} {s : Shared}
theorem tups_of {h : Heap} {shape : Nat → Bool} : ∀ {vs : List Value}, (∀ v ∈ vs, TupAt h shape v) → ∃ fs, TupsOf h shape vs fs ∧ fs.length = vs.length
  | [], _ => ⟨[], .nil, rfl⟩
  | v :: vs, hp => by
    obtain ⟨fs, h1, h2⟩ := tups_of (vs := vs) fun y m => hp y (List.mem_cons_of_mem _ m)
    obtain ⟨a, o, us, n, as, e, g, c, d, _, f, hf, k1, k2⟩ := hp v (by simp)
    refine ⟨f :: fs, .cons ⟨a, o, us.toArray, n, e, g, c, d, ?_, k1, k2⟩ h1, by rw [List.length_cons, List.length_cons, h2]⟩
    simpa using hf
theorem tupkey {h : Heap} {shape : Nat → Bool} {v : Value} (p : TupAt h shape v) : ∃ as, (tupKind h shape).keyOf v = some as := by
  obtain ⟨a, o, us, n, as, rfl, g, c, d, i, _⟩ := p
  refine ⟨as, ?_⟩
  show tupKey h shape (.ref a) = some as
  unfold tupKey
  simp only [g, d]
  exact i
theorem sorted_tups {shape : Nat → Bool} {l : Addr} {vs : List Value} {Q : Value → Shared → Prop} (hl : s.heap.IsList l vs.toArray) (hz : vs.length ≤ sizeLine) (hp : ∀ v ∈ vs, TupAt s.heap shape v)
    (hq : ∀ out : List Value, out.Perm vs → Q (.ref (s.heap.objs.size + 1)) { s with heap := sortedAll s.heap vs out.toArray }) : wpAny (model prog w) A (call (.builtin "sorted") [.ref l]) Q E s := by
  refine Srt.sorted_any hl hz (fun two h1 a ha kp => ?_) hq
  intro h2 kp2
  have tup : ∀ v ∈ vs, TupAt h2 shape v := fun v m => ((hp v m).keep fun b o g _ => (kp b o g).2).keep fun b o g c => kp2 b o (fun z => by
    subst z
    have g' : h1.get? b = some o := g
    rw [ha] at g'
    cases g'
    exact absurd (Value.type.inj c) (by decide)) g
  obtain ⟨fs, t, fl⟩ := tups_of tup
  refine ⟨tuples' true, fun Q E q => tup_kind (shape := shape) (s := { s with heap := h2 }) (by omega) t q, fun p q mp mq => ?_⟩
  obtain ⟨as, ka⟩ := tupkey (tup _ mp)
  obtain ⟨bs, kb⟩ := tupkey (tup _ mq)
  exact ⟨_, tup_ltAt (s := { s with heap := h2 }) true _ _ _ _ as bs ka kb ⟨rfl, rfl⟩⟩
end
/-- sorted(xs), xs a list of tuples of one shape: a new list of the same tuples, in some order -/
def rSortedX (K : Frag) (shape : Nat → Bool) : List V → Hp → VK → Prop := fun vs H Q => ∃ (a : Addr) (ts : List Addr), vs = [V.ref a] ∧ SqL K H a (ts.map V.ref) ∧ (∀ t ∈ ts, ∃ ws, H t = some (.tup ws) ∧ Shp shape 0 ws ∧ ws ≠ []) ∧
  ∀ (ys : List Addr) (p : Addr), ys.Perm ts → H p = none → Q (.ref p) (upd H p (.lst (ys.map V.ref)))
theorem vals_refs : ∀ {ts : List Addr} {us : List Value}, Vals (ts.map V.ref) us → us = ts.map Value.ref
  | [], _, r => by cases r; rfl
  | t :: ts, _, r => by
    cases r with
    | cons r1 r2 => cases r1; rw [vals_refs r2]; rfl
theorem refs_vals : ∀ ts : List Addr, Vals (ts.map V.ref) (ts.map Value.ref)
  | [] => .nil
  | t :: ts => .cons rfl (refs_vals ts)
theorem perm_refs {ts : List Addr} {us : List Value} (h : us.Perm (ts.map Value.ref)) : ∃ ys : List Addr, us = ys.map Value.ref ∧ ys.Perm ts := by
  refine ⟨us.map fun u => match u with | .ref a => a | _ => 0, ?_, ?_⟩
  · rw [List.map_map]
    refine (List.map_id us).symm.trans (List.map_congr_left fun u m => ?_)
    obtain ⟨a, _, rfl⟩ := List.mem_map.mp (h.mem_iff.mp m)
    rfl
  · have := h.map fun u => match u with | Value.ref a => a | _ => 0
    rw [List.map_map] at this
    rwa [show ts.map ((fun u => match u with | Value.ref a => a | _ => 0) ∘ Value.ref) = ts from (List.map_congr_left fun _ _ => rfl).trans (List.map_id ts)] at this
section
variable {X : Cx}
theorem cr_sortedX {shape : Nat → Bool} : CallR X (.builtin "sorted") (rSortedX X.K shape) := by
  intro pins s σ H vs us Q I r h
  obtain ⟨a, ts, rfl, hs, ht, q⟩ := h
  obtain ⟨its, rv, hl, hz⟩ := I.list hs
  have e1 := vals_refs rv
  subst e1
  obtain ⟨u, rfl, ru⟩ := vals1 r
  obtain rfl : u = Value.ref a := ru
  rw [List.length_map] at hz
  refine sorted_tups (shape := shape) hl.isList (by rw [List.length_map]; exact hz) (fun v m => ?_) fun out po => ?_
  · obtain ⟨t, tm, rfl⟩ := List.mem_map.mp m
    obtain ⟨ws, hw, sh, ne⟩ := ht t tm
    have ok : ObjOk X.prog X.w H s.heap t (.tup ws) := I.hok t _ hw
    obtain ⟨_, xs, rx, o, g, c, n, d⟩ := ok
    obtain ⟨as, hi⟩ := shp_items sh rx
    exact ⟨t, o, xs, n, as, rfl, g, c, d, hi, shp_first sh ne rx⟩
  · obtain ⟨ys, rfl, py⟩ := perm_refs po
    have fr : H (s.heap.objs.size + 1) = none := I.hok.fresh (Nat.le_succ _)
    obtain ⟨n, hn⟩ := sortedAll_at s.heap (ts.map Value.ref) (ys.map Value.ref).toArray
    refine ⟨.ref _, upd H _ (.lst (ys.map V.ref)), I.laid (t' := s.toks) (fun b o g => sortedAll_old g) (Nat.le_succ _) ⟨?_, ys.map Value.ref, n, refs_vals ys, hn⟩, rfl, q ys _ py fr⟩
    rw [List.length_map, py.length_eq]; exact hz
end
section
variable {prog : Program} {w : World} {A : Around} {E : Value → Shared → Prop} {s : Shared}
theorem best1 (bt : Nat → Nat → Bool) : argBest bt 1 = 0 ∨ argBest bt 1 = 1 := by
  by_cases h : bt 1 (argBest bt 0) = true
  · exact .inr (if_pos h)
  · exact .inl (if_neg h)
/-- the larger one -/
theorem max_strs {x y : Str} {t u : Tok} {Q : Value → Shared → Prop} (calm : A.handled = none)
    (h : ∀ (k : Bool) (hp : Heap) (tk : Nat), (∀ b o, s.heap.get? b = some o → hp.get? b = some o) → Q (if k = true then .str y u else .str x t) { s with heap := hp, toks := tk }) : wpAny (model prog w) A (call (.builtin "max") [.str x t, .str y u]) Q E s := by
  have tp : (s.heap.push { cls := .type "tuple", data := .seq #[.str x t, .str y u] }).IsTuple s.heap.objs.size #[.str x t, .str y u] := ⟨_, Heap.get?_push_size _ rfl, rfl, 0, rfl⟩
  have z1 : (s.heap.push { cls := .type "tuple", data := .seq #[.str x t, .str y u] }).objs.size = s.heap.objs.size + 1 := Heap.size_push ..
  refine call_max_two (wpAny_pyIter_tuple tp ?_)
  refine ⟨_, [_, s.heap.objs.size], [_], _, _, _, fun i j => decide ((if j = 0 then x else y).cps.toList < (if i = 0 then x else y).cps.toList), rfl, Walks.tuple (A := A.in1) calm _ s.heap.objs.size (by rw [z1]; exact Nat.ne_of_lt (Nat.lt_succ_self _)) #[.str x t, .str y u], ⟨⟨_, Heap.get?_push_size _ rfl, rfl, rfl⟩, tp.push _⟩, fun b hb => ?_, by simp, fun i j vi vj s1 Q1 E1 gi gj q => ?_, fun v hp tk hv kp => ?_⟩
  · show b < ((s.heap.push _).push _).objs.size
    rw [Heap.size_push]
    simp only [List.mem_cons, List.not_mem_nil, or_false] at hb
    rcases hb with e | e <;> subst e
    · exact Nat.lt_succ_self _
    · rw [z1]; exact Nat.lt_succ_of_lt (Nat.lt_succ_self _)
  · have pick : ∀ {k : Nat} {v : Value}, (#[Value.str x t, Value.str y u])[k]? = some v → ∃ tt, v = .str (if k = 0 then x else y) tt := fun {k v} g => by
      match k, g with
      | 0, g => exact ⟨t, (Option.some.inj g).symm⟩
      | 1, g => exact ⟨u, (Option.some.inj g).symm⟩
      | k + 2, g => simp at g
    obtain ⟨ti, rfl⟩ := pick gi
    obtain ⟨tj, rfl⟩ := pick gj
    exact PySem.P.gt_str q
  · have old : ∀ b o, s.heap.get? b = some o → hp.get? b = some o := fun b o g => by
      refine kp b o (fun m => ?_) (Heap.get?_push_of_some _ (Heap.get?_push_of_some _ g))
      have lt := Heap.lt_size g
      rw [List.mem_singleton.mp m, z1] at lt
      exact absurd lt (Nat.not_lt_of_lt (Nat.lt_succ_self _))
    have cases2 : v = .str y u ∨ v = .str x t := by
      have hv' : (#[Value.str x t, Value.str y u])[argBest (fun i j => decide ((if j = 0 then x else y).cps.toList < (if i = 0 then x else y).cps.toList)) 1]? = some v := hv
      rcases best1 _ with e | e
      · rw [e] at hv'; exact .inr (Option.some.inj hv').symm
      · rw [e] at hv'; exact .inl (Option.some.inj hv').symm
    rcases cases2 with e | e
    · rw [e]; exact h true hp tk old
    · rw [e]; exact h false hp tk old
theorem min_strs {x y : Str} {t u : Tok} {Q : Value → Shared → Prop} (calm : A.handled = none)
    (h : ∀ (k : Bool) (hp : Heap) (tk : Nat), (∀ b o, s.heap.get? b = some o → hp.get? b = some o) → Q (if k = true then .str y u else .str x t) { s with heap := hp, toks := tk }) : wpAny (model prog w) A (call (.builtin "min") [.str x t, .str y u]) Q E s := by
  have tp : (s.heap.push { cls := .type "tuple", data := .seq #[.str x t, .str y u] }).IsTuple s.heap.objs.size #[.str x t, .str y u] := ⟨_, Heap.get?_push_size _ rfl, rfl, 0, rfl⟩
  have z1 : (s.heap.push { cls := .type "tuple", data := .seq #[.str x t, .str y u] }).objs.size = s.heap.objs.size + 1 := Heap.size_push ..
  refine call_min_two (wpAny_pyIter_tuple tp ?_)
  refine ⟨_, [_, s.heap.objs.size], [_], _, _, _, fun i j => decide ((if i = 0 then x else y).cps.toList < (if j = 0 then x else y).cps.toList), rfl, Walks.tuple (A := A.in1) calm _ s.heap.objs.size (by rw [z1]; exact Nat.ne_of_lt (Nat.lt_succ_self _)) #[.str x t, .str y u], ⟨⟨_, Heap.get?_push_size _ rfl, rfl, rfl⟩, tp.push _⟩, fun b hb => ?_, by simp, fun i j vi vj s1 Q1 E1 gi gj q => ?_, fun v hp tk hv kp => ?_⟩
  · show b < ((s.heap.push _).push _).objs.size
    rw [Heap.size_push]
    simp only [List.mem_cons, List.not_mem_nil, or_false] at hb
    rcases hb with e | e <;> subst e
    · exact Nat.lt_succ_self _
    · rw [z1]; exact Nat.lt_succ_of_lt (Nat.lt_succ_self _)
  · have pick : ∀ {k : Nat} {v : Value}, (#[Value.str x t, Value.str y u])[k]? = some v → ∃ tt, v = .str (if k = 0 then x else y) tt := fun {k v} g => by
      match k, g with
      | 0, g => exact ⟨t, (Option.some.inj g).symm⟩
      | 1, g => exact ⟨u, (Option.some.inj g).symm⟩
      | k + 2, g => simp at g
    obtain ⟨ti, rfl⟩ := pick gi
    obtain ⟨tj, rfl⟩ := pick gj
    exact PySem.P.lt_str q
  · have old : ∀ b o, s.heap.get? b = some o → hp.get? b = some o := fun b o g => by
      refine kp b o (fun m => ?_) (Heap.get?_push_of_some _ (Heap.get?_push_of_some _ g))
      have lt := Heap.lt_size g
      rw [List.mem_singleton.mp m, z1] at lt
      exact absurd lt (Nat.not_lt_of_lt (Nat.lt_succ_self _))
    have cases2 : v = .str y u ∨ v = .str x t := by
      have hv' : (#[Value.str x t, Value.str y u])[argBest (fun i j => decide ((if i = 0 then x else y).cps.toList < (if j = 0 then x else y).cps.toList)) 1]? = some v := hv
      rcases best1 _ with e | e
      · rw [e] at hv'; exact .inr (Option.some.inj hv').symm
      · rw [e] at hv'; exact .inl (Option.some.inj hv').symm
    rcases cases2 with e | e
    · rw [e]; exact h true hp tk old
    · rw [e]; exact h false hp tk old
end
section
variable {X : Cx}
/-- min, max of two texts: one of them -/
def rOne2 : List V → Hp → VK → Prop := fun xs H Q => ∃ x y : Str, xs = [.str x, .str y] ∧ Q (.str x) H ∧ Q (.str y) H
theorem call_maxS (hc : X.calm = true) : CallR X (.builtin "max") rOne2 := by
  intro pins s σ H xs us Q I r h
  obtain ⟨x, y, rfl, q1, q2⟩ := h
  obtain ⟨u, w', rfl, ⟨t, rfl⟩, ⟨t', rfl⟩⟩ := vals2 r
  refine max_strs (I.ok.hd hc) fun k hp tk old => ?_
  cases k with
  | true => exact ⟨.str y, H, I.kept old, ⟨t', rfl⟩, q2⟩
  | false => exact ⟨.str x, H, I.kept old, ⟨t, rfl⟩, q1⟩
theorem call_minS (hc : X.calm = true) : CallR X (.builtin "min") rOne2 := by
  intro pins s σ H xs us Q I r h
  obtain ⟨x, y, rfl, q1, q2⟩ := h
  obtain ⟨u, w', rfl, ⟨t, rfl⟩, ⟨t', rfl⟩⟩ := vals2 r
  refine min_strs (I.ok.hd hc) fun k hp tk old => ?_
  cases k with
  | true => exact ⟨.str y, H, I.kept old, ⟨t', rfl⟩, q2⟩
  | false => exact ⟨.str x, H, I.kept old, ⟨t, rfl⟩, q1⟩
end
end Z
namespace Z
open PySem PySem.Spec PyProof.Rows L2
theorem mulT1 (l : Addr) (its : Array Value) (n : Nat) (dd : Option Addr) (sl : Array (Option Value)) (u : Tok) : Meets (Builtin.«tuple.__mul__» ⟨[.ref l, .int 1 u], []⟩) (fun _ R s =>
    s.heap.get? l = some { cls := .type "tuple", dict := dd, data := .seq its n, slots := sl } ∧ R (.ok (.ret (.ref l))) s) := .of_wp fun prog w A R s h => by
  obtain ⟨hp, g, d, tk, os⟩ := s
  obtain ⟨at_, h⟩ := h
  have ix := AutoSeq1.idx_int
  have c1 : (its.isEmpty || (1 : Int) == 1) = true := by cases its.isEmpty <;> rfl
  wp_walk using wpAny_loadPart' at_
  repeat (first
    | (refine wpAny_ite_false (decide_eq_false (by decide)) ?_; wp_walk using wpAny_loadPart' at_)
    | (refine wpAny_ite_true (decide_eq_true (by first | decide | exact c1)) ?_; wp_walk using wpAny_loadPart' at_))
  exact ⟨_, rfl, h⟩
theorem mulT0 (l : Addr) (its : Array Value) (n : Nat) (dd : Option Addr) (sl : Array (Option Value)) (u : Tok) (ne : its.isEmpty = false) : Meets (Builtin.«tuple.__mul__» ⟨[.ref l, .int 0 u], []⟩) (fun _ R s =>
    s.heap.get? l = some { cls := .type "tuple", dict := dd, data := .seq its n, slots := sl } ∧ R (.ok (.ret (.ref s.heap.objs.size))) { s with heap := s.heap.push { cls := .type "tuple", data := .seq #[] }, toks := s.toks }) := .of_wp fun prog w A R s h => by
  obtain ⟨hp, g, d, tk, os⟩ := s
  obtain ⟨at_, h⟩ := h
  have ix := AutoSeq1.idx_int
  have c1 : (its.isEmpty || (0 : Int) == 1) = false := by rw [ne]; rfl
  wp_walk using wpAny_loadPart' at_
  repeat (first
    | (refine wpAny_ite_false (decide_eq_false (by first | decide | (rw [c1]; exact Bool.false_ne_true))) ?_; wp_walk using wpAny_loadPart' at_)
    | (refine wpAny_ite_true (decide_eq_true (by first | decide | rfl)) ?_; wp_walk using wpAny_loadPart' at_))
  exact ⟨_, rfl, h⟩
/-- t * k, of a tuple -/
def rMulT (K : PySem.W.Frag) : R2 := fun x y H Q => ∃ (l : Addr) (k : Nat) (xs : List V), x = .ref l ∧ y = .int (k : Int) ∧ SqT K H l xs ∧ xs ≠ [] ∧ k ≤ 1000 ∧ xs.length ≤ 1000 ∧ ∀ (p : Addr) (H' : Hp), Same H H' → SqT K H' p (List.replicate k xs).flatten → Q (.ref p) H'
section
variable {X : Cx}
theorem op_mulT : OpR X (binaryOp .Mult) (rMulT X.K) := by
  intro pins s σ H x y v u Q I rx ry h
  obtain ⟨l, k, xs, ex, ey, hT, ne, hk, hx, q⟩ := h
  by_cases h2 : 2 ≤ k
  · exact op_repT pins s σ H x y v u Q I rx ry ⟨l, _, xs, ex, ey, hT, ne, by omega, by omega, hx, fun p hp => q p _ (same_new hp) (SqT.of (by rw [upd_same]; rfl))⟩
  subst ex ey
  cases rx
  obtain ⟨t, rfl⟩ := ry
  obtain ⟨its, r, ⟨⟨cls, dd, data, sl⟩, at_, hc, n, hd⟩, hs⟩ := I.tuple hT
  simp only at hc hd
  subst hc hd
  have hi : its.toArray.isEmpty = false := by
    cases r with
    | nil => exact absurd rfl ne
    | cons _ _ => rfl
  have k01 : k = 0 ∨ k = 1 := by omega
  rcases k01 with e | e
  · subst e
    refine wpAny_binaryOp_repeat_ref (T := "tuple") (U := "int") (by decide) ⟨_, at_, rfl⟩ (fun s1 => typeIs_int s1 _ t) noFill_tuple_mul F.fills_int_mul F.slot_int_rmul repeat_tuple F.slot_int_index.lookup (call_meets F.slot_int_rmul (typeIs_int s _ t) F.entry_int_rmul (F.args_int_rmul_2 _ _) (int_rmul_tuple _ t l its.toArray n dd sl) ⟨at_, rfl, ⟨_, at_, rfl⟩, call_meets F.slot_tuple_mul ⟨_, at_, rfl⟩ F.entry_tuple_mul (F.args_tuple_mul_2 _ _) (mulT0 l its.toArray n dd sl t hi) ⟨at_, ?_⟩⟩)
    have fr : H s.heap.objs.size = none := I.hok.fresh (Nat.le_refl _)
    exact ⟨.ref _, upd H s.heap.objs.size (.tup []), I.laid (t' := s.toks) (fun b o g => Heap.get?_push_of_some _ g) (Nat.le_refl _) ⟨by show 0 ≤ sizeLine; decide, [], .nil, IsTup.new _ _⟩, rfl, q _ _ (same_new fr) (SqT.of upd_same)⟩
  · subst e
    refine wpAny_binaryOp_repeat_ref (T := "tuple") (U := "int") (by decide) ⟨_, at_, rfl⟩ (fun s1 => typeIs_int s1 _ t) noFill_tuple_mul F.fills_int_mul F.slot_int_rmul repeat_tuple F.slot_int_index.lookup (call_meets F.slot_int_rmul (typeIs_int s _ t) F.entry_int_rmul (F.args_int_rmul_2 _ _) (int_rmul_tuple _ t l its.toArray n dd sl) ⟨at_, rfl, ⟨_, at_, rfl⟩, call_meets F.slot_tuple_mul ⟨_, at_, rfl⟩ F.entry_tuple_mul (F.args_tuple_mul_2 _ _) (mulT1 l its.toArray n dd sl t) ⟨at_, ?_⟩⟩)
    exact ⟨.ref l, H, I, rfl, q l H (Same.refl _) (by show SqT X.K H l (xs ++ []); rw [List.append_nil]; exact hT)⟩
end
end Z
namespace Z
open PySem L2 SX
/-! ### data, by place -/
section
variable {K : PySem.W.Frag} {H : Hp}
theorem DV.any {ds : List D} {v : V} {i : Nat} {d : D} (h : DV K H (.tup ds) v) (e : ds[i]? = some d) : ∃ a us u, v = .ref a ∧ SqT K H a us ∧ us[i]? = some u ∧ DV K H d u := by
  obtain ⟨a, us, rfl, hS, hs⟩ := h
  obtain ⟨u, eu, du⟩ := hs.get e
  exact ⟨a, us, u, rfl, hS, eu, du⟩
theorem DV.sub {ds es : List D} {v : V} {i : Nat} (h : DV K H (.tup ds) v) (e : ds[i]? = some (.tup es)) : ∃ a us c ws, v = .ref a ∧ SqT K H a us ∧ us[i]? = some (V.ref c) ∧ SqT K H c ws ∧ DVs K H es ws := by
  obtain ⟨a, us, u, rfl, hS, eu, du⟩ := h.any e
  obtain ⟨c, ws, rfl, hc, hw⟩ := du
  exact ⟨a, us, c, ws, rfl, hS, eu, hc, hw⟩
theorem DV.leafS {ds : List D} {v : V} {i : Nat} {x : Str} (h : DV K H (.tup ds) v) (e : ds[i]? = some (.str x)) : ∃ a us, v = .ref a ∧ SqT K H a us ∧ us[i]? = some (V.str x) := by
  obtain ⟨a, us, u, rfl, hS, eu, du⟩ := h.any e
  unfold DV at du
  subst du
  exact ⟨a, us, rfl, hS, eu⟩
theorem DVs.map_get {α : Type} {f : α → D} : ∀ {l : List α} {us : List V} {i : Nat} {u : V}, DVs K H (l.map f) us → us[i]? = some u → ∃ x, l[i]? = some x ∧ DV K H (f x) u
  | [], _, i, u, h, e => by unfold DVs at h; subst h; simp at e
  | x :: l, us, i, u, h, e => by
    obtain ⟨v, r, rfl, q, t⟩ := h
    cases i with
    | zero =>
      have : v = u := Option.some.inj e
      subst this
      exact ⟨x, rfl, q⟩
    | succ i => exact DVs.map_get (i := i) t e
theorem DVs.map_len {α : Type} {f : α → D} {l : List α} {us : List V} (h : DVs K H (l.map f) us) : us.length = l.length := by rw [h.len, List.length_map]
/-- values that are data of some of these -/
theorem DVs.pick {α : Type} {f : α → D} {xs : List V} {l : List α} : ∀ {ys : List V}, DVs K H (l.map f) xs → (∀ y ∈ ys, y ∈ xs) → ∃ m : List α, DVs K H (m.map f) ys ∧ m.length = ys.length ∧ ∀ x ∈ m, x ∈ l
  | [], _, _ => ⟨[], by unfold List.map DVs; rfl, rfl, fun _ h => by cases h⟩
  | y :: ys, h, k => by
    obtain ⟨m, h1, h2, h3⟩ := DVs.pick h fun z hz => k z (List.mem_cons_of_mem _ hz)
    obtain ⟨i, hi⟩ := List.getElem?_of_mem (k y (by simp))
    obtain ⟨x, hx, dx⟩ := h.map_get hi
    refine ⟨x :: m, ?_, by rw [List.length_cons, List.length_cons, h2], fun z hz => ?_⟩
    · exact ⟨y, ys, rfl, dx, h1⟩
    · rcases List.mem_cons.mp hz with e | e
      · rw [e]; exact List.mem_of_getElem? hx
      · exact h3 z e
theorem DVs.snoc {α : Type} {f : α → D} {x : α} {u : V} : ∀ {l : List α} {us : List V}, DVs K H (l.map f) us → DV K H (f x) u → DVs K H ((l ++ [x]).map f) (us ++ [u])
  | [], _, h, d => by unfold List.map DVs at h; subst h; exact ⟨u, [], rfl, d, by unfold List.map DVs; rfl⟩
  | y :: l, us, h, d => by
    obtain ⟨v, r, rfl, q, t⟩ := h
    exact ⟨v, r ++ [u], rfl, q, DVs.snoc t d⟩
theorem DVs.tk {H' : Hp} (t : TK K H H') {ds : List D} {us : List V} (h : DVs K H ds us) : DVs K H' ds us := DVs.ext t h
theorem DV.tk {H' : Hp} (t : TK K H H') {d : D} {u : V} (h : DV K H d u) : DV K H' d u := DV.ext t h
end
theorem find_step {α : Type} {p : α → Bool} {l : List α} {i : Nat} {x : α} (h : (l.take i).find? p = none) (e : l[i]? = some x) (hx : p x = false) : (l.take (i + 1)).find? p = none := by
  rw [List.take_add_one, e, List.find?_append, h]
  show (none : Option α).or ([x].find? p) = none
  simp [hx]
theorem find_hit {α : Type} {p : α → Bool} {l : List α} {i : Nat} {x : α} (h : (l.take i).find? p = none) (e : l[i]? = some x) (hx : p x = true) : l.find? p = some x := by
  have el : l = l.take i ++ x :: l.drop (i + 1) := by
    obtain ⟨h1, h2⟩ := List.getElem?_eq_some_iff.mp e
    rw [← h2, List.getElem_cons_drop, List.take_append_drop]
  rw [el, List.find?_append, h]
  show (none : Option α).or ((x :: l.drop (i + 1)).find? p) = some x
  rw [List.find?_cons_of_pos hx]; rfl
/-! ### books -/
structure Si where
  n : Str
  o : Int
  m : Int
  r : Int
  p : Str
structure Fd where
  g : Str
  t : Str
  p : Str
  h : Int
  z : Int
structure Sw where
  p : Str
  a : Str
  y : D
structure Bk where
  w : Int
  x : Int
  y : Int
  si : List Si
  ln : List (Str × Str)
  fd : List Fd
  sw : List Sw
  li : List D
def siD (s : Si) : D := .tup [.str (Str.ofString "site"), .str s.n, .int s.o, .int s.m, .int s.r, .str s.p]
def lnD (l : Str × Str) : D := .tup [.str l.1, .str l.2]
def fdD (f : Fd) : D := .tup [.str (Str.ofString "feed"), .str f.g, .str f.t, .str f.p, .int f.h, .int f.z]
def swD (s : Sw) : D := .tup [.str (Str.ofString "steward"), .str s.p, .str s.a, s.y]
def bkD (b : Bk) : D := .tup [.str (Str.ofString "book"), .int b.w, .tup [.int b.x, .int b.y], .tup (b.si.map siD), .tup (b.ln.map lnD), .tup (b.fd.map fdD), .tup (b.sw.map swD), .tup b.li]
structure BkOk (b : Bk) : Prop where
  si : b.si.length ≤ 10
  ln : b.ln.length ≤ 30
  fd : b.fd.length ≤ 100
  sw : b.sw.length ≤ 10
  sp : ∀ s ∈ b.si, (tl s.p).length ≤ 3000
  wp : ∀ s ∈ b.sw, (tl s.p).length ≤ 3000
  sn : ∀ s ∈ b.si, Low (tl s.n) ∧ (tl s.n).length ≤ 8
  fn : ∀ f ∈ b.fd, Low (tl f.g) ∧ Low (tl f.t)
def siteOf (b : Bk) (n : Str) : Option Si := b.si.find? fun s => decide (s.n = n)
def feedOf (b : Bk) (g t : Str) : Option Fd := b.fd.find? fun f => decide (f.g = g) && decide (f.t = t)
noncomputable def stwOf (b : Bk) (d : List Nat) : Option Sw := b.sw.find? fun s => letsL (parts (tl s.p)) d
def polOf (b : Bk) (a : Str) : Option Sw := b.sw.find? fun s => decide (s.a = a)
def optD {α : Type} (f : α → D) : Option α → D
  | none => .non
  | some x => f x
def nearL (b : Bk) (n : Str) : List Str := ((b.ln.filter fun l => decide (l.1 = n)).map (·.2)) ++ ((b.ln.filter fun l => decide (l.2 = n)).map (·.1))
/-- the seals so far, and a board more -/
noncomputable def sealF (b : Bk) (acc : List Str) (d : Str) : List Str := match stwOf b (tl d) with
  | none => acc
  | some s => if s.a ∈ acc then acc else acc ++ [s.a]
noncomputable def sealsL (b : Bk) (bs : List Str) : List Str := bs.foldl (sealF b) []
def sp_site_of (K : PySem.W.Frag) : Sp := fun vs H Q _ => ∃ (b : Bk) (v : V) (n : Str), vs = [v, .str n] ∧ DV K H (bkD b) v ∧ ∀ u, DV K H (optD siD (siteOf b n)) u → Q u H
def sp_feed_of (K : PySem.W.Frag) : Sp := fun vs H Q _ => ∃ (b : Bk) (v : V) (g t : Str), vs = [v, .str g, .str t] ∧ DV K H (bkD b) v ∧ BkOk b ∧ Low (tl g) ∧ Low (tl t) ∧ ∀ u H', Same H H' → DV K H' (optD fdD (feedOf b g t)) u → Q u H'
def sp_neighbours (K : PySem.W.Frag) : Sp := fun vs H Q _ => ∃ (b : Bk) (v : V) (n : Str), vs = [v, .str n] ∧ DV K H (bkD b) v ∧ BkOk b ∧ ∀ (t : Addr) (ys : List Str) (H' : Hp), Same H H' → SqT K H' t (ys.map V.str) → ys.Perm (nearL b n) → PyProof.Rows.sortedS ys = true → Q (.ref t) H'
noncomputable def carriesB (b : Bk) (n : Str) (bs : List Str) : Bool := match siteOf b n with
  | none => false
  | some s => bs.any fun d => letsL (parts (tl s.p)) (tl d)
def sp_carries (K : PySem.W.Frag) : Sp := fun vs H Q _ => ∃ (b : Bk) (v : V) (n : Str) (a : Addr) (bs : List Str), vs = [v, .str n, .ref a] ∧ DV K H (bkD b) v ∧ BkOk b ∧ SqT K H a (bs.map V.str) ∧ bs.length ≤ 1000 ∧ (∀ d ∈ bs, Clean (tl d)) ∧ ∀ H', Same H H' → Q (.bl (carriesB b n bs)) H'
def swA (s : Sw) : D := .str s.a
def sp_steward_of (K : PySem.W.Frag) : Sp := fun vs H Q _ => ∃ (b : Bk) (v : V) (d : Str), vs = [v, .str d] ∧ DV K H (bkD b) v ∧ BkOk b ∧ Clean (tl d) ∧ ∀ u H', Same H H' → DV K H' (optD swA (stwOf b (tl d))) u → Q u H'
def sp_seals (K : PySem.W.Frag) : Sp := fun vs H Q _ => ∃ (b : Bk) (v : V) (a : Addr) (bs : List Str), vs = [v, .ref a] ∧ DV K H (bkD b) v ∧ BkOk b ∧ SqT K H a (bs.map V.str) ∧ bs.length ≤ 1000 ∧ (∀ d ∈ bs, Clean (tl d)) ∧ ∀ (t : Addr) H', Same H H' → SqT K H' t ((sealsL b bs).map V.str) → Q (.ref t) H'
def sp_policy_of (K : PySem.W.Frag) : Sp := fun vs H Q _ => ∃ (b : Bk) (v : V) (a : Str), vs = [v, .str a] ∧ DV K H (bkD b) v ∧ ∀ u, DV K H (optD Sw.y (polOf b a)) u → Q u H
/-! ### what the law draws -/
def sp3__law_pick (K : PySem.W.Frag) : Sp := fun vs H Q _ =>
  (∃ (s a r : Addr) (xs : List V) (c : Nat), vs = [.ref s, .ref r] ∧ SqL K H r xs ∧ r ≠ s ∧ xs ≠ [] ∧ xs.length ≤ 100000 ∧ Src H s a (c + 1) ∧ ∀ (v : V) (H' : Hp), v ∈ xs → Ext s H H' → Src H' s a c → Q v H') ∨
  (∃ (s a : Addr) (x : Str) (c : Nat), vs = [.ref s, .str x] ∧ tl x ≠ [] ∧ (tl x).length ≤ 100000 ∧ Src H s a (c + 1) ∧ ∀ (ch : Nat) (H' : Hp), ch ∈ tl x → Ext s H H' → Src H' s a c → Q (.str (S [ch])) H') ∨
  (∃ (s a r : Addr) (xs : List V) (c : Nat), vs = [.ref s, .ref r] ∧ SqT K H r xs ∧ xs ≠ [] ∧ xs.length ≤ 100000 ∧ Src H s a (c + 1) ∧ ∀ (v : V) (H' : Hp), v ∈ xs → Ext s H H' → Src H' s a c → Q v H')
def Nms (us : List Str) : Prop := us.Nodup ∧ ∀ x ∈ us, Nm (tl x) ∧ (tl x).length ≤ 8
def sp9__law_new_name (K : PySem.W.Frag) : Sp := fun vs H Q _ => ∃ (s a u : Addr) (us : List Str) (c : Nat), vs = [.ref s, .ref u] ∧ SqL K H u (us.map V.str) ∧ u ≠ s ∧ us.length ≤ 9 ∧ Src H s a (c + 8) ∧
  ∀ (x : Str) (H' : Hp), Nm (tl x) → (tl x).length ≤ 8 → x ∉ us → Ext s H H' → Src H' s a c → Q (.str x) H'
def sp9__law_names (K : PySem.W.Frag) : Sp := fun vs H Q _ => ∃ (s a : Addr) (m c : Nat), vs = [.ref s, .int m] ∧ m ≤ 9 ∧ Src H s a (c + 8 * m) ∧
  ∀ (u : Addr) (us : List Str) (H' : Hp), H u = none → H' u = some (.lst (us.map V.str)) → us.length = m → Nms us → Ext s H H' → Src H' s a c → Q (.ref u) H'
def sp_lines (K : PySem.W.Frag) : Sp := fun vs H Q _ => ∃ (s a u : Addr) (us : List Str) (c : Nat), vs = [.ref s, .ref u] ∧ SqL K H u (us.map V.str) ∧ u ≠ s ∧ 1 ≤ us.length ∧ us.length ≤ 9 ∧ (∀ x ∈ us, Low (tl x)) ∧ Src H s a (c + 100) ∧
  ∀ (L : Addr) (ws : List V) (ls : List (Str × Str)) (H' : Hp), H L = none → H' L = some (.lst ws) → DVs K H' (ls.map lnD) ws → ls.length ≤ 20 → (∀ l ∈ ls, Low (tl l.1) ∧ Low (tl l.2)) → Ext s H H' → Src H' s a c → Q (.ref L) H'
def sp_feeds (K : PySem.W.Frag) : Sp := fun vs H Q _ => ∃ (s a L w : Addr) (ws : List V) (ls : List (Str × Str)) (us : List Str) (k : Int) (c : Nat), vs = [.ref s, .ref L, .ref w, .int k] ∧ SqL K H L ws ∧ L ≠ s ∧ DVs K H (ls.map lnD) ws ∧ ls.length ≤ 20 ∧ (∀ l ∈ ls, Low (tl l.1) ∧ Low (tl l.2)) ∧ SqL K H w (us.map V.str) ∧ w ≠ s ∧ Wds us ∧ 0 < k ∧ k ≤ 100 ∧ Src H s a (c + 20000) ∧
  ∀ (u : V) (fs : List Fd) (H' : Hp), DV K H' (.tup (fs.map fdD)) u → fs.length ≤ 40 → (∀ f ∈ fs, Low (tl f.g) ∧ Low (tl f.t)) → Ext s H H' → Src H' s a c → Q u H'
def sp_sites (K : PySem.W.Frag) : Sp := fun vs H Q _ => ∃ (s a u w o : Addr) (us ws : List Str) (z : Int) (is : List Int) (c : Nat), vs = [.ref s, .ref u, .ref w, .int z, .ref o] ∧ SqL K H u (us.map V.str) ∧ u ≠ s ∧ us.length ≤ 9 ∧ SqL K H w (ws.map V.str) ∧ w ≠ s ∧ Wds ws ∧ H o = some (.lst (is.map V.int)) ∧ o ≠ s ∧ is.length = us.length ∧ Src H s a (c + 5000) ∧
  ∀ (v : V) (l : List Si) (H' : Hp), DV K H' (.tup (l.map siD)) v → l.map (·.n) = us → (∀ x ∈ l, (tl x.p).length ≤ 200) → Ext s H H' → Src H' s a c → Q v H'
def sp_book (K : PySem.W.Frag) : Sp := fun vs H Q _ => ∃ (s a w : Addr) (ws : List Str) (m : Nat) (c : Nat), vs = [.ref s, .int (m : Int), .ref w] ∧ 1 ≤ m ∧ m ≤ 9 ∧ SqL K H w (ws.map V.str) ∧ w ≠ s ∧ Wds ws ∧ Src H s a (c + 30000) ∧
  ∀ (v : V) (b : Bk) (H' : Hp), DV K H' (bkD b) v → BkOk b → b.sw = [] → b.si ≠ [] → (b.si.map (·.n)).Nodup → Ext s H H' → Src H' s a c → Q v H'
def sp_stewards (K : PySem.W.Frag) : Sp := fun vs H Q _ => ∃ (s a w : Addr) (v : V) (b : Bk) (ws : List Str) (c : Nat), vs = [.ref s, v, .ref w] ∧ DV K H (bkD b) v ∧ b.si ≠ [] ∧ BkOk b ∧ SqL K H w (ws.map V.str) ∧ w ≠ s ∧ Wds ws ∧ Src H s a (c + 5000) ∧
  ∀ (u : V) (l : List Sw) (H' : Hp), DV K H' (.tup (l.map swD)) u → l.length ≤ 3 → (∀ x ∈ l, (tl x.p).length ≤ 200 ∧ (tl x.a).length ≤ 20 ∧ DL 4 x.y) → (l.map (·.a)).Nodup → Ext s H H' → Src H' s a c → Q u H'
/-! ### sorted texts, told by what they are -/
open PyProof.Rows in
theorem eqv_pair (a b c d : Str) : PyData.eqv (.tuple [.str a, .str b]) (.tuple [.str c, .str d]) = (decide (a = c) && decide (b = d)) := by
  simp [PyData.eqv, PyData.eqvAll]
  by_cases h1 : a = c <;> by_cases h2 : b = d <;> simp [h1, h2]
theorem ok_low {x : Str} (h : Low (tl x)) : PyData.strOk x = true := by
  unfold PyData.strOk
  rw [← Array.all_toList, List.all_eq_true]
  intro c m
  have := h c m
  exact decide_eq_true (by omega)
theorem pair_shaped {x y : Str} (hx : Low (tl x)) (hy : Low (tl y)) : SeqAt.shaped (.tuple [.str x, .str y]) = true := by
  simp [SeqAt.shaped, PyData.canLay0, PyData.canLayAll0, PyData.depth, PyData.depthAll, ok_low hx, ok_low hy]
end Z
namespace Z
open PySem L2 SX
open PyProof.Rows PySem.Spec
theorem find_uniq {α : Type} {f : α → Str} : ∀ {l : List α} {i : Nat} {x : α}, (l.map f).Nodup → l[i]? = some x → l.find? (fun y => decide (f y = f x)) = some x
  | [], i, x, _, h => by simp at h
  | y :: r, i, x, nd, h => by
    rw [List.map_cons, List.nodup_cons] at nd
    cases i with
    | zero =>
      have : y = x := Option.some.inj h
      subst this
      rw [List.find?_cons_of_pos (by simp)]
    | succ i =>
      have hr : r[i]? = some x := h
      have ne : ¬ f y = f x := fun e => nd.1 (by rw [e]; exact List.mem_map_of_mem (List.mem_of_getElem? hr))
      rw [List.find?_cons_of_neg (by simpa using ne)]
      exact find_uniq nd.2 hr
theorem lt_anti : ∀ {a b : List Nat}, ltCps a b = false → ltCps b a = false → a = b
  | [], [], _, _ => rfl
  | [], _ :: _, h, _ => by simp [ltCps] at h
  | _ :: _, [], _, h => by simp [ltCps] at h
  | x :: a, y :: b, h, k => by
    simp only [ltCps, Bool.or_eq_false_iff, decide_eq_false_iff_not, Bool.and_eq_false_iff] at h k
    have e : x = y := by omega
    subst e
    have h2 := h.2.resolve_left (by simp)
    have k2 := k.2.resolve_left (by simp)
    rw [lt_anti h2 k2]
theorem lt_trans : ∀ {a b c : List Nat}, ltCps b a = false → ltCps c b = false → ltCps c a = false
  | [], _, [], _, _ => rfl
  | [], _, _ :: _, _, _ => by simp [ltCps]
  | _ :: _, [], _, h, _ => by simp [ltCps] at h
  | _ :: _, _ :: _, [], _, k => by simp [ltCps] at k
  | x :: a, y :: b, z :: c, h, k => by
    simp only [ltCps, Bool.or_eq_false_iff, decide_eq_false_iff_not, Bool.and_eq_false_iff] at h k ⊢
    refine ⟨by omega, ?_⟩
    by_cases e : z = x
    · have e1 : y = x := by omega
      have e2 : z = y := by omega
      subst e1
      subst e2
      exact .inr (lt_trans (h.2.resolve_left (by simp)) (k.2.resolve_left (by simp)))
    · exact .inl (by simpa using e)
theorem rising_pw : ∀ {l : List Str} {p : Str}, risingS p l = true → (∀ x ∈ l, ltCps x.cps.toList p.cps.toList = false) ∧ l.Pairwise (fun a b => ltCps b.cps.toList a.cps.toList = false)
  | [], _, _ => ⟨(fun _ h => by cases h), List.Pairwise.nil⟩
  | x :: r, p, h => by
    have h' : (!ltCps x.cps.toList p.cps.toList && risingS x r) = true := h
    obtain ⟨h1, h2⟩ := Bool.and_eq_true_iff.mp h'
    have h1' : ltCps x.cps.toList p.cps.toList = false := by simpa using h1
    obtain ⟨k1, k2⟩ := rising_pw h2
    refine ⟨fun y hy => ?_, List.pairwise_cons.mpr ⟨k1, k2⟩⟩
    rcases List.mem_cons.mp hy with e | e
    · rw [e]; exact h1'
    · exact lt_trans h1' (k1 y e)
theorem sorted_pw : ∀ {l : List Str}, sortedS l = true → l.Pairwise (fun a b => ltCps b.cps.toList a.cps.toList = false)
  | [], _ => List.Pairwise.nil
  | x :: r, h => List.pairwise_cons.mpr (rising_pw (show risingS x r = true from h))
theorem pw_uniq : ∀ {ys zs : List Str}, ys.Perm zs → ys.Pairwise (fun a b => ltCps b.cps.toList a.cps.toList = false) → zs.Pairwise (fun a b => ltCps b.cps.toList a.cps.toList = false) → ys = zs
  | [], zs, p, _, _ => p.nil_eq
  | y :: r, [], p, _, _ => absurd p.symm.nil_eq (by simp)
  | y :: r, z :: t, p, hy, hz => by
    obtain ⟨y1, y2⟩ := List.pairwise_cons.mp hy
    obtain ⟨z1, z2⟩ := List.pairwise_cons.mp hz
    have e : y = z := by
      have m1 : y ∈ z :: t := p.mem_iff.mp (by simp)
      have m2 : z ∈ y :: r := p.mem_iff.mpr (by simp)
      rcases List.mem_cons.mp m1 with e | e
      · exact e
      · rcases List.mem_cons.mp m2 with e2 | e2
        · exact e2.symm
        · exact tl_ext (lt_anti (z1 y e) (y1 z e2)) 
    subst e
    rw [pw_uniq ((List.perm_cons y).mp p) y2 z2]
theorem sorted_uniq {ys zs : List Str} (p : ys.Perm zs) (sy : sortedS ys = true) (sz : sortedS zs = true) : ys = zs := pw_uniq p (sorted_pw sy) (sorted_pw sz)
theorem seal_len (b : Bk) (acc : List Str) (d : Str) : (sealF b acc d).length ≤ acc.length + 1 := by
  unfold sealF
  split
  · omega
  · split
    · omega
    · rw [List.length_append]; exact Nat.le_refl _
theorem seals_len (b : Bk) : ∀ (bs acc : List Str), (bs.foldl (sealF b) acc).length ≤ acc.length + bs.length
  | [], _ => Nat.le_refl _
  | d :: r, acc => by
    have h1 := seals_len b r (sealF b acc d)
    have h2 := seal_len b acc d
    rw [List.foldl_cons, List.length_cons]; omega
end Z
namespace Z
open PySem L2 SX
/-! ### small helpers -/
theorem nodup_len : ∀ {l m : List Str}, l.Nodup → (∀ x ∈ l, x ∈ m) → l.length ≤ m.length
  | [], m, _, _ => Nat.zero_le _
  | x :: l, m, nd, h => by
    obtain ⟨n1, n2⟩ := List.nodup_cons.mp nd
    have hx := h x (by simp)
    have := nodup_len (l := l) (m := m.erase x) n2 fun y my => (List.mem_erase_of_ne (fun e => n1 (by rw [← e]; exact my))).mpr (h y (List.mem_cons_of_mem _ my))
    have e := List.length_erase_of_mem hx
    have p := List.length_pos_of_mem hx
    rw [List.length_cons]; omega
theorem sput {H H' : Hp} {a : Addr} {o : HO} (h : Same H H') (n : H a = none) : Same H (upd H' a o) := fun b u hb => by
  rw [upd_ne (ne_of_none hb n)]; exact h b u hb
theorem tk_upd {K : PySem.W.Frag} {H : Hp} {p : Addr} {u o : HO} (h : H p = some u) (n1 : ∀ xs, u ≠ .tup xs) (n2 : ∀ o w, u ≠ .frz o w) : TK K H (upd H p o) := fun a xs q => by
  rcases q with (q | ⟨o', q⟩) | q
  · exact .inl (.inl (by rw [upd_ne (fun e => by rw [e, h] at q; exact n1 _ (Option.some.inj q))]; exact q))
  · exact .inl (.inr ⟨o', by rw [upd_ne (fun e => by rw [e, h] at q; exact n2 _ _ (Option.some.inj q))]; exact q⟩)
  · exact .inr q
theorem map_get {α : Type} {f : α → V} {l : List α} {i : Nat} {x : V} (h : (l.map f)[i]? = some x) : ∃ y, l[i]? = some y ∧ x = f y := by
  rw [List.getElem?_map] at h
  cases e : l[i]? with
  | none => rw [e] at h; cases h
  | some y => rw [e] at h; exact ⟨y, rfl, (Option.some.inj h).symm⟩
theorem filt_step2 {α : Type} {p : α → Bool} {l : List α} {i : Nat} {x : α} (e : l[i]? = some x) : (l.take (i + 1)).filter p = (l.take i).filter p ++ (if p x = true then [x] else []) := by
  rw [List.take_add_one, e, List.filter_append]
  congr 1
  by_cases c : p x = true
  · rw [if_pos c]; exact List.filter_eq_self.mpr fun y hy => by rw [List.mem_singleton.mp hy]; exact c
  · rw [if_neg c]; exact List.filter_eq_nil_iff.mpr fun y hy => by rw [List.mem_singleton.mp hy]; exact c
theorem iG {c : Bool} {A B : Prop} (h : c = true) (a : A) : if c = true then A else B := by rw [if_pos h]; exact a
theorem iN {c : Bool} {A B : Prop} (h : c = false) (b : B) : if c = true then A else B := by rw [if_neg (by rw [h]; exact Bool.false_ne_true)]; exact b
theorem sorted_first {y : Str} {r : List Str} (h : (y :: r).Pairwise fun a b => PySem.Spec.ltCps b.cps.toList a.cps.toList = false) : ∀ z ∈ y :: r, ¬ tl z < tl y := fun z hz => by
  rcases List.mem_cons.mp hz with e | e
  · rw [e]; exact fun q => List.lt_irrefl _ q
  · have := (List.pairwise_cons.mp h).1 z e
    rw [PyProof.Rows.ltCps_eq] at this
    exact of_decide_eq_false this
def nms (b : Bk) : List Str := b.si.map (·.n)
theorem dls {K : PySem.W.Frag} {H : Hp} (x : Str) : DV K H (.str x) (.str x) := by unfold DV; rfl
theorem dli {K : PySem.W.Frag} {H : Hp} (x : Int) : DV K H (.int x) (.int x) := by unfold DV; rfl
theorem dln {K : PySem.W.Frag} {H : Hp} : DVs K H [] [] := by unfold DVs; rfl
theorem dlc {K : PySem.W.Frag} {H : Hp} {d : D} {ds : List D} {v : V} {vs : List V} (h : DV K H d v) (t : DVs K H ds vs) : DVs K H (d :: ds) (v :: vs) := ⟨v, vs, rfl, h, t⟩
theorem tk_put {K : PySem.W.Frag} {H : Hp} {M : Addr} {ys : List V} {o : HO} (h : H M = some (.lst ys)) : TK K H (upd H M o) := fun a xs q => Ext.seqT (s := M) (fun b o hb hh => by rw [upd_ne hb]; exact hh) h q
theorem tk_new {K : PySem.W.Frag} {H : Hp} {M : Addr} {o : HO} (h : H M = none) : TK K H (upd H M o) := TK.same (same_new h)
theorem small_le (n : Nat) (h : n ≤ 30000) : n ≤ sizeLine := Nat.le_trans h (by decide)
theorem small_lt (n : Nat) (h : n ≤ 30000) : n < sizeLine := Nat.lt_of_le_of_lt h (by decide)
theorem pw_get {α : Type} {r : α → α → Prop} : ∀ {l : List α} {i j : Nat} {a b : α}, l.Pairwise r → l[i]? = some a → l[j]? = some b → i < j → r a b
  | [], _, _, _, _, _, h, _, _ => by simp at h
  | x :: l, 0, j + 1, a, b, p, h, k, _ => by
    cases (show some _ = some _ from h)
    exact (List.pairwise_cons.mp p).1 b (List.mem_of_getElem? (by simpa using k))
  | x :: l, i + 1, j + 1, a, b, p, h, k, lt => pw_get (i := i) (j := j) (List.pairwise_cons.mp p).2 (by simpa using h) (by simpa using k) (by omega)
/-- the bookkeeping of one local list and the source -/
theorem ext_keep {s M : Addr} {H H1 : Hp} {o : HO} (n : H M = none) (x : Ext s H H1) : Ext s H (upd H1 M o) := fun b w hb hh => by
  rw [upd_ne (ne_of_none hh n)]; exact x b w hb hh
theorem DVs.of_all {K : PySem.W.Frag} {H : Hp} {α : Type} {f : α → D} {g : α → V} : ∀ {l : List α}, (∀ x ∈ l, DV K H (f x) (g x)) → DVs K H (l.map f) (l.map g)
  | [], _ => by unfold List.map DVs; rfl
  | x :: l, h => ⟨g x, l.map g, rfl, h x (by simp), DVs.of_all fun y m => h y (List.mem_cons_of_mem _ m)⟩
theorem DVs.all {K : PySem.W.Frag} {H : Hp} {α : Type} {f : α → D} {l : List α} {us : List V} (h : DVs K H (l.map f) us) {i : Nat} {x : α} (e : l[i]? = some x) : ∃ u, us[i]? = some u ∧ DV K H (f x) u :=
  h.get (by rw [List.getElem?_map, e]; rfl)
theorem ln_ok {ls : List (Str × Str)} (h : ∀ l ∈ ls, Low (tl l.1) ∧ Low (tl l.2)) : Okl (ls.map lnD) :=
  fines_ok (n := 1) (fines_map fun l m => fine_tup (fines_cons (fine_low fun c hc => by have := (h l m).1 c hc; omega) (fines_cons (fine_low fun c hc => by have := (h l m).2 c hc; omega) fines_nil)))
theorem pr_ok {x y : Str} (h : Low (tl x)) (k : Low (tl y)) : Okd (.tup [.str x, .str y]) :=
  fine_ok (n := 1) (fine_tup (fines_cons (fine_low fun c hc => by have := h c hc; omega) (fines_cons (fine_low fun c hc => by have := k c hc; omega) fines_nil)))
theorem alike_ln (b c : Str × Str) : PySem.W.alike (py (lnD b)) (py (lnD c)) = true := by simp [lnD, py, pys, PySem.W.alike, PySem.W.alikeAll]
theorem depth_ln (b : Str × Str) : (py (lnD b)).depth ≤ 60 := by simp [lnD, py, pys, PyData.depth, PyData.depthAll]
theorem lnD_inj {a b : Str × Str} (h : lnD a = lnD b) : a = b := by
  unfold lnD at h
  simp only [D.tup.injEq, List.cons.injEq, D.str.injEq, and_true] at h
  exact Prod.ext h.1 h.2
theorem erase_perm {α : Type} : ∀ (l : List α) (i : Nat) (h : i < l.length), (l[i] :: l.eraseIdx i).Perm l
  | x :: l, 0, _ => List.Perm.refl _
  | x :: l, i + 1, h => by
    have ih := erase_perm l i (by simpa using h)
    exact (List.Perm.swap x _ _).trans (ih.cons x)
theorem DVs.perm {K : PySem.W.Frag} {H : Hp} {α : Type} {f : α → D} {ys us : List V} (p : ys.Perm us) : ∀ {l : List α}, DVs K H (l.map f) us → ∃ m : List α, m.Perm l ∧ DVs K H (m.map f) ys := by
  induction p with
  | nil => intro l h; exact ⟨l, List.Perm.refl _, h⟩
  | cons x _ ih =>
    intro l h
    cases l with
    | nil => unfold List.map DVs at h; cases h
    | cons a l =>
      obtain ⟨v, r, e, q, t⟩ := h
      cases e
      obtain ⟨m, pm, d⟩ := ih t
      exact ⟨a :: m, pm.cons a, ⟨_, _, rfl, q, d⟩⟩
  | swap x y r0 =>
    intro l h
    match l, h with
    | [], h => unfold List.map DVs at h; cases h
    | [a], h =>
      obtain ⟨v, r, e, q, t⟩ := h
      cases e
      unfold List.map DVs at t; cases t
    | a :: b :: l, h =>
      obtain ⟨v, r, e, q, t⟩ := h
      cases e
      obtain ⟨v2, r2, e2, q2, t2⟩ := t
      cases e2
      exact ⟨b :: a :: l, List.Perm.swap a b l, ⟨_, _, rfl, q2, ⟨_, _, rfl, q, t2⟩⟩⟩
  | trans _ _ ih1 ih2 =>
    intro l h
    obtain ⟨m, pm, d⟩ := ih2 h
    obtain ⟨m2, pm2, d2⟩ := ih1 d
    exact ⟨m2, pm2.trans pm, d2⟩
theorem DVs.take {K : PySem.W.Frag} {H : Hp} {α : Type} {f : α → D} : ∀ {l : List α} {us : List V} (n : Nat), DVs K H (l.map f) us → DVs K H ((l.take n).map f) (us.take n)
  | _, _, 0, _ => by rw [List.take_zero, List.take_zero]; unfold List.map DVs; rfl
  | [], _, n + 1, h => by unfold List.map DVs at h; subst h; unfold List.take List.map DVs; rfl
  | x :: l, _, n + 1, h => by
    obtain ⟨v, r, rfl, q, t⟩ := h
    exact ⟨v, r.take n, rfl, q, DVs.take n t⟩
theorem DVs.drop {K : PySem.W.Frag} {H : Hp} {α : Type} {f : α → D} : ∀ {l : List α} {us : List V} (n : Nat), DVs K H (l.map f) us → DVs K H ((l.drop n).map f) (us.drop n)
  | _, _, 0, h => by rw [List.drop_zero, List.drop_zero]; exact h
  | [], _, n + 1, h => by unfold List.map DVs at h; subst h; unfold List.drop List.map DVs; rfl
  | x :: l, _, n + 1, h => by
    obtain ⟨v, r, rfl, q, t⟩ := h
    exact DVs.drop n t
end Z
namespace Z
open PySem L2 SX
/-! ### ways over links with bounds -/
abbrev Lk := List (Str × Str × Int)
def ed (L : Lk) (n : Nat) (x z : Str) : Prop := ∃ b : Int, (x, z, b) ∈ L ∧ (n : Int) + 1 ≤ b
theorem ed.anti {L : Lk} {n m : Nat} {x z : Str} (h : ed L n x z) (k : m ≤ n) : ed L m x z := by
  obtain ⟨b, m1, l⟩ := h
  exact ⟨b, m1, by omega⟩
inductive Way (L : Lk) (s : Str) : List Str → Str → Prop
  | one : Way L s [s] s
  | snoc {w : List Str} {x z : Str} : Way L s w x → ed L (w.length - 1) x z → Way L s (w ++ [z]) z
section
variable {L : Lk} {s x y z : Str} {w : List Str}
theorem Way.len (h : Way L s w y) : 1 ≤ w.length := by
  cases h with
  | one => exact Nat.le_refl _
  | snoc => rw [List.length_append]; exact Nat.le_add_left _ _
theorem Way.last (h : Way L s w y) : w.getLast? = some y := by
  cases h with
  | one => rfl
  | snoc => rw [List.getLast?_append]; rfl
theorem Way.inv (h : Way L s (w ++ [z]) y) (hw : w ≠ []) : y = z ∧ ∃ x, Way L s w x ∧ ed L (w.length - 1) x z := by
  generalize e : w ++ [z] = u at h
  cases h with
  | one =>
    have := congrArg List.length e
    rw [List.length_append] at this
    have : w.length = 0 := by simpa using this
    exact absurd (List.length_eq_zero_iff.mp this) hw
  | @snoc w' x' z' a b =>
    obtain ⟨e1, e2⟩ := List.append_inj' e rfl
    have : z = y := by simpa using e2
    subst e1 this
    exact ⟨rfl, _, a, b⟩
theorem Way.split (h : Way L s w y) (k : 2 ≤ w.length) : ∃ p x, w = p ++ [y] ∧ Way L s p x ∧ ed L (p.length - 1) x y := by
  cases h with
  | one => exact absurd k (by show ¬ 2 ≤ 1; decide)
  | snoc a b => exact ⟨_, _, rfl, a, b⟩
end
/-! ### the order of tuples of texts -/
def wlt : List Str → List Str → Bool
  | [], [] => false
  | [], _ :: _ => true
  | _ :: _, [] => false
  | a :: u, b :: v => if a = b then wlt u v else decide (tl a < tl b)
theorem wlt_self : ∀ u : List Str, wlt u u = false
  | [] => rfl
  | a :: u => by simp only [wlt, if_pos]; exact wlt_self u
theorem str_tri {a b : Str} (h : ¬ a = b) : decide (tl a < tl b) = !decide (tl b < tl a) := by
  by_cases c : tl a < tl b
  · have : ¬ tl b < tl a := fun d => List.lt_irrefl _ (List.lt_trans c d)
    simp [c, this]
  · have : tl b < tl a := by
      rcases List.le_iff_lt_or_eq.mp (List.not_lt.mp c) with d | d
      · exact d
      · exact absurd (tl_ext d.symm) h
    simp [c, this]
theorem wlt_tri : ∀ {u v : List Str}, ¬ u = v → wlt u v = !wlt v u
  | [], [], h => absurd rfl h
  | [], _ :: _, _ => rfl
  | _ :: _, [], _ => rfl
  | a :: u, b :: v, h => by
    by_cases e : a = b
    · subst e
      simp only [wlt, if_pos]
      exact wlt_tri fun e => h (by rw [e])
    · simp only [wlt]
      rw [if_neg e, if_neg fun e' => e e'.symm]
      exact str_tri e
theorem wlt_trans : ∀ {u v x : List Str}, wlt u v = true → wlt v x = true → wlt u x = true
  | [], [], _, h, _ => by cases h
  | [], _ :: _, [], _, k => by cases k
  | [], _ :: _, _ :: _, _, _ => rfl
  | _ :: _, [], _, h, _ => by cases h
  | _ :: _, _ :: _, [], _, k => by cases k
  | a :: u, b :: v, c :: x, h, k => by
    simp only [wlt] at h k ⊢
    by_cases e : a = b
    · subst e
      rw [if_pos rfl] at h
      by_cases e2 : a = c
      · rw [if_pos e2] at k ⊢; exact wlt_trans h k
      · rw [if_neg e2] at k ⊢; exact k
    · rw [if_neg e] at h
      have h' := of_decide_eq_true h
      by_cases e2 : b = c
      · subst e2
        rw [if_neg e]; exact h
      · rw [if_neg e2] at k
        have k' := of_decide_eq_true k
        rw [if_neg fun e3 => by rw [e3] at h'; exact List.lt_irrefl _ (List.lt_trans h' k')]
        exact decide_eq_true (List.lt_trans h' k')
theorem wle_trans {u v x : List Str} (h : wlt v u = false) (k : wlt x v = false) : wlt x u = false := by
  by_cases e1 : u = v
  · rw [e1]; exact k
  · by_cases e2 : v = x
    · rw [← e2]; exact h
    · have a : wlt u v = true := by rw [wlt_tri e1, h]; rfl
      have b : wlt v x = true := by rw [wlt_tri e2, k]; rfl
      have c := wlt_trans a b
      by_cases e3 : x = u
      · rw [e3]; exact wlt_self u
      · rw [wlt_tri e3, c]; rfl
theorem wlt_anti {u v : List Str} (h : wlt u v = false) (k : wlt v u = false) : u = v := by
  by_cases e : u = v
  · exact e
  · rw [wlt_tri e, k] at h; cases h
theorem wlt_snoc : ∀ {u v : List Str}, u.length = v.length → ∀ t : Str, wlt (u ++ [t]) (v ++ [t]) = wlt u v
  | [], [], _, t => by simp [wlt]
  | [], _ :: _, h, _ => by simp at h
  | _ :: _, [], h, _ => by simp at h
  | a :: u, b :: v, h, t => by
    simp only [List.cons_append, wlt]
    rw [wlt_snoc (by simpa using h) t]
def wD (w : List Str) : D := .tup (w.map D.str)
open PySem.W in
theorem wlt_data : ∀ u v : List Str, dataLt (py (wD u)) (py (wD v)) = wlt u v := by
  intro u v
  unfold wD
  rw [py, py, dataLt_tuple]
  induction u generalizing v with
  | nil =>
    cases v with
    | nil => rw [List.map_nil, pys]; exact PyProof.Rows.lex_irrefl _
    | cons b v => rw [List.map_cons, List.map_nil, pys, pys, toks_all_cons]; rw [keyToksAll]; rfl
  | cons a u ih =>
    cases v with
    | nil => rw [List.map_cons, List.map_nil, pys, pys, toks_all_cons]; rw [keyToksAll]; rfl
    | cons b v =>
      rw [List.map_cons, List.map_cons, pys, pys, dataLt_cons (by simp [py, alike]), ih v]
      have e : PyData.eqv (py (.str a)) (py (.str b)) = decide (a = b) := by simp [py, PyData.eqv]; rfl
      rw [e]
      simp only [wlt]
      by_cases c : a = b
      · rw [if_pos (decide_eq_true c), if_pos c]
      · rw [if_neg (by simpa using c), if_neg c, py, py, dataLt_str]
/-! ### the least ways -/
theorem way_mem {L : Lk} {s y : Str} {w : List Str} (h : Way L s w y) : ∀ x ∈ w, x ∈ s :: L.map (·.2.1) := by
  induction h with
  | one => intro x hx; rw [List.mem_singleton.mp hx]; simp
  | snoc _ e ih =>
    intro x hx
    rcases List.mem_append.mp hx with c | c
    · exact ih x c
    · rw [List.mem_singleton.mp c]
      obtain ⟨b, hb, _⟩ := e
      exact List.mem_cons_of_mem _ (List.mem_map_of_mem (f := (·.2.1)) hb)
/-- of finitely many texts there are finitely many rows of one length: one of them is the least -/
def rows (A : List Str) : Nat → List (List Str)
  | 0 => [[]]
  | n + 1 => (rows A n).flatMap fun w => A.map fun a => a :: w
theorem rows_all (A : List Str) : ∀ (n : Nat) (w : List Str), w.length = n → (∀ x ∈ w, x ∈ A) → w ∈ rows A n
  | 0, w, h, _ => by rw [List.length_eq_zero_iff.mp h]; simp [rows]
  | n + 1, [], h, _ => by simp at h
  | n + 1, a :: w, h, k => by
    simp only [rows, List.mem_flatMap, List.mem_map]
    exact ⟨w, rows_all A n w (by simpa using h) (fun x m => k x (List.mem_cons_of_mem _ m)), a, k a (by simp), rfl⟩
theorem least_in (P : List Str → Prop) : ∀ (l : List (List Str)), (∃ w ∈ l, P w) → ∃ m, P m ∧ m ∈ l ∧ ∀ u ∈ l, P u → wlt u m = false
  | [], h => by obtain ⟨_, m, _⟩ := h; cases m
  | w :: l, h => by
    by_cases c : ∃ u ∈ l, P u
    · obtain ⟨m, h1, h2, h3⟩ := least_in P l c
      by_cases d : P w ∧ wlt w m = true
      · refine ⟨w, d.1, by simp, fun u hu pu => ?_⟩
        rcases List.mem_cons.mp hu with e | e
        · rw [e]; exact wlt_self w
        · have mw : wlt m w = false := by
            by_cases e3 : m = w
            · rw [e3]; exact wlt_self w
            · rw [wlt_tri e3, d.2]; rfl
          exact wle_trans mw (h3 u e pu)
      · refine ⟨m, h1, List.mem_cons_of_mem _ h2, fun u hu pu => ?_⟩
        rcases List.mem_cons.mp hu with e | e
        · subst e
          cases e4 : wlt u m with
          | false => rfl
          | true => exact absurd ⟨pu, e4⟩ d
        · exact h3 u e pu
    · obtain ⟨u, hu, pu⟩ := h
      rcases List.mem_cons.mp hu with e | e
      · subst e
        refine ⟨u, pu, by simp, fun x hx px => ?_⟩
        rcases List.mem_cons.mp hx with e2 | e2
        · rw [e2]; exact wlt_self u
        · exact absurd ⟨x, e2, px⟩ c
      · exact absurd ⟨u, e, pu⟩ c
theorem least_fin (A : List Str) (n : Nat) (P : List Str → Prop) (v : List Str) (hv : P v) (hl : v.length = n) (hA : ∀ w, P w → ∀ x ∈ w, x ∈ A) : ∃ m, P m ∧ m.length = n ∧ ∀ u, P u → u.length = n → wlt u m = false := by
  obtain ⟨m, ⟨h1, h1'⟩, h2, h3⟩ := least_in (fun w => P w ∧ w.length = n) (rows A n) ⟨v, rows_all A n v hl (hA v hv), hv, hl⟩
  exact ⟨m, h1, h1', fun u pu ul => h3 u (rows_all A n u ul (hA u pu)) ⟨pu, ul⟩⟩
def Least (L : Lk) (s y : Str) (w : List Str) : Prop := Way L s w y ∧ (∀ w', Way L s w' y → w.length ≤ w'.length) ∧ ∀ w', Way L s w' y → w'.length = w.length → wlt w' w = false
theorem Least.uniq {L : Lk} {s y : Str} {w v : List Str} (h : Least L s y w) (k : Least L s y v) : w = v := by
  have e : w.length = v.length := Nat.le_antisymm (h.2.1 v k.1) (k.2.1 w h.1)
  exact wlt_anti (k.2.2 w h.1 e) (h.2.2 v k.1 e.symm)
theorem least_ex {L : Lk} {s y : Str} {w : List Str} (h : Way L s w y) : ∃ v, Least L s y v := by
  -- a shortest one
  have short : ∀ n : Nat, ∀ w, w.length ≤ n → Way L s w y → ∃ v, Way L s v y ∧ ∀ u, Way L s u y → v.length ≤ u.length := by
    intro n
    induction n with
    | zero => intro w hl hw; have := hw.len; omega
    | succ n ih =>
      intro w hl hw
      by_cases c : ∃ u, Way L s u y ∧ u.length ≤ n
      · obtain ⟨u, hu, ul⟩ := c
        exact ih u ul hu
      · refine ⟨w, hw, fun u hu => ?_⟩
        by_cases c2 : u.length ≤ n
        · exact absurd ⟨u, hu, c2⟩ c
        · omega
  obtain ⟨v, hv, hm⟩ := short w.length w (Nat.le_refl _) h
  -- of these the least one: the texts are among the ends of links
  obtain ⟨m, hm1, hm2, hm3⟩ := least_fin (s :: L.map (·.2.1)) v.length (fun w => Way L s w y) v hv rfl (fun w hw => way_mem hw)
  exact ⟨m, hm1, fun u hu => by rw [hm2]; exact hm u hu, fun u hu e => hm3 u hu (by omega)⟩
abbrev Ws := List (Str × List Str)
structure Lw (L : Lk) (s : Str) (us : List Str) (R : Ws) (k : Nat) : Prop where
  nd : (R.map (·.1)).Nodup
  us : ∀ x ∈ R, x.1 ∈ us
  ok : ∀ x ∈ R, Least L s x.1 x.2 ∧ x.2.length ≤ k + 1
  al : ∀ y w, Way L s w y → w.length ≤ k + 1 → ∃ w', (y, w') ∈ R
structure Lv1 (R : Ws) (k : Nat) (lev : List (List Str)) : Prop where
  to : ∀ w ∈ lev, ∃ y, (y, w) ∈ R ∧ w.length = k + 1
  of : ∀ x ∈ R, x.2.length = k + 1 → x.2 ∈ lev
  pw : lev.Pairwise fun a b => wlt b a = false
/-- p leads on to t -/
def edp (L : Lk) (p : List Str) (t : Str) : Prop := ∃ x, p.getLast? = some x ∧ ed L (p.length - 1) x t
structure On (L : Lk) (R : Ws) (lev : List (List Str)) (U : Ws) : Prop where
  nd : (U.map (·.1)).Nodup
  nr : ∀ x ∈ U, ∀ w, (x.1, w) ∉ R
  ok : ∀ x ∈ U, ∃ (i : Nat) (p : List Str), lev[i]? = some p ∧ x.2 = p ++ [x.1] ∧ edp L p x.1 ∧ ∀ (j : Nat) (p' : List Str), j < i → lev[j]? = some p' → ¬ edp L p' x.1
  al : ∀ p ∈ lev, ∀ t, edp L p t → (∃ w, (t, w) ∈ R) ∨ ∃ w, (t, w) ∈ U
def WaysOk (L : Lk) (s : Str) (R : Ws) : Prop := (R.map (·.1)).Nodup ∧ (∀ x ∈ R, Least L s x.1 x.2) ∧ ∀ y w, Way L s w y → ∃ w', (y, w') ∈ R
theorem Lw.start {L : Lk} {s : Str} {us : List Str} (hs : s ∈ us) : Lw L s us [(s, [s])] 0 := by
  refine ⟨by simp, fun x m => by rw [List.mem_singleton.mp m]; exact hs, fun x m => ?_, fun y w h l => ?_⟩
  · rw [List.mem_singleton.mp m]
    refine ⟨⟨.one, fun w' h => h.len, fun w' h e => ?_⟩, Nat.le_refl _⟩
    cases h with
    | one => exact wlt_self _
    | snoc a b =>
      have := a.len
      rw [List.length_append] at e
      simp only [List.length_singleton] at e
      omega
  · cases h with
    | one => exact ⟨_, List.mem_singleton.mpr rfl⟩
    | snoc a b =>
      have := a.len
      rw [List.length_append] at l
      simp only [List.length_singleton] at l
      omega
theorem Lv1.start {s : Str} : Lv1 [(s, [s])] 0 [[s]] :=
  ⟨fun w m => ⟨s, by rw [List.mem_singleton.mp m]; simp, by rw [List.mem_singleton.mp m]; rfl⟩, fun x m _ => by rw [List.mem_singleton.mp m]; simp, List.pairwise_singleton _ _⟩
section
variable {L : Lk} {s : Str} {us : List Str} {R U : Ws} {k : Nat} {lev : List (List Str)}
theorem Lw.next (h : Lw L s us R k) (v : Lv1 R k lev) (o : On L R lev U) (hu : ∀ l ∈ L, l.2.1 ∈ us) : Lw L s us (R ++ U) (k + 1) := by
  refine ⟨?_, fun x m => ?_, fun x m => ?_, fun y w hw l => ?_⟩
  · rw [List.map_append, List.nodup_append]
    refine ⟨h.nd, o.nd, fun a ha b hb e => ?_⟩
    obtain ⟨x, hx, rfl⟩ := List.mem_map.mp ha
    obtain ⟨z, hz, rfl⟩ := List.mem_map.mp hb
    exact o.nr z hz x.2 (by rw [← e]; exact hx)
  · rcases List.mem_append.mp m with c | c
    · exact h.us x c
    · obtain ⟨_, p, _, _, ⟨_, _, b, hb, _⟩, _⟩ := o.ok x c
      exact hu _ hb
  · rcases List.mem_append.mp m with c | c
    · exact ⟨(h.ok x c).1, by have := (h.ok x c).2; omega⟩
    · obtain ⟨i, p, hi, hx, ⟨y, hy, he⟩, hf⟩ := o.ok x c
      obtain ⟨y', hr, hl⟩ := v.to p (List.mem_of_getElem? hi)
      have lp := (h.ok _ hr).1
      have ey : y' = y := Option.some.inj (lp.1.last.symm.trans hy)
      subst ey
      have len : x.2.length = k + 2 := by rw [hx, List.length_append, hl]; rfl
      refine ⟨⟨by rw [hx]; exact .snoc lp.1 he, fun w' hw => ?_, fun w' hw e => ?_⟩, by omega⟩
      · by_cases c2 : w'.length ≤ k + 1
        · obtain ⟨w2, h2⟩ := h.al _ _ hw c2
          exact absurd h2 (o.nr x c w2)
        · omega
      · obtain ⟨p', x', rfl, hp', he'⟩ := hw.split (by omega)
        have lp' : p'.length = k + 1 := by rw [List.length_append] at e; simp only [List.length_singleton] at e; omega
        obtain ⟨q, hq⟩ := h.al _ _ hp' (by omega)
        have lq := (h.ok _ hq).1
        have l2 := (h.ok _ hq).2
        simp only at lq l2
        have ql := lq.1.len
        have eq : q.length = k + 1 := by
          by_cases c2 : q.length = k + 1
          · exact c2
          · obtain ⟨w2, h2⟩ := h.al x.1 (q ++ [x.1]) (.snoc lq.1 (he'.anti (by omega))) (by rw [List.length_append]; simp only [List.length_singleton]; omega)
            exact absurd h2 (o.nr x c w2)
        have mq := v.of _ hq eq
        obtain ⟨j, hj⟩ := List.getElem?_of_mem mq
        have eq2 : edp L q x.1 := ⟨x', lq.1.last, by rw [eq]; rw [lp'] at he'; exact he'⟩
        have ij : i ≤ j := by
          rcases Nat.lt_or_ge j i with c2 | c2
          · exact absurd eq2 (hf j q c2 hj)
          · exact c2
        have l3 : wlt q p = false := by
          rcases Nat.lt_or_eq_of_le ij with c2 | c2
          · exact pw_get (r := fun a b => wlt b a = false) v.pw hi hj c2
          · subst c2; rw [hi] at hj; rw [Option.some.inj hj]; exact wlt_self _
        have l4 : wlt p' q = false := lq.2.2 p' hp' (by omega)
        rw [hx, wlt_snoc (by omega)]
        exact wle_trans l3 l4
  · by_cases c : w.length ≤ k + 1
    · obtain ⟨w2, h2⟩ := h.al _ _ hw c
      exact ⟨w2, List.mem_append_left _ h2⟩
    · obtain ⟨p', x', rfl, hp', he'⟩ := hw.split (by omega)
      have lp' : p'.length = k + 1 := by rw [List.length_append] at l c; simp only [List.length_singleton] at l c; omega
      obtain ⟨q, hq⟩ := h.al _ _ hp' (by omega)
      have lq := (h.ok _ hq).1
      have l2 := (h.ok _ hq).2
      simp only at lq l2
      have ql := lq.1.len
      by_cases c2 : q.length = k + 1
      · have eq2 : edp L q y := ⟨x', lq.1.last, by rw [c2]; rw [lp'] at he'; exact he'⟩
        rcases o.al q (v.of _ hq c2) y eq2 with ⟨w2, h2⟩ | ⟨w2, h2⟩
        · exact ⟨w2, List.mem_append_left _ h2⟩
        · exact ⟨w2, List.mem_append_right _ h2⟩
      · obtain ⟨w2, h2⟩ := h.al y (q ++ [y]) (.snoc lq.1 (he'.anti (by omega))) (by rw [List.length_append]; simp only [List.length_singleton]; omega)
        exact ⟨w2, List.mem_append_left _ h2⟩
theorem Lw.lvl (h : Lw L s us R k) (o : On L R lev U) (v : Lv1 R k lev) {lev' : List (List Str)} (pm : lev'.Perm (U.map (·.2))) (pw : lev'.Pairwise fun a b => wlt b a = false) : Lv1 (R ++ U) (k + 1) lev' := by
  refine ⟨fun w m => ?_, fun x m e => ?_, pw⟩
  · obtain ⟨x, hx, rfl⟩ := List.mem_map.mp (pm.mem_iff.mp m)
    obtain ⟨i, p, hi, e, _⟩ := o.ok x hx
    obtain ⟨_, _, hl⟩ := v.to p (List.mem_of_getElem? hi)
    exact ⟨x.1, List.mem_append_right _ hx, by rw [e, List.length_append, hl]; rfl⟩
  · rcases List.mem_append.mp m with c | c
    · have := (h.ok x c).2; omega
    · exact pm.mem_iff.mpr (List.mem_map_of_mem (f := (·.2)) c)
theorem Lw.fin (h : Lw L s us R k) (v : Lv1 R k []) (hs : ∃ w, (s, w) ∈ R) : WaysOk L s R := by
  refine ⟨h.nd, fun x m => (h.ok x m).1, fun y w hw => ?_⟩
  induction hw with
  | one => exact hs
  | @snoc w x z a b ih =>
    obtain ⟨q, hq⟩ := ih
    have lq := (h.ok _ hq)
    simp only at lq
    have ql := lq.1.1.len
    have le := lq.1.2.1 w a
    have : q.length ≠ k + 1 := fun e => by have := v.of _ hq e; cases this
    exact h.al z (q ++ [z]) (.snoc lq.1.1 (b.anti (by omega))) (by rw [List.length_append]; simp only [List.length_singleton]; omega)
theorem Lw.len (h : Lw L s us R k) : R.length ≤ us.length := by
  have := nodup_len h.nd (m := us) fun x m => by
    obtain ⟨p, hp, rfl⟩ := List.mem_map.mp m
    exact h.us p hp
  rwa [List.length_map] at this
end
/-- what was found so far from a level -/
structure OnI (L : Lk) (R : Ws) (lev : List (List Str)) (U : Ws) (dn : List Str → Str → Prop) : Prop where
  nd : (U.map (·.1)).Nodup
  nr : ∀ x ∈ U, ∀ w, (x.1, w) ∉ R
  ok : ∀ x ∈ U, ∃ (i : Nat) (p : List Str), lev[i]? = some p ∧ x.2 = p ++ [x.1] ∧ edp L p x.1 ∧ ∀ (j : Nat) (p' : List Str), j < i → lev[j]? = some p' → ¬ edp L p' x.1
  al : ∀ p t, dn p t → (∃ w, (t, w) ∈ R) ∨ ∃ w, (t, w) ∈ U
section
variable {L : Lk} {R U : Ws} {lev : List (List Str)} {dn : List Str → Str → Prop}
theorem OnI.start (h : ∀ p t, ¬ dn p t) : OnI L R lev [] dn := ⟨List.nodup_nil, (fun _ m => by cases m), (fun _ m => by cases m), fun p t d => absurd d (h p t)⟩
theorem OnI.mono (h : OnI L R lev U dn) {dn' : List Str → Str → Prop} (m : ∀ p t, dn' p t → dn p t ∨ (∃ w, (t, w) ∈ R) ∨ ∃ w, (t, w) ∈ U) : OnI L R lev U dn' :=
  ⟨h.nd, h.nr, h.ok, fun p t d => (m p t d).elim (h.al p t) id⟩
theorem OnI.add (h : OnI L R lev U dn) {i : Nat} {p : List Str} {t : Str} (hi : lev[i]? = some p) (he : edp L p t) (hR : ∀ w, (t, w) ∉ R) (hU : ∀ w, (t, w) ∉ U) (hd : ∀ a, a ∈ lev.take i → edp L a t → dn a t) {dn' : List Str → Str → Prop} (m : ∀ a b, dn' a b → dn a b ∨ b = t) :
    OnI L R lev (U ++ [(t, p ++ [t])]) dn' := by
  refine ⟨?_, fun x hx => ?_, fun x hx => ?_, fun a b d => ?_⟩
  · rw [List.map_append, List.nodup_append]
    refine ⟨h.nd, by simp, fun a ha b hb e => ?_⟩
    have : b = t := by simpa using hb
    obtain ⟨x, hx, rfl⟩ := List.mem_map.mp ha
    exact hU x.2 (by rw [← this, ← e]; exact hx)
  · rcases List.mem_append.mp hx with c | c
    · exact h.nr x c
    · rw [List.mem_singleton.mp c]; exact hR
  · rcases List.mem_append.mp hx with c | c
    · exact h.ok x c
    · rw [List.mem_singleton.mp c]
      refine ⟨i, p, hi, rfl, he, fun j p' hj hp' hb => ?_⟩
      have il := (List.getElem?_eq_some_iff.mp hi).1
      have : p' ∈ lev.take i := List.mem_of_getElem? (i := j) (by rw [List.getElem?_take_of_lt hj]; exact hp')
      rcases h.al p' t (hd p' this hb) with ⟨w, q⟩ | ⟨w, q⟩
      · exact hR w q
      · exact hU w q
  · rcases m a b d with c | c
    · rcases h.al a b c with q | ⟨w, q⟩
      · exact .inl q
      · exact .inr ⟨w, List.mem_append_left _ q⟩
    · exact .inr ⟨p ++ [t], by rw [c]; simp⟩
theorem OnI.fin (h : OnI L R lev U fun a t => a ∈ lev ∧ edp L a t) : On L R lev U := ⟨h.nd, h.nr, h.ok, fun p hp t he => h.al p t ⟨hp, he⟩⟩
/-- each found name is the end of a link -/
theorem OnI.len (h : OnI L R lev U dn) : U.length ≤ L.length := by
  have := nodup_len h.nd (m := L.map (·.2.1)) fun x m => by
    obtain ⟨z, hz, rfl⟩ := List.mem_map.mp m
    obtain ⟨_, _, _, _, ⟨_, _, b, hb, _⟩, _⟩ := h.ok z hz
    exact List.mem_map_of_mem (f := (·.2.1)) hb
  rwa [List.length_map, List.length_map] at this
end
end Z
namespace Z
open PySem L2 SX
/-! ### zip of two tuples, the first one not longer -/
theorem lc_zipT {K : PySem.W.Frag} {a b : Addr} {xs ys : List V} {g : TG} {tt : TT} {te : TE} {vs : List Nat} {σ : L2.St} {H1 : Hp} {D : Addr} {Qd : Hp → Prop} (hn : xs.length ≤ ys.length) (Pv : Nat → Hp → Prop) (h0 : Pv 0 (upd H1 D (.lst []))) (hl : ∀ i H, i ≤ xs.length → Pv i H → SqT K H a xs ∧ SqT K H b ys)
    (hs : ∀ i x y T H, xs[i]? = some x → ys[i]? = some y → Pv i H → H T = none → g (.ref T) (wipe σ vs) (upd H T (.tup [x, y])) fun σ2 H2 => wipe σ2 vs = wipe σ vs ∧ tt σ2 H2 fun b H3 =>
      if b = true then te σ2 H3 fun y H4 => ∃ acc, H4 D = some (.lst acc) ∧ acc.length < sizeLine ∧ Pv (i + 1) (upd H4 D (.lst (acc ++ [y]))) else Pv (i + 1) H3) (hd : ∀ H, Pv xs.length H → Qd H) :
    ∃ W : Nat → Nat → Hp → Prop, (∃ m, W 0 m (upd H1 D (.lst []))) ∧ ∀ i m H, W i m H →
      ((RZ.ItzT K a b).stop i H ∧ Qd H) ∨ ((RZ.ItzT K a b).go i H ∧ ∃ Nx : Hp → Prop, (∀ H', Nx H' → ∃ m', m' < m ∧ W (i + 1) m' H') ∧ ∀ x H', (RZ.ItzT K a b).yld i H x H' → g x (wipe σ vs) H' fun σ2 H2 => wipe σ2 vs = wipe σ vs ∧ tt σ2 H2 fun b H3 =>
        if b = true then te σ2 H3 fun y H4 => ∃ acc, H4 D = some (.lst acc) ∧ acc.length < sizeLine ∧ Nx (upd H4 D (.lst (acc ++ [y]))) else Nx H3) := by
  refine ⟨fun i m H => m = xs.length - i ∧ i ≤ xs.length ∧ Pv i H, ⟨xs.length, by simp, Nat.zero_le _, h0⟩, ?_⟩
  rintro i m H ⟨rfl, hi, p⟩
  obtain ⟨qx, qy⟩ := hl i H hi p
  by_cases lt : i < xs.length
  · have hx := List.getElem?_eq_getElem lt
    have hy := List.getElem?_eq_getElem (show i < ys.length by omega)
    refine .inr ⟨⟨xs, ys, _, _, qx, qy, hx, hy⟩, Pv (i + 1), fun H' p' => ⟨xs.length - (i + 1), by omega, rfl, lt, p'⟩, fun v H' y => ?_⟩
    obtain ⟨T, x', y', rfl, hT, rfl, f1, f2⟩ := y
    exact hs i x' y' T H (f1 xs qx) (f2 ys qy) p hT
  · have e : i = xs.length := by omega
    subst e
    exact .inl ⟨⟨xs, ys, qx, qy, Or.inl (Nat.le_refl _)⟩, hd H p⟩
theorem for_zipU {K : PySem.W.Frag} {a b : Addr} {xs ys : List V} {g : TG} {tb : TS} {D : Ends} {σ : L2.St} {H : Hp} (hl : xs.length ≤ ys.length) (Pv : Nat → L2.St → Hp → Prop) (h0 : Pv 0 σ H) (hq : ∀ i σ H, Pv i σ H → SqT K H a xs ∧ SqT K H b ys)
    (hs : ∀ (i : Nat) (x y : V) (T : Addr) (σ : L2.St) (H : Hp), xs[i]? = some x → ys[i]? = some y → Pv i σ H → H T = none → g (.ref T) σ (upd H T (.tup [x, y])) fun σ2 H2 => tb { D with nx := Pv (i + 1), ct := Pv (i + 1), bk := D.nx } σ2 H2) (hd : ∀ σ H, Pv xs.length σ H → D.nx σ H) :
    ∃ W : Nat → Nat → L2.St → Hp → Prop, (∃ m, W 0 m σ H) ∧ ∀ i m σ H, W i m σ H →
      ((RZ.ItzT K a b).stop i H ∧ D.nx σ H) ∨ ((RZ.ItzT K a b).go i H ∧ ∃ N : L2.St → Hp → Prop, (∀ σ' H', N σ' H' → ∃ m', m' < m ∧ W (i + 1) m' σ' H') ∧ ∀ v H', (RZ.ItzT K a b).yld i H v H' → g v σ H' fun σ2 H2 => tb { D with nx := N, ct := N, bk := D.nx } σ2 H2) := by
  refine ⟨fun i m σ H => m = xs.length - i ∧ i ≤ xs.length ∧ Pv i σ H, ⟨xs.length, rfl, Nat.zero_le _, h0⟩, ?_⟩
  rintro i m σ H ⟨rfl, hi, p⟩
  obtain ⟨qx, qy⟩ := hq i σ H p
  by_cases hlt : i < xs.length
  · have hx : xs[i]? = some xs[i] := List.getElem?_eq_getElem hlt
    have hlt2 : i < ys.length := by omega
    have hy : ys[i]? = some ys[i] := List.getElem?_eq_getElem hlt2
    refine .inr ⟨⟨xs, ys, _, _, qx, qy, hx, hy⟩, Pv (i + 1), fun σ' H' p' => ⟨xs.length - (i + 1), by omega, rfl, hlt, p'⟩, fun v H' y => ?_⟩
    obtain ⟨T, x', y', rfl, hT, rfl, f1, f2⟩ := y
    exact hs i x' y' T σ H (f1 xs qx) (f2 ys qy) p hT
  · have e : i = xs.length := by omega
    subst e
    exact .inl ⟨⟨xs, ys, qx, qy, Or.inl (Nat.le_refl _)⟩, hd σ H p⟩
/-! ### books with feeds, kinds -/
structure NB (b : Bk) : Prop where
  ok : BkOk b
  nd : (nms b).Nodup
  ne : b.si ≠ []
  gt : (b.fd.map fun f => (f.g, f.t)).Nodup
  fe : ∀ f ∈ b.fd, f.g ∈ nms b ∧ f.t ∈ nms b
  fp : ∀ f ∈ b.fd, (tl f.p).length ≤ 3000
structure Ki where
  o : Str
  bs : List Str
  z : Int
def kiD (k : Ki) : D := .tup [.str (Str.ofString "kind"), .str k.o, .tup (k.bs.map D.str), .int k.z]
structure KiOk (b : Bk) (k : Ki) : Prop where
  bl : k.bs.length ≤ 1000
  bc : ∀ d ∈ k.bs, Clean (tl d)
  on : k.o ∈ nms b
noncomputable def letsP (p : Str) (bs : List Str) : Bool := bs.any fun b => letsL (parts (tl p)) (tl b)
noncomputable def carL (b : Bk) (bs : List Str) : List Str := (b.si.filter fun s => letsP s.p bs).map (·.n)
noncomputable def lkL (b : Bk) (bs : List Str) (z : Int) : Lk := (b.fd.filter fun f => letsP f.p bs && decide (z ≤ f.z) && decide (f.t ∈ carL b bs)).map fun f => (f.g, f.t, f.h)
def lkD (l : Str × Str × Int) : D := .tup [.str l.1, .str l.2.1, .int l.2.2]
noncomputable def bit (c : Bool) : Int := if c = true then 1 else 0
noncomputable def seenL (b : Bk) (bs : List Str) : List Int := (b.si.map fun s => bit (letsP s.p bs)) ++ b.fd.map fun f => bit (letsP f.p bs)
theorem car_sub {b : Bk} {bs : List Str} {x : Str} (h : x ∈ carL b bs) : x ∈ nms b := by
  unfold carL at h
  obtain ⟨s, hs, rfl⟩ := List.mem_map.mp h
  exact List.mem_map_of_mem (f := (·.n)) (List.mem_filter.mp hs).1
theorem lk_car {b : Bk} {bs : List Str} {z : Int} {l : Str × Str × Int} (h : l ∈ lkL b bs z) : l.2.1 ∈ carL b bs := by
  unfold lkL at h
  obtain ⟨f, hf, rfl⟩ := List.mem_map.mp h
  have := (List.mem_filter.mp hf).2
  simp only [Bool.and_eq_true, decide_eq_true_eq] at this
  exact this.2
theorem lk_len (b : Bk) (bs : List Str) (z : Int) : (lkL b bs z).length ≤ b.fd.length := by
  unfold lkL; rw [List.length_map]; exact List.length_filter_le _ _
/-- what a site's ways are: none where it does not carry -/
def WF (L : Lk) (s : Str) (us : List Str) (R : Ws) : Prop := (s ∈ us → WaysOk L s R) ∧ (s ∉ us → R = [])
/-! ### dicts of ways -/
abbrev Tr := List (Str × List Str × V)
def kvT (T : Tr) : List (Key × V) := T.map fun x => (Sum.inr x.1, x.2.2)
def rT (T : Tr) : Ws := T.map fun x => (x.1, x.2.1)
def OkT (K : PySem.W.Frag) (H : Hp) (T : Tr) : Prop := ∀ x ∈ T, DV K H (wD x.2.1) x.2.2
theorem OkT.tk {K : PySem.W.Frag} {H H' : Hp} {T : Tr} (h : OkT K H T) (t : TK K H H') : OkT K H' T := fun x m => (h x m).tk t
theorem rT_app (T U : Tr) : rT (T ++ U) = rT T ++ rT U := List.map_append
theorem kvT_len (T : Tr) : (kvT T).length = T.length := List.length_map _
theorem rT_names (T : Tr) : (rT T).map (·.1) = T.map (·.1) := by unfold rT; rw [List.map_map]; rfl
theorem kvT_none {T : Tr} {y : Str} (h : ∀ w, (y, w) ∉ rT T) : valV (kvT T) (Sum.inr y : Key) = none := by
  unfold valV kvT
  rw [Option.map_eq_none_iff, List.find?_eq_none]
  intro kv m e
  obtain ⟨p, hp, rfl⟩ := List.mem_map.mp m
  have : p.1 = y := Sum.inr.inj (of_decide_eq_true e)
  exact h p.2.1 (by rw [← this]; exact List.mem_map_of_mem (f := fun x : Str × List Str × V => (x.1, x.2.1)) hp)
theorem kvT_some {y : Str} {w : List Str} {v : V} : ∀ {T : Tr}, (T.map (·.1)).Nodup → (y, w, v) ∈ T → valV (kvT T) (Sum.inr y : Key) = some v
  | [], _, m => by cases m
  | p :: T, nd, m => by
    obtain ⟨n1, n2⟩ := List.nodup_cons.mp nd
    show valV ((Sum.inr p.1, p.2.2) :: kvT T) _ = _
    rcases List.mem_cons.mp m with e | e
    · subst e; exact valV_pos rfl
    · rw [valV_neg fun z => n1 (by
        have : p.1 = y := Sum.inr.inj z
        show p.1 ∈ _
        rw [this]; exact List.mem_map_of_mem (f := fun x : Str × List Str × V => x.1) e)]
      exact kvT_some n2 e
theorem kvT_is {y : Str} {w : List Str} {v : V} : ∀ {T : Tr}, (y, w, v) ∈ T → (valV (kvT T) (Sum.inr y : Key)).isSome = true
  | [], m => by cases m
  | p :: T, m => by
    show (valV ((Sum.inr p.1, p.2.2) :: kvT T) _).isSome = _
    by_cases e : p.1 = y
    · rw [valV_pos (by show Sum.inr p.1 = _; rw [e])]; rfl
    · rw [valV_neg fun z => e (Sum.inr.inj z)]
      rcases List.mem_cons.mp m with c | c
      · subst c; exact absurd rfl e
      · exact kvT_is c
theorem dvs_strs {K : PySem.W.Frag} {H : Hp} : ∀ {w : List Str} {us : List V}, DVs K H (w.map D.str) us → us = w.map V.str
  | [], _, h => by unfold List.map DVs at h; exact h
  | x :: w, _, h => by
    obtain ⟨v, r, rfl, q, t⟩ := h
    unfold DV at q
    rw [q, dvs_strs t]; rfl
theorem kvT_ex {T : Tr} {y : Str} {w : List Str} (h : (y, w) ∈ rT T) : ∃ v, (y, w, v) ∈ T := by
  obtain ⟨p, hp, e⟩ := List.mem_map.mp h
  obtain ⟨e1, e2⟩ := Prod.mk.inj e
  exact ⟨p.2.2, by rw [← e1, ← e2]; exact hp⟩
theorem kvT_put {T : Tr} {y : Str} {w : List Str} {v : V} (h : ∀ w, (y, w) ∉ rT T) : putK (kvT T) (Sum.inr y : Key) v = kvT (T ++ [(y, w, v)]) := by
  rw [putK_new _ (kvT_none h)]
  unfold kvT
  rw [List.map_append]; rfl
theorem kvT_merge : ∀ {U T : Tr}, ((T ++ U).map (·.1)).Nodup → mergeK (kvT T) (kvT U) = kvT (T ++ U)
  | [], T, _ => by rw [List.append_nil]; rfl
  | u :: U, T, nd => by
    have e : T ++ u :: U = (T ++ [u]) ++ U := by simp
    rw [e] at nd
    have no : ∀ w, (u.1, w) ∉ rT T := fun w m => by
      obtain ⟨v, hv⟩ := kvT_ex m
      rw [List.map_append, List.map_append] at nd
      have := (List.nodup_append.mp (List.nodup_append.mp nd).1).2.2 u.1 (by have := List.mem_map_of_mem (f := fun x : Str × List Str × V => x.1) hv; exact this) u.1 (by simp)
      exact this rfl
    show mergeK (putK (kvT T) (Sum.inr u.1) u.2.2) (kvT U) = _
    rw [kvT_put (w := u.2.1) no, kvT_merge (U := U) nd, e]
theorem kvT_dvs {K : PySem.W.Frag} {H : Hp} {T : Tr} (h : OkT K H T) : DVs K H (T.map fun x => wD x.2.1) ((kvT T).map (·.2)) := by
  unfold kvT
  rw [List.map_map]
  exact DVs.of_all h
/-! ### promises -/
def sp_patts (K : PySem.W.Frag) : Sp := fun vs H Q _ => ∃ (b : Bk) (v : V), vs = [v] ∧ DV K H (bkD b) v ∧ BkOk b ∧ ∀ (t : Addr) (H' : Hp), Same H H' → SqT K H' t ((b.si.map (·.p) ++ b.fd.map (·.p)).map V.str) → Q (.ref t) H'
def sp_bsight (K : PySem.W.Frag) : Sp := fun vs H Q _ => ∃ (b : Bk) (v : V) (a : Addr) (bs : List Str), vs = [v, .ref a] ∧ DV K H (bkD b) v ∧ NB b ∧ SqT K H a (bs.map V.str) ∧ bs.length ≤ 1000 ∧ (∀ d ∈ bs, Clean (tl d)) ∧ ∀ (t : Addr) (H' : Hp), Same H H' → SqT K H' t ((seenL b bs).map V.int) → Q (.ref t) H'
def sp_carriers (K : PySem.W.Frag) : Sp := fun vs H Q _ => ∃ (b : Bk) (v : V) (t : Addr) (bs : List Str), vs = [v, .ref t] ∧ DV K H (bkD b) v ∧ NB b ∧ SqT K H t ((seenL b bs).map V.int) ∧ ∀ (p : Addr) (H' : Hp), H p = none → Same H H' → H' p = some (.lst ((carL b bs).map V.str)) → Q (.ref p) H'
def sp_links (K : PySem.W.Frag) : Sp := fun vs H Q _ => ∃ (b : Bk) (v : V) (t : Addr) (bs : List Str) (z : Int), vs = [v, .ref t, .int z] ∧ DV K H (bkD b) v ∧ NB b ∧ SqT K H t ((seenL b bs).map V.int) ∧ ∀ (u : V) (H' : Hp), Same H H' → DV K H' (.tup ((lkL b bs z).map lkD)) u → Q u H'
def sp_ways_on (K : PySem.W.Frag) : Sp := fun vs H Q _ => ∃ (l r : Addr) (k : V) (us : List V) (lev : List (List Str)) (L : Lk) (T : Tr), vs = [.ref l, k, .ref r] ∧ H l = some (.lst us) ∧ DVs K H (lev.map wD) us ∧ DV K H (.tup (L.map lkD)) k ∧ H r = some (.dK (kvT T)) ∧ L.length ≤ 100 ∧ (∀ w ∈ lev, w ≠ [] ∧ w.length ≤ 100) ∧
  ∀ (q : Addr) (U : Tr) (H' : Hp), H q = none → Same H H' → H' q = some (.dK (kvT U)) → OkT K H' U → On L (rT T) lev (rT U) → Q (.ref q) H'
def sp_ways_from (K : PySem.W.Frag) : Sp := fun vs H Q _ => ∃ (o : Str) (n : Addr) (k : V) (us : List Str) (L : Lk), vs = [.str o, .ref n, k] ∧ H n = some (.lst (us.map V.str)) ∧ us.length ≤ 20 ∧ DV K H (.tup (L.map lkD)) k ∧ L.length ≤ 100 ∧ (∀ l ∈ L, l.2.1 ∈ us) ∧
  ∀ (q : Addr) (T : Tr) (H' : Hp), H q = none → Same H H' → H' q = some (.dK (kvT T)) → OkT K H' T → WF L o us (rT T) → (T.map (·.1)).Nodup → (∀ x ∈ T, x.1 ∈ us) → Q (.ref q) H'
def sp_ways_of (K : PySem.W.Frag) : Sp := fun vs H Q _ => ∃ (b : Bk) (v u : V) (k : Ki), vs = [v, u] ∧ DV K H (bkD b) v ∧ NB b ∧ DV K H (kiD k) u ∧ KiOk b k ∧
  ∀ (q : Addr) (T : Tr) (H' : Hp), H q = none → Same H H' → H' q = some (.dK (kvT T)) → OkT K H' T → WF (lkL b k.bs k.z) k.o (carL b k.bs) (rT T) → (T.map (·.1)).Nodup → (∀ x ∈ T, x.1 ∈ carL b k.bs) → Q (.ref q) H'
theorem alike_ws : ∀ u v : List Str, PySem.W.alikeAll (pys (u.map D.str)) (pys (v.map D.str)) = true
  | [], [] => by simp [pys, PySem.W.alikeAll]
  | [], _ :: _ => by simp [pys, PySem.W.alikeAll]
  | _ :: _, [] => by simp [pys, PySem.W.alikeAll]
  | a :: u, b :: v => by
    rw [List.map_cons, List.map_cons, pys, pys, PySem.W.alikeAll, alike_ws u v]
    simp [py, PySem.W.alike]
theorem alike_w (u v : List Str) : PySem.W.alike (py (wD u)) (py (wD v)) = true := by
  unfold wD
  rw [py, py, PySem.W.alike]
  exact alike_ws u v
theorem depth_ws : ∀ u : List Str, PyData.depthAll (pys (u.map D.str)) = 0
  | [] => by simp [pys, PyData.depthAll]
  | a :: u => by
    rw [List.map_cons, pys, PyData.depthAll, depth_ws u]
    simp [py, PyData.depth]
theorem depth_w (u : List Str) : (py (wD u)).depth ≤ 60 := by
  unfold wD
  rw [py, PyData.depth, depth_ws]; omega
theorem so_way {L : Lk} {R : Ws} {lev : List (List Str)} {U : Tr} (on : On L R lev (rT U)) : PySem.W.Sortable (U.map fun x => py (wD x.2.1)) := .inl fun d hd => by
  obtain ⟨x, hx, rfl⟩ := List.mem_map.mp hd
  obtain ⟨i, p, _, e, _⟩ := on.ok (x.1, x.2.1) (List.mem_map_of_mem (f := fun x : Str × List Str × V => (x.1, x.2.1)) hx)
  simp only at e
  rw [e]
  unfold wD
  cases p with
  | nil => exact ⟨_, _, by rw [List.nil_append, List.map_cons, py, pys]⟩
  | cons a p => exact ⟨_, _, by rw [List.cons_append, List.map_cons, py, pys]⟩
/-- a least way has no more sites than there are -/
theorem way_len_us {L : Lk} {s y : Str} {us : List Str} {w : List Str} (hs : s ∈ us) (hu : ∀ l ∈ L, l.2.1 ∈ us) (h : Least L s y w) : w.length ≤ us.length := by
  suffices k : ∀ (n : Nat) (w : List Str) (y : Str), w.length = n → Least L s y w → ∃ l : List Str, l.length = n ∧ l.Nodup ∧ ∀ x ∈ l, x ∈ us ∧ ∃ v, v.length ≤ n ∧ Least L s x v by
    obtain ⟨l, h1, h2, h3⟩ := k w.length w y rfl h
    have := nodup_len h2 fun x m => (h3 x m).1
    omega
  intro n
  induction n using Nat.strongRecOn with
  | ind n ih =>
    intro w y hn h
    by_cases c : 2 ≤ w.length
    · obtain ⟨p, x, e, hp, he⟩ := h.1.split c
      have lp : p.length + 1 = n := by rw [← hn, e, List.length_append]; rfl
      obtain ⟨q, hq⟩ := least_ex hp
      have ql : q.length = p.length := by
        have a := hq.2.1 p hp
        have ql1 := hq.1.len
        have b := h.2.1 (q ++ [y]) (.snoc hq.1 (he.anti (by omega)))
        rw [List.length_append, List.length_singleton] at b
        omega
      obtain ⟨l, h1, h2, h3⟩ := ih q.length (by omega) q x rfl hq
      refine ⟨y :: l, by rw [List.length_cons, h1]; omega, List.nodup_cons.mpr ⟨fun m => ?_, h2⟩, fun z hz => ?_⟩
      · obtain ⟨_, v, hv, lv⟩ := h3 y m
        have := h.2.1 v lv.1
        omega
      · rcases List.mem_cons.mp hz with e2 | e2
        · rw [e2]
          obtain ⟨b, hb, _⟩ := he
          exact ⟨hu _ hb, w, by omega, h⟩
        · obtain ⟨a, v, hv, lv⟩ := h3 z e2
          exact ⟨a, v, by omega, lv⟩
    · have := h.1.len
      have e1 : n = 1 := by omega
      subst e1
      cases h.1 with
      | one => exact ⟨[s], rfl, by simp, fun x hx => by rw [List.mem_singleton.mp hx]; exact ⟨hs, _, by omega, h⟩⟩
      | snoc a b => have := a.len; rw [List.length_append, List.length_singleton] at hn; omega
/-! ### hops -/
abbrev Hs := List (Str × Nat)
def HopsOk (L : Lk) (s : Str) (us : List Str) (F : Hs) : Prop := (F.map (·.1)).Nodup ∧ (s ∈ us → (∀ x ∈ F, ∃ w, Least L s x.1 w ∧ w.length = x.2 + 1) ∧ ∀ y w, Way L s w y → ∃ d, (y, d) ∈ F) ∧ (s ∉ us → F = [])
theorem HopsOk.mem {L : Lk} {s : Str} {us : List Str} {F G : Hs} (h : HopsOk L s us F) (k : HopsOk L s us G) : ∀ x, x ∈ F → x ∈ G := fun x hx => by
  by_cases c : s ∈ us
  · obtain ⟨w, hw, e⟩ := (h.2.1 c).1 x hx
    obtain ⟨d, hd⟩ := (k.2.1 c).2 x.1 w hw.1
    obtain ⟨v, hv, e2⟩ := (k.2.1 c).1 _ hd
    have := hw.uniq hv
    subst this
    have : d = x.2 := by simp only at e2; omega
    rw [this] at hd; exact hd
  · rw [h.2.2 c] at hx; cases hx
theorem hops_of_ways {L : Lk} {s : Str} {us : List Str} {R : Ws} (nd : (R.map (·.1)).Nodup) (h : WF L s us R) : HopsOk L s us (R.map fun x => (x.1, x.2.length - 1)) := by
  refine ⟨by rw [List.map_map]; exact nd, fun c => ⟨fun x hx => ?_, fun y w hw => ?_⟩, fun c => by rw [h.2 c]; rfl⟩
  · obtain ⟨z, hz, rfl⟩ := List.mem_map.mp hx
    have l := (h.1 c).2.1 z hz
    exact ⟨z.2, l, by have := l.1.len; show _ = _ - 1 + 1; omega⟩
  · obtain ⟨w', hw'⟩ := (h.1 c).2.2 y w hw
    exact ⟨_, List.mem_map_of_mem (f := fun x : Str × List Str => (x.1, x.2.length - 1)) hw'⟩
def prN (x : Str × Nat) : D := .tup [.str x.1, .int (x.2 : Nat)]
def hD : Option Nat → D
  | none => .non
  | some d => .int (d : Nat)
def lookF (F : Hs) (y : Str) : Option Nat := (F.find? fun x => decide (x.1 = y)).map (·.2)
theorem lookF_some {y : Str} {d : Nat} : ∀ {F : Hs}, (F.map (·.1)).Nodup → (y, d) ∈ F → lookF F y = some d
  | [], _, m => by cases m
  | p :: F, nd, m => by
    obtain ⟨n1, n2⟩ := List.nodup_cons.mp nd
    unfold lookF
    by_cases e : p.1 = y
    · rw [List.find?_cons_of_pos (by simpa using e)]
      rcases List.mem_cons.mp m with c | c
      · subst c; rfl
      · exact absurd (by show p.1 ∈ _; rw [e]; exact List.mem_map_of_mem (f := (·.1)) c) n1
    · rw [List.find?_cons_of_neg (by simpa using e)]
      rcases List.mem_cons.mp m with c | c
      · subst c; exact absurd rfl e
      · exact lookF_some n2 c
theorem lookF_none {F : Hs} {y : Str} (h : ∀ d, (y, d) ∉ F) : lookF F y = none := by
  unfold lookF
  rw [Option.map_eq_none_iff, List.find?_eq_none]
  intro x hx e
  exact h x.2 (by rw [← of_decide_eq_true e]; exact hx)
theorem HopsOk.look {L : Lk} {s : Str} {us : List Str} {F G : Hs} (h : HopsOk L s us F) (k : HopsOk L s us G) (y : Str) : lookF F y = lookF G y := by
  by_cases c : ∃ d, (y, d) ∈ F
  · obtain ⟨d, hd⟩ := c
    rw [lookF_some h.1 hd, lookF_some k.1 (h.mem k _ hd)]
  · rw [lookF_none fun d hd => c ⟨d, hd⟩, lookF_none fun d hd => c ⟨d, k.mem h _ hd⟩]
theorem pw_eq {α : Type} {r : α → α → Prop} (an : ∀ a b, r a b → r b a → a = b) : ∀ {l m : List α}, l.Perm m → l.Pairwise r → m.Pairwise r → l = m
  | [], m, p, _, _ => p.nil_eq
  | y :: l, [], p, _, _ => absurd p.symm.nil_eq (by simp)
  | y :: l, z :: m, p, hy, hz => by
    obtain ⟨y1, y2⟩ := List.pairwise_cons.mp hy
    obtain ⟨z1, z2⟩ := List.pairwise_cons.mp hz
    have e : y = z := by
      rcases List.mem_cons.mp (p.mem_iff.mp (List.mem_cons_self (a := y))) with e | e
      · exact e
      · rcases List.mem_cons.mp (p.mem_iff.mpr (List.mem_cons_self (a := z))) with e2 | e2
        · exact e2.symm
        · exact an _ _ (y1 z e2) (z1 y e)
    subst e
    rw [pw_eq an ((List.perm_cons y).mp p) y2 z2]
theorem alike_prN (a b : Str × Nat) : PySem.W.alike (py (prN a)) (py (prN b)) = true := by simp [prN, py, pys, PySem.W.alike, PySem.W.alikeAll]
theorem depth_prN (b : Str × Nat) : (py (prN b)).depth ≤ 60 := by simp [prN, py, pys, PyData.depth, PyData.depthAll]
theorem prN_inj {a b : Str × Nat} (h : prN a = prN b) : a = b := by
  unfold prN at h
  simp only [D.tup.injEq, List.cons.injEq, D.str.injEq, D.int.injEq, and_true, Int.natCast_inj] at h
  exact Prod.ext h.1 h.2
open PySem.W in
theorem prN_le (a b : Str × Nat) : dle prN a b = true ↔ tl a.1 < tl b.1 ∨ (a.1 = b.1 ∧ a.2 ≤ b.2) := by
  show (!dataLt (py (prN b)) (py (prN a))) = true ↔ _
  unfold prN
  rw [py, py]
  simp only [pys]
  rw [dataLt_pair (by simp [py, alike]) (by simp [py, alike])]
  have e1 : PyData.eqv (py (.str b.1)) (py (.str a.1)) = decide (b.1 = a.1) := by simp [py, PyData.eqv]; rfl
  have e2 : PyData.eqv (py (.int (b.2 : Nat))) (py (.int (a.2 : Nat))) = decide (b.2 = a.2) := by
    rw [Bool.eq_iff_iff]
    simp only [py, PyData.eqv, beq_iff_eq, decide_eq_true_eq]
    omega
  rw [e1, e2]
  by_cases c : b.1 = a.1
  · rw [if_pos (decide_eq_true c), py, py, dataLt_int]
    have nl : ¬ tl a.1 < tl b.1 := fun h => by rw [c] at h; exact List.lt_irrefl _ h
    by_cases c2 : b.2 = a.2
    · rw [if_pos (decide_eq_true c2)]; simp [c, c2]
    · rw [if_neg (by simpa using c2)]
      simp only [Bool.not_eq_true', decide_eq_false_iff_not]
      constructor
      · intro h; exact .inr ⟨c.symm, by omega⟩
      · rintro (h | ⟨_, h⟩)
        · exact absurd h nl
        · omega
  · rw [if_neg (by simpa using c), py, py, dataLt_str]
    simp only [Bool.not_eq_true', decide_eq_false_iff_not]
    constructor
    · intro h
      rcases List.le_iff_lt_or_eq.mp (List.not_lt.mp h) with d | d
      · exact .inl d
      · exact absurd (tl_ext d).symm c
    · rintro (h | ⟨h, _⟩)
      · exact fun k => List.lt_irrefl _ (List.lt_trans h k)
      · exact absurd h.symm c
theorem prN_anti (a b : Str × Nat) (h : dle prN a b = true) (k : dle prN b a = true) : a = b := by
  rcases (prN_le a b).mp h with h | ⟨h1, h2⟩ <;> rcases (prN_le b a).mp k with k | ⟨k1, k2⟩
  · exact absurd (List.lt_trans h k) (List.lt_irrefl _)
  · rw [k1] at h; exact absurd h (List.lt_irrefl _)
  · rw [h1] at k; exact absurd k (List.lt_irrefl _)
  · exact Prod.ext h1 (by omega)
theorem nd_fst {F : Hs} (h : (F.map (·.1)).Nodup) : F.Nodup := by
  induction F with
  | nil => exact List.nodup_nil
  | cons p F ih =>
    obtain ⟨n1, n2⟩ := List.nodup_cons.mp h
    exact List.nodup_cons.mpr ⟨fun m => n1 (List.mem_map_of_mem (f := (·.1)) m), ih n2⟩
theorem HopsOk.sorted {L : Lk} {s : Str} {us : List Str} {F G : Hs} (h : HopsOk L s us F) (k : HopsOk L s us G) : F.mergeSort (dle prN) = G.mergeSort (dle prN) := by
  have p : F.Perm G := (List.perm_ext_iff_of_nodup (nd_fst h.1) (nd_fst k.1)).mpr fun x => ⟨h.mem k x, k.mem h x⟩
  exact pw_eq (r := fun a b => dle prN a b = true) prN_anti ((sort_perm prN F).trans (p.trans (sort_perm prN G).symm)) (sort_pw prN F) (sort_pw prN G)
/-- the same from the sorted names -/
theorem sorted_names {F : Hs} (nd : (F.map (·.1)).Nodup) {ks : List Str} (pk : ks.Perm (F.map (·.1))) (pw : ks.Pairwise fun a b => ¬ tl b < tl a) : ks.map (fun y => (y, (lookF F y).getD 0)) = F.mergeSort (dle prN) := by
  have e : (F.map (·.1)).map (fun y => (y, (lookF F y).getD 0)) = F := by
    rw [List.map_map]
    refine (List.map_congr_left fun x m => ?_).trans (List.map_id F)
    show (x.1, (lookF F x.1).getD 0) = x
    rw [lookF_some nd (show (x.1, x.2) ∈ F from m)]; rfl
  have p1 : (ks.map (fun y => (y, (lookF F y).getD 0))).Perm F := by
    have := pk.map fun y => (y, (lookF F y).getD 0)
    rwa [e] at this
  refine pw_eq (r := fun a b => dle prN a b = true) prN_anti (p1.trans (sort_perm prN F).symm) ?_ (sort_pw prN F)
  rw [List.pairwise_map]
  refine pw.imp fun {a b} h => (prN_le _ _).mpr ?_
  rcases List.le_iff_lt_or_eq.mp (List.not_lt.mp h) with d | d
  · exact .inl d
  · have : a = b := tl_ext d
    subst this
    exact .inr ⟨rfl, Nat.le_refl _⟩
def sp_reach_by (K : PySem.W.Frag) : Sp := fun vs H Q _ => ∃ (p : Addr) (T : Tr), vs = [.ref p] ∧ H p = some (.dK (kvT T)) ∧ OkT K H T ∧ (∀ x ∈ T, x.2.1.length ≤ 100 ∧ 1 ≤ x.2.1.length) ∧ T.length ≤ 1000 ∧
  ∀ (u : V) (H' : Hp), Same H H' → DV K H' (.tup (((T.map fun x => (x.1, x.2.1.length - 1)).mergeSort (dle prN)).map prN)) u → Q u H'
def sp_reach (K : PySem.W.Frag) : Sp := fun vs H Q _ => ∃ (b : Bk) (v u : V) (k : Ki), vs = [v, u] ∧ DV K H (bkD b) v ∧ NB b ∧ DV K H (kiD k) u ∧ KiOk b k ∧
  ∀ (x : V) (F : Hs) (H' : Hp), Same H H' → HopsOk (lkL b k.bs k.z) k.o (carL b k.bs) F → DV K H' (.tup ((F.mergeSort (dle prN)).map prN)) x → Q x H'
def sp_hops_of (K : PySem.W.Frag) : Sp := fun vs H Q _ => ∃ (b : Bk) (v u : V) (k : Ki), vs = [v, u] ∧ DV K H (bkD b) v ∧ NB b ∧ DV K H (kiD k) u ∧ KiOk b k ∧
  ∀ (x : V) (F : Hs) (H' : Hp), Same H H' → HopsOk (lkL b k.bs k.z) k.o (carL b k.bs) F → DV K H' (.tup (b.si.map fun s => hD (lookF F s.n))) x → Q x H'
/-! ### a lock, taken and given back -/
theorem unlock_same {H H' : Hp} {p : Addr} {od : PySem.Obj} {u : HO} (h : H p = some u) (m : Same (upd H p (.frz od u)) H') : Same H (upd H' p u) := fun b o hb => by
  by_cases e : b = p
  · subst e; rw [h] at hb; rw [upd_same]; exact hb
  · rw [upd_ne e]; exact m _ _ (by rw [upd_ne e]; exact hb)
end Z
namespace Z
open PySem L2 SX
open PySem.W PySem.Calls PyProof.Rows PyProof.V PySem.Spec
def prD {β : Type} (kf : β → Key) (f : β → D) (b : β) : D := .tup [kD (kf b), f b]
section
variable {X : Cx}
def rSortItems (K : Frag) : List V → Hp → VK → Prop := fun vs H Q => ∃ (p a : Addr) (kvs : List (Key × V)) (β : Type) (l : List β) (kf : β → Key) (f : β → D), vs = [.ref p] ∧ H p = some (L2.DX.itemsO p a) ∧ H a = some (.dK kvs) ∧ kvs.map (·.1) = l.map kf ∧ DVs K H (l.map f) (kvs.map (·.2)) ∧ AllAlike (l.map fun b => py (prD kf f b)) ∧ (∀ b ∈ l, (py (prD kf f b)).depth ≤ 60) ∧
  ∀ (ys : List V) (r : Addr) (H' : Hp), Same H H' → H r = none → H' r = some (.lst ys) → DVs K H' ((l.mergeSort (dle (prD kf f))).map (prD kf f)) ys → Q (.ref r) H'
theorem cr_sortItems (hu : X.A.units + 65 < cLine) (hc : X.calm = true) : CallR X (.builtin "sorted") (rSortItems X.K) := by
  intro pins s σ H vs us Q I r h
  obtain ⟨p, a, kvs, β, l, kf, f, rfl, hp, ha, hk, hd, hal, hdp, q⟩ := h
  obtain ⟨u, rfl, ru⟩ := vals1 r
  obtain rfl : u = Value.ref p := ru
  have view : s.heap.IsItemsView p a := (show ObjOk X.prog X.w H s.heap p (L2.DX.itemsO p a) from I.hok p _ hp).1
  obtain ⟨z, lo, es, ep, hr, hs, he⟩ := kv_raw I.hok ha
  have hh : X.A.handled = none := I.ok.hd hc
  have ll : l.length = kvs.length := by have := congrArg List.length hk; rw [List.length_map, List.length_map] at this; omega
  have dv : ∀ (i : Nat) (b : β) (k : Key) (v : V), l[i]? = some b → kvs[i]? = some (k, v) → k = kf b ∧ DV X.K H (f b) v := fun i b k v hb hk' => by
    obtain ⟨v', hv', d⟩ := hd.get (i := i) (d := f b) (by rw [List.getElem?_map, hb]; rfl)
    rw [List.getElem?_map, hk'] at hv'
    obtain rfl := Option.some.inj hv'
    have e : (kvs.map (·.1))[i]? = (l.map kf)[i]? := by rw [hk]
    rw [List.getElem?_map, List.getElem?_map, hk', hb] at e
    exact ⟨Option.some.inj e, d⟩
  refine sorted_by (enc := fun b => py (prD kf f b)) (bs := l) (C := fun h' vs => (∀ b o, s.heap.get? b = some o → h'.get? b = some o) ∧ ∃ (tk : Nat) (H2 : Hp), Inv X pins σ H2 { s with heap := h', toks := tk } ∧ Same H H2 ∧ EachIs (fun u b => ∃ v, RelV v u ∧ DV X.K H2 (prD kf f b) v) vs l)
    (fun {R'} k => dil_collect hh view hr (by omega) fun h' tk as kp hl hG => k h' tk (as.map Value.ref) kp ⟨kp, tk, ?_⟩)
    (fun h' vs c => by
      obtain ⟨kp, tk, H2, I2, m2, e⟩ := c
      exact e.mono fun u b ⟨v, rv, d⟩ => Dp.reads I2 _ _ _ d.dp rv) hal (so_tup fun b => ⟨_, _, rfl⟩) (by omega) (fun b m => hu_big hu (hdp b m)) fun h1 h' tk b vs out n c kp1 kp2 eb hb lo' eo => ?_
  · -- the pairs that are made are tracked
    have lak : as.length = kvs.length := by omega
    have nd : as.Nodup := List.Pairwise.imp (fun h => Nat.ne_of_lt h) hG.rise
    have I1 : Inv X pins σ H { s with heap := h', toks := tk } := I.kept (t' := tk) kp
    have pr : ∀ (j : Nat) (b : Addr), as[j]? = some b → ∃ (k : Key) (v : V) (ku vu : Value), kvs[j]? = some (k, v) ∧ RelV (kV k) ku ∧ RelV v vu ∧ h'.get? b = some { cls := .type "tuple", data := .seq #[ku, vu] } := fun j b hj => by
      obtain ⟨hj', hg⟩ := hG.pairs j b hj
      obtain ⟨⟨k, v⟩, hkv⟩ : ∃ x, kvs[j]? = some x := ⟨_, List.getElem?_eq_getElem (by omega)⟩
      obtain ⟨r1, r2⟩ := he j hj' k v hkv
      exact ⟨k, v, _, _, hkv, r1, r2, hg⟩
    obtain ⟨H2, I2, m2, tr⟩ := L2.DX.takeT (P := fun b vs => ∃ (j : Nat) (k : Key) (v : V), as[j]? = some b ∧ kvs[j]? = some (k, v) ∧ vs = [kV k, v]) I as H I1 nd fun b hb => by
      obtain ⟨j, hj⟩ := List.getElem?_of_mem hb
      obtain ⟨k, v, ku, vu, hkv, r1, r2, hg⟩ := pr j b hj
      have lt := hG.above b hb
      have hn : H b = none := by
        cases e : H b with
        | none => rfl
        | some o => exact absurd (I.hok.gone (a := b) (by
            cases e2 : s.heap.get? b with
            | none => rfl
            | some o2 => exact absurd (Nat.lt_trans (Heap.lt_size e2) lt) (Nat.lt_irrefl _))) (by rw [e]; simp)
      exact ⟨Nat.le_of_lt lt, hn, _, ⟨j, k, v, hj, hkv, rfl⟩, fun H2 => ⟨by show 2 ≤ sizeLine; decide, [ku, vu], .cons r1 (.cons r2 .nil), _, hg, rfl, 0, rfl⟩⟩
    refine ⟨H2, I2, m2, each_of_ix (by rw [List.length_map, lak, ll]) fun i v b hv hb => ?_⟩
    rw [List.getElem?_map] at hv
    cases ha' : as[i]? with
    | none => rw [ha'] at hv; cases hv
    | some t =>
      rw [ha'] at hv
      obtain rfl := Option.some.inj hv
      obtain ⟨vs', ⟨j, k, v, hj, hkv, rfl⟩, ht⟩ := tr t (List.mem_of_getElem? ha')
      have ij : j = i := (List.getElem?_inj (by exact (List.getElem?_eq_some_iff.mp hj).1) nd).mp (by rw [hj, ha'])
      subst ij
      obtain ⟨ek, d⟩ := dv j b k v hb hkv
      refine ⟨.ref t, rfl, t, _, rfl, SqT.of ht, ?_⟩
      rw [← ek]
      exact ⟨_, _, rfl, kD_dv k, ⟨_, _, rfl, d.tk (TK.same m2), by unfold DVs; rfl⟩⟩
  · obtain ⟨kp, tk2, H2, I2, m2, e⟩ := c
    have ng : h1.get? b = none := by
      cases e3 : h1.get? b with
      | none => rfl
      | some o => rw [← eb] at e3; exact absurd (Heap.lt_size e3) (Nat.lt_irrefl _)
    have fr : H2 b = none := I2.hok.gone ng
    have eo2 : EachIs (fun u b => ∃ v, RelV v u ∧ DV X.K H2 (prD kf f b) v) out (l.mergeSort (dle (prD kf f))) := eo.mono fun v k ⟨j, h1, h2⟩ => by
      obtain ⟨k', hk', rk⟩ := each_get e h1
      rw [h2] at hk'
      obtain rfl := Option.some.inj hk'
      exact rk
    obtain ⟨ys, dy, ry⟩ := each_dvs eo2
    have n2 := same_new (o := HO.lst ys) fr
    have hf : H b = none := Same.free m2 fr
    refine ⟨.ref b, upd H2 b (.lst ys), I2.laidN (t' := tk) kp2 ng fr ⟨?_, out, n, ry, hb⟩, rfl, q ys b _ (m2.trans n2) hf upd_same (dy.tk (TK.same n2))⟩
    rw [vals_len ry, lo', ll]; exact z
theorem cr_sortItemsQ {K : Frag} (h : X.K = K) (hu : X.A.units + 65 < cLine) (hc : X.calm = true) : CallR X (.builtin "sorted") (rSortItems K) := by subst h; exact cr_sortItems hu hc
end
end Z
namespace Z
open PySem L2 SX
/-! ### ids, whole numbers -/
abbrev Idt := Str × Int
def idD (i : Idt) : D := .tup [.str i.1, .int i.2]
theorem dv_id {K : PySem.W.Frag} {H : Hp} {i : Idt} {v : V} (h : DV K H (idD i) v) : ∃ t, v = .ref t ∧ SqT K H t [.str i.1, .int i.2] := by
  obtain ⟨t, us, rfl, hT, d⟩ := h
  obtain ⟨u0, r0, rfl, d0, d⟩ := d
  obtain ⟨u1, r1, rfl, d1, d⟩ := d
  unfold DV at d0 d1
  unfold DVs at d
  subst d0; subst d1; subst d
  exact ⟨t, rfl, hT⟩
theorem inV_ints (x : Int) (xs : List Int) : inV (V.int x) (xs.map V.int) = decide (x ∈ xs) := by
  unfold inV
  induction xs with
  | nil => rfl
  | cons y ys ih =>
    rw [List.map_cons, List.any_cons, ih]
    by_cases e : x = y
    · subst e; simp [eqV]
    · have : ¬ y = x := fun h => e h.symm
      simp [eqV, e, this]
theorem flat_ints (xs : List Int) : (xs.map V.int).all flatV = true := List.all_eq_true.mpr fun x h => by
  obtain ⟨y, _, rfl⟩ := List.mem_map.mp h; rfl
theorem sub_len {α : Type} [DecidableEq α] : ∀ {l m : List α}, l.Nodup → (∀ x ∈ l, x ∈ m) → l.length ≤ m.length
  | [], m, _, _ => Nat.zero_le _
  | x :: l, m, nd, h => by
    obtain ⟨n1, n2⟩ := List.nodup_cons.mp nd
    have hx := h x (by simp)
    have := sub_len (l := l) (m := m.erase x) n2 fun y my => (List.mem_erase_of_ne (fun e => n1 (by rw [← e]; exact my))).mpr (h y (List.mem_cons_of_mem _ my))
    have e := List.length_erase_of_mem hx
    have p := List.length_pos_of_mem hx
    rw [List.length_cons]; omega
/-! ### changes -/
inductive Chg where
  | new (n : Int) (i : Idt)
  | gone (n : Int)
def chD : Chg → D
  | .new n i => .tup [.str (Str.ofString "new"), .int n, idD i]
  | .gone n => .tup [.str (Str.ofString "gone"), .int n]
abbrev Vw := List (Int × Idt)
def vstep (m : Vw) : Chg → Vw
  | .new n i => m ++ [(n, i)]
  | .gone n => m.filter fun e => decide (e.1 ≠ n)
def vw (cs : List Chg) : Vw := cs.foldl vstep []
def fitsC (m : Vw) : Chg → Prop
  | .new n _ => n ∉ m.map (·.1)
  | .gone n => n ∈ m.map (·.1)
def ChOk (cs : List Chg) : Prop := ∀ k c, cs[k]? = some c → fitsC (vw (cs.take k)) c
theorem vw_step {cs : List Chg} {k : Nat} {c : Chg} (h : cs[k]? = some c) : vw (cs.take (k + 1)) = vstep (vw (cs.take k)) c := fold_take h
theorem vw_snoc {cs : List Chg} {c : Chg} : vw (cs ++ [c]) = vstep (vw cs) c := by
  unfold vw
  rw [List.foldl_append]; rfl
theorem vstep_len (m : Vw) (c : Chg) : (vstep m c).length ≤ m.length + 1 := by
  cases c with
  | new n i => unfold vstep; rw [List.length_append]; exact Nat.le_refl _
  | gone n => unfold vstep; exact Nat.le_trans (List.length_filter_le _ _) (Nat.le_succ _)
theorem vw_len : ∀ (cs : List Chg) (m : Vw), (cs.foldl vstep m).length ≤ m.length + cs.length
  | [], m => Nat.le_refl _
  | c :: cs, m => by
    have h1 := vstep_len m c
    have h2 := vw_len cs (vstep m c)
    rw [List.foldl_cons, List.length_cons]; omega
theorem vstep_nd {m : Vw} {c : Chg} (nd : (m.map (·.1)).Nodup) (h : fitsC m c) : ((vstep m c).map (·.1)).Nodup := by
  cases c with
  | new n i =>
    unfold vstep
    rw [List.map_append, List.nodup_append]
    refine ⟨nd, by simp, fun a ha b hb e => ?_⟩
    have : b = n := by simpa using hb
    have h : n ∉ m.map (·.1) := h
    exact h (by rw [← this, ← e]; exact ha)
  | gone n => exact nd.sublist ((List.filter_sublist).map _)
theorem ChOk.snoc {cs : List Chg} {c : Chg} (h : ChOk cs) (k : fitsC (vw cs) c) : ChOk (cs ++ [c]) := fun j d hj => by
  by_cases e : j < cs.length
  · rw [List.getElem?_append_left e] at hj
    rw [List.take_append_of_le_length (Nat.le_of_lt e)]
    exact h j d hj
  · have hl := (List.getElem?_eq_some_iff.mp hj).1
    rw [List.length_append] at hl
    have hl : j < cs.length + 1 := hl
    have e2 : j = cs.length := by omega
    subst e2
    rw [List.getElem?_append_right (Nat.le_refl _), Nat.sub_self] at hj
    obtain rfl : c = d := Option.some.inj hj
    rw [List.take_left]
    exact k
theorem ChOk.nil : ChOk [] := fun k c h => by simp at h
theorem ChOk.take {cs : List Chg} (h : ChOk cs) (n : Nat) : ChOk (cs.take n) := fun k c hk => by
  have kn : k < n := by
    have := (List.getElem?_eq_some_iff.mp hk).1
    rw [List.length_take] at this; omega
  rw [List.getElem?_take] at hk
  rw [if_pos kn] at hk
  rw [List.take_take, Nat.min_eq_left (Nat.le_of_lt kn)]
  exact h k c hk
theorem ChOk.nd {cs : List Chg} (h : ChOk cs) : ((vw cs).map (·.1)).Nodup := by
  have go : ∀ k, k ≤ cs.length → ((vw (cs.take k)).map (·.1)).Nodup := fun k => by
    induction k with
    | zero => intro _; rw [List.take_zero]; exact List.nodup_nil
    | succ k ih =>
      intro hk
      obtain ⟨c, hc⟩ : ∃ c, cs[k]? = some c := ⟨_, List.getElem?_eq_getElem (by omega)⟩
      rw [vw_step hc]
      exact vstep_nd (ih (by omega)) (h k c hc)
  have := go cs.length (Nat.le_refl _)
  rwa [List.take_length] at this
/-! ### the numbers, as a dict holds them -/
def KvD (K : PySem.W.Frag) (H : Hp) : List (Key × V) → Vw → Prop
  | [], [] => True
  | p :: r, e :: m => p.1 = Sum.inl e.1 ∧ DV K H (idD e.2) p.2 ∧ KvD K H r m
  | _, _ => False
section
variable {K : PySem.W.Frag} {H : Hp}
theorem KvD.tk {H' : Hp} (t : TK K H H') : ∀ {l : List (Key × V)} {m : Vw}, KvD K H l m → KvD K H' l m
  | [], [], _ => True.intro
  | p :: r, e :: m, h => ⟨h.1, h.2.1.tk t, KvD.tk t h.2.2⟩
  | [], _ :: _, h => h.elim
  | _ :: _, [], h => h.elim
theorem KvD.len : ∀ {l : List (Key × V)} {m : Vw}, KvD K H l m → l.length = m.length
  | [], [], _ => rfl
  | p :: r, e :: m, h => by rw [List.length_cons, List.length_cons, KvD.len h.2.2]
  | [], _ :: _, h => h.elim
  | _ :: _, [], h => h.elim
theorem KvD.keys : ∀ {l : List (Key × V)} {m : Vw}, KvD K H l m → l.map (·.1) = (m.map (·.1)).map Sum.inl
  | [], [], _ => rfl
  | p :: r, e :: m, h => by rw [List.map_cons, List.map_cons, List.map_cons, KvD.keys h.2.2, h.1]
  | [], _ :: _, h => h.elim
  | _ :: _, [], h => h.elim
theorem KvD.snoc {n : Int} {i : Idt} {v : V} (d : DV K H (idD i) v) : ∀ {l : List (Key × V)} {m : Vw}, KvD K H l m → KvD K H (l ++ [(Sum.inl n, v)]) (m ++ [(n, i)])
  | [], [], _ => ⟨rfl, d, True.intro⟩
  | p :: r, e :: m, h => ⟨h.1, h.2.1, KvD.snoc d h.2.2⟩
  | [], _ :: _, h => h.elim
  | _ :: _, [], h => h.elim
theorem KvD.drop (n : Int) : ∀ {l : List (Key × V)} {m : Vw}, KvD K H l m → KvD K H (dropK l (Sum.inl n)) (m.filter fun e => decide (e.1 ≠ n))
  | [], [], _ => True.intro
  | p :: r, e :: m, h => by
    have ih := KvD.drop n h.2.2
    unfold dropK at ih ⊢
    by_cases c : e.1 = n
    · rw [List.filter_cons_of_neg (by simp [h.1, c]), List.filter_cons_of_neg (by simp [c])]
      exact ih
    · rw [List.filter_cons_of_pos (by simpa [h.1] using c), List.filter_cons_of_pos (by simpa using c)]
      exact ⟨h.1, h.2.1, ih⟩
  | [], _ :: _, h => h.elim
  | _ :: _, [], h => h.elim
theorem KvD.none {n : Int} : ∀ {l : List (Key × V)} {m : Vw}, KvD K H l m → n ∉ m.map (·.1) → valV l (Sum.inl n : Key) = none
  | [], [], _, _ => rfl
  | p :: r, e :: m, h, c => by
    rw [valV_neg fun z => c (by
      have : Sum.inl e.1 = (Sum.inl n : Key) := h.1.symm.trans z
      rw [List.map_cons, ← Sum.inl.inj this]; exact List.mem_cons_self)]
    exact KvD.none h.2.2 fun z => c (List.mem_cons_of_mem _ z)
  | [], _ :: _, h, _ => h.elim
  | _ :: _, [], h, _ => h.elim
def look (m : Vw) (n : Int) : Idt := ((m.find? fun e => decide (e.1 = n)).map (·.2)).getD (Str.ofString "", 0)
theorem KvD.get {n : Int} : ∀ {l : List (Key × V)} {m : Vw}, KvD K H l m → n ∈ m.map (·.1) → ∃ v, valV l (Sum.inl n : Key) = some v ∧ DV K H (idD (look m n)) v
  | [], [], _, c => by cases c
  | p :: r, e :: m, h, c => by
    by_cases q : e.1 = n
    · refine ⟨p.2, valV_pos (by rw [h.1, q]), ?_⟩
      have : look (e :: m) n = e.2 := by unfold look; rw [List.find?_cons_of_pos (by simpa using q)]; rfl
      rw [this]; exact h.2.1
    · obtain ⟨v, h1, h2⟩ := KvD.get h.2.2 ((List.mem_cons.mp c).resolve_left fun z => q z.symm)
      refine ⟨v, by rw [valV_neg fun z => q (Sum.inl.inj (h.1.symm.trans z))]; exact h1, ?_⟩
      have : look (e :: m) n = look m n := by unfold look; rw [List.find?_cons_of_neg (by simpa using q)]
      rw [this]; exact h2
  | [], _ :: _, h, _ => h.elim
  | _ :: _, [], h, _ => h.elim
theorem look_at {e : Int × Idt} : ∀ {m : Vw}, (m.map (·.1)).Nodup → e ∈ m → look m e.1 = e.2
  | [], _, h => by cases h
  | x :: m, nd, h => by
    obtain ⟨n1, n2⟩ := List.nodup_cons.mp nd
    by_cases q : x.1 = e.1
    · rcases List.mem_cons.mp h with c | c
      · rw [c]; unfold look; rw [List.find?_cons_of_pos (by simp)]; rfl
      · exact absurd (by show x.1 ∈ _; rw [q]; exact List.mem_map_of_mem (f := (·.1)) c) n1
    · have : look (x :: m) e.1 = look m e.1 := by unfold look; rw [List.find?_cons_of_neg (by simpa using q)]
      rw [this]
      exact look_at n2 ((List.mem_cons.mp h).resolve_left fun c => q (by rw [c]))
theorem KvD.vals {m0 : Vw} : ∀ {l : List (Key × V)} {m : Vw}, KvD K H l m → (∀ e ∈ m, look m0 e.1 = e.2) → DVs K H ((m.map (·.1)).map fun n => idD (look m0 n)) (l.map (·.2))
  | [], [], _, _ => by unfold List.map DVs; rfl
  | p :: r, e :: m, h, c => by
    refine ⟨p.2, r.map (·.2), rfl, ?_, KvD.vals h.2.2 fun x hx => c x (List.mem_cons_of_mem _ hx)⟩
    show DV K H (idD (look m0 e.1)) p.2
    rw [c e (by simp)]; exact h.2.1
  | [], _ :: _, h, _ => h.elim
  | _ :: _, [], h, _ => h.elim
end
/-! ### the view, in order -/
def srtI (ns : List Int) : List Int := ns.mergeSort fun a b => decide (a ≤ b)
theorem srtI_perm (ns : List Int) : (srtI ns).Perm ns := List.mergeSort_perm _ _
theorem srtI_pw (ns : List Int) : (srtI ns).Pairwise fun a b => a ≤ b := by
  have := List.pairwise_mergeSort (le := fun a b : Int => decide (a ≤ b)) (fun a b c h1 h2 => by simp only [decide_eq_true_eq] at *; omega) (fun a b => by simp only [Bool.or_eq_true, decide_eq_true_eq]; omega) ns
  exact this.imp fun h => of_decide_eq_true h
theorem srtI_uniq {ns zs : List Int} (p : zs.Perm ns) (w : zs.Pairwise fun a b => a ≤ b) : zs = srtI ns :=
  pw_eq (r := fun a b : Int => a ≤ b) (fun a b h k => by omega) (p.trans (srtI_perm ns).symm) w (srtI_pw ns)
def pvD (m : Vw) (n : Int) : D := .tup [.int n, idD (look m n)]
def viewD (m : Vw) : D := .tup ((srtI (m.map (·.1))).map (pvD m))
open PySem.W in
theorem alike_id (a b : Idt) : alike (py (idD a)) (py (idD b)) = true := by simp [idD, py, pys, alike, alikeAll]
open PySem.W in
theorem alike_pv (m : Vw) (a b : Int) : alike (py (pvD m a)) (py (pvD m b)) = true := by simp [pvD, idD, py, pys, alike, alikeAll]
theorem depth_pv (m : Vw) (a : Int) : (py (pvD m a)).depth ≤ 60 := by simp [pvD, idD, py, pys, PyData.depth, PyData.depthAll]
open PySem.W in
theorem pv_le {m : Vw} {i j : Int} (h : dle (pvD m) i j = true) : i ≤ j := by
  have h : (!dataLt (py (pvD m j)) (py (pvD m i))) = true := h
  unfold pvD at h
  rw [py, py] at h
  simp only [pys] at h
  rw [dataLt_pair (by simp [py, alike]) (alike_id _ _)] at h
  by_cases c : i ≤ j
  · exact c
  · exfalso
    have e1 : PyData.eqv (py (.int j)) (py (.int i)) = false := by
      simp only [py, PyData.eqv, beq_eq_false_iff_ne]; omega
    rw [e1, if_neg Bool.false_ne_true, py, py, dataLt_int] at h
    simp only [Bool.not_eq_true', decide_eq_false_iff_not] at h
    omega
open PySem.W in
theorem kd_le {i j : Int} (h : dle kD (Sum.inl i) (Sum.inl j) = true) : i ≤ j := by
  have h : (!dataLt (py (kD (Sum.inl j))) (py (kD (Sum.inl i)))) = true := h
  unfold kD at h
  rw [py, py, dataLt_int] at h
  simp only [Bool.not_eq_true', decide_eq_false_iff_not] at h
  omega
theorem pv_sort (m : Vw) (ns : List Int) : ns.mergeSort (dle (pvD m)) = srtI ns :=
  srtI_uniq (sort_perm (pvD m) ns) ((sort_pw (pvD m) ns).imp fun h => pv_le h)
theorem inl_ex : ∀ {z : List Key}, (∀ k ∈ z, ∃ i, k = (Sum.inl i : Key)) → ∃ zs : List Int, z = zs.map Sum.inl
  | [], _ => ⟨[], rfl⟩
  | k :: z, h => by
    obtain ⟨i, rfl⟩ := h k (by simp)
    obtain ⟨zs, rfl⟩ := inl_ex (z := z) fun k m => h k (List.mem_cons_of_mem _ m)
    exact ⟨i :: zs, rfl⟩
def unI : Key → Option Int
  | .inl i => some i
  | .inr _ => none
theorem unI_map : ∀ l : List Int, (l.map (Sum.inl : Int → Key)).filterMap unI = l
  | [] => rfl
  | x :: l => by
    rw [List.map_cons, List.filterMap_cons_some (f := unI) (a := Sum.inl x) (b := x) rfl, unI_map l]
theorem inl_perm {zs ns : List Int} (h : (zs.map (Sum.inl : Int → Key)).Perm (ns.map Sum.inl)) : zs.Perm ns := by
  have := h.filterMap unI
  rwa [unI_map, unI_map] at this
theorem kd_sort (ns : List Int) : (ns.map (Sum.inl : Int → Key)).mergeSort (dle kD) = (srtI ns).map Sum.inl := by
  have p := sort_perm kD (ns.map (Sum.inl : Int → Key))
  obtain ⟨zs, e⟩ := inl_ex (z := (ns.map (Sum.inl : Int → Key)).mergeSort (dle kD)) fun k m => by
    obtain ⟨i, _, rfl⟩ := List.mem_map.mp (p.mem_iff.mp m)
    exact ⟨i, rfl⟩
  have w := sort_pw kD (ns.map (Sum.inl : Int → Key))
  rw [e] at p w ⊢
  rw [srtI_uniq (inl_perm p) ((List.pairwise_map.mp w).imp fun h => kd_le h)]
/-! ### a story -/
def fsOf (lim n : Nat) (ch nu : Addr) : List (Str × V) := [("_limit", .int (lim : Nat)), ("_stamp", .int (n : Nat)), ("_changes", .ref ch), ("_numbers", .ref nu)]
structure StAt (K : PySem.W.Frag) (H : Hp) (C p ch nu : Addr) (lim : Nat) (cs : List Chg) : Prop where
  ob : ∃ dx, H p = some (.ins C dx (fsOf lim cs.length ch nu))
  ch : ∃ vs, H ch = some (.lst vs) ∧ DVs K H ((cs.drop (cs.length - lim)).map chD) vs
  nu : ∃ kvs, H nu = some (.dK kvs) ∧ KvD K H kvs (vw cs)
theorem StAt.ext {K : PySem.W.Frag} {H H' : Hp} {C p c nu : Addr} {lim : Nat} {cs : List Chg} (h : StAt K H C p c nu lim cs) (hp : ∀ o, H p = some o → H' p = some o) (hc : ∀ o, H c = some o → H' c = some o) (hn : ∀ o, H nu = some o → H' nu = some o) (t : TK K H H') : StAt K H' C p c nu lim cs := by
  obtain ⟨⟨dx, h1⟩, ⟨vs, h2, h3⟩, ⟨kvs, h4, h5⟩⟩ := h
  exact ⟨⟨dx, hp _ h1⟩, ⟨vs, hc _ h2, h3.tk t⟩, ⟨kvs, hn _ h4, h5.tk t⟩⟩
theorem StAt.same {K : PySem.W.Frag} {H H' : Hp} {C p c nu : Addr} {lim : Nat} {cs : List Chg} (h : StAt K H C p c nu lim cs) (m : Same H H') : StAt K H' C p c nu lim cs := h.ext (fun o => m _ o) (fun o => m _ o) (fun o => m _ o) (TK.same m)
/-! ### promises -/
def sp51_init (K : PySem.W.Frag) (C : Addr) : Sp := fun vs H Q _ => ∃ (p dx : Addr) (lim : Nat), vs = [.ref p, .int (lim : Nat)] ∧ H p = some (.ins C dx []) ∧ lim ≤ 1000 ∧
  ∀ (ch nu : Addr) (H' : Hp), H ch = none → H nu = none → ch ≠ nu → ExtL [p] H H' → StAt K H' C p ch nu lim [] → Q .non H'
def sp51_last (K : PySem.W.Frag) (C : Addr) : Sp := fun vs H Q _ => ∃ (p ch nu : Addr) (lim : Nat) (cs : List Chg), vs = [.ref p] ∧ StAt K H C p ch nu lim cs ∧ Q (.int (cs.length : Nat)) H
def sp51_keep (K : PySem.W.Frag) (C : Addr) : Sp := fun vs H Q _ => ∃ (p ch nu dx : Addr) (lim n : Nat) (xs : List V) (v : V), vs = [.ref p, v] ∧ H p = some (.ins C dx (fsOf lim n ch nu)) ∧ H ch = some (.lst xs) ∧ xs.length ≤ lim ∧ lim ≤ 1000 ∧ p ≠ ch ∧
  Q .non (upd (upd H p (.ins C dx (fsOf lim (n + 1) ch nu))) ch (.lst ((xs ++ [v]).drop (xs.length + 1 - lim))))
def sp51_new (K : PySem.W.Frag) (C : Addr) : Sp := fun vs H Q _ => ∃ (p ch nu : Addr) (lim : Nat) (cs : List Chg) (n : Int) (i : Idt) (iv : V), vs = [.ref p, .int n, iv] ∧ StAt K H C p ch nu lim cs ∧ DV K H (idD i) iv ∧ fitsC (vw cs) (.new n i) ∧ lim ≤ 1000 ∧ cs.length ≤ 1000 ∧ p ≠ ch ∧ p ≠ nu ∧ ch ≠ nu ∧
  ∀ H', ExtL [p, ch, nu] H H' → TK K H H' → StAt K H' C p ch nu lim (cs ++ [.new n i]) → Q .non H'
def sp51_gone (K : PySem.W.Frag) (C : Addr) : Sp := fun vs H Q _ => ∃ (p ch nu : Addr) (lim : Nat) (cs : List Chg) (n : Int), vs = [.ref p, .int n] ∧ StAt K H C p ch nu lim cs ∧ fitsC (vw cs) (.gone n) ∧ lim ≤ 1000 ∧ cs.length ≤ 1000 ∧ p ≠ ch ∧ p ≠ nu ∧ ch ≠ nu ∧
  ∀ H', ExtL [p, ch, nu] H H' → TK K H H' → StAt K H' C p ch nu lim (cs ++ [.gone n]) → Q .non H'
def sp51_pairs (K : PySem.W.Frag) (C : Addr) : Sp := fun vs H Q _ => ∃ (p ch nu : Addr) (lim : Nat) (cs : List Chg), vs = [.ref p] ∧ StAt K H C p ch nu lim cs ∧ ChOk cs ∧ ∀ v H', Same H H' → DV K H' (viewD (vw cs)) v → Q v H'
def wholeD (n : Nat) (m : Vw) : D := .tup [.str (Str.ofString "whole"), .int (n : Nat), viewD m]
def sinceD (n : Nat) (cs : List Chg) : D := .tup [.str (Str.ofString "since"), .int (n : Nat), .tup (cs.map chD)]
def due51 (lim : Nat) (cs : List Chg) (s : Nat) : D := if lim < cs.length - s then wholeD cs.length (vw cs) else sinceD cs.length (cs.drop s)
def sp51_since (K : PySem.W.Frag) (C : Addr) : Sp := fun vs H Q _ => ∃ (p ch nu : Addr) (lim : Nat) (cs : List Chg) (s : Nat), vs = [.ref p, .int (s : Nat)] ∧ StAt K H C p ch nu lim cs ∧ ChOk cs ∧ s ≤ cs.length ∧ cs.length ≤ 1000 ∧ ∀ v H', Same H H' → DV K H' (due51 lim cs s) v → Q v H'
def sp51_many : Sp := fun vs H Q _ => ∃ (s a : Addr) (l : Nat) (w m : Int) (c : Nat), vs = [.ref s, .int (l : Nat), .int w, .int m] ∧ 0 < w ∧ w ≤ 1000 ∧ 0 ≤ m ∧ m ≤ 1000 ∧ Src H s a (c + 2) ∧
  ∀ (n : Nat) (H' : Hp), l ≤ n → (n : Int) < l + w + m → Ext s H H' → Src H' s a c → Q (.int (n : Nat)) H'
def sp51_number (K : PySem.W.Frag) : Sp := fun vs H Q _ => ∃ (s a u : Addr) (ns : List Int) (c : Nat), vs = [.ref s, .ref u] ∧ H u = some (.lst (ns.map V.int)) ∧ u ≠ s ∧ ns.length ≤ 35 ∧ Src H s a (c + 5) ∧
  ∀ (n : Int) (H' : Hp), n ∉ ns → Ext s H H' → Src H' s a c → Q (.int n) H'
def sp51_changes (K : PySem.W.Frag) : Sp := fun vs H Q _ => ∃ (s a : Addr) (m : Nat) (c : Nat), vs = [.ref s, .int (m : Nat)] ∧ m ≤ 35 ∧ Src H s a (c + 1000) ∧
  ∀ (p : Addr) (us : List V) (cs : List Chg) (H' : Hp), H p = none → H' p = some (.lst us) → DVs K H' (cs.map chD) us → ChOk cs → cs.length = m → Ext s H H' → Src H' s a c → Q (.ref p) H'
def sp51_view (K : PySem.W.Frag) : Sp := fun vs H Q _ => ∃ (p : Addr) (us : List V) (cs : List Chg), vs = [.ref p] ∧ SqL K H p us ∧ DVs K H (cs.map chD) us ∧ ChOk cs ∧ cs.length ≤ 1000 ∧ ∀ v H', Same H H' → DV K H' (viewD (vw cs)) v → Q v H'
def sp51_do (K : PySem.W.Frag) (C : Addr) : Sp := fun vs H Q _ => ∃ (p ch nu : Addr) (lim : Nat) (cs : List Chg) (c : Chg) (cv : V), vs = [.ref p, cv] ∧ StAt K H C p ch nu lim cs ∧ DV K H (chD c) cv ∧ fitsC (vw cs) c ∧ lim ≤ 1000 ∧ cs.length ≤ 1000 ∧ p ≠ ch ∧ p ≠ nu ∧ ch ≠ nu ∧
  ∀ H', ExtL [p, ch, nu] H H' → TK K H H' → StAt K H' C p ch nu lim (cs ++ [c]) → Q .non H'
def sp51_right (K : PySem.W.Frag) (C : Addr) : Sp := fun vs H Q _ => ∃ (p ch nu u : Addr) (lim : Nat) (cs : List Chg) (us : List V), vs = [.ref p, .ref u, .int (lim : Nat)] ∧ StAt K H C p ch nu lim cs ∧ ChOk cs ∧ cs.length ≤ 1000 ∧ SqL K H u us ∧ DVs K H (cs.map chD) us ∧ ∀ H', Same H H' → Q (.bl true) H'
/-! ### how deep -/
theorem dl_id {n : Nat} (i : Idt) : DL (n + 2) (idD i) := ⟨by show 2 ≤ 1000000; decide, fun d hd => by
  simp only [List.mem_cons, List.not_mem_nil, or_false] at hd
  rcases hd with rfl | rfl <;> exact True.intro⟩
theorem dl_ch {n : Nat} (c : Chg) : DL (n + 3) (chD c) := by
  cases c with
  | new k i => exact ⟨by show 3 ≤ 1000000; decide, fun d hd => by
      simp only [List.mem_cons, List.not_mem_nil, or_false] at hd
      rcases hd with rfl | rfl | rfl
      · exact True.intro
      · exact True.intro
      · exact dl_id i⟩
  | gone k => exact ⟨by show 2 ≤ 1000000; decide, fun d hd => by
      simp only [List.mem_cons, List.not_mem_nil, or_false] at hd
      rcases hd with rfl | rfl <;> exact True.intro⟩
theorem dl_view {n : Nat} {m : Vw} (h : m.length ≤ 1000) : DL (n + 4) (viewD m) := ⟨by rw [List.length_map, (srtI_perm _).length_eq, List.length_map]; omega, fun d hd => by
  obtain ⟨k, _, rfl⟩ := List.mem_map.mp hd
  exact ⟨by show 2 ≤ 1000000; decide, fun d hd => by
    simp only [List.mem_cons, List.not_mem_nil, or_false] at hd
    rcases hd with rfl | rfl
    · exact True.intro
    · exact dl_id _⟩⟩
theorem dl_due {lim s : Nat} {cs : List Chg} (h : cs.length ≤ 1000) : DL 5 (due51 lim cs s) := by
  unfold due51
  split
  · exact ⟨by show 3 ≤ 1000000; decide, fun d hd => by
      simp only [List.mem_cons, List.not_mem_nil, or_false] at hd
      rcases hd with rfl | rfl | rfl
      · exact True.intro
      · exact True.intro
      · refine dl_view ?_
        have := vw_len cs []
        exact Nat.le_trans this (by rw [List.length_nil]; omega)⟩
  · exact ⟨by show 3 ≤ 1000000; decide, fun d hd => by
      simp only [List.mem_cons, List.not_mem_nil, or_false] at hd
      rcases hd with rfl | rfl | rfl
      · exact True.intro
      · exact True.intro
      · refine ⟨by rw [List.length_map, List.length_drop]; omega, fun d hd => ?_⟩
        obtain ⟨c, _, rfl⟩ := List.mem_map.mp hd
        exact dl_ch c⟩
end Z
namespace Z
open PySem L2 SX
theorem sl_listK {X : Cx} {K : PySem.W.Frag} (h : X.K = K) : SlR X (rSlL K) := by subst h; exact sl_list
theorem cutV_mid {xs : List V} {i j : Int} (h : 0 ≤ i) (h2 : 0 ≤ j) : cutV xs (some i) (some j) = (xs.take j.toNat).drop i.toNat := by
  unfold cutV
  rw [sIx_pos h, sIx_pos h2]
  rw [List.drop_take]
  by_cases c : i.toNat ≤ xs.length
  · rw [Nat.min_eq_left c]
    by_cases d : j.toNat ≤ xs.length
    · rw [Nat.min_eq_left d]
    · rw [Nat.min_eq_right (by omega), List.take_of_length_le (by rw [List.length_drop]; exact Nat.le_refl _), List.take_of_length_le (by rw [List.length_drop]; omega)]
  · rw [Nat.min_eq_right (a := i.toNat) (by omega), List.drop_of_length_le (Nat.le_refl _), List.drop_of_length_le (l := xs) (i := i.toNat) (by omega)]
    simp
theorem look_none {m : Vw} {n : Int} (h : n ∉ m.map (·.1)) : look m n = (Str.ofString "", 0) := by
  unfold look
  rw [List.find?_eq_none.mpr fun e he => by
    have : e.1 ≠ n := fun z => h (by rw [← z]; exact List.mem_map_of_mem (f := (·.1)) he)
    simpa using this]
  rfl
theorem look_perm {m m' : Vw} (p : m'.Perm m) (nd : (m.map (·.1)).Nodup) (n : Int) : look m' n = look m n := by
  have nd' : (m'.map (·.1)).Nodup := (p.map (·.1)).nodup_iff.mpr nd
  by_cases c : n ∈ m.map (·.1)
  · obtain ⟨e, he, rfl⟩ := List.mem_map.mp c
    rw [look_at nd he, look_at nd' (p.mem_iff.mpr he)]
  · rw [look_none c, look_none fun h => c ((p.map (·.1)).mem_iff.mp h)]
theorem view_perm {m m' : Vw} (p : m'.Perm m) (nd : (m.map (·.1)).Nodup) : viewD m' = viewD m := by
  unfold viewD
  rw [srtI_uniq ((srtI_perm _).trans (p.map (·.1))) (srtI_pw (m'.map (·.1)))]
  congr 1
  refine List.map_congr_left fun n _ => ?_
  unfold pvD
  rw [look_perm p nd]
theorem look_self : ∀ {m : Vw}, (m.map (·.1)).Nodup → ((m.map (·.1)).map fun n => (n, look m n)) = m := fun {m} nd => by
  rw [List.map_map]
  have : ∀ e ∈ m, ((fun n => (n, look m n)) ∘ fun x => x.1) e = e := fun e he => by
    show (e.1, look m e.1) = e
    rw [look_at nd he]
  exact (List.map_congr_left this).trans (List.map_id' m)
theorem sorted_perm {m : Vw} (nd : (m.map (·.1)).Nodup) : ((srtI (m.map (·.1))).map fun n => (n, look m n)).Perm m := by
  have := (srtI_perm (m.map (·.1))).map fun n => (n, look m n)
  rwa [look_self nd] at this
theorem vstep_perm {m m' : Vw} (p : m'.Perm m) (c : Chg) : (vstep m' c).Perm (vstep m c) := by
  cases c with
  | new n i => exact p.append_right _
  | gone n => exact p.filter _
theorem fits_perm {m m' : Vw} (p : m'.Perm m) {c : Chg} (h : fitsC m c) : fitsC m' c := by
  cases c with
  | new n i => exact fun k => h ((p.map (·.1)).mem_iff.mp k)
  | gone n => exact (p.map (·.1)).mem_iff.mpr h
/-- all of these stand, each once -/
def Trk (H : Hp) (xs : List Addr) : Prop := xs.Nodup ∧ ∀ x ∈ xs, ∃ o, H x = some o
theorem Trk.same {H H' : Hp} {xs : List Addr} (t : Trk H xs) (m : Same H H') : Trk H' xs := ⟨t.1, fun x hx => (t.2 x hx).imp fun _ h => m _ _ h⟩
theorem Trk.ext {H H' : Hp} {s : Addr} {xs : List Addr} (t : Trk H xs) (m : Ext s H H') {a : Addr} {c : Nat} (S : Src H' s a c) : Trk H' xs := ⟨t.1, fun x hx => by
  obtain ⟨o, ho⟩ := t.2 x hx
  by_cases e : x = s
  · obtain ⟨ys, hy⟩ := S.lst
    exact ⟨_, by rw [e]; exact hy⟩
  · exact ⟨o, m _ _ e ho⟩⟩
theorem Trk.cons {H H' : Hp} {a : Addr} {xs : List Addr} (t : Trk H xs) (n : H a = none) (t' : Trk H' xs) (k : ∃ o, H' a = some o) : Trk H' (a :: xs) :=
  ⟨List.nodup_cons.mpr ⟨(fun m => by obtain ⟨o, ho⟩ := t.2 a m; rw [n] at ho; cases ho), t.1⟩, fun x hx => (List.mem_cons.mp hx).elim (fun e => e ▸ k) (t'.2 x)⟩
theorem Trk.extL {H H' : Hp} {ms xs : List Addr} (t : Trk H xs) (m : ExtL ms H H') (k : ∀ x ∈ ms, ∃ o, H' x = some o) : Trk H' xs := ⟨t.1, fun x hx => by
  by_cases e : x ∈ ms
  · exact k x e
  · exact (t.2 x hx).imp fun _ h => m _ _ e h⟩
theorem Src.extL {H H' : Hp} {s a : Addr} {c : Nat} {ms : List Addr} (h : Src H s a c) (x : ExtL ms H H') (n1 : s ∉ ms) (n2 : a ∉ ms) : Src H' s a c := by
  obtain ⟨ns, i, b, e, t, h1, h2, h3⟩ := h
  exact ⟨ns, i, b, e, t, x _ _ n1 h1, x _ _ n2 h2, h3⟩
theorem Src.trk {H : Hp} {s a : Addr} {c : Nat} (h : Src H s a c) : Trk H [s, a] := by
  obtain ⟨ns, i, b, e, t, h1, h2, h3, _⟩ := h
  refine ⟨by simpa using Ne.symm h3, fun x hx => ?_⟩
  simp only [List.mem_cons, List.not_mem_nil, or_false] at hx
  rcases hx with rfl | rfl
  · exact ⟨_, h1⟩
  · exact ⟨_, h2⟩
theorem ExtL.tk {K : PySem.W.Frag} {H H' : Hp} {ms : List Addr} (x : ExtL ms H H') (h : ∀ y ∈ ms, ∃ o, H y = some o ∧ (∀ xs, o ≠ .tup xs) ∧ ∀ o' w, o ≠ .frz o' w) : TK K H H' := fun a xs q => by
  rcases q with (q | ⟨o', q⟩) | q
  · exact .inl (.inl (x _ _ (fun m => by obtain ⟨o, ho, n1, _⟩ := h a m; rw [ho] at q; exact n1 _ (Option.some.inj q)) q))
  · exact .inl (.inr ⟨o', x _ _ (fun m => by obtain ⟨o, ho, _, n2⟩ := h a m; rw [ho] at q; exact n2 _ _ (Option.some.inj q)) q⟩)
  · exact .inr q
theorem st_ext {K : PySem.W.Frag} {H H' : Hp} {C p c nu s : Addr} {lim : Nat} {cs : List Chg} (h : StAt K H C p c nu lim cs) (x : Ext s H H') (t : TK K H H') (h1 : p ≠ s) (h2 : c ≠ s) (h3 : nu ≠ s) : StAt K H' C p c nu lim cs :=
  h.ext (fun o => x _ o h1) (fun o => x _ o h2) (fun o => x _ o h3) t
/-! ### a desk -/
def fsD (n : Nat) (nu : Addr) : List (Str × V) := [("_stamp", .int (n : Nat)), ("_numbers", .ref nu)]
structure DkAt (K : PySem.W.Frag) (H : Hp) (C p nu : Addr) (n : Nat) (m : Vw) : Prop where
  ob : ∃ dx, H p = some (.ins C dx (fsD n nu))
  nu : ∃ kvs m', H nu = some (.dK kvs) ∧ KvD K H kvs m' ∧ m'.Perm m
theorem DkAt.ext {K : PySem.W.Frag} {H H' : Hp} {C p nu : Addr} {n : Nat} {m : Vw} (h : DkAt K H C p nu n m) (hp : ∀ o, H p = some o → H' p = some o) (hn : ∀ o, H nu = some o → H' nu = some o) (t : TK K H H') : DkAt K H' C p nu n m := by
  obtain ⟨⟨dx, h1⟩, ⟨kvs, m', h2, h3, h4⟩⟩ := h
  exact ⟨⟨dx, hp _ h1⟩, ⟨kvs, m', hn _ h2, h3.tk t, h4⟩⟩
theorem DkAt.same {K : PySem.W.Frag} {H H' : Hp} {C p nu : Addr} {n : Nat} {m : Vw} (h : DkAt K H C p nu n m) (x : Same H H') : DkAt K H' C p nu n m := h.ext (fun o => x _ o) (fun o => x _ o) (TK.same x)
theorem DkAt.ne {K : PySem.W.Frag} {H : Hp} {C p nu : Addr} {n : Nat} {m : Vw} (h : DkAt K H C p nu n m) : p ≠ nu := fun e => by
  obtain ⟨⟨dx, h1⟩, ⟨kvs, m', h2, _⟩⟩ := h
  rw [e, h2] at h1; cases h1
def Ans (cs : List Chg) (s n : Nat) (d : D) : Prop := d = wholeD n (vw (cs.take n)) ∨ d = sinceD n ((cs.take n).drop s)
theorem due_ans {lim n s : Nat} {cs : List Chg} (h : n ≤ cs.length) : Ans cs s n (due51 lim (cs.take n) s) := by
  have e : (cs.take n).length = n := by rw [List.length_take]; omega
  unfold due51
  rw [e]
  split
  · exact .inl rfl
  · exact .inr rfl
def sp52_init (K : PySem.W.Frag) (C : Addr) : Sp := fun vs H Q _ => ∃ (p dx : Addr), vs = [.ref p] ∧ H p = some (.ins C dx []) ∧ ∀ (nu : Addr) (H' : Hp), H nu = none → ExtL [p] H H' → DkAt K H' C p nu 0 [] → Q .non H'
def sp52_stamp (K : PySem.W.Frag) (C : Addr) : Sp := fun vs H Q _ => ∃ (p nu : Addr) (n : Nat) (m : Vw), vs = [.ref p] ∧ DkAt K H C p nu n m ∧ Q (.int (n : Nat)) H
def sp52_view (K : PySem.W.Frag) (C : Addr) : Sp := fun vs H Q _ => ∃ (p nu : Addr) (n : Nat) (m : Vw), vs = [.ref p] ∧ DkAt K H C p nu n m ∧ (m.map (·.1)).Nodup ∧ ∀ v H', Same H H' → DV K H' (viewD m) v → Q v H'
def sp52_dochange (K : PySem.W.Frag) (C : Addr) : Sp := fun vs H Q _ => ∃ (p nu : Addr) (n : Nat) (m : Vw) (c : Chg) (cv : V), vs = [.ref p, cv] ∧ DkAt K H C p nu n m ∧ DV K H (chD c) cv ∧ fitsC m c ∧ m.length ≤ 1000 ∧
  ∀ H', ExtL [nu] H H' → TK K H H' → DkAt K H' C p nu n (vstep m c) → Q .non H'
def sp52_hear (K : PySem.W.Frag) (C : Addr) : Sp := fun vs H Q _ => ∃ (p nu : Addr) (s n : Nat) (cs : List Chg) (av : V) (d : D), vs = [.ref p, av] ∧ DkAt K H C p nu s (vw (cs.take s)) ∧ DV K H d av ∧ Ans cs s n d ∧ s ≤ n ∧ n ≤ cs.length ∧ cs.length ≤ 1000 ∧ ChOk cs ∧
  ∀ nu' H', ExtL [p, nu] H H' → TK K H H' → (nu' = nu ∨ H nu' = none) → (∃ o, H' nu = some o) → DkAt K H' C p nu' n (vw (cs.take n)) → Q .non H'
def vwsD (cs : List Chg) : List D := (List.range (cs.length + 1)).map fun k => viewD (vw (cs.take k))
theorem vws_at {cs : List Chg} {k : Nat} (h : k ≤ cs.length) : (vwsD cs)[k]? = some (viewD (vw (cs.take k))) := by
  unfold vwsD
  rw [List.getElem?_map, List.getElem?_range (by omega)]; rfl
def firD (lim : Nat) (cs : List Chg) (last : Nat) : List D := (List.range (last + 1)).map fun k => due51 lim (cs.take k) 0
theorem fir_at {lim : Nat} {cs : List Chg} {last k : Nat} (h : k ≤ last) : (firD lim cs last)[k]? = some (due51 lim (cs.take k) 0) := by
  unfold firD
  rw [List.getElem?_map, List.getElem?_range (by omega)]; rfl
def sp52_right (K : PySem.W.Frag) (C : Addr) : Sp := fun vs H Q _ => ∃ (p nu u : Addr) (n : Nat) (cs : List Chg) (us : List V), vs = [.ref p, .int (n : Nat), .ref u] ∧ DkAt K H C p nu n (vw (cs.take n)) ∧ n ≤ cs.length ∧ cs.length ≤ 1000 ∧ ChOk cs ∧ SqL K H u us ∧ DVs K H (vwsD cs) us ∧ ∀ H', Same H H' → Q (.bl true) H'
def sp52_own (K : PySem.W.Frag) : Sp := fun vs H Q _ => ∃ (s a cl vl : Addr) (us ws : List V) (cs : List Chg) (st last : Nat) (c : Nat), vs = [.ref s, .ref cl, .ref vl, .int (st : Nat), .int (last : Nat)] ∧ H cl = some (.lst us) ∧ cl ≠ s ∧ DVs K H (cs.map chD) us ∧ H vl = some (.lst ws) ∧ vl ≠ s ∧ DVs K H (vwsD cs) ws ∧ last ≤ cs.length ∧ Src H s a (c + 1) ∧
  ∀ v d H', DV K H' d v → Ans cs st last d → Ext s H H' → Src H' s a c → Q v H'
/-! ### the whole -/
structure Gd where
  sp : Addr
  sc : Addr
  sn : Addr
  cl : Addr
  vl : Addr
  dl : Addr
  tl : Addr
  fl : Addr
  us : List V
  ws : List V
  cs : List Chg
  lim : Nat
def Gd.cos (g : Gd) : List Addr := [g.sp, g.sc, g.sn, g.cl, g.vl, g.dl, g.fl]
structure Sep (H : Hp) (base : List Addr) (p nu : Nat → Addr) : Prop where
  b : ∀ x ∈ base, ∃ o, H x = some o
  d : ∀ k, k < 4 → (∃ o, H (p k) = some o) ∧ ∃ o, H (nu k) = some o
  pb : ∀ k, k < 4 → p k ∉ base ∧ nu k ∉ base
  pp : ∀ j k, j < 4 → k < 4 → j ≠ k → p j ≠ p k ∧ nu j ≠ nu k
  pn : ∀ j k, j < 4 → k < 4 → p j ≠ nu k
theorem Sep.keep {H H' : Hp} {base : List Addr} {p nu : Nat → Addr} (h : Sep H base p nu) (k : ∀ x, (∃ o, H x = some o) → ∃ o, H' x = some o) : Sep H' base p nu :=
  ⟨fun x hx => k x (h.b x hx), fun j hj => ⟨k _ (h.d j hj).1, k _ (h.d j hj).2⟩, h.pb, h.pp, h.pn⟩
def setN {α : Type} (f : Nat → α) (k : Nat) (x : α) : Nat → α := fun j => if j = k then x else f j
theorem setN_at {α : Type} (f : Nat → α) (k : Nat) (x : α) : setN f k x k = x := by unfold setN; rw [if_pos rfl]
theorem setN_ne {α : Type} (f : Nat → α) {k j : Nat} (x : α) (h : j ≠ k) : setN f k x j = f j := by unfold setN; rw [if_neg h]
theorem Sep.step {H H' : Hp} {base : List Addr} {p nu : Nat → Addr} (h : Sep H base p nu) {i : Nat} (hi : i < 4) {x : Addr} (hx : x = nu i ∨ H x = none) (k : ∀ x, (∃ o, H x = some o) → ∃ o, H' x = some o) (hx' : ∃ o, H' x = some o) : Sep H' base p (setN nu i x) := by
  have nb : x ∉ base := by
    rcases hx with rfl | e
    · exact (h.pb i hi).2
    · exact fun m => by obtain ⟨o, ho⟩ := h.b x m; rw [e] at ho; cases ho
  have np : ∀ j, j < 4 → p j ≠ x := fun j hj => by
    rcases hx with rfl | e
    · exact h.pn j i hj hi
    · exact fun m => by obtain ⟨o, ho⟩ := (h.d j hj).1; rw [m, e] at ho; cases ho
  have nn : ∀ j, j < 4 → j ≠ i → nu j ≠ x := fun j hj ji => by
    rcases hx with rfl | e
    · exact (h.pp j i hj hi ji).2
    · exact fun m => by obtain ⟨o, ho⟩ := (h.d j hj).2; rw [m, e] at ho; cases ho
  refine ⟨fun y hy => k y (h.b y hy), fun j hj => ⟨k _ (h.d j hj).1, ?_⟩, fun j hj => ⟨(h.pb j hj).1, ?_⟩, fun j l hj hl jl => ⟨(h.pp j l hj hl jl).1, ?_⟩, fun j l hj hl => ?_⟩
  · by_cases e : j = i
    · rw [e, setN_at]; exact hx'
    · rw [setN_ne _ _ e]; exact k _ (h.d j hj).2
  · by_cases e : j = i
    · rw [e, setN_at]; exact nb
    · rw [setN_ne _ _ e]; exact (h.pb j hj).2
  · by_cases e : j = i <;> by_cases f : l = i
    · exact absurd (e.trans f.symm) jl
    · rw [e, setN_at, setN_ne _ _ f]; exact (nn l hl f).symm
    · rw [f, setN_at, setN_ne _ _ e]; exact nn j hj e
    · rw [setN_ne _ _ e, setN_ne _ _ f]; exact (h.pp j l hj hl jl).2
  · by_cases f : l = i
    · rw [f, setN_at]; exact np j hj
    · rw [setN_ne _ _ f]; exact h.pn j l hj hl
structure W52 (K : PySem.W.Frag) (H : Hp) (CS CD s a : Addr) (g : Gd) (p nu : Nat → Addr) (st : Nat → Nat) (last : Nat) : Prop where
  sy : StAt K H CS g.sp g.sc g.sn g.lim (g.cs.take last)
  cl : H g.cl = some (.lst g.us) ∧ DVs K H (g.cs.map chD) g.us
  vl : H g.vl = some (.lst g.ws) ∧ DVs K H (vwsD g.cs) g.ws
  dl : H g.dl = some (.lst [.ref (p 0), .ref (p 1), .ref (p 2), .ref (p 3)])
  tl : H g.tl = some (.lst [.int (st 0 : Nat), .int (st 1 : Nat), .int (st 2 : Nat), .int (st 3 : Nat)])
  fl : ∃ fs, H g.fl = some (.lst fs) ∧ DVs K H (firD g.lim g.cs last) fs
  dk : ∀ k, k < 4 → DkAt K H CD (p k) (nu k) (st k) (vw (g.cs.take (st k))) ∧ st k ≤ last
  sp : Sep H ([s, a, g.tl] ++ g.cos) p nu
  nd : ([s, a, g.tl] ++ g.cos).Nodup
  ok : ChOk g.cs ∧ g.cs.length ≤ 100 ∧ g.lim ≤ 1000 ∧ last ≤ g.cs.length
section
variable {K : PySem.W.Frag} {H H' : Hp} {CS CD s a : Addr} {g : Gd} {p nu : Nat → Addr} {st : Nat → Nat} {last : Nat}
theorem W52.cne (w : W52 K H CS CD s a g p nu st last) {x y : Addr} (hx : x ∈ g.cos) (hy : y ∈ [s, a, g.tl]) : x ≠ y := fun e => by
  have := (List.nodup_append.mp w.nd).2.2 y hy x hx
  exact this e.symm
/-- what may change, and what stays -/
theorem W52.move (w : W52 K H CS CD s a g p nu st last) (co : ∀ x ∈ g.cos, ∀ o, H x = some o → H' x = some o) (t : TK K H H') : StAt K H' CS g.sp g.sc g.sn g.lim (g.cs.take last) ∧ (H' g.cl = some (.lst g.us) ∧ DVs K H' (g.cs.map chD) g.us) ∧ (H' g.vl = some (.lst g.ws) ∧ DVs K H' (vwsD g.cs) g.ws) ∧ H' g.dl = some (.lst [.ref (p 0), .ref (p 1), .ref (p 2), .ref (p 3)]) ∧ ∃ fs, H' g.fl = some (.lst fs) ∧ DVs K H' (firD g.lim g.cs last) fs := by
  obtain ⟨fs, h1, h2⟩ := w.fl
  exact ⟨w.sy.ext (co _ (by simp [Gd.cos])) (co _ (by simp [Gd.cos])) (co _ (by simp [Gd.cos])) t, ⟨co _ (by simp [Gd.cos]) _ w.cl.1, w.cl.2.tk t⟩, ⟨co _ (by simp [Gd.cos]) _ w.vl.1, w.vl.2.tk t⟩, co _ (by simp [Gd.cos]) _ w.dl, fs, co _ (by simp [Gd.cos]) _ h1, h2.tk t⟩
theorem W52.ext (w : W52 K H CS CD s a g p nu st last) (x : Ext s H H') {c : Nat} (S' : Src H' s a c) (t : TK K H H') : W52 K H' CS CD s a g p nu st last := by
  have ps : ∀ k, k < 4 → p k ≠ s ∧ nu k ≠ s := fun k hk => ⟨fun e => (w.sp.pb k hk).1 (by rw [e]; simp), fun e => (w.sp.pb k hk).2 (by rw [e]; simp)⟩
  obtain ⟨m1, m2, m3, m4, m5⟩ := w.move (fun y hy o ho => x _ _ (w.cne hy (by simp)) ho) t
  refine ⟨m1, m2, m3, m4, ?_, m5, fun k hk => ⟨(w.dk k hk).1.ext (fun o => x _ o (ps k hk).1) (fun o => x _ o (ps k hk).2) t, (w.dk k hk).2⟩, w.sp.keep fun y ⟨o, ho⟩ => ?_, w.nd, w.ok⟩
  · refine x _ _ (fun e => ?_) w.tl
    have := w.nd
    rw [e] at this
    simp at this
  · by_cases e : y = s
    · obtain ⟨ys, hy⟩ := S'.lst
      exact ⟨_, by rw [e]; exact hy⟩
    · exact ⟨o, x _ _ e ho⟩
theorem W52.same (w : W52 K H CS CD s a g p nu st last) (x : Same H H') : W52 K H' CS CD s a g p nu st last := by
  obtain ⟨m1, m2, m3, m4, m5⟩ := w.move (fun y hy o ho => x _ _ ho) (TK.same x)
  exact ⟨m1, m2, m3, m4, x _ _ w.tl, m5, fun k hk => ⟨(w.dk k hk).1.same x, (w.dk k hk).2⟩, w.sp.keep fun y ⟨o, ho⟩ => ⟨o, x _ _ ho⟩, w.nd, w.ok⟩
theorem set_four (st : Nat → Nat) {k : Nat} (h : k < 4) (n : Nat) : [V.int (st 0 : Nat), V.int (st 1 : Nat), V.int (st 2 : Nat), V.int (st 3 : Nat)].set k (.int (n : Nat)) = [V.int (setN st k n 0 : Nat), V.int (setN st k n 1 : Nat), V.int (setN st k n 2 : Nat), V.int (setN st k n 3 : Nat)] := by
  have : k = 0 ∨ k = 1 ∨ k = 2 ∨ k = 3 := by omega
  rcases this with rfl | rfl | rfl | rfl <;> rfl
theorem at_four (f : Nat → V) {k : Nat} {i : Int} (h : k < 4) (e : i = (k : Int)) : atI [f 0, f 1, f 2, f 3] i = some (f k) := by
  subst e
  have : k = 0 ∨ k = 1 ∨ k = 2 ∨ k = 3 := by omega
  rcases this with rfl | rfl | rfl | rfl <;> rfl
theorem ix_four {k : Nat} {i : Int} (h : k < 4) (e : i = (k : Int)) : ixN 4 i = some k := by
  subst e
  have : k = 0 ∨ k = 1 ∨ k = 2 ∨ k = 3 := by omega
  rcases this with rfl | rfl | rfl | rfl <;> rfl
/-- a desk has heard -/
theorem W52.hear (w : W52 K H CS CD s a g p nu st last) {k : Nat} (hk : k < 4) {nu' : Addr} (x : ExtL [p k, nu k] H H') (t : TK K H H') (hn : nu' = nu k ∨ H nu' = none) (ho : ∃ o, H' (nu k) = some o) (d : DkAt K H' CD (p k) nu' last (vw (g.cs.take last))) :
    H' g.tl = some (.lst [.int (st 0 : Nat), .int (st 1 : Nat), .int (st 2 : Nat), .int (st 3 : Nat)]) ∧ W52 K (upd H' g.tl (.lst [.int (setN st k last 0 : Nat), .int (setN st k last 1 : Nat), .int (setN st k last 2 : Nat), .int (setN st k last 3 : Nat)])) CS CD s a g p (setN nu k nu') (setN st k last) last := by
  have ho' := ho
  have bs : ∀ y ∈ [s, a, g.tl] ++ g.cos, y ∉ [p k, nu k] := fun y hy m => by
    rcases List.mem_cons.mp m with e | m
    · exact (w.sp.pb k hk).1 (e ▸ hy)
    · exact (w.sp.pb k hk).2 (List.mem_singleton.mp m ▸ hy)
  have htl := x _ _ (bs g.tl (by simp)) w.tl
  have t2 : TK K H' (upd H' g.tl (.lst [.int (setN st k last 0 : Nat), .int (setN st k last 1 : Nat), .int (setN st k last 2 : Nat), .int (setN st k last 3 : Nat)])) := tk_put htl
  obtain ⟨m1, m2, m3, m4, m5⟩ := w.move (H' := upd H' g.tl (.lst [.int (setN st k last 0 : Nat), .int (setN st k last 1 : Nat), .int (setN st k last 2 : Nat), .int (setN st k last 3 : Nat)])) (fun y hy o ho => by
    rw [upd_ne (w.cne hy (by simp))]
    exact x _ _ (bs y (List.mem_append_right _ hy)) ho) (t.trans t2)
  obtain ⟨dx, hob⟩ := d.ob
  obtain ⟨kvs, m', hnu, _⟩ := d.nu
  have dtl : ∀ y, y ∉ [s, a, g.tl] ++ g.cos → y ≠ g.tl := fun y h e => h (by rw [e]; simp)
  have keepd : ∀ y, (∃ o, H y = some o) → ∃ o, (upd H' g.tl (.lst [.int (setN st k last 0 : Nat), .int (setN st k last 1 : Nat), .int (setN st k last 2 : Nat), .int (setN st k last 3 : Nat)])) y = some o := fun y ⟨o, ho⟩ => by
    by_cases e : y = g.tl
    · rw [e]; exact ⟨_, upd_same⟩
    · rw [upd_ne e]
      by_cases e2 : y = p k
      · rw [e2]; exact ⟨_, hob⟩
      · by_cases e3 : y = nu k
        · rw [e3]; exact ho'
        · exact ⟨o, x _ _ (by simp [e2, e3]) ho⟩
  have nut : nu' ≠ g.tl := by
    rcases hn with e | e
    · exact fun z => (w.sp.pb k hk).2 (by rw [← e, z]; simp)
    · exact fun z => by rw [z, w.tl] at e; cases e
  refine ⟨htl, m1, m2, m3, m4, upd_same, m5, fun j hj => ?_, w.sp.step hk (hn.imp (fun e => e) fun e => e) keepd ⟨.dK kvs, by rw [upd_ne nut]; exact hnu⟩, w.nd, w.ok⟩
  by_cases e : j = k
  · subst e
    rw [setN_at, setN_at]
    exact ⟨d.ext (fun o h => by rw [upd_ne (dtl _ (w.sp.pb j hj).1)]; exact h) (fun o h => by rw [upd_ne nut]; exact h) t2, Nat.le_refl _⟩
  · rw [setN_ne _ _ e, setN_ne _ _ e]
    have n1 : ∀ y, y = p j ∨ y = nu j → y ∉ [p k, nu k] := fun y hy m => by
      rcases List.mem_cons.mp m with z | z
      · rcases hy with hy | hy
        · exact (w.sp.pp j k hj hk e).1 (hy.symm.trans z)
        · exact w.sp.pn k j hk hj (z.symm.trans hy)
      · have z := List.mem_singleton.mp z
        rcases hy with hy | hy
        · exact w.sp.pn j k hj hk (hy.symm.trans z)
        · exact (w.sp.pp j k hj hk e).2 (hy.symm.trans z)
    exact ⟨(w.dk j hj).1.ext (fun o h => by rw [upd_ne (dtl _ (w.sp.pb j hj).1)]; exact x _ _ (n1 _ (.inl rfl)) h) (fun o h => by rw [upd_ne (dtl _ (w.sp.pb j hj).2)]; exact x _ _ (n1 _ (.inr rfl)) h) (t.trans t2), (w.dk j hj).2⟩
theorem W52.flk (w : W52 K H CS CD s a g p nu st last) (x : ExtL [g.sp, g.sc, g.sn] H H') : ∃ fs, H' g.fl = some (.lst fs) := by
  obtain ⟨fs, h1, h2⟩ := w.fl
  have nd := w.nd
  simp only [Gd.cos, List.cons_append, List.nil_append, List.nodup_cons, List.mem_cons, List.not_mem_nil, or_false, not_or, List.nodup_nil, and_true, not_false_eq_true] at nd
  obtain ⟨_, _, _, ⟨p1, p2, p3, p4, p5, p6⟩, ⟨c1, c2, c3, c4, c5⟩, ⟨n1, n2, n3, n4⟩, _⟩ := nd
  exact ⟨fs, x _ _ (by simp [Ne.symm p6, Ne.symm c5, Ne.symm n4]) h1⟩
theorem W52.pcn (w : W52 K H CS CD s a g p nu st last) : g.sp ≠ g.sc ∧ g.sp ≠ g.sn ∧ g.sc ≠ g.sn := by
  have nd := w.nd
  simp only [Gd.cos, List.cons_append, List.nil_append, List.nodup_cons, List.mem_cons, List.not_mem_nil, or_false, not_or, List.nodup_nil, and_true, not_false_eq_true] at nd
  obtain ⟨_, _, _, ⟨p1, p2, p3, p4, p5, p6⟩, ⟨c1, c2, c3, c4, c5⟩, ⟨n1, n2, n3, n4⟩, _⟩ := nd
  exact ⟨p1, p2, c1⟩
theorem W52.srcn (w : W52 K H CS CD s a g p nu st last) {c : Nat} (S : Src H s a c) {H' : Hp} (x : ExtL [g.sp, g.sc, g.sn] H H') : Src H' s a c :=
  S.extL x (fun m => by
    have : s ∈ g.cos := by
      simp only [List.mem_cons, List.not_mem_nil, or_false] at m
      rcases m with e | e | e <;> rw [e] <;> simp [Gd.cos]
    exact w.cne this (by simp) rfl) (fun m => by
    have : a ∈ g.cos := by
      simp only [List.mem_cons, List.not_mem_nil, or_false] at m
      rcases m with e | e | e <;> rw [e] <;> simp [Gd.cos]
    exact w.cne this (by simp) rfl)
/-- the story goes on -/
theorem W52.done (w : W52 K H CS CD s a g p nu st last) {c : Chg} (hc : g.cs[last]? = some c) (x : ExtL [g.sp, g.sc, g.sn] H H') (t : TK K H H') (sy : StAt K H' CS g.sp g.sc g.sn g.lim (g.cs.take last ++ [c])) {H2 : Hp} (m : Same H' H2) {v : V} (dv : DV K H2 (due51 g.lim (g.cs.take (last + 1)) 0) v) :
    ∃ fs, H2 g.fl = some (.lst fs) ∧ fs.length ≤ 1000 ∧ W52 K (upd H2 g.fl (.lst (fs ++ [v]))) CS CD s a g p nu st (last + 1) := by
  obtain ⟨fs, h1, h2⟩ := w.fl
  have nd := w.nd
  simp only [Gd.cos, List.cons_append, List.nil_append, List.nodup_cons, List.mem_cons, List.not_mem_nil, or_false, not_or, List.nodup_nil, and_true, not_false_eq_true] at nd
  obtain ⟨⟨s1, s2, s3, s4, s5, s6, s7, s8, s9⟩, ⟨a1, a2, a3, a4, a5, a6, a7, a8⟩, ⟨t1, t2, t3, t4, t5, t6, t7⟩, ⟨p1, p2, p3, p4, p5, p6⟩, ⟨c1, c2, c3, c4, c5⟩, ⟨n1, n2, n3, n4⟩, ⟨l1, l2, l3⟩, ⟨v1, v2⟩, d1⟩ := nd
  have f2 : H2 g.fl = some (.lst fs) := m _ _ (x _ _ (by simp [Ne.symm p6, Ne.symm c5, Ne.symm n4]) h1)
  have t3' : TK K H2 (upd H2 g.fl (.lst (fs ++ [v]))) := tk_put f2
  have tt : TK K H (upd H2 g.fl (.lst (fs ++ [v]))) := t.trans ((TK.same m).trans t3')
  have kp : ∀ y o, y ∉ [g.sp, g.sc, g.sn] → y ≠ g.fl → H y = some o → (upd H2 g.fl (.lst (fs ++ [v]))) y = some o := fun y o k1 k2 h => by
    rw [upd_ne k2]; exact m _ _ (x _ _ k1 h)
  have lt := (List.getElem?_eq_some_iff.mp hc).1
  have fl : fs.length = last + 1 := by
    have := h2.len
    unfold firD at this
    rw [List.length_map, List.length_range] at this
    exact this
  obtain ⟨dx, hob⟩ := sy.ob
  obtain ⟨vs, hch, _⟩ := sy.ch
  obtain ⟨kv, hnu, _⟩ := sy.nu
  refine ⟨fs, f2, by have := w.ok.2.1; omega, ?_, ⟨kp _ _ (by simp [Ne.symm p3, Ne.symm c2, Ne.symm n1]) l3 w.cl.1, w.cl.2.tk tt⟩, ⟨kp _ _ (by simp [Ne.symm p4, Ne.symm c3, Ne.symm n2]) v2 w.vl.1, w.vl.2.tk tt⟩, kp _ _ (by simp [Ne.symm p5, Ne.symm c4, Ne.symm n3]) d1 w.dl, kp _ _ (by simp [t1, t2, t3]) t7 w.tl, ⟨_, upd_same, ?_⟩, fun k hk => ?_, w.sp.keep fun y ⟨o, ho⟩ => ?_, w.nd, w.ok.1, w.ok.2.1, w.ok.2.2.1, lt⟩
  · rw [List.take_add_one, hc]
    exact (sy.same m).ext (fun o h => by rw [upd_ne p6]; exact h) (fun o h => by rw [upd_ne c5]; exact h) (fun o h => by rw [upd_ne n4]; exact h) t3'
  · unfold firD
    rw [List.range_succ]
    exact DVs.snoc (f := fun k => due51 g.lim (g.cs.take k) 0) (x := last + 1) (h2.tk tt) (dv.tk t3')
  · have hb := w.sp.pb k hk
    simp only [Gd.cos, List.cons_append, List.nil_append, List.mem_cons, List.not_mem_nil, or_false, not_or] at hb
    obtain ⟨⟨_, _, _, b1, b2, b3, _, _, _, b4⟩, _, _, _, b5, b6, b7, _, _, _, b8⟩ := hb
    exact ⟨(w.dk k hk).1.ext (fun o h => kp _ _ (by simp [b1, b2, b3]) b4 h) (fun o h => kp _ _ (by simp [b5, b6, b7]) b8 h) tt, Nat.le_succ_of_le (w.dk k hk).2⟩
  · by_cases e : y = g.fl
    · rw [e]; exact ⟨_, upd_same⟩
    · by_cases e2 : y ∈ [g.sp, g.sc, g.sn]
      · rw [upd_ne e]
        simp only [List.mem_cons, List.not_mem_nil, or_false] at e2
        rcases e2 with rfl | rfl | rfl
        · exact ⟨_, m _ _ hob⟩
        · exact ⟨_, m _ _ hch⟩
        · exact ⟨_, m _ _ hnu⟩
      · exact ⟨o, kp _ _ e2 e ho⟩
end
theorem desk_new {A : Addr} {H1 H2 : Hp} {p dx nu : Addr} (hp : H1 p = none) (hdx : H1 dx = none) (dp : dx ≠ p) (hnu : (upd (upd H1 dx (.own p)) p (.ins A dx [])) nu = none) (x : ExtL [p] (upd (upd H1 dx (.own p)) p (.ins A dx [])) H2) : Same H1 H2 ∧ H1 nu = none ∧ p ≠ nu := by
  have j1 := same_new (o := HO.own p) hdx
  have jp : (upd H1 dx (.own p)) p = none := by rw [upd_ne dp.symm]; exact hp
  have j12 := j1.trans (same_new (o := HO.ins A dx []) jp)
  exact ⟨fun b o hb => x _ _ (by simpa using ne_of_none hb hp) (j12 _ _ hb), Same.free j12 hnu, fun e => by rw [← e, upd_same] at hnu; cases hnu⟩
theorem Trk.desk {K : PySem.W.Frag} {C : Addr} {H1 H2 : Hp} {p nu : Addr} {n : Nat} {m : Vw} {xs : List Addr} (t : Trk H1 xs) (hp : H1 p = none) (hn : H1 nu = none) (pn : p ≠ nu) (x : Same H1 H2) (d : DkAt K H2 C p nu n m) : Trk H2 (nu :: p :: xs) := by
  obtain ⟨⟨dx, h1⟩, ⟨kvs, m', h2, _⟩⟩ := d
  have t1 := t.cons hp (t.same x) ⟨_, h1⟩
  exact ⟨List.nodup_cons.mpr ⟨fun m => by
    rcases List.mem_cons.mp m with e | m
    · exact pn e.symm
    · obtain ⟨o, ho⟩ := t.2 nu m
      (rw [hn] at ho; cases ho), t1.1⟩, fun y hy => (List.mem_cons.mp hy).elim (fun e => e ▸ ⟨_, h2⟩) (t1.2 y)⟩
def qw {α : Type} (a b c d : α) : Nat → α
  | 0 => a
  | 1 => b
  | 2 => c
  | _ => d
theorem sep_of {H : Hp} {fl tl dl n3 p3 n2 p2 n1 p1 n0 p0 vl cl sn sc sp s a : Addr} (t : Trk H [fl, tl, dl, n3, p3, n2, p2, n1, p1, n0, p0, vl, cl, sn, sc, sp, s, a]) {us ws : List V} {cs : List Chg} {lim : Nat} :
    Sep H ([s, a, tl] ++ Gd.cos ⟨sp, sc, sn, cl, vl, dl, tl, fl, us, ws, cs, lim⟩) (qw p0 p1 p2 p3) (qw n0 n1 n2 n3) ∧ ([s, a, tl] ++ Gd.cos ⟨sp, sc, sn, cl, vl, dl, tl, fl, us, ws, cs, lim⟩).Nodup := by
  obtain ⟨nd, st⟩ := t
  simp only [List.nodup_cons, List.mem_cons, List.not_mem_nil, or_false, not_or, List.nodup_nil, and_true, not_false_eq_true] at nd
  have four : ∀ k, k < 4 → k = 0 ∨ k = 1 ∨ k = 2 ∨ k = 3 := fun k h => by omega
  refine ⟨⟨fun x hx => st x ?_, fun k hk => ?_, fun k hk => ?_, fun j k hj hk jk => ?_, fun j k hj hk => ?_⟩, ?_⟩
  · simp only [Gd.cos, List.cons_append, List.nil_append, List.mem_cons, List.not_mem_nil, or_false] at hx ⊢
    rcases hx with h | h | h | h | h | h | h | h | h | h <;> simp [h]
  · rcases four k hk with rfl | rfl | rfl | rfl <;> exact ⟨st _ (by simp [qw]), st _ (by simp [qw])⟩
  · rcases four k hk with rfl | rfl | rfl | rfl <;> simp only [Gd.cos, qw, List.cons_append, List.nil_append, List.mem_cons, List.not_mem_nil, or_false, not_or] <;> (simp only [eq_comm] at nd ⊢; simp [nd])
  · rcases four k hk with rfl | rfl | rfl | rfl <;> rcases four j hj with rfl | rfl | rfl | rfl <;> first | exact absurd rfl jk | (simp only [qw, ne_eq]; (try simp only [eq_comm] at nd ⊢); simp [nd])
  · rcases four k hk with rfl | rfl | rfl | rfl <;> rcases four j hj with rfl | rfl | rfl | rfl <;> (simp only [qw, ne_eq]; (try simp only [eq_comm] at nd ⊢); simp [nd])
  · simp only [Gd.cos, List.cons_append, List.nil_append, List.nodup_cons, List.mem_cons, List.not_mem_nil, or_false, not_or, List.nodup_nil, and_true, not_false_eq_true]
    simp only [eq_comm] at nd ⊢
    simp [nd]
def sp52_misses (K : PySem.W.Frag) (CS : Addr) : Sp := fun vs H Q _ => ∃ (sp sc sn fl vl : Addr) (fs ws : List V) (lim last : Nat) (cs : List Chg), vs = [.ref sp, .ref fl, .ref vl] ∧ StAt K H CS sp sc sn lim (cs.take last) ∧ H fl = some (.lst fs) ∧ DVs K H (firD lim cs last) fs ∧ H vl = some (.lst ws) ∧ DVs K H (vwsD cs) ws ∧ ChOk cs ∧ cs.length ≤ 100 ∧ lim ≤ 1000 ∧ last ≤ cs.length ∧
  ∀ H', Same H H' → Q (.bl true) H'
def sp52_hears (K : PySem.W.Frag) (CS CD : Addr) : Sp := fun vs H Q _ => ∃ (s a : Addr) (g : Gd) (p nu : Nat → Addr) (st : Nat → Nat) (last c : Nat), vs = [.ref s, .ref g.sp, .ref g.dl, .ref g.tl, .ref g.cl, .ref g.vl, .int (last : Nat)] ∧ W52 K H CS CD s a g p nu st last ∧ Src H s a (c + 8) ∧
  ∀ nu' st' H', W52 K H' CS CD s a g p nu' st' last → Src H' s a c → Q (.bl true) H'
end Z
namespace Z
open PySem L2
section
variable {P : Program} {w : World} {K : PySem.W.Frag} {mg : Str → Option Value} {base : Heap}
theorem ok__law_mix (D : Df K mg "_law_mix" s__law_mix ["seed", "turn"]) (T : Tx mg) : Cal P w K mg base "_law_mix" ["seed", "turn"] 1 sp__law_mix := by
  obtain ⟨f, fd, F, gf, bf⟩ := D
  refine ⟨f, fd, F.ok sc__law_mix (fun vs H Q E h => ?_) (fun cdv A outer s H vs Q E hr h => ?_), gf, F.kp, bf⟩
  · obtain ⟨x, y, rfl, _⟩ := h; rfl
  · obtain ⟨x, y, rfl, x0, x1, y0, y1, q⟩ := h
    refine ⟨_, (pss_cons (ps_set (i := 2) sc__law_mix.nd rfl (Or.inl rfl) (pe_op op_mod (pe_callTy call_int1 (by rfl) T.n_int (by decide +kernel) (pa_cons (pe_op op_add (pe_op op_add (pe_op op_mul (pv 0) pe_int) (pe_op op_mul (pv 1) pe_int)) pe_int) pa_nil)) pe_int))
      (pss_cons (ps_set (i := 2) sc__law_mix.nd rfl (Or.inl rfl) (pe_op op_mod (pe_callTy call_int1 (by rfl) T.n_int (by decide +kernel) (pa_cons (pe_op op_add (pe_op op_add (pe_op op_mul (pv 2) (pv 2)) (pe_op op_mul (pv 1) pe_int)) pe_int) pa_nil)) pe_int))
      (pss_cons (ps_set (i := 2) sc__law_mix.nd rfl (Or.inl rfl) (pe_op op_mod (pe_callTy call_int1 (by rfl) T.n_int (by decide +kernel) (pa_cons (pe_op op_add (pe_op op_add (pe_op op_mul (pv 2) pe_int) (pe_op op_mul (pe_op op_mul (pv 1) (pv 1)) pe_int)) pe_int) pa_nil)) pe_int))
      (pss_one (ps_ret (pv 2)))))), ?_⟩

    refine ⟨_, rfl, _, _, rfl, rfl, .inr (by decide), _, rfl, _, _, rfl, rfl, .inr (by decide), _, _, rfl, rfl, _, _, rfl, rfl, .inl ⟨_, rfl, _, _, rfl, rfl, (by show (0 : Int) < _; decide), ?_⟩⟩
    refine ⟨_, rfl, _, rfl, _, _, rfl, rfl, .inl ⟨by omega, by omega⟩, _, rfl, _, _, rfl, rfl, .inr (by decide), _, _, rfl, rfl, _, _, rfl, rfl, .inl ⟨_, rfl, _, _, rfl, rfl, (by show (0 : Int) < _; decide), ?_⟩⟩
    refine ⟨_, rfl, _, _, rfl, rfl, .inr (by decide), _, rfl, _, rfl, _, _, rfl, rfl, .inl ⟨by omega, by omega⟩, _, _, rfl, rfl, .inr (by decide), _, _, rfl, rfl, _, _, rfl, rfl, .inl ⟨_, rfl, _, _, rfl, rfl, (by show (0 : Int) < _; decide), ?_⟩⟩
    exact ⟨_, rfl, q _ (Int.emod_nonneg _ (by decide)) (by omega)⟩
end
end Z
namespace Z
open PySem L2
section
variable {P : Program} {w : World} {K : PySem.W.Frag} {mg : Str → Option Value} {base : Heap}
theorem ok__law_source (D : Df K mg "_law_source" s__law_source ["script"]) (T : Tx mg) (C__law_mix : Cal P w K mg base "_law_mix" ["seed", "turn"] 1 sp__law_mix) : Cal P w K mg base "_law_source" ["script"] 2 (sp__law_source K) := by
  obtain ⟨f__law_mix, fd__law_mix, G__law_mix, g__law_mix, k__law_mix, b__law_mix⟩ := C__law_mix
  obtain ⟨f, fd, F, gf, bf⟩ := D
  refine ⟨f, fd, F.ok sc__law_source (fun vs H Q E h => ?_) (fun cdv A outer s H vs Q E hr h => ?_), gf, F.kp, bf⟩
  · obtain ⟨a, ns, rfl, _⟩ := h; rfl
  · obtain ⟨a, ns, rfl, hS, hlen, q⟩ := h
    refine ⟨_, (pss_cons (ps_set (i := 1) sc__law_source.nd rfl (Or.inl rfl) pe_int)
      (pss_cons (ps_for PassesOwn.never rfl (pi_range1 (by rfl) T.n_range (pa_cons (pe_callB call_len_seq (by rfl) T.n_len PySem.boot_len (pa_cons (pv 0) pa_nil)) pa_nil)) (pg_name (i := 2) sc__law_source.nd rfl (Or.inl rfl))
      (pss_one (ps_set (i := 1) sc__law_source.nd rfl (Or.inl rfl) (pe_call G__law_mix (hr.mono (by decide)) (by rfl) g__law_mix k__law_mix b__law_mix .nil pass0 (pa_cons (pe_op op_add (pv 1) (pe_op op_mod (pe_callTy call_int1 (by rfl) T.n_int (by decide +kernel) (pa_cons (pe_ix ix_list (pv 0) (pv 2) (fun _ _ => rfl)) pa_nil)) pe_int)) (pa_cons (pv 2) pa_nil))))))
      (pss_one (ps_ret (pe_lst (pa_cons (pe_callTy call_list_of (by rfl) T.n_list (by decide +kernel) (pa_cons (pv 0) pa_nil)) (pa_cons pe_int (pa_cons pe_int (pa_cons (pv 1) (pa_cons pe_int pa_nil)))))))))), ?_⟩
    refine ⟨_, rfl, a, _, rfl, .inl hS, _, rfl, by rw [List.length_map]; omega, by rw [List.length_map]; omega, ?_⟩
    refine for_range (lo := 0) (n := (((ns.map V.int).length : Int)).toNat) (fun i σ H' => ∃ (e : Int) (v : Option V), σ = [some (.ref a), some (.int e), v] ∧ H' = H ∧ 0 ≤ e ∧ e < 2147483647) ⟨17, none, rfl, rfl, by decide, by decide⟩ ?_ ?_
    · rintro i σ H' hi ⟨e, v, rfl, rfl, e0, e1⟩
      rw [List.length_map] at hi
      have hi' : i < ns.length := by omega
      refine ⟨_, rfl, _, rfl, _, rfl, a, _, _, .int ns[i], rfl, rfl, hS, ?_, .inl ⟨_, rfl, _, _, rfl, rfl, (by show (0 : Int) < _; decide), _, _, rfl, rfl, _, rfl, ?_⟩⟩
      · rw [Int.zero_add]
        exact atI_nat (by rw [List.getElem?_map, List.getElem?_eq_getElem hi']; rfl)
      · refine ⟨_, _, rfl, ?_, ?_, ?_, ?_, fun v v0 v1 => ?_⟩
        · have := Int.emod_nonneg ns[i] (by decide : (2147483647 : Int) ≠ 0); omega
        · have := Int.emod_lt_of_pos ns[i] (by decide : (0 : Int) < 2147483647); omega
        · omega
        · omega
        · exact ⟨v, _, rfl, rfl, v0, v1⟩
    · rintro σ H' ⟨e, v, rfl, rfl, e0, e1⟩
      refine ⟨_, rfl, a, _, rfl, .inl hS, fun l hl => ?_⟩
      refine ⟨_, rfl, by show 5 ≤ sizeLine; decide, fun s hs => ?_⟩
      have hsl : s ≠ l := fun z => by rw [z, upd_same] at hs; cases hs
      have hs0 : H' s = none := by rw [upd_ne hsl] at hs; exact hs
      refine q s l _ hs0 ((same_new hl).trans (same_new hs)) ⟨ns, 0, 0, e, 0, upd_same, by rw [upd_ne hsl.symm, upd_same], hsl.symm, hlen, by decide, by decide, by decide, e0, e1, by decide, by decide⟩
end
end Z
namespace Z
open PySem L2
section
variable {P : Program} {w : World} {K : PySem.W.Frag} {mg : Str → Option Value} {base : Heap}
theorem ok__law_draw (D : Df K mg "_law_draw" s__law_draw ["source", "many"]) (T : Tx mg) (C__law_mix : Cal P w K mg base "_law_mix" ["seed", "turn"] 1 sp__law_mix) : Cal P w K mg base "_law_draw" ["source", "many"] 2 sp__law_draw := by
  obtain ⟨f__law_mix, fd__law_mix, G__law_mix, g__law_mix, k__law_mix, b__law_mix⟩ := C__law_mix
  obtain ⟨f, fd, F, gf, bf⟩ := D
  refine ⟨f, fd, F.ok sc__law_draw (fun vs H Q E h => ?_) (fun cdv A outer s H vs Q E hr h => ?_), gf, F.kp, bf⟩
  · obtain ⟨s, a, m, c, rfl, _⟩ := h; rfl
  · obtain ⟨s, a, m, c, rfl, m0, m1, hS, q⟩ := h
    refine ⟨_, (C8.pss_cut (ps_if (PW.pt (pw_and (pt_cmpR op_eq (pe_ix ix_list (pv 0) pe_int (fun _ _ => rfl)) pe_int (nomark _)) (pw_and (pt_cmpR op_lt (pe_ix ix_list (pv 0) pe_int (fun _ _ => rfl)) (pe_callB call_len_seq (by rfl) T.n_len PySem.boot_len (pa_cons (pe_ix ix_list (pv 0) pe_int (fun _ _ => rfl)) pa_nil)) (nomark _)) (pw_and1 (pt_cmpR op_eq (pe_op op_mod (pe_callTy call_int1 (by rfl) T.n_int (by decide +kernel) (pa_cons (pe_ix ix_list (pv 0) pe_int (fun _ _ => rfl)) pa_nil)) pe_int) pe_int (nomark _))))))
      (pss_cons (ps_set (i := 2) sc__law_draw.nd rfl (Or.inl rfl) (pe_ix ix_list (pe_ix ix_list (pv 0) pe_int (fun _ _ => rfl)) (pe_ix ix_list (pv 0) pe_int (fun _ _ => rfl)) (fun _ _ => rfl)))
        (pss_cons (ps_asg (pe_op op_add (pe_ix ix_list (pv 0) pe_int (fun _ _ => rfl)) pe_int) (pg_sub (pv 0) pe_int set_list))
        (pss_one (ps_if (pt_cmpR op_ge (pe_callB call_abs (by rfl) T.n_abs (by decide +kernel) (pa_cons (pv 2) pa_nil)) (pe_op op_pow pe_int pe_int) (nomark _))
        (pss_one (ps_asg (pe_op op_and (pe_callB call_abs (by rfl) T.n_abs (by decide +kernel) (pa_cons (pv 2) pa_nil)) (pe_op op_sub (pe_op op_shl pe_int pe_int) pe_int)) (pg_sub (pv 0) pe_int set_list)))
        (pss_one (ps_asg (pe_call G__law_mix (hr.mono (by decide)) (by rfl) g__law_mix k__law_mix b__law_mix .nil pass0 (pa_cons (pe_op op_add (pe_ix ix_list (pv 0) pe_int (fun _ _ => rfl)) (pe_op op_mod (pe_callTy call_int1 (by rfl) T.n_int (by decide +kernel) (pa_cons (pv 2) pa_nil)) pe_int)) (pa_cons (pe_ix ix_list (pv 0) pe_int (fun _ _ => rfl)) pa_nil))) (pg_sub (pv 0) pe_int set_list)))))))
      pss_nil)
      (pss_cons (ps_if (pt_cmpR op_gt (pe_ix ix_list (pv 0) pe_int (fun _ _ => rfl)) pe_int (nomark _))
      (pss_cons (ps_set (i := 3) sc__law_draw.nd rfl (Or.inl rfl) (pe_op op_mod (pe_callTy call_int1 (by rfl) T.n_int (by decide +kernel) (pa_cons (pe_ix ix_list (pv 0) pe_int (fun _ _ => rfl)) pa_nil)) (pv 1)))
        (pss_cons (ps_asg (pe_op op_fdivN (pe_callTy call_int1 (by rfl) T.n_int (by decide +kernel) (pa_cons (pe_ix ix_list (pv 0) pe_int (fun _ _ => rfl)) pa_nil)) (pv 1)) (pg_sub (pv 0) pe_int set_list))
        (pss_one (ps_ret (pv 3)))))
      pss_nil)
      (pss_cons (ps_asg (pe_op op_add (pe_ix ix_list (pv 0) pe_int (fun _ _ => rfl)) pe_int) (pg_sub (pv 0) pe_int set_list))
      (pss_one (ps_ret (pe_op op_mod (pe_callTy call_int1 (by rfl) T.n_int (by decide +kernel) (pa_cons (pe_op op_fdiv (pe_call G__law_mix (hr.mono (by decide)) (by rfl) g__law_mix k__law_mix b__law_mix .nil pass0 (pa_cons (pe_ix ix_list (pv 0) pe_int (fun _ _ => rfl)) (pa_cons (pe_ix ix_list (pv 0) pe_int (fun _ _ => rfl)) pa_nil))) pe_int) pa_nil)) (pv 1))))))), ?_⟩
    refine ⟨fun σ' H' => (∃ v2 v3, σ' = [some (.ref s), some (.int m), v2, v3]) ∧ Src H' s a (c + 1) ∧ Ext s H H', ?_, ?_⟩
    · obtain ⟨ns, i, b, e, t, h1, h2, as, h4, h5, h6, h7, h8, h9, h10, h11⟩ := id hS
      have hL : SqL K H s [.ref a, .int i, .int b, .int e, .int t] := SqL.of h1
      refine ⟨_, rfl, _, _, _, _, rfl, rfl, hL, rfl, rfl, _, rfl, ite2 (fun c1 => ?_) (fun c1 => iteF ⟨⟨_, _, rfl⟩, hS, Ext.refl _ _⟩)⟩
      refine ⟨_, rfl, _, _, _, _, rfl, rfl, hL, rfl, _, rfl, _, _, _, _, rfl, rfl, hL, rfl, a, _, rfl, .inl (SqL.of h2), _, _, rfl, rfl, _, rfl, ite2 (fun c2 => ?_) (fun c2 => iteF ⟨⟨_, _, rfl⟩, hS, Ext.refl _ _⟩)⟩
      refine ⟨_, rfl, _, _, _, _, rfl, rfl, hL, rfl, .inl ⟨_, rfl, _, _, rfl, rfl, (by show (0 : Int) < 6; decide), rfl, _, rfl, ite2 (fun c3 => ?_) (fun c3 => ⟨⟨_, _, rfl⟩, hS, Ext.refl _ _⟩)⟩⟩
      have hi : i < ns.length := by
        have := of_decide_eq_true c2
        rw [List.length_map] at this
        exact this
      have hi' : i.toNat < ns.length := by omega
      -- cell = source[0][source[1]]
      refine ⟨_, rfl, _, _, _, _, rfl, rfl, hL, rfl, _, rfl, _, _, _, _, rfl, rfl, hL, rfl, a, _, _, .int ns[i.toNat], rfl, rfl, SqL.of h2, at_of (j := i.toNat) (by omega) (by rw [List.getElem?_map, List.getElem?_eq_getElem hi']; rfl), ?_⟩
      -- source[1] = source[1] + 1
      refine ⟨_, rfl, _, _, _, _, rfl, rfl, hL, rfl, _, _, rfl, rfl, _, rfl, _, _, _, 1, rfl, rfl, h1, rfl, ?_⟩
      refine ⟨_, rfl, _, rfl, _, _, rfl, rfl, ⟨by decide, by decide, by decide⟩, _, _, rfl, rfl, _, rfl, ite2 (fun c4 => ?_) (fun c4 => ?_)⟩
      · refine ⟨_, rfl, _, rfl, _, _, rfl, rfl, ⟨by decide, by decide, by decide⟩, _, _, rfl, rfl, _, _, rfl, rfl, _, rfl, _, _, _, 2, rfl, rfl, upd_same, rfl, ?_⟩
        refine ⟨⟨_, _, rfl⟩, ?_, ?_⟩
        · refine ⟨ns, i + 1, _, e, t, upd_same, by rw [upd_ne as, upd_ne as]; exact h2, as, h4, by omega, by omega, ?_, h8, h9, h10, h11⟩
          exact and_nn (by split <;> omega) _
        · exact Ext.put.trans Ext.put
      · refine ⟨_, rfl, _, _, _, _, rfl, rfl, SqL.of upd_same, rfl, _, rfl, .inl ⟨_, rfl, _, _, rfl, rfl, (by show (0 : Int) < 2147483647; decide), _, _, rfl, rfl, _, rfl, _, _, _, _, rfl, rfl, SqL.of upd_same, rfl, _, _, rfl, ?_, ?_, ?_, ?_, fun v v0 v1 => ?_⟩⟩
        · have := Int.emod_nonneg ns[i.toNat] (by decide : (2147483647 : Int) ≠ 0); omega
        · have := Int.emod_lt_of_pos ns[i.toNat] (by decide : (0 : Int) < 2147483647); omega
        · omega
        · omega
        · refine ⟨_, rfl, _, _, _, 3, rfl, rfl, upd_same, rfl, ⟨_, _, rfl⟩, ?_, Ext.put.trans Ext.put⟩
          exact ⟨ns, i + 1, b, v, t, upd_same, by rw [upd_ne as, upd_ne as]; exact h2, as, h4, by omega, by omega, h7, v0, v1, h10, h11⟩
    · rintro σ' H' ⟨⟨v2, v3, rfl⟩, hS', hx⟩
      obtain ⟨ns, i, b, e, t, h1, h2, as, h4, h5, h6, h7, h8, h9, h10, h11⟩ := id hS'
      have hL : SqL K H' s [.ref a, .int i, .int b, .int e, .int t] := SqL.of h1
      refine ⟨_, rfl, _, _, _, _, rfl, rfl, hL, rfl, _, _, rfl, rfl, _, rfl, ite2 (fun c1 => ?_) (fun c1 => ?_)⟩
      · refine ⟨_, rfl, _, _, _, _, rfl, rfl, hL, rfl, .inl ⟨_, rfl, _, rfl, _, _, rfl, rfl, m0, ?_⟩⟩
        refine ⟨_, rfl, _, _, _, _, rfl, rfl, hL, rfl, .inl ⟨_, rfl, _, rfl, _, _, rfl, rfl, ⟨by omega, by omega⟩, _, rfl, _, _, _, 2, rfl, rfl, h1, rfl, ?_⟩⟩
        refine ⟨_, rfl, q _ _ (Int.emod_nonneg _ (by omega)) (Int.emod_lt_of_pos _ m0) (hx.trans Ext.put) ?_⟩
        refine ⟨ns, i, _, e, t, upd_same, by rw [upd_ne as]; exact h2, as, h4, h5, h6, ?_, h8, h9, h10, by omega⟩
        exact Int.fdiv_nonneg h7 (by omega)
      · refine ⟨_, rfl, _, _, _, _, rfl, rfl, hL, rfl, _, _, rfl, rfl, _, rfl, _, _, _, 4, rfl, rfl, h1, rfl, ?_⟩
        refine ⟨_, rfl, _, _, _, _, rfl, rfl, SqL.of upd_same, rfl, _, rfl, _, _, _, _, rfl, rfl, SqL.of upd_same, rfl, _, _, rfl, h8, by omega, by omega, by omega, fun v v0 v1 => ?_⟩
        refine ⟨_, _, rfl, rfl, ⟨by decide, by decide⟩, .inl ⟨_, rfl, _, rfl, _, _, rfl, rfl, m0, ?_⟩⟩
        refine q _ _ (Int.emod_nonneg _ (by omega)) (Int.emod_lt_of_pos _ m0) (hx.trans Ext.put) ?_
        exact ⟨ns, i, b, e, t + 1, upd_same, by rw [upd_ne as]; exact h2, as, h4, h5, h6, h7, h8, h9, by omega, by omega⟩
end
end Z
namespace Z
open PySem L2
section
variable {P : Program} {w : World} {K : PySem.W.Frag} {mg : Str → Option Value} {base : Heap}
theorem ok__law_is_int (D : Df K mg "_law_is_int" s__law_is_int ["value"]) (T : Tx mg)  : Cal P w K mg base "_law_is_int" ["value"] 1 (sp__law_is_int K) := by
  obtain ⟨f, fd, F, gf, bf⟩ := D
  refine ⟨f, fd, F.ok sc__law_is_int (fun vs H Q E h => ?_) (fun cdv A outer s H vs Q E hr h => ?_), gf, F.kp, bf⟩
  · obtain ⟨i, rfl, _⟩ := h; rfl
  · obtain ⟨i, rfl, q⟩ := h
    refine ⟨_, (pss_one (ps_ret (pe_and (pe_callB call_isi (by rfl) T.n_isinstance (by decide +kernel) (pa_cons (pv 0) (pa_cons (pe_bltn (v := .ty "int") (by rfl) T.n_int (by decide +kernel) rfl) pa_nil))) (pe_one (pe_not (pe_callB call_isi (by rfl) T.n_isinstance (by decide +kernel) (pa_cons (pv 0) (pa_cons (pe_bltn (v := .ty "bool") (by rfl) T.n_bool (by decide +kernel) rfl) pa_nil)))))))), ?_⟩
    refine ⟨_, rfl, _, _, _, _, true, rfl, .ty _, .base (.int i), kit_ty (by decide +kernel), _, rfl, ?_⟩
    refine iteT ⟨_, rfl, _, _, _, _, false, rfl, .ty _, .base (.int i), kit_ty (by decide +kernel), _, rfl, q⟩

theorem ok__law_same (D : Df K mg "_law_same" s__law_same ["actual", "due"]) (T : Tx mg) (C__law_is_int : Cal P w K mg base "_law_is_int" ["value"] 1 (sp__law_is_int K)) : ∀ n, Cal P w K mg base "_law_same" ["actual", "due"] (n + 1) (sp__law_same K n)
  | 0 => by
    obtain ⟨f, fd, F, gf, bf⟩ := D
    exact ⟨f, fd, ⟨fun vs H Q E h => by obtain ⟨_, _, _, _, _, _, h, _⟩ := h; exact h.elim, fun A outer s H args us vs Q E _ _ _ _ h => by obtain ⟨_, _, _, _, _, _, h, _⟩ := h; exact h.elim⟩, gf, F.kp, bf⟩
  | n + 1 => by
    obtain ⟨f__law_same, fd__law_same, G__law_same, g__law_same, k__law_same, b__law_same⟩ := ok__law_same D T C__law_is_int n
    obtain ⟨f__law_is_int, fd__law_is_int, G__law_is_int, g__law_is_int, k__law_is_int, b__law_is_int⟩ := C__law_is_int
    obtain ⟨f, fd, F, gf, bf⟩ := D
    refine ⟨f, fd, F.ok sc__law_same (fun vs H Q E h => ?_) (fun cdv A outer s H vs Q E hr h => ?_), gf, F.kp, bf⟩
    · obtain ⟨d, v, u, rfl, _⟩ := h; rfl
    · obtain ⟨d, v, u, rfl, hv, hu, hd, q⟩ := h
      refine ⟨_, (pss_cons (ps_if (pt_val (pe_callB call_isi (by rfl) T.n_isinstance (by decide +kernel) (pa_cons (pv 1) (pa_cons (pe_bltn (v := .ty "tuple") (by rfl) T.n_tuple (by decide +kernel) rfl) pa_nil))))
      (pss_cons (ps_if (PW.pt (pw_or (pt_not (pt_val (pe_callB call_isi (by rfl) T.n_isinstance (by decide +kernel) (pa_cons (pv 0) (pa_cons (pe_bltn (v := .ty "tuple") (by rfl) T.n_tuple (by decide +kernel) rfl) pa_nil))))) (pw_or1 (pt_cmpR op_ne (pe_callB call_len_seq (by rfl) T.n_len PySem.boot_len (pa_cons (pv 0) pa_nil)) (pe_callB call_len_seq (by rfl) T.n_len PySem.boot_len (pa_cons (pv 1) pa_nil)) (nomark _)))))
        (pss_one (ps_ret pe_bl))
        pss_nil)
        (pss_cons (ps_for PassesOwn.never rfl (pi_range1 (by rfl) T.n_range (pa_cons (pe_callB call_len_seq (by rfl) T.n_len PySem.boot_len (pa_cons (pv 1) pa_nil)) pa_nil)) (pg_name (i := 2) sc__law_same.nd rfl (Or.inl rfl))
        (pss_one (ps_if (pt_not (pt_val (pe_call G__law_same hr (by rfl) g__law_same k__law_same b__law_same .nil pass0 (pa_cons (pe_ix ix_tup (pv 0) (pv 2) (fun _ _ => rfl)) (pa_cons (pe_ix ix_tup (pv 1) (pv 2) (fun _ _ => rfl)) pa_nil)))))
          (pss_one (ps_ret pe_bl))
          pss_nil)))
        (pss_one (ps_ret pe_bl))))
      pss_nil)
      (pss_cons (ps_if (pt_cmpR op_isN (pv 1) pe_non (nomark _))
      (pss_one (ps_ret (pe_cmpR op_isN (pv 0) pe_non (nomark _))))
      pss_nil)
      (pss_cons (ps_if (pt_val (pe_callB call_isi (by rfl) T.n_isinstance (by decide +kernel) (pa_cons (pv 1) (pa_cons (pe_bltn (v := .ty "bool") (by rfl) T.n_bool (by decide +kernel) rfl) pa_nil))))
      (pss_one (ps_ret (pe_and (pe_callB call_isi (by rfl) T.n_isinstance (by decide +kernel) (pa_cons (pv 0) (pa_cons (pe_bltn (v := .ty "bool") (by rfl) T.n_bool (by decide +kernel) rfl) pa_nil))) (pe_one (pe_cmpR op_eq (pv 0) (pv 1) (nomark _))))))
      pss_nil)
      (pss_cons (ps_if (pt_val (pe_callB call_isi (by rfl) T.n_isinstance (by decide +kernel) (pa_cons (pv 1) (pa_cons (pe_bltn (v := .ty "int") (by rfl) T.n_int (by decide +kernel) rfl) pa_nil))))
      (pss_one (ps_ret (pe_and (pe_call G__law_is_int (hr.mono (by omega)) (by rfl) g__law_is_int k__law_is_int b__law_is_int .nil pass0 (pa_cons (pv 0) pa_nil)) (pe_one (pe_cmpR op_eq (pv 0) (pv 1) (nomark _))))))
      pss_nil)
      (pss_one (ps_ret (pe_and (pe_callB call_isi (by rfl) T.n_isinstance (by decide +kernel) (pa_cons (pv 0) (pa_cons (pe_bltn (v := .ty "str") (by rfl) T.n_str (by decide +kernel) rfl) pa_nil))) (pe_one (pe_cmpR op_eq (pv 0) (pv 1) (nomark _)))))))))), ?_⟩
      cases d with
      | non =>
        unfold DV at hv hu; subst hv hu
        refine ⟨_, rfl, _, _, _, _, false, rfl, .ty _, .base .non, kit_ty (by decide +kernel), _, rfl, iteF ?_⟩
        exact ⟨_, rfl, rfl, _, rfl, iteT ⟨_, rfl, rfl, q⟩⟩
      | bl b =>
        unfold DV at hv hu; subst hv hu
        refine ⟨_, rfl, _, _, _, _, false, rfl, .ty _, .base (.bl b), kit_ty (by decide +kernel), _, rfl, iteF ?_⟩
        refine ⟨_, rfl, rfl, _, rfl, iteF ?_⟩
        refine ⟨_, rfl, _, _, _, _, true, rfl, .ty _, .base (.bl b), kit_ty (by decide +kernel), _, rfl, iteT ?_⟩
        refine ⟨_, rfl, _, _, _, _, true, rfl, .ty _, .base (.bl b), kit_ty (by decide +kernel), _, rfl, iteT ?_⟩
        refine ⟨_, rfl, _, rfl, rfl, ?_⟩
        rw [decide_eq_true rfl]; exact q
      | int b =>
        unfold DV at hv hu; subst hv hu
        refine ⟨_, rfl, _, _, _, _, false, rfl, .ty _, .base (.int b), kit_ty (by decide +kernel), _, rfl, iteF ?_⟩
        refine ⟨_, rfl, rfl, _, rfl, iteF ?_⟩
        refine ⟨_, rfl, _, _, _, _, false, rfl, .ty _, .base (.int b), kit_ty (by decide +kernel), _, rfl, iteF ?_⟩
        refine ⟨_, rfl, _, _, _, _, true, rfl, .ty _, .base (.int b), kit_ty (by decide +kernel), _, rfl, iteT ?_⟩
        refine ⟨_, rfl, _, rfl, _, rfl, iteT ?_⟩
        refine ⟨_, rfl, _, rfl, rfl, ?_⟩
        rw [decide_eq_true rfl]; exact q
      | str b =>
        unfold DV at hv hu; subst hv hu
        refine ⟨_, rfl, _, _, _, _, false, rfl, .ty _, .base (.str b), kit_ty (by decide +kernel), _, rfl, iteF ?_⟩
        refine ⟨_, rfl, rfl, _, rfl, iteF ?_⟩
        refine ⟨_, rfl, _, _, _, _, false, rfl, .ty _, .base (.str b), kit_ty (by decide +kernel), _, rfl, iteF ?_⟩
        refine ⟨_, rfl, _, _, _, _, false, rfl, .ty _, .base (.str b), kit_ty (by decide +kernel), _, rfl, iteF ?_⟩
        refine ⟨_, rfl, _, _, _, _, true, rfl, .ty _, .base (.str b), kit_ty (by decide +kernel), _, rfl, iteT ?_⟩
        refine ⟨_, rfl, _, rfl, rfl, ?_⟩
        rw [decide_eq_true rfl]; exact q
      | tup ds =>
        unfold DV at hv hu
        obtain ⟨a, vs, rfl, ha, hvs⟩ := hv
        obtain ⟨b, us, rfl, hb, hus⟩ := hu
        have hl := hvs.len
        have hm := hus.len
        refine ⟨_, rfl, _, _, _, _, true, rfl, .ty _, TyX.ofT hb, kit_ty (by decide +kernel), _, rfl, iteT ?_⟩
        refine ⟨_, rfl, _, _, _, _, true, rfl, .ty _, TyX.ofT ha, kit_ty (by decide +kernel), _, rfl, iteF ?_⟩
        refine ⟨_, rfl, a, _, rfl, .inr ha, _, rfl, b, _, rfl, .inr hb, rfl, _, rfl, iteNS (by rw [hl, hm]) ?_⟩
        refine ⟨_, rfl, b, _, rfl, .inr hb, _, rfl, by omega, by have := hd.1; omega, ?_⟩
        refine for_range (lo := 0) (n := ((us.length : Int)).toNat) (fun i σ H' => ∃ (x : Option V), σ = [some (.ref a), some (.ref b), x] ∧ H' = H) ⟨none, rfl, rfl⟩ ?_ ?_
        · rintro i σ H' hi ⟨x, rfl, rfl⟩
          have hi' : i < us.length := by omega
          have hi2 : i < ds.length := by omega
          obtain ⟨v1, e1, q1⟩ := hvs.get (List.getElem?_eq_getElem hi2)
          obtain ⟨v2, e2, q2⟩ := hus.get (List.getElem?_eq_getElem hi2)
          refine ⟨_, rfl, _, rfl, a, _, _, v1, rfl, rfl, ha, at_of (j := i) (by omega) e1, _, rfl, _, rfl, b, _, _, v2, rfl, rfl, hb, at_of (j := i) (by omega) e2, ?_⟩
          refine ⟨ds[i], v1, v2, rfl, q1, q2, hd.2 _ (List.getElem_mem hi2), _, rfl, iteF ?_⟩
          exact ⟨_, rfl, rfl⟩
        · rintro σ H' ⟨x, rfl, rfl⟩
          exact q
end
end Z
namespace Z
open PySem L2 SX
theorem nodup_le : ∀ {l us : List (List Nat)}, l.Nodup → (∀ x ∈ l, x ∈ us) → l.length ≤ us.length
  | [], us, _, _ => Nat.zero_le _
  | x :: l, us, h, k => by
    have hh := List.nodup_cons.mp h
    have m := k x (by simp)
    have := nodup_le (us := us.erase x) hh.2 fun y hy => (List.mem_erase_of_ne (fun e : y = x => hh.1 (by rw [e] at hy; exact hy))).mpr (k y (List.mem_cons_of_mem _ hy))
    rw [List.length_erase_of_mem m] at this
    have p := List.length_pos_of_mem m
    rw [List.length_cons]; omega
def sfxL (j : Nat) : List Nat := if j = 0 then [] else [48 + j]
theorem sfx_nodup : ((List.range 10).map sfxL).Nodup := by decide +kernel
theorem tried_nodup (p : List Nat) {m : Nat} (h : m ≤ 10) : ((List.range m).map fun j => p ++ sfxL j).Nodup := by
  have h1 : ((List.range m).map sfxL).Nodup := by
    have e : List.range m = (List.range 10).take m := by rw [List.take_range, Nat.min_eq_left h]
    rw [e, List.map_take]
    exact sfx_nodup.sublist (List.take_sublist _ _)
  rw [List.nodup_iff_pairwise_ne, List.pairwise_map] at h1 ⊢
  exact h1.imp fun ne e => ne (List.append_cancel_left e)
section
variable {P : Program} {w : World} {K : PySem.W.Frag} {mg : Str → Option Value} {base : Heap}
theorem ok__law_pick (D : Df K mg "_law_pick" s__law_pick ["source", "row"]) (T : Tx mg)  (C__law_draw : Cal P w K mg base "_law_draw" ["source", "many"] 2 sp__law_draw) : Cal P w K mg base "_law_pick" ["source", "row"] 3 (sp3__law_pick K) := by
  obtain ⟨f__law_draw, fd__law_draw, G__law_draw, g__law_draw, k__law_draw, b__law_draw⟩ := C__law_draw
  obtain ⟨f, fd, F, gf, bf⟩ := D
  refine ⟨f, fd, F.ok sc__law_pick (fun vs H Q E h => ?_) (fun cdv A outer s₀ H vs Q E hr h => ?_), gf, F.kp, bf⟩
  · rcases h with ⟨s, a, r, xs, c, rfl, _⟩ | ⟨s, a, x, c, rfl, _⟩ | ⟨s, a, r, xs, c, rfl, _⟩ <;> rfl
  · refine ⟨_, (pss_one (ps_ret (pe_ix ix_seq (pv 1) (pe_call G__law_draw (hr.mono (by decide)) (by rfl) g__law_draw k__law_draw b__law_draw .nil pass0 (pa_cons (pv 0) (pa_cons (pe_callB call_len (by rfl) T.n_len PySem.boot_len (pa_cons (pv 1) pa_nil)) pa_nil))) (fun _ _ => rfl)))), ?_⟩
    rcases h with ⟨s, a, r, xs, c, rfl, hR, rs, ne, hl, hS, q⟩ | ⟨s, a, x, c, rfl, ne, hl, hS, q⟩ | ⟨s, a, r, xs, c, rfl, hR, ne, hl, hS, q⟩
    · have n0 : 0 < xs.length := List.length_pos_iff.mpr ne
      refine ⟨_, rfl, _, rfl, _, rfl, _, _, rfl, .inl ⟨xs, hR, rfl⟩, s, a, (xs.length : Int), c, rfl, by omega, by omega, hS, fun v H' v0 v1 hE hS' => ?_⟩
      have hv : v.toNat < xs.length := by omega
      exact .inl ⟨r, xs, v, xs[v.toNat], rfl, rfl, hE.seqL rs hR, atI_pos v0 (List.getElem?_eq_getElem hv), q _ _ (List.getElem_mem hv) hE hS'⟩
    · have n0 : 0 < (tl x).length := List.length_pos_iff.mpr ne
      have hx := tl_len x
      refine ⟨_, rfl, _, rfl, _, rfl, _, x.length, rfl, ⟨by rw [hx]; exact Nat.le_trans hl (by decide), rfl⟩, s, a, (x.length : Int), c, rfl, by omega, by omega, hS, fun v H' v0 v1 hE hS' => ?_⟩
      have hv : v.toNat < (tl x).length := by omega
      exact .inr (.inr ⟨x, v, (tl x)[v.toNat], rfl, rfl, by rw [hx]; exact Nat.le_trans hl (by decide), atI_pos v0 (List.getElem?_eq_getElem hv), q _ _ (List.getElem_mem hv) hE hS'⟩)
    · have n0 : 0 < xs.length := List.length_pos_iff.mpr ne
      refine ⟨_, rfl, _, rfl, _, rfl, _, _, rfl, .inr ⟨xs, hR, rfl⟩, s, a, (xs.length : Int), c, rfl, by omega, by omega, hS, fun v H' v0 v1 hE hS' => ?_⟩
      have hv : v.toNat < xs.length := by omega
      exact .inr (.inl ⟨r, xs, v, xs[v.toNat], rfl, rfl, TK.ext hE hS _ _ hR, atI_pos v0 (List.getElem?_eq_getElem hv), q _ _ (List.getElem_mem hv) hE hS'⟩)
end
section
variable {P : Program} {w : World} {K : PySem.W.Frag} {mg : Str → Option Value} {base : Heap}
theorem ok__law_new_name (D : Df K mg "_law_new_name" s__law_new_name ["source", "used"]) (T : Tx mg)  (C__law_draw : Cal P w K mg base "_law_draw" ["source", "many"] 2 sp__law_draw) : Cal P w K mg base "_law_new_name" ["source", "used"] 3 (sp9__law_new_name K) := by
  obtain ⟨f__law_draw, fd__law_draw, G__law_draw, g__law_draw, k__law_draw, b__law_draw⟩ := C__law_draw
  obtain ⟨f, fd, F, gf, bf⟩ := D
  refine ⟨f, fd, F.ok sc__law_new_name (fun vs H Q E h => ?_) (fun cdv A outer s₀ H vs Q E hr h => ?_), gf, F.kp, bf⟩
  · obtain ⟨s, a, u, us, c, rfl, _⟩ := h; rfl
  · obtain ⟨s, a, u, us, c, rfl, hU, hus, hul, hS, q⟩ := h
    refine ⟨_, (pss_cons (ps_set (i := 2) sc__law_new_name.nd rfl (Or.inl rfl) pe_str)
      (pss_cons (ps_set (i := 3) sc__law_new_name.nd rfl (Or.inl rfl) (pe_op op_add pe_int (pe_call G__law_draw (hr.mono (by decide)) (by rfl) g__law_draw k__law_draw b__law_draw .nil pass0 (pa_cons (pv 0) (pa_cons pe_int pa_nil)))))
      (pss_cons (ps_set (i := 4) sc__law_new_name.nd rfl (Or.inl rfl) (pe_item_str (pv 2) (pe_call G__law_draw (hr.mono (by decide)) (by rfl) g__law_draw k__law_draw b__law_draw .nil pass0 (pa_cons (pv 0) (pa_cons pe_int pa_nil))) (fun _ _ => rfl)))
      (pss_cons (ps_for PassesOwn.never rfl (pi_range1 (by rfl) T.n_range (pa_cons (pe_op op_sub (pv 3) pe_int) pa_nil)) (pg_name (i := 5) sc__law_new_name.nd rfl (Or.inl rfl))
      (pss_one (ps_set (i := 4) sc__law_new_name.nd rfl (Or.inl rfl) (pe_op op_add_str (pv 4) (pe_item_str (pe_op op_add_str (pv 2) pe_str) (pe_call G__law_draw (hr.mono (by decide)) (by rfl) g__law_draw k__law_draw b__law_draw .nil pass0 (pa_cons (pv 0) (pa_cons pe_int pa_nil))) (fun _ _ => rfl))))))
      (pss_cons (ps_for PassesOwn.never rfl (pi_range1 (by rfl) T.n_range (pa_cons (pe_op op_add (pe_callB call_len_seq (by rfl) T.n_len PySem.boot_len (pa_cons (pv 1) pa_nil)) pe_int) pa_nil)) (pg_name (i := 5) sc__law_new_name.nd rfl (Or.inl rfl))
      (pss_cons (ps_set (i := 6) sc__law_new_name.nd rfl (Or.inl rfl) (pe_op op_add_str (pv 4) (pe_ix ix_list (pe_lst (pa_cons pe_str (pa_cons (pe_callTy call_str_int (by rfl) T.n_str (by decide +kernel) (pa_cons (pv 5) pa_nil)) pa_nil))) (pe_callTy call_int1 (by rfl) T.n_int (by decide +kernel) (pa_cons (pe_cmpR op_gt (pv 5) pe_int (nomark _)) pa_nil)) (fun _ _ => rfl))))
        (pss_one (ps_if (pt_cmpR op_notIn_seq (pv 6) (pv 1) (by rfl))
        (pss_one (ps_ret (pv 6)))
        pss_nil))))
      (pss_one (ps_ret (pv 4)))))))), ?_⟩
    refine ⟨_, rfl, s, a, _, c + 7, rfl, by decide, by decide, hS, fun v1 H1 v10 v11 x1 S1 => ?_⟩
    refine ⟨_, _, rfl, rfl, ?_⟩
    refine ⟨_, rfl, _, rfl, s, a, _, c + 6, rfl, by decide, by decide, S1, fun v2 H2 v20 v21 x2 S2 => ?_⟩
    obtain ⟨ch, e1, _, e3⟩ := at_str (x := Str.ofString "abcdefghijklmnopqrstuvwxyz") v20 v21
    refine ⟨_, _, ch, rfl, rfl, v20, by omega, v21, e1, ?_⟩
    have hch : 97 ≤ ch ∧ ch ≤ 122 := alpha_mem e3
    refine ⟨_, rfl, _, _, rfl, rfl, _, rfl, by omega, by omega, ?_⟩
    refine for_range (lo := 0) (n := (1 + v1 - 1).toNat) (fun i σ H' => ∃ (x : Str) (v : Option V), σ = [some (.ref s), some (.ref u), some (.str "abcdefghijklmnopqrstuvwxyz"), some (.int (1 + v1)), some (.str x), v, none] ∧ Nm (tl x) ∧ (tl x).length = i + 1 ∧ Ext s H H' ∧ Src H' s a (c + (5 - i))) ?_ ?_ ?_
    · exact ⟨S [ch], none, rfl, ⟨⟨ch, [], rfl, hch⟩, fun y hy => by rw [List.mem_singleton.mp hy]; exact .inl hch⟩, rfl, x1.trans x2, S2.mono (by omega)⟩
    · rintro i σ H' hi ⟨x, v, rfl, hN, hl, hE, hS'⟩
      refine ⟨_, rfl, _, rfl, _, _, rfl, rfl, by decide +kernel, ?_⟩
      refine ⟨_, rfl, s, a, _, c + (5 - (i + 1)), rfl, by decide, by decide, hS'.mono (by omega), fun v3 H3 v30 v31 x3 S3 => ?_⟩
      obtain ⟨d, e1, _, e3⟩ := at_str (x := Str.ofString "abcdefghijklmnopqrstuvwxyz" ++ Str.ofString "0123456789") v30 v31
      refine ⟨_, _, d, rfl, rfl, v30, by omega, v31, e1, _, _, rfl, rfl, ?_, ?_⟩
      · rw [tl_len, hl]; exact Nat.le_trans (show i + 1 + 1 ≤ 10 by omega) (by decide)
      · exact ⟨_, _, rfl, by rw [tl_app]; exact hN.app (fun y hy => by rw [List.mem_singleton.mp hy]; exact low_mem e3), by rw [tl_app, List.length_append, hl]; rfl, hE.trans x3, S3⟩
    · rintro σ H3 ⟨x, v, rfl, hN, hl, hE, hS'⟩
      have hU3 : SqL K H3 u (us.map V.str) := hE.seqL hus hU
      refine ⟨_, rfl, u, _, rfl, .inl hU3, _, _, rfl, rfl, _, rfl, by rw [List.length_map]; omega, by rw [List.length_map]; omega, ?_⟩
      refine for_range (lo := 0) (n := ((((us.map V.str).length : Int)) + 1).toNat) (fun i σ H' => ∃ (v t : Option V), σ = [some (.ref s), some (.ref u), some (.str "abcdefghijklmnopqrstuvwxyz"), some (.int (1 + v1)), some (.str x), v, t] ∧ Same H3 H' ∧ ∀ j, j < i → tl x ++ sfxL j ∈ us.map tl) ⟨_, _, rfl, Same.refl _, fun j hj => by omega⟩ ?_ ?_
      · rintro i σ H' hi ⟨v', t', rfl, hM, hall⟩
        rw [List.length_map] at hi
        obtain ⟨y, hy, hyl, hya⟩ : ∃ y : Str, atI [V.str (Str.ofString ""), V.str (Str.ofString (toString (0 + (i : Int))))] (if decide ((0 : Int) < 0 + (i : Int)) = true then 1 else 0) = some (.str y) ∧ tl y = sfxL i ∧ Low (tl y) := by
          by_cases h0 : i = 0
          · subst h0
            exact ⟨Str.ofString "", rfl, rfl, Low.nil⟩
          · rw [if_pos (decide_eq_true (by omega))]
            refine ⟨_, rfl, ?_, ?_⟩
            · rw [Int.zero_add, num_S, tl_S, TL.numL_lt (by omega)]
              unfold sfxL; rw [if_neg h0]
            · rw [Int.zero_add, num_S, tl_S]
              exact low_num i
        have yl : (tl y).length ≤ 1 := by rw [hyl]; unfold sfxL; split <;> simp
        refine ⟨_, rfl, _, rfl, _, rfl, log_small (by omega), by show 2 ≤ sizeLine; decide, fun p hp => ?_⟩
        refine ⟨_, rfl, _, _, rfl, rfl, .inr ⟨_, rfl, p, _, _, _, rfl, rfl, SqL.of upd_same, hy, _, _, rfl, rfl, ?_, ?_⟩⟩
        · rw [tl_len, tl_len]; exact Nat.le_trans (show _ ≤ 70 by omega) (by decide)
        have hM' : Same H3 (upd H' p (HO.lst [V.str (Str.ofString ""), V.str (Str.ofString (toString (0 + (i : Int))))])) := hM.trans (same_new hp)
        have ein := inV_strs (x ++ y) us
        refine ⟨_, rfl, _, rfl, u, _, rfl, .inl (hM'.seq hU3), rfl, flat_strs us, _, rfl, ite2 (fun cc => ?_) (fun cc => ⟨_, _, rfl, hM', fun j hj => ?_⟩)⟩
        · refine ⟨_, rfl, q _ _ (by rw [tl_app]; exact hN.app hya) (by rw [tl_app, List.length_append]; omega) (fun m => ?_) (hE.trans (Ext.of hM')) ((hS'.ext hM').mono (by omega))⟩
          have cc' : (!inV (V.str (x ++ y)) (us.map V.str)) = true := cc
          rw [ein, decide_eq_true m] at cc'
          cases cc'
        · by_cases e : j < i
          · exact hall j e
          · have : j = i := by omega
            subst this
            have cc' : ¬ (!inV (V.str (x ++ y)) (us.map V.str)) = true := cc
            rw [ein] at cc'
            have m : x ++ y ∈ us := by simpa using cc'
            have := List.mem_map_of_mem (f := tl) m
            rw [tl_app, hyl] at this
            exact this
      · rintro σ H' ⟨v', t', rfl, hM, hall⟩
        rw [List.length_map] at hall
        have h1 := nodup_le (us := us.map tl) (tried_nodup (tl x) (m := us.length + 1) (by omega)) fun z hz => by
          obtain ⟨j, hj, rfl⟩ := List.mem_map.mp hz
          exact hall j (by have := List.mem_range.mp hj; omega)
        rw [List.length_map, List.length_map, List.length_range] at h1
        omega
end
section
variable {P : Program} {w : World} {K : PySem.W.Frag} {mg : Str → Option Value} {base : Heap}
theorem ok__law_names (D : Df K mg "_law_names" s__law_names ["source", "many"]) (T : Tx mg)  (C__law_new_name : Cal P w K mg base "_law_new_name" ["source", "used"] 3 (sp9__law_new_name K)) : Cal P w K mg base "_law_names" ["source", "many"] 4 (sp9__law_names K) := by
  obtain ⟨f__law_new_name, fd__law_new_name, G__law_new_name, g__law_new_name, k__law_new_name, b__law_new_name⟩ := C__law_new_name
  obtain ⟨f, fd, F, gf, bf⟩ := D
  refine ⟨f, fd, F.ok sc__law_names (fun vs H Q E h => ?_) (fun cdv A outer s₀ H vs Q E hr h => ?_), gf, F.kp, bf⟩
  · obtain ⟨s, a, m, c, rfl, _⟩ := h; rfl
  · obtain ⟨s, a, m, c, rfl, hm, hS, q⟩ := h
    refine ⟨_, (pss_cons (ps_set (i := 2) sc__law_names.nd rfl (Or.inl rfl) (pe_lst pa_nil))
      (pss_cons (ps_for PassesOwn.never rfl (pi_range1 (by rfl) T.n_range (pa_cons (pv 1) pa_nil)) (pg_name (i := 3) sc__law_names.nd rfl (Or.inl rfl))
      (pss_one (ps_expr (pe_bm PySem.F.plainAttrs_list PySem.F.slot_list_append PySem.F.type_list_append mt_append (pv 2) (pa_cons (pe_call G__law_new_name (hr.mono (by decide)) (by rfl) g__law_new_name k__law_new_name b__law_new_name .nil pass0 (pa_cons (pv 0) (pa_cons (pv 2) pa_nil))) pa_nil)))))
      (pss_one (ps_ret (pv 2))))), ?_⟩
    refine ⟨Nat.zero_le _, fun u hu => ?_⟩
    have us : u ≠ s := hS.ne hu
    have ua : u ≠ a := hS.nea hu
    refine ⟨_, rfl, _, rfl, by omega, by omega, ?_⟩
    refine for_range (lo := 0) (n := ((m : Int)).toNat) (fun i σ H' => ∃ (xs : List Str) (v : Option V), σ = [some (.ref s), some (.int m), some (.ref u), v] ∧ H' u = some (.lst (xs.map V.str)) ∧ xs.length = i ∧ Nms xs ∧ Ext s H H' ∧ Src H' s a (c + 8 * (m - i))) ?_ ?_ ?_
    · exact ⟨[], none, rfl, upd_same, rfl, ⟨List.nodup_nil, (fun _ h => by cases h)⟩, Ext.new hu, (hS.new hu).mono (by omega)⟩
    · rintro i σ H' hi ⟨xs, v, rfl, hx, hl, hA, hE, hS'⟩
      refine ⟨_, rfl, .inl ⟨rfl, _, SqL.of hx⟩, _, rfl, _, rfl, s, a, u, xs, c + 8 * (m - (i + 1)), rfl, SqL.of hx, us, by omega, by rw [show c + 8 * (m - (i + 1)) + 8 = c + 8 * (m - i) by omega]; exact hS', fun x H2 hN hl2 hnew hE2 hS2 => ?_⟩
      refine ⟨u, _, _, rfl, rfl, hE2 _ _ us hx, ?_, ?_⟩
      · rw [List.length_map]; exact small1000 (by omega)
      · refine ⟨xs ++ [x], _, rfl, by rw [upd_same, List.map_append]; rfl, by rw [List.length_append]; simp [hl], ⟨?_, fun y hy => ?_⟩, ?_, hS2.put us ua⟩
        · rw [List.nodup_append]
          exact ⟨hA.1, by simp, fun a ha b hb e => by rw [List.mem_singleton.mp hb] at e; exact hnew (e ▸ ha)⟩
        · rcases List.mem_append.mp hy with h | h
          · exact hA.2 y h
          · rw [List.mem_singleton.mp h]; exact ⟨hN, hl2⟩
        · intro b o hb hH
          rw [upd_ne (ne_of_none hH hu)]; exact hE2 _ _ hb (hE _ _ hb hH)
    · rintro σ H' ⟨xs, v, rfl, hx, hl, hA, hE, hS'⟩
      exact ⟨_, rfl, q u xs H' hu hx (by omega) hA hE (hS'.mono (by omega))⟩
end

end Z
namespace Z
open PySem L2 SX
section
variable {P : Program} {w : World} {K : PySem.W.Frag} {mg : Str → Option Value} {base : Heap}
theorem ok__law_once_in (D : Df K mg "_law_once_in" s__law_once_in ["source", "many"]) (T : Tx mg) (C__law_draw : Cal P w K mg base "_law_draw" ["source", "many"] 2 sp__law_draw) : Cal P w K mg base "_law_once_in" ["source", "many"] 3 sp__law_once_in := by
  obtain ⟨f__law_draw, fd__law_draw, G__law_draw, g__law_draw, k__law_draw, b__law_draw⟩ := C__law_draw
  obtain ⟨f, fd, F, gf, bf⟩ := D
  refine ⟨f, fd, F.ok sc__law_once_in (fun vs H Q E h => ?_) (fun cdv A outer s H vs Q E hr h => ?_), gf, F.kp, bf⟩
  · obtain ⟨s, a, m, c, rfl, _⟩ := h; rfl
  · obtain ⟨s, a, m, c, rfl, m0, m1, hS, q⟩ := h
    refine ⟨_, (pss_one (ps_ret (pe_cmpR op_eq (pe_call G__law_draw (hr.mono (by decide)) (by rfl) g__law_draw k__law_draw b__law_draw .nil pass0 (pa_cons (pv 0) (pa_cons (pv 1) pa_nil))) (pe_op op_fdiv (pv 1) pe_int) (nomark _)))), ?_⟩
    refine ⟨_, rfl, _, rfl, s, a, _, c, rfl, m0, m1, hS, fun v H' v0 v1 hE hS' => ?_⟩
    exact ⟨_, rfl, _, _, rfl, rfl, ⟨by decide, by decide⟩, rfl, q _ _ hE hS'⟩
end
end Z
namespace Z
open PySem L2 SX
section
variable {P : Program} {w : World} {K : PySem.W.Frag} {mg : Str → Option Value} {base : Heap}
theorem ok_Story____init__ {A_Story A_Desk : Addr} (D : DfI K A_Story "Story.__init__" s_Story____init__ ["self", "limit"]) (T : Tx mg) (O : To K mg A_Story A_Desk)   : CalI P w K mg base A_Story ["self", "limit"] 1 (sp51_init K A_Story) := by
  obtain ⟨f, fd, F, gf, bf⟩ := D
  refine ⟨f, fd, F.ok sc_Story____init__ (fun vs H Q E h => ?_) (fun cdv A outer s₀ H vs Q E hr h => ?_), gf, bf⟩
  · obtain ⟨p, dx, lim, rfl, _⟩ := h; rfl
  · obtain ⟨p, dx, lim, rfl, hp, ll, q⟩ := h
    refine ⟨_, (pss_cons (ps_fld (pv 0) (pv 1) rfl)
      (pss_cons (ps_fld (pv 0) pe_int rfl)
      (pss_cons (ps_fld (pv 0) (pe_lst pa_nil) rfl)
      (pss_one (ps_fld (pv 0) pe_dnewK rfl))))), ?_⟩
    refine ⟨_, rfl, _, rfl, p, A_Story, dx, _, rfl, hp, O.c_Story, O.n_Story_limit, by decide, ?_⟩
    refine ⟨_, rfl, p, A_Story, dx, _, rfl, upd_same, O.c_Story, O.n_Story_stamp, by show (1 : Nat) < 1000; decide, ?_⟩
    rw [upd_upd]
    refine ⟨Nat.zero_le _, fun ch hch => ⟨_, rfl, ?_⟩⟩
    have pc : p ≠ ch := fun e => by rw [← e, upd_same] at hch; cases hch
    refine ⟨p, A_Story, dx, _, rfl, by rw [upd_ne pc]; exact upd_same, O.c_Story, O.n_Story_changes, by show (2 : Nat) < 1000; decide, ?_⟩
    refine fun nu hnu => ⟨_, rfl, ?_⟩
    have pn : p ≠ nu := fun e => by rw [← e, upd_same] at hnu; cases hnu
    have cn : ch ≠ nu := fun e => by rw [← e, upd_ne pc.symm, upd_same] at hnu; cases hnu
    refine ⟨p, A_Story, dx, _, rfl, by rw [upd_ne pn]; exact upd_same, O.c_Story, O.n_Story_numbers, by show (3 : Nat) < 1000; decide, ?_⟩
    rw [upd_ne pc.symm] at hch
    rw [upd_ne pn.symm, upd_ne cn.symm, upd_ne pn.symm] at hnu
    refine q ch nu _ hch hnu cn (fun b o nb hb => ?_) ⟨⟨dx, upd_same⟩, ⟨[], ?_, by rw [show List.drop _ ([] : List Chg) = [] from List.drop_nil]; exact dln⟩, ⟨[], ?_, True.intro⟩⟩
    · have b1 : b ≠ p := fun e => nb (by rw [e]; simp)
      have b2 : b ≠ ch := ne_of_none hb hch
      have b3 : b ≠ nu := ne_of_none hb hnu
      rw [upd_ne b1, upd_ne b3, upd_ne b1, upd_ne b2, upd_ne b1]; exact hb
    · rw [upd_ne pc.symm, upd_ne cn, upd_ne pc.symm]; exact upd_same
    · rw [upd_ne pn.symm]; exact upd_same
end
section
variable {P : Program} {w : World} {K : PySem.W.Frag} {mg : Str → Option Value} {base : Heap}
theorem ok_Story__last {A_Story A_Desk : Addr} (D : DfP K A_Story "last" "Story.last" s_Story__last ["self"]) (T : Tx mg) (O : To K mg A_Story A_Desk)   : CalP P w K mg base A_Story "last" ["self"] 1 (sp51_last K A_Story) := by
  obtain ⟨p, f, fd, F, gf, bf⟩ := D
  refine ⟨p, f, fd, F.ok sc_Story__last (fun vs H Q E h => ?_) (fun cdv A outer s₀ H vs Q E hr h => ?_), gf, bf⟩
  · obtain ⟨p, ch, nu, lim, cs, rfl, _⟩ := h; rfl
  · obtain ⟨p, ch, nu, lim, cs, rfl, st, q⟩ := h
    refine ⟨_, (pss_one (ps_ret (pe_fld (pv 0) rfl))), ?_⟩
    obtain ⟨⟨dx, ob⟩, _, _⟩ := st
    exact ⟨_, rfl, p, A_Story, dx, _, _, rfl, ob, O.c_Story, O.n_Story_stamp, rfl, q⟩
end
section
variable {P : Program} {w : World} {K : PySem.W.Frag} {mg : Str → Option Value} {base : Heap}
theorem ok_Story__keep_change {A_Story A_Desk : Addr} (D : DfM K A_Story "keep_change" "Story.keep_change" s_Story__keep_change ["self", "change"]) (T : Tx mg) (O : To K mg A_Story A_Desk)   : CalM P w K mg base A_Story "keep_change" ["self", "change"] 1 (sp51_keep K A_Story) := by
  obtain ⟨f, fd, F, gf, bf⟩ := D
  refine ⟨f, fd, F.ok sc_Story__keep_change (fun vs H Q E h => ?_) (fun cdv A outer s₀ H vs Q E hr h => ?_), gf, bf⟩
  · obtain ⟨p, ch, nu, dx, lim, n, xs, v, rfl, _⟩ := h; rfl
  · obtain ⟨p, ch, nu, dx, lim, n, xs, v, rfl, hp, hc, xl, ll, pc, q⟩ := h
    refine ⟨_, (pss_cons (ps_fldaug (pv 0) pe_int in_add)
      (pss_cons (ps_expr (pe_bm PySem.F.plainAttrs_list PySem.F.slot_list_append PySem.F.type_list_append mt_append (pe_fld (pv 0) rfl) (pa_cons (pv 1) pa_nil)))
      (pss_one (ps_if (pt_cmpR op_gt (pe_callB call_len_seq (by rfl) T.n_len PySem.boot_len (pa_cons (pe_fld (pv 0) rfl) pa_nil)) (pe_fld (pv 0) rfl) (nomark _))
      (pss_one (ps_expr (pe_bm PySem.F.plainAttrs_list PySem.F.slot_list_pop PySem.F.type_list_pop mt_popAt (pe_fld (pv 0) rfl) (pa_cons pe_int pa_nil))))
      pss_nil)))), ?_⟩
    have small : ∀ n : Nat, n ≤ 30000 → n < sizeLine := fun n h => Nat.lt_of_le_of_lt h (by decide)
    refine ⟨_, rfl, p, A_Story, dx, _, _, rfl, hp, O.c_Story, O.n_Story_stamp, rfl, _, _, rfl, rfl, dx, _, hp, by show (4 : Nat) < 1000; decide, ?_⟩
    have e1 : putF "_stamp" (V.int ((n : Int) + 1)) (fsOf lim n ch nu) = fsOf lim (n + 1) ch nu := rfl
    rw [e1]
    have h1 : (upd H p (.ins A_Story dx (fsOf lim (n + 1) ch nu))) p = some (.ins A_Story dx (fsOf lim (n + 1) ch nu)) := upd_same
    have c1 : (upd H p (.ins A_Story dx (fsOf lim (n + 1) ch nu))) ch = some (.lst xs) := by rw [upd_ne pc.symm]; exact hc
    generalize upd H p (.ins A_Story dx (fsOf lim (n + 1) ch nu)) = H1 at h1 c1 q ⊢
    refine ⟨_, rfl, p, A_Story, dx, _, _, rfl, h1, O.c_Story, O.n_Story_changes, rfl, .inl ⟨rfl, _, SqL.of c1⟩, _, rfl, ch, _, _, rfl, rfl, c1, small _ (by omega), ?_⟩
    have h2 : (upd H1 ch (.lst (xs ++ [v]))) p = some (.ins A_Story dx (fsOf lim (n + 1) ch nu)) := by rw [upd_ne pc]; exact h1
    have c2 : (upd H1 ch (.lst (xs ++ [v]))) ch = some (.lst (xs ++ [v])) := upd_same
    refine ⟨_, rfl, p, A_Story, dx, _, _, rfl, h2, O.c_Story, O.n_Story_changes, rfl, ch, _, rfl, .inl (SqL.of c2), _, rfl, p, A_Story, dx, _, _, rfl, h2, O.c_Story, O.n_Story_limit, rfl, _, _, rfl, rfl, _, rfl, ite2 (fun cc => ?_) (fun cc => ?_)⟩
    · have l1 : lim < xs.length + 1 := by
        have := of_decide_eq_true cc
        rw [List.length_append] at this
        have : (lim : Int) < ((xs.length + 1 : Nat) : Int) := this
        omega
      have le : xs.length = lim := by omega
      have l0 : 0 < (xs ++ [v]).length := by rw [List.length_append]; show 0 < _ + 1; omega
      refine ⟨_, rfl, p, A_Story, dx, _, _, rfl, h2, O.c_Story, O.n_Story_changes, rfl, .inl ⟨rfl, _, SqL.of c2⟩, ch, _, 0, 0, _, rfl, rfl, c2, by decide, by decide, seqIndex_of (by decide) (by omega), List.getElem?_eq_getElem l0, ?_⟩
      rw [upd_upd]
      have e : (xs ++ [v]).eraseIdx 0 = (xs ++ [v]).drop (xs.length + 1 - lim) := by
        rw [show xs.length + 1 - lim = 1 by omega]
        cases xs with
        | nil => rfl
        | cons x r => rfl
      rw [e]; exact q
    · have l1 : ¬ lim < xs.length + 1 := fun h => cc (decide_eq_true (by
        rw [List.length_append]
        show (lim : Int) < ((xs.length + 1 : Nat) : Int)
        omega))
      rw [show xs.length + 1 - lim = 0 by omega, List.drop_zero] at q
      exact q
end
section
variable {P : Program} {w : World} {K : PySem.W.Frag} {mg : Str → Option Value} {base : Heap}
theorem ok_Story__new {A_Story A_Desk : Addr} (D : DfM K A_Story "new" "Story.new" s_Story__new ["self", "number", "id"]) (T : Tx mg) (O : To K mg A_Story A_Desk)  (C_Story__keep_change : CalM P w K mg base A_Story "keep_change" ["self", "change"] 1 (sp51_keep K A_Story)) : CalM P w K mg base A_Story "new" ["self", "number", "id"] 2 (sp51_new K A_Story) := by
  obtain ⟨f_Story__keep_change, fd_Story__keep_change, G_Story__keep_change, h_Story__keep_change, b_Story__keep_change⟩ := C_Story__keep_change
  obtain ⟨f, fd, F, gf, bf⟩ := D
  refine ⟨f, fd, F.ok sc_Story__new (fun vs H Q E h => ?_) (fun cdv A outer s₀ H vs Q E hr h => ?_), gf, bf⟩
  · obtain ⟨p, ch, nu, lim, cs, n, i, iv, rfl, _⟩ := h; rfl
  · obtain ⟨p, ch, nu, lim, cs, n, i, iv, rfl, st, di, ft, ll, cl, pc, pn, cn, q⟩ := h
    refine ⟨_, (pss_cons (ps_dput (hu_of hr) (pe_fld (pv 0) rfl) (pv 1) (pv 2) rfl)
      (pss_one (ps_expr (pe_meth (pv 0) O.c_Story h_Story__keep_change G_Story__keep_change (hr.mono (by decide)) b_Story__keep_change .nil pass0 (pa_cons (pe_tup (pa_cons pe_str (pa_cons (pv 1) (pa_cons (pv 2) pa_nil)))) pa_nil))))), ?_⟩
    have small : ∀ n : Nat, n ≤ 30000 → n < sizeLine := fun n h => Nat.lt_of_le_of_lt h (by decide)
    obtain ⟨⟨dx, ob⟩, ⟨xs, hc, dxs⟩, ⟨kvs, hn, kv⟩⟩ := st
    have vl := vw_len cs []
    have xl := dxs.map_len
    rw [List.length_drop] at xl
    refine ⟨_, rfl, _, rfl, p, A_Story, dx, _, _, rfl, ob, O.c_Story, O.n_Story_numbers, rfl, _, rfl, nu, _, rfl, DPut.k (k := Sum.inl n) (v := iv) hn (small _ (by rw [kv.len]; unfold vw; rw [List.length_nil] at vl; omega)), ?_⟩
    rw [putK_new _ (kv.none ft)]
    have h1 : (upd H nu (.dK (kvs ++ [(Sum.inl n, iv)]))) p = some (.ins A_Story dx (fsOf lim cs.length ch nu)) := by rw [upd_ne pn]; exact ob
    have c1 : (upd H nu (.dK (kvs ++ [(Sum.inl n, iv)]))) ch = some (.lst xs) := by rw [upd_ne cn]; exact hc
    have n1 : (upd H nu (.dK (kvs ++ [(Sum.inl n, iv)]))) nu = some (.dK (kvs ++ [(Sum.inl n, iv)])) := upd_same
    have T1 : TK K H (upd H nu (.dK (kvs ++ [(Sum.inl n, iv)]))) := tk_upd hn (fun _ e => by cases e) (fun _ _ e => by cases e)
    have E1 : ExtL [p, ch, nu] H (upd H nu (.dK (kvs ++ [(Sum.inl n, iv)]))) := ExtL.put (by simp)
    generalize upd H nu (.dK (kvs ++ [(Sum.inl n, iv)])) = H1 at h1 c1 n1 T1 E1 ⊢
    refine ⟨_, rfl, p, dx, _, rfl, h1, rfl, _, rfl, _, rfl, by show 3 ≤ sizeLine; decide, fun T hT => ?_⟩
    have m2 := same_new (o := HO.tup [V.str (Str.ofString "new"), V.int n, iv]) hT
    have h2 := m2 _ _ h1
    have c2 := m2 _ _ c1
    have n2 := m2 _ _ n1
    have hT2 : (upd H1 T (HO.tup [V.str (Str.ofString "new"), V.int n, iv])) T = some (.tup [V.str (Str.ofString "new"), V.int n, iv]) := upd_same
    generalize upd H1 T (HO.tup [V.str (Str.ofString "new"), V.int n, iv]) = H2 at m2 h2 c2 n2 hT2 ⊢
    have T2 := T1.trans (TK.same m2)
    refine ⟨p, ch, nu, dx, lim, cs.length, xs, .ref T, rfl, h2, c2, by omega, ll, pc, ?_⟩
    have T3 : TK K H2 (upd H2 p (.ins A_Story dx (fsOf lim (cs.length + 1) ch nu))) := tk_upd h2 (fun _ e => by cases e) (fun _ _ e => by cases e)
    have c3 : (upd H2 p (.ins A_Story dx (fsOf lim (cs.length + 1) ch nu))) ch = some (.lst xs) := by rw [upd_ne pc.symm]; exact c2
    have T4 : TK K _ (upd (upd H2 p (.ins A_Story dx (fsOf lim (cs.length + 1) ch nu))) ch (.lst ((xs ++ [V.ref T]).drop (xs.length + 1 - lim)))) := tk_put c3
    have T24 := T3.trans T4
    have dT : DV K H2 (chD (.new n i)) (.ref T) := ⟨T, _, rfl, SqT.of hT2, dlc (dls _) (dlc (dli _) (dlc (di.tk T2) dln))⟩
    refine q _ (E1.trans ((ExtL.of m2).trans ((ExtL.put (by simp)).trans (ExtL.put (by simp))))) (T2.trans T24) ⟨⟨dx, ?_⟩, ⟨_, upd_same, ?_⟩, ⟨kvs ++ [(Sum.inl n, iv)], ?_, ?_⟩⟩
    · rw [upd_ne pc, upd_same, List.length_append]; rfl
    · have d1 := DVs.snoc ((dxs.tk T2).tk T24) (dT.tk T24)
      have d2 := d1.drop (xs.length + 1 - lim)
      have e : ((cs.drop (cs.length - lim)) ++ [Chg.new n i]).drop (xs.length + 1 - lim) = (cs ++ [Chg.new n i]).drop ((cs ++ [Chg.new n i]).length - lim) := by
        rw [← List.drop_append_of_le_length (by omega), List.drop_drop, List.length_append]
        congr 1
        show _ = cs.length + 1 - lim
        omega
      rw [e] at d2
      exact d2
    · rw [upd_ne cn.symm, upd_ne pn.symm]; exact n2
    · rw [vw_snoc]
      exact KvD.snoc ((di.tk T2).tk T24) ((kv.tk T2).tk T24)
end
section
variable {P : Program} {w : World} {K : PySem.W.Frag} {mg : Str → Option Value} {base : Heap}
theorem ok_Story__gone {A_Story A_Desk : Addr} (D : DfM K A_Story "gone" "Story.gone" s_Story__gone ["self", "number"]) (T : Tx mg) (O : To K mg A_Story A_Desk)  (C_Story__keep_change : CalM P w K mg base A_Story "keep_change" ["self", "change"] 1 (sp51_keep K A_Story)) : CalM P w K mg base A_Story "gone" ["self", "number"] 2 (sp51_gone K A_Story) := by
  obtain ⟨f_Story__keep_change, fd_Story__keep_change, G_Story__keep_change, h_Story__keep_change, b_Story__keep_change⟩ := C_Story__keep_change
  obtain ⟨f, fd, F, gf, bf⟩ := D
  refine ⟨f, fd, F.ok sc_Story__gone (fun vs H Q E h => ?_) (fun cdv A outer s₀ H vs Q E hr h => ?_), gf, bf⟩
  · obtain ⟨p, ch, nu, lim, cs, n, rfl, _⟩ := h; rfl
  · obtain ⟨p, ch, nu, lim, cs, n, rfl, st, ft, ll, cl, pc, pn, cn, q⟩ := h
    refine ⟨_, (pss_cons (ps_ddel (pe_fld (pv 0) rfl) (pv 1))
      (pss_one (ps_expr (pe_meth (pv 0) O.c_Story h_Story__keep_change G_Story__keep_change (hr.mono (by decide)) b_Story__keep_change .nil pass0 (pa_cons (pe_tup (pa_cons pe_str (pa_cons (pv 1) pa_nil))) pa_nil))))), ?_⟩
    have small : ∀ n : Nat, n ≤ 30000 → n < sizeLine := fun n h => Nat.lt_of_le_of_lt h (by decide)
    obtain ⟨⟨dx, ob⟩, ⟨xs, hc, dxs⟩, ⟨kvs, hn, kv⟩⟩ := st
    have xl := dxs.map_len
    rw [List.length_drop] at xl
    obtain ⟨v0, hv0, _⟩ := kv.get ft
    refine ⟨_, rfl, p, A_Story, dx, _, _, rfl, ob, O.c_Story, O.n_Story_numbers, rfl, _, rfl, nu, kvs, Sum.inl n, rfl, hn, rfl, by rw [hv0]; rfl, ?_⟩
    have h1 : (upd H nu (.dK (dropK kvs (Sum.inl n)))) p = some (.ins A_Story dx (fsOf lim cs.length ch nu)) := by rw [upd_ne pn]; exact ob
    have c1 : (upd H nu (.dK (dropK kvs (Sum.inl n)))) ch = some (.lst xs) := by rw [upd_ne cn]; exact hc
    have n1 : (upd H nu (.dK (dropK kvs (Sum.inl n)))) nu = some (.dK (dropK kvs (Sum.inl n))) := upd_same
    have T1 : TK K H (upd H nu (.dK (dropK kvs (Sum.inl n)))) := tk_upd hn (fun _ e => by cases e) (fun _ _ e => by cases e)
    have E1 : ExtL [p, ch, nu] H (upd H nu (.dK (dropK kvs (Sum.inl n)))) := ExtL.put (by simp)
    generalize upd H nu (.dK (dropK kvs (Sum.inl n))) = H1 at h1 c1 n1 T1 E1 ⊢
    refine ⟨_, rfl, p, dx, _, rfl, h1, rfl, _, rfl, by show 2 ≤ sizeLine; decide, fun T hT => ?_⟩
    have m2 := same_new (o := HO.tup [V.str (Str.ofString "gone"), V.int n]) hT
    have h2 := m2 _ _ h1
    have c2 := m2 _ _ c1
    have n2 := m2 _ _ n1
    have hT2 : (upd H1 T (HO.tup [V.str (Str.ofString "gone"), V.int n])) T = some (.tup [V.str (Str.ofString "gone"), V.int n]) := upd_same
    generalize upd H1 T (HO.tup [V.str (Str.ofString "gone"), V.int n]) = H2 at m2 h2 c2 n2 hT2 ⊢
    have T2 := T1.trans (TK.same m2)
    refine ⟨p, ch, nu, dx, lim, cs.length, xs, .ref T, rfl, h2, c2, by omega, ll, pc, ?_⟩
    have T3 : TK K H2 (upd H2 p (.ins A_Story dx (fsOf lim (cs.length + 1) ch nu))) := tk_upd h2 (fun _ e => by cases e) (fun _ _ e => by cases e)
    have c3 : (upd H2 p (.ins A_Story dx (fsOf lim (cs.length + 1) ch nu))) ch = some (.lst xs) := by rw [upd_ne pc.symm]; exact c2
    have T4 : TK K _ (upd (upd H2 p (.ins A_Story dx (fsOf lim (cs.length + 1) ch nu))) ch (.lst ((xs ++ [V.ref T]).drop (xs.length + 1 - lim)))) := tk_put c3
    have T24 := T3.trans T4
    have dT : DV K H2 (chD (.gone n)) (.ref T) := ⟨T, _, rfl, SqT.of hT2, dlc (dls _) (dlc (dli _) dln)⟩
    refine q _ (E1.trans ((ExtL.of m2).trans ((ExtL.put (by simp)).trans (ExtL.put (by simp))))) (T2.trans T24) ⟨⟨dx, ?_⟩, ⟨_, upd_same, ?_⟩, ⟨dropK kvs (Sum.inl n), ?_, ?_⟩⟩
    · rw [upd_ne pc, upd_same, List.length_append]; rfl
    · have d1 := DVs.snoc ((dxs.tk T2).tk T24) (dT.tk T24)
      have d2 := d1.drop (xs.length + 1 - lim)
      have e : ((cs.drop (cs.length - lim)) ++ [Chg.gone n]).drop (xs.length + 1 - lim) = (cs ++ [Chg.gone n]).drop ((cs ++ [Chg.gone n]).length - lim) := by
        rw [← List.drop_append_of_le_length (by omega), List.drop_drop, List.length_append]
        congr 1
        show _ = cs.length + 1 - lim
        omega
      rw [e] at d2
      exact d2
    · rw [upd_ne cn.symm, upd_ne pn.symm]; exact n2
    · rw [vw_snoc]
      exact KvD.drop n ((kv.tk T2).tk T24)
end
section
variable {P : Program} {w : World} {K : PySem.W.Frag} {mg : Str → Option Value} {base : Heap}
theorem ok_Story__pairs {A_Story A_Desk : Addr} (D : DfM K A_Story "pairs" "Story.pairs" s_Story__pairs ["self"]) (T : Tx mg) (O : To K mg A_Story A_Desk)   : CalM P w K mg base A_Story "pairs" ["self"] 1 (sp51_pairs K A_Story) := by
  obtain ⟨f, fd, F, gf, bf⟩ := D
  refine ⟨f, fd, F.ok sc_Story__pairs (fun vs H Q E h => ?_) (fun cdv A outer s₀ H vs Q E hr h => ?_), gf, bf⟩
  · obtain ⟨p, ch, nu, lim, cs, rfl, _⟩ := h; rfl
  · obtain ⟨p, ch, nu, lim, cs, rfl, st, ok, q⟩ := h
    refine ⟨_, (pss_one (ps_ret (pe_callTy call_tuple_of (by rfl) T.n_tuple (by decide +kernel) (pa_cons (pe_callB (cr_sortItemsQ (K := K) rfl (room65 hr) rfl) (by rfl) T.n_sorted (by decide +kernel) (pa_cons (pe_bm0 PySem.F.plainAttrs_dict PySem.F.slot_dict_items PySem.F.type_dict_items mt_itemsK (pe_fld (pv 0) rfl)) pa_nil)) pa_nil)))), ?_⟩
    obtain ⟨⟨dx, ob⟩, ⟨xs, hc, dxs⟩, ⟨kvs, hn, kv⟩⟩ := st
    refine ⟨_, rfl, p, A_Story, dx, _, _, rfl, ob, O.c_Story, O.n_Story_numbers, rfl, .inr (.inr (.inl ⟨rfl, .inl ⟨_, hn⟩⟩)), nu, kvs, rfl, rfl, hn, fun w hw => ?_⟩
    have m1 := same_new (o := L2.DX.itemsO w nu) hw
    have hn1 := m1 _ _ hn
    have nd := ok.nd
    refine ⟨w, nu, kvs, Int, (vw cs).map (·.1), Sum.inl, fun n => idD (look (vw cs) n), rfl, upd_same, hn1, kv.keys, (KvD.vals kv fun e he => look_at nd he).tk (TK.same m1), aa_of (alike_pv (vw cs)), fun b _ => depth_pv (vw cs) b, fun ys r H' m2 hr2 hy dy => ?_⟩
    rw [show prD (Sum.inl : Int → Key) (fun n => idD (look (vw cs) n)) = pvD (vw cs) from rfl, pv_sort] at dy
    refine ⟨r, ys, rfl, .inl ⟨SqL.of hy, fun T hT => ?_⟩⟩
    have m3 := same_new (o := HO.tup ys) hT
    exact q _ _ (m1.trans (m2.trans m3)) ⟨T, ys, rfl, SqT.of upd_same, dy.tk (TK.same m3)⟩
end
section
variable {P : Program} {w : World} {K : PySem.W.Frag} {mg : Str → Option Value} {base : Heap}
theorem ok_Story__since {A_Story A_Desk : Addr} (D : DfM K A_Story "since" "Story.since" s_Story__since ["self", "stamp"]) (T : Tx mg) (O : To K mg A_Story A_Desk)  (C_Story__pairs : CalM P w K mg base A_Story "pairs" ["self"] 1 (sp51_pairs K A_Story)) : CalM P w K mg base A_Story "since" ["self", "stamp"] 2 (sp51_since K A_Story) := by
  obtain ⟨f_Story__pairs, fd_Story__pairs, G_Story__pairs, h_Story__pairs, b_Story__pairs⟩ := C_Story__pairs
  obtain ⟨f, fd, F, gf, bf⟩ := D
  refine ⟨f, fd, F.ok sc_Story__since (fun vs H Q E h => ?_) (fun cdv A outer s₀ H vs Q E hr h => ?_), gf, bf⟩
  · obtain ⟨p, ch, nu, lim, cs, s, rfl, _⟩ := h; rfl
  · obtain ⟨p, ch, nu, lim, cs, s, rfl, st, ok, sl, cl, q⟩ := h
    refine ⟨_, (pss_cons (ps_set (i := 2) sc_Story__since.nd rfl (Or.inl rfl) (pe_op op_sub (pe_fld (pv 0) rfl) (pv 1)))
      (pss_cons (ps_if (pt_cmpR op_gt (pv 2) (pe_callB call_len_seq (by rfl) T.n_len PySem.boot_len (pa_cons (pe_fld (pv 0) rfl) pa_nil)) (nomark _))
      (pss_one (ps_ret (pe_tup (pa_cons pe_str (pa_cons (pe_fld (pv 0) rfl) (pa_cons (pe_meth0 (pv 0) O.c_Story h_Story__pairs G_Story__pairs (hr.mono (by decide)) b_Story__pairs .nil pass0) pa_nil))))))
      pss_nil)
      (pss_one (ps_ret (pe_tup (pa_cons pe_str (pa_cons (pe_fld (pv 0) rfl) (pa_cons (pe_callTy call_tuple_of (by rfl) T.n_tuple (by decide +kernel) (pa_cons (pe_slice sl_list (pe_fld (pv 0) rfl) (po_some (pe_op op_sub (pe_callB call_len_seq (by rfl) T.n_len PySem.boot_len (pa_cons (pe_fld (pv 0) rfl) pa_nil)) (pv 2))) po_none) pa_nil)) pa_nil)))))))), ?_⟩
    have st' := st
    obtain ⟨⟨dx, ob⟩, ⟨xs, hc, dxs⟩, ⟨kvs, hn, kv⟩⟩ := st
    have xl := dxs.map_len
    rw [List.length_drop] at xl
    refine ⟨_, rfl, p, A_Story, dx, _, _, rfl, ob, O.c_Story, O.n_Story_stamp, rfl, _, rfl, _, _, rfl, rfl, ?_⟩
    refine ⟨_, rfl, _, rfl, p, A_Story, dx, _, _, rfl, ob, O.c_Story, O.n_Story_changes, rfl, ch, _, rfl, .inl (SqL.of hc), _, _, rfl, rfl, _, rfl, ite2 (fun cc => ?_) (fun cc => ?_)⟩
    · have lt : lim < cs.length - s := by
        have := of_decide_eq_true cc
        have : ((xs.length : Nat) : Int) < ((cs.length : Nat) : Int) - ((s : Nat) : Int) := this
        omega
      unfold due51 at q
      rw [if_pos lt] at q
      refine ⟨_, rfl, p, A_Story, dx, _, _, rfl, ob, O.c_Story, O.n_Story_stamp, rfl, _, rfl, p, dx, _, rfl, ob, rfl, p, ch, nu, lim, cs, rfl, st', ok, fun v H1 m1 dv => ?_⟩
      refine ⟨by show 3 ≤ sizeLine; decide, fun T hT => ?_⟩
      have m2 := same_new (o := HO.tup [V.str (Str.ofString "whole"), V.int (cs.length : Nat), v]) hT
      exact q _ _ (m1.trans m2) ⟨T, _, rfl, SqT.of upd_same, dlc (dls _) (dlc (dli _) (dlc (dv.tk (TK.same m2)) dln))⟩
    · have nlt : ¬ lim < cs.length - s := fun h => cc (decide_eq_true (by
        show ((xs.length : Nat) : Int) < ((cs.length : Nat) : Int) - ((s : Nat) : Int)
        omega))
      unfold due51 at q
      rw [if_neg nlt] at q
      refine ⟨_, rfl, p, A_Story, dx, _, _, rfl, ob, O.c_Story, O.n_Story_stamp, rfl, _, rfl, p, A_Story, dx, _, _, rfl, ob, O.c_Story, O.n_Story_changes, rfl, _, rfl, p, A_Story, dx, _, _, rfl, ob, O.c_Story, O.n_Story_changes, rfl, ch, _, rfl, .inl (SqL.of hc), _, rfl, _, _, rfl, rfl, _, rfl, ch, xs, rfl, SqL.of hc, fun L hL => ?_⟩
      rw [cutV_from (by omega)]
      have m1 := same_new (o := HO.lst (xs.drop (((xs.length : Nat) : Int) - (((cs.length : Nat) : Int) - ((s : Nat) : Int))).toNat)) hL
      refine ⟨L, _, rfl, .inl ⟨SqL.of upd_same, fun T hT => ?_⟩⟩
      have m2 := same_new (o := HO.tup (xs.drop (((xs.length : Nat) : Int) - (((cs.length : Nat) : Int) - ((s : Nat) : Int))).toNat)) hT
      refine ⟨by show 3 ≤ sizeLine; decide, fun U hU => ?_⟩
      have m3 := same_new (o := HO.tup [V.str (Str.ofString "since"), V.int (cs.length : Nat), V.ref T]) hU
      have hT3 := m3 _ _ (upd_same (H := upd H L (HO.lst (xs.drop (((xs.length : Nat) : Int) - (((cs.length : Nat) : Int) - ((s : Nat) : Int))).toNat))) (a := T) (o := HO.tup (xs.drop (((xs.length : Nat) : Int) - (((cs.length : Nat) : Int) - ((s : Nat) : Int))).toNat)))
      have mm := m1.trans (m2.trans m3)
      have d2 := (dxs.drop (((xs.length : Nat) : Int) - (((cs.length : Nat) : Int) - ((s : Nat) : Int))).toNat).tk (TK.same mm)
      rw [List.drop_drop, show cs.length - lim + (((xs.length : Nat) : Int) - (((cs.length : Nat) : Int) - ((s : Nat) : Int))).toNat = s by omega] at d2
      exact q _ _ mm ⟨U, _, rfl, SqT.of upd_same, dlc (dls _) (dlc (dli _) (dlc ⟨T, _, rfl, SqT.of hT3, d2⟩ dln))⟩
end

end Z
namespace Z
open PySem L2 SX
section
variable {P : Program} {w : World} {K : PySem.W.Frag} {mg : Str → Option Value} {base : Heap}
theorem ok__law_many (D : Df K mg "_law_many" s__law_many ["source", "least", "wide", "more"]) (T : Tx mg)  (C__law_draw : Cal P w K mg base "_law_draw" ["source", "many"] 2 sp__law_draw) (C__law_once_in : Cal P w K mg base "_law_once_in" ["source", "many"] 3 sp__law_once_in) : Cal P w K mg base "_law_many" ["source", "least", "wide", "more"] 4 sp51_many := by
  obtain ⟨f__law_draw, fd__law_draw, G__law_draw, g__law_draw, k__law_draw, b__law_draw⟩ := C__law_draw
  obtain ⟨f__law_once_in, fd__law_once_in, G__law_once_in, g__law_once_in, k__law_once_in, b__law_once_in⟩ := C__law_once_in
  obtain ⟨f, fd, F, gf, bf⟩ := D
  refine ⟨f, fd, F.ok sc__law_many (fun vs H Q E h => ?_) (fun cdv A outer s₀ H vs Q E hr h => ?_), gf, F.kp, bf⟩
  · obtain ⟨s, a, l, w, m, c, rfl, _⟩ := h; rfl
  · obtain ⟨s, a, l, w, m, c, rfl, w0, w1, m0, m1, hS, q⟩ := h
    refine ⟨_, (pss_cons (ps_set (i := 4) sc__law_many.nd rfl (Or.inl rfl) (pe_op op_add (pv 1) (pe_call G__law_draw (hr.mono (by decide)) (by rfl) g__law_draw k__law_draw b__law_draw .nil pass0 (pa_cons (pv 0) (pa_cons (pv 2) pa_nil)))))
      (C8.pss_cut (ps_if (pt_val (pe_call G__law_once_in (hr.mono (by decide)) (by rfl) g__law_once_in k__law_once_in b__law_once_in .nil pass0 (pa_cons (pv 0) (pa_cons pe_int pa_nil))))
      (pss_one (ps_set (i := 4) sc__law_many.nd rfl (Or.inl rfl) (pe_op op_add (pv 4) (pv 3))))
      pss_nil)
      (pss_one (ps_ret (pv 4))))), ?_⟩
    refine ⟨_, rfl, _, rfl, _, rfl, s, a, w, c + 1, rfl, w0, by omega, hS, fun v H1 v0 v1 x1 S1 => ⟨_, _, rfl, rfl, ?_⟩⟩
    obtain ⟨v, rfl⟩ := Int.eq_ofNat_of_zero_le v0
    obtain ⟨m, rfl⟩ := Int.eq_ofNat_of_zero_le m0
    refine ⟨fun σ' H' => ∃ n : Nat, σ' = [some (.ref s), some (.int (l : Nat)), some (.int w), some (.int ((m : Nat) : Int)), some (.int (n : Nat))] ∧ l ≤ n ∧ (n : Int) < l + w + m ∧ Ext s H H' ∧ Src H' s a c, ?_, ?_⟩
    · refine ⟨_, rfl, s, a, 9, c, rfl, by decide, by decide, S1, fun b H2 x2 S2 => ⟨_, rfl, ?_⟩⟩
      cases b with
      | true =>
        refine iteT ⟨_, rfl, _, rfl, _, _, rfl, rfl, l + v + m, ?_, by omega, by omega, x1.trans x2, S2⟩
        rw [show ((l + v + m : Nat) : Int) = (l : Int) + (v : Int) + (m : Int) by omega]; rfl
      | false =>
        refine iteF ⟨l + v, ?_, by omega, by omega, x1.trans x2, S2⟩
        rw [show ((l + v : Nat) : Int) = (l : Int) + (v : Int) by omega]; rfl
    rintro σ' H' ⟨n, rfl, h1, h2, x, S⟩
    exact ⟨_, rfl, q n H' h1 h2 x S⟩
end
def menu51 : List Int := [1, 2, 3, 4, 5, 8, 9, 10, 11, 12, 19, 20, 99, 100, 999998, 999999] ++ (List.range 20).map fun i : Nat => 31 + (i : Int)
theorem menu_nd : menu51.Nodup := by decide
theorem menu_len : menu51.length = 36 := by decide
theorem menu_free {ns : List Int} (h : ns.length ≤ 35) : menu51.filter (fun n => !decide (n ∈ ns)) ≠ [] := fun e => by
  have : ∀ x ∈ menu51, x ∈ ns := fun x hx => by
    have := List.filter_eq_nil_iff.mp e x hx
    simpa using this
  have := sub_len menu_nd this
  rw [menu_len] at this; omega
theorem ints_pick {l : List Int} {v : V} (h : v ∈ l.map V.int) : ∃ n, n ∈ l ∧ v = .int n := by
  obtain ⟨n, hn, e⟩ := List.mem_map.mp h
  exact ⟨n, hn, e.symm⟩
section
variable {P : Program} {w : World} {K : PySem.W.Frag} {mg : Str → Option Value} {base : Heap}
theorem ok__law_number (D : Df K mg "_law_number" s__law_number ["source", "view"]) (T : Tx mg)  (C__law_draw : Cal P w K mg base "_law_draw" ["source", "many"] 2 sp__law_draw) (C__law_pick : Cal P w K mg base "_law_pick" ["source", "row"] 3 (sp3__law_pick K)) : Cal P w K mg base "_law_number" ["source", "view"] 4 (sp51_number K) := by
  obtain ⟨f__law_draw, fd__law_draw, G__law_draw, g__law_draw, k__law_draw, b__law_draw⟩ := C__law_draw
  obtain ⟨f__law_pick, fd__law_pick, G__law_pick, g__law_pick, k__law_pick, b__law_pick⟩ := C__law_pick
  obtain ⟨f, fd, F, gf, bf⟩ := D
  refine ⟨f, fd, F.ok sc__law_number (fun vs H Q E h => ?_) (fun cdv A outer s₀ H vs Q E hr h => ?_), gf, F.kp, bf⟩
  · obtain ⟨s, a, u, ns, c, rfl, _⟩ := h; rfl
  · obtain ⟨s, a, u, ns, c, rfl, hu, us, nl, hS, q⟩ := h
    refine ⟨_, (C8.pss_cut (ps_if (pt_cmpR op_eq (pe_call G__law_draw (hr.mono (by decide)) (by rfl) g__law_draw k__law_draw b__law_draw .nil pass0 (pa_cons (pv 0) (pa_cons pe_int pa_nil))) pe_int (nomark _))
      (pss_cons (ps_set (i := 2) sc__law_number.nd rfl (Or.inl rfl) (pe_op op_add pe_int (pe_call G__law_draw (hr.mono (by decide)) (by rfl) g__law_draw k__law_draw b__law_draw .nil pass0 (pa_cons (pv 0) (pa_cons pe_int pa_nil)))))
        (pss_one (ps_if (pt_cmpR op_notIn_seq (pv 2) (pv 1) (by rfl))
        (pss_one (ps_ret (pv 2)))
        pss_nil)))
      pss_nil)
      (pss_cons (ps_set (i := 3) sc__law_number.nd rfl (Or.inl rfl) (pe_op L2.op_cat (pe_lst (pa_cons pe_int (pa_cons pe_int (pa_cons pe_int (pa_cons pe_int (pa_cons pe_int (pa_cons pe_int (pa_cons pe_int (pa_cons pe_int (pa_cons pe_int (pa_cons pe_int (pa_cons pe_int (pa_cons pe_int (pa_cons pe_int (pa_cons pe_int (pa_cons pe_int (pa_cons pe_int pa_nil))))))))))))))))) (pe_listRg rfl (by rfl) T.n_list (prg_2 (by rfl) T.n_range pe_int pe_int))))
      (pss_one (ps_ret (pe_call G__law_pick (hr.mono (by decide)) (by rfl) g__law_pick k__law_pick b__law_pick .nil pass0 (pa_cons (pv 0) (pa_cons (pe_slice sl_list (pe_lc (own := [("number", 2)]) (g := gName 2) rfl sc__law_number.nd (pi_list (pv 3)) (blkOk_by (own := [("number", 2)]) (N := N__law_number) (sc := defScope s__law_number) (by decide +kernel)) (fun _ _ _ _ _ => pg_name (i := 2) sc__law_number.nd rfl (Or.inl rfl)) (fun _ _ _ _ _ => pts_one (pt_cmpR (notIn_seqQ (K := K) rfl) (pv 2) (pv 1) (by rfl))) (fun _ _ _ _ _ => (pv 2))) po_none (po_some pe_int)) pa_nil))))))), ?_⟩
    have small : ∀ n : Nat, n ≤ 30000 → n < sizeLine := fun n h => Nat.lt_of_le_of_lt h (by decide)
    refine ⟨fun σ' H' => ∃ v2 : Option V, σ' = [some (.ref s), some (.ref u), v2, none] ∧ Ext s H H' ∧ Src H' s a (c + 3), ?_, ?_⟩
    · refine ⟨_, rfl, s, a, 4, c + 4, rfl, by decide, by decide, hS, fun v H1 _ _ x1 S1 => ⟨rfl, _, rfl, ite2 (fun _ => ?_) (fun _ => ⟨_, rfl, x1, S1.mono (by omega)⟩)⟩⟩
      refine ⟨_, rfl, s, a, 999999, c + 3, rfl, by decide, by decide, S1, fun v H2 _ _ x2 S2 => ⟨_, _, rfl, rfl, ?_⟩⟩
      have hu2 := x2 _ _ us (x1 _ _ us hu)
      refine ⟨_, rfl, _, rfl, u, _, rfl, .inl (SqL.of hu2), rfl, flat_ints _, _, rfl, ?_⟩
      rw [show (if true = true then !inV (V.int (1 + v)) (ns.map V.int) else inV (V.int (1 + v)) (ns.map V.int)) = !decide (1 + v ∈ ns) by rw [if_pos rfl, inV_ints]]
      by_cases e : 1 + v ∈ ns
      · exact iN (by rw [decide_eq_true e]; rfl) ⟨_, rfl, x1.trans x2, S2⟩
      · exact iG (by rw [decide_eq_false e]; rfl) ⟨_, rfl, q (1 + v) H2 e (x1.trans x2) (S2.mono (by omega))⟩
    rintro σ' H1 ⟨v2, rfl, x1, S1⟩
    have hu1 := x1 _ _ us hu
    refine ⟨by show 16 ≤ sizeLine; decide, fun M1 hM1 => ?_⟩
    have n1 := same_new (o := HO.lst [V.int 1, V.int 2, V.int 3, V.int 4, V.int 5, V.int 8, V.int 9, V.int 10, V.int 11, V.int 12, V.int 19, V.int 20, V.int 99, V.int 100, V.int 999998, V.int 999999]) hM1
    refine ⟨_, _, rfl, rfl, RgOk.of_le (by decide) (by decide) (by decide) (by decide), fun M2 hM2 => ?_⟩
    have n2 := same_new (o := HO.lst (rgV 31 51)) hM2
    refine ⟨M1, M2, _, _, rfl, rfl, n2 _ _ upd_same, upd_same, by show 16 + 20 ≤ sizeLine; decide, fun M hM => ?_⟩
    have em : ([V.int 1, V.int 2, V.int 3, V.int 4, V.int 5, V.int 8, V.int 9, V.int 10, V.int 11, V.int 12, V.int 19, V.int 20, V.int 99, V.int 100, V.int 999998, V.int 999999] ++ rgV 31 51) = menu51.map V.int := by rfl
    rw [em]
    have n3 := same_new (o := HO.lst (menu51.map V.int)) hM
    have m13 := n1.trans (n2.trans n3)
    have Ms : M ≠ s := ((S1.ext n1).ext n2).ne hM
    have S3 := S1.ext m13
    have hu3 := m13 _ _ hu1
    have x3 := x1.trans (Ext.of m13)
    have hM3 : (upd (upd (upd H1 M1 (HO.lst [V.int 1, V.int 2, V.int 3, V.int 4, V.int 5, V.int 8, V.int 9, V.int 10, V.int 11, V.int 12, V.int 19, V.int 20, V.int 99, V.int 100, V.int 999998, V.int 999999])) M2 (HO.lst (rgV 31 51))) M (HO.lst (menu51.map V.int))) M = some (.lst (menu51.map V.int)) := upd_same
    generalize (upd (upd (upd H1 M1 (HO.lst [V.int 1, V.int 2, V.int 3, V.int 4, V.int 5, V.int 8, V.int 9, V.int 10, V.int 11, V.int 12, V.int 19, V.int 20, V.int 99, V.int 100, V.int 999998, V.int 999999])) M2 (HO.lst (rgV 31 51))) M (HO.lst (menu51.map V.int))) = H3 at S3 hu3 x3 hM3 ⊢
    refine ⟨_, rfl, _, rfl, M, rfl, ⟨_, SqL.of hM3⟩, fun F hF => ?_⟩
    refine lc_list (K := K) (a := M) (xs := menu51.map V.int) (fun i H' => H' F = some (.lst (((menu51.take i).filter fun n => !decide (n ∈ ns)).map V.int)) ∧ Same H3 H') ⟨upd_same, same_new hF⟩ (fun i H' _ h => SqL.of (h.2 _ _ hM3)) ?_ ?_
    · rintro i x H4 hi ⟨h4, m4⟩
      obtain ⟨n, hn, rfl⟩ := map_get hi
      have il := (List.getElem?_eq_some_iff.mp hn).1
      rw [menu_len] at il
      refine ⟨rfl, _, rfl, _, rfl, u, _, rfl, .inl (SqL.of (m4 _ _ hu3)), rfl, flat_ints _, _, rfl, ?_⟩
      rw [show (if true = true then !inV (V.int n) (ns.map V.int) else inV (V.int n) (ns.map V.int)) = !decide (n ∈ ns) by rw [if_pos rfl, inV_ints]]
      by_cases e : n ∈ ns
      · refine iN (by rw [decide_eq_true e]; rfl) ⟨?_, m4⟩
        rw [h4, filt_step2 hn, if_neg (by simpa using e), List.append_nil]
      · refine iG (by rw [decide_eq_false e]; rfl) ⟨_, rfl, _, h4, ?_, ?_, sput m4 hF⟩
        · rw [List.length_map]
          have := List.length_filter_le (fun n => !decide (n ∈ ns)) (menu51.take i)
          rw [List.length_take] at this
          exact small _ (by omega)
        · rw [upd_same, filt_step2 hn, if_pos (by simpa using e), List.map_append]; rfl
    rintro H4 ⟨h4, m4⟩
    rw [List.length_map, List.take_length] at h4
    have S4 := S3.ext m4
    have Fs : F ≠ s := S3.ne hF
    have ne := menu_free nl
    have fl := List.length_filter_le (fun n => !decide (n ∈ ns)) menu51
    rw [menu_len] at fl
    have fm : ∀ x ∈ menu51.filter (fun n => !decide (n ∈ ns)), x ∉ ns := fun x hx => by
      have := (List.mem_filter.mp hx).2
      simpa using this
    generalize menu51.filter (fun n => !decide (n ∈ ns)) = fs at h4 ne fl fm
    refine ⟨12, rfl, F, _, rfl, SqL.of h4, fun R hR => ?_⟩
    rw [cutV_to (by decide), ← List.map_take]
    have n5 := same_new (o := HO.lst ((fs.take (12 : Int).toNat).map V.int)) hR
    have S5 := S4.ext n5
    have Rs := S4.ne hR
    have tne : (fs.take (12 : Int).toNat).map V.int ≠ [] := fun e => by
      have e := List.map_eq_nil_iff.mp e
      rcases List.take_eq_nil_iff.mp e with k | k
      · exact absurd k (by decide)
      · exact ne k
    refine .inl ⟨s, a, R, _, c + 2, rfl, SqL.of upd_same, Rs, tne, by rw [List.length_map, List.length_take]; omega, S5.mono (by omega), fun z H6 zm x6 S6 => ?_⟩
    obtain ⟨n, hn, rfl⟩ := ints_pick zm
    exact q n H6 (fm n (List.mem_of_mem_take hn)) ((x3.trans (Ext.of (m4.trans n5))).trans x6) (S6.mono (by omega))
end
theorem erase_map {α β : Type} (f : α → β) : ∀ (l : List α) (k : Nat), (l.map f).eraseIdx k = (l.eraseIdx k).map f
  | [], k => by simp
  | x :: l, 0 => rfl
  | x :: l, k + 1 => by rw [List.map_cons, List.eraseIdx_cons_succ, List.eraseIdx_cons_succ, List.map_cons, erase_map f l k]
theorem erase_filter {l : List Int} {k : Nat} {n : Int} (nd : l.Nodup) (h : l[k]? = some n) : l.eraseIdx k = l.filter fun x => decide (x ≠ n) := by
  induction l generalizing k with
  | nil => simp at h
  | cons x l ih =>
    obtain ⟨n1, n2⟩ := List.nodup_cons.mp nd
    cases k with
    | zero =>
      have e : x = n := Option.some.inj h
      subst e
      rw [List.filter_cons_of_neg (by simp), List.eraseIdx_cons_zero]
      refine (List.filter_eq_self.mpr fun y hy => ?_).symm
      have : y ≠ x := fun e => n1 (by rw [← e]; exact hy)
      simpa using this
    | succ k =>
      have h : l[k]? = some n := h
      have ne : x ≠ n := fun e => n1 (by rw [e]; exact List.mem_of_getElem? h)
      rw [List.filter_cons_of_pos (by simpa using ne), List.eraseIdx_cons_succ, ih n2 h]
theorem keys_filter (m : Vw) (n : Int) : (m.filter fun e => decide (e.1 ≠ n)).map (·.1) = (m.map (·.1)).filter fun x => decide (x ≠ n) := by
  induction m with
  | nil => rfl
  | cons e m ih =>
    by_cases c : e.1 = n
    · rw [List.filter_cons_of_neg (by simpa using c), List.map_cons, List.filter_cons_of_neg (by simpa using c), ih]
    · rw [List.filter_cons_of_pos (by simpa using c), List.map_cons, List.map_cons, List.filter_cons_of_pos (by simpa using c), ih]
section
variable {P : Program} {w : World} {K : PySem.W.Frag} {mg : Str → Option Value} {base : Heap}
theorem ok__law_changes (D : Df K mg "_law_changes" s__law_changes ["source", "many"]) (T : Tx mg)  (C__law_draw : Cal P w K mg base "_law_draw" ["source", "many"] 2 sp__law_draw) (C__law_names : Cal P w K mg base "_law_names" ["source", "many"] 4 (sp9__law_names K)) (C__law_number : Cal P w K mg base "_law_number" ["source", "view"] 4 (sp51_number K)) (C__law_pick : Cal P w K mg base "_law_pick" ["source", "row"] 3 (sp3__law_pick K)) : Cal P w K mg base "_law_changes" ["source", "many"] 5 (sp51_changes K) := by
  obtain ⟨f__law_draw, fd__law_draw, G__law_draw, g__law_draw, k__law_draw, b__law_draw⟩ := C__law_draw
  obtain ⟨f__law_names, fd__law_names, G__law_names, g__law_names, k__law_names, b__law_names⟩ := C__law_names
  obtain ⟨f__law_number, fd__law_number, G__law_number, g__law_number, k__law_number, b__law_number⟩ := C__law_number
  obtain ⟨f__law_pick, fd__law_pick, G__law_pick, g__law_pick, k__law_pick, b__law_pick⟩ := C__law_pick
  obtain ⟨f, fd, F, gf, bf⟩ := D
  refine ⟨f, fd, F.ok sc__law_changes (fun vs H Q E h => ?_) (fun cdv A outer s₀ H vs Q E hr h => ?_), gf, F.kp, bf⟩
  · obtain ⟨s, a, m, c, rfl, _⟩ := h; rfl
  · obtain ⟨s, a, m, c, rfl, ml, hS, q⟩ := h
    refine ⟨_, (pss_cons (ps_set (i := 2) sc__law_changes.nd rfl (Or.inl rfl) (pe_call G__law_names (hr.mono (by decide)) (by rfl) g__law_names k__law_names b__law_names .nil pass0 (pa_cons (pv 0) (pa_cons pe_int pa_nil))))
      (pss_cons (ps_set (i := 3) sc__law_changes.nd rfl (Or.inl rfl) (pe_lst pa_nil))
      (pss_cons (ps_set (i := 4) sc__law_changes.nd rfl (Or.inl rfl) (pe_lst pa_nil))
      (pss_cons (ps_for PassesOwn.never rfl (pi_range1 (by rfl) T.n_range (pa_cons (pv 1) pa_nil)) (pg_name (i := 5) sc__law_changes.nd rfl (Or.inl rfl))
      (pss_one (ps_if (PW.pt (pw_and (pt_cmpR op_gt (pe_callB call_len_seq (by rfl) T.n_len PySem.boot_len (pa_cons (pv 3) pa_nil)) pe_int (nomark _)) (pw_and1 (pt_cmpR op_in_seq (pe_call G__law_draw (hr.mono (by decide)) (by rfl) g__law_draw k__law_draw b__law_draw .nil pass0 (pa_cons (pv 0) (pa_cons pe_int pa_nil))) (pe_tup (pa_cons pe_int (pa_cons pe_int pa_nil))) (by rfl)))))
        (pss_one (ps_expr (pe_bm PySem.F.plainAttrs_list PySem.F.slot_list_append PySem.F.type_list_append mt_append (pv 4) (pa_cons (pe_tup (pa_cons pe_str (pa_cons (pe_bm PySem.F.plainAttrs_list PySem.F.slot_list_pop PySem.F.type_list_pop mt_popAt (pv 3) (pa_cons (pe_call G__law_draw (hr.mono (by decide)) (by rfl) g__law_draw k__law_draw b__law_draw .nil pass0 (pa_cons (pv 0) (pa_cons (pe_callB call_len_seq (by rfl) T.n_len PySem.boot_len (pa_cons (pv 3) pa_nil)) pa_nil))) pa_nil)) pa_nil))) pa_nil))))
        (pss_cons (ps_set (i := 6) sc__law_changes.nd rfl (Or.inl rfl) (pe_call G__law_number (hr.mono (by decide)) (by rfl) g__law_number k__law_number b__law_number .nil pass0 (pa_cons (pv 0) (pa_cons (pv 3) pa_nil))))
          (pss_cons (ps_expr (pe_bm PySem.F.plainAttrs_list PySem.F.slot_list_append PySem.F.type_list_append mt_append (pv 3) (pa_cons (pv 6) pa_nil)))
          (pss_one (ps_expr (pe_bm PySem.F.plainAttrs_list PySem.F.slot_list_append PySem.F.type_list_append mt_append (pv 4) (pa_cons (pe_tup (pa_cons pe_str (pa_cons (pv 6) (pa_cons (pe_tup (pa_cons (pe_call G__law_pick (hr.mono (by decide)) (by rfl) g__law_pick k__law_pick b__law_pick .nil pass0 (pa_cons (pv 0) (pa_cons (pv 2) pa_nil))) (pa_cons (pe_op op_add pe_int (pe_call G__law_draw (hr.mono (by decide)) (by rfl) g__law_draw k__law_draw b__law_draw .nil pass0 (pa_cons (pv 0) (pa_cons pe_int pa_nil)))) pa_nil))) pa_nil)))) pa_nil)))))))))
      (pss_one (ps_ret (pv 4))))))), ?_⟩
    have small : ∀ n : Nat, n ≤ 30000 → n < sizeLine := fun n h => Nat.lt_of_le_of_lt h (by decide)
    refine ⟨_, rfl, s, a, 2, c + 900, rfl, by decide, hS.mono (by omega), fun N us H1 hN hus ul uN x1 S1 => ?_⟩
    have Ns := hS.ne hN
    refine ⟨Nat.zero_le _, fun W hW => ?_⟩
    have n2 := same_new (o := HO.lst []) hW
    have Ws := S1.ne hW
    have Wa := S1.nea hW
    refine ⟨Nat.zero_le _, fun F hF => ?_⟩
    have n3 := same_new (o := HO.lst []) hF
    have Fs := (S1.ext n2).ne hF
    have Fa := (S1.ext n2).nea hF
    have WF : W ≠ F := ne_of_none (upd_same (a := W) (o := HO.lst [])) hF
    have q1 := n3 _ _ (upd_same (a := W) (o := HO.lst []))
    have q2 : (upd (upd H1 W (HO.lst [])) F (HO.lst [])) F = some (.lst []) := upd_same
    have n23 := n2.trans n3
    have HF0 : H1 F = none := Same.free n2 hF
    have hN3 := n23 _ _ hus
    have S3 := S1.ext n23
    have x3 := x1.trans (Ext.of n23)
    generalize upd (upd H1 W (HO.lst [])) F (HO.lst []) = H3 at q1 q2 n23 hN3 S3 x3 ⊢
    have fresh : ∀ (b : Addr) (o : HO), H b = some o → b ≠ s → b ≠ W ∧ b ≠ F := fun b o hb bs => by
      have h1 := x1 _ _ bs hb
      exact ⟨ne_of_none h1 hW, ne_of_none h1 HF0⟩
    have NW : N ≠ W := ne_of_none hus hW
    have NF : N ≠ F := ne_of_none hus HF0
    refine ⟨_, rfl, _, rfl, by omega, by omega, ?_⟩
    refine for_range (lo := 0) (n := ((m : Nat) : Int).toNat) (fun i σ H' => ∃ (cs : List Chg) (fs : List V) (v5 v6 : Option V), σ = [some (.ref s), some (.int (m : Nat)), some (.ref N), some (.ref W), some (.ref F), v5, v6] ∧ H' W = some (.lst (((vw cs).map (·.1)).map V.int)) ∧ H' F = some (.lst fs) ∧ DVs K H' (cs.map chD) fs ∧ ChOk cs ∧ cs.length = i ∧ H' N = some (.lst (us.map V.str)) ∧ (∀ b o, b ≠ s → H b = some o → H' b = some o) ∧ Src H' s a (c + (900 - 10 * i))) ?_ ?_ ?_
    · exact ⟨[], [], _, _, rfl, q1, q2, dln, ChOk.nil, rfl, hN3, fun b o bs hb => x3 _ _ bs hb, S3.mono (by omega)⟩
    · rintro i σ H4 hi ⟨cs, fs, v5, v6, rfl, hW4, hF4, d4, ok, cl, hN4, x4, S4⟩
      rw [Int.toNat_natCast] at hi
      have vl := vw_len cs []
      rw [List.length_nil] at vl
      have vl : (vw cs).length ≤ cs.length := by unfold vw; omega
      have kl : ((vw cs).map (·.1)).length = (vw cs).length := List.length_map _
      have kl2 : (((vw cs).map (·.1)).map V.int).length = (vw cs).length := by rw [List.length_map, kl]
      -- a new number
      have new_ : ∀ H5, Ext s H4 H5 → Src H5 s a (c + (900 - 10 * i - 2)) → ∃ (g : Nat), True := fun _ _ _ => ⟨0, trivial⟩
      refine ⟨_, rfl, W, _, rfl, .inl (SqL.of hW4), _, _, rfl, rfl, _, rfl, ite2 (fun c1 => ?_) (fun _ => iteF ?_)⟩
      · have c1 := of_decide_eq_true c1
        rw [kl2] at c1
        refine ⟨_, rfl, s, a, 5, c + (900 - 10 * i - 1), rfl, by decide, by decide, S4.mono (by omega), fun z H5 _ _ x5 S5 => ?_⟩
        refine ⟨by show 2 ≤ sizeLine; decide, fun T0 hT0 => ?_⟩
        have m6 := same_new (o := HO.tup [V.int 1, V.int 3]) hT0
        have S6 := S5.ext m6
        have x6 := x5.trans (Ext.of m6)
        have hW6 := x6 _ _ Ws hW4
        have hF6 := x6 _ _ Fs hF4
        have hN6 := x6 _ _ Ns hN4
        have d6 := d4.tk (TK.ext x6 S4)
        refine ⟨T0, _, rfl, .inr (SqT.of upd_same), rfl, rfl, _, rfl, ite2 (fun _ => ?_) (fun _ => ?_)⟩
        · -- one goes
          generalize upd H5 T0 (HO.tup [V.int 1, V.int 3]) = H6 at m6 S6 x6 hW6 hF6 hN6 d6 ⊢
          refine ⟨_, rfl, .inl ⟨rfl, _, SqL.of hF6⟩, _, rfl, .inl ⟨rfl, _, SqL.of hW6⟩, _, rfl, _, rfl, W, _, rfl, .inl (SqL.of hW6), s, a, _, c + (900 - 10 * i - 2), rfl, by rw [kl2]; omega, by rw [kl2]; omega, S6.mono (by omega), fun k H7 k0 k1 x7 S7 => ?_⟩
          rw [kl2] at k1
          have hW7 := x7 _ _ Ws hW6
          have hF7 := x7 _ _ Fs hF6
          have hN7 := x7 _ _ Ns hN6
          have d7 := d6.tk (TK.ext x7 S6)
          obtain ⟨k, rfl⟩ := Int.eq_ofNat_of_zero_le k0
          obtain ⟨n, hn⟩ : ∃ n, ((vw cs).map (·.1))[k]? = some n := ⟨_, List.getElem?_eq_getElem (by omega)⟩
          refine ⟨W, _, (k : Int), k, .int n, rfl, rfl, hW7, by omega, by omega, ?_, by rw [List.getElem?_map, hn]; rfl, ?_⟩
          · have := seqIndex_of (k := (k : Int)) (n := (((vw cs).map (·.1)).map V.int).length) (by omega) (by rw [kl2]; omega)
            exact this
          have nm := List.mem_of_getElem? hn
          have ee : (((vw cs).map (·.1)).map V.int).eraseIdx k = (((vw (cs ++ [.gone n])).map (·.1))).map V.int := by
            rw [vw_snoc]
            unfold vstep
            rw [keys_filter, ← erase_filter ok.nd hn]
            exact erase_map V.int _ k
          rw [ee]
          refine ⟨by show 2 ≤ sizeLine; decide, fun T hT => ?_⟩
          have hW8 : (upd H7 W (HO.lst (((vw (cs ++ [.gone n])).map (·.1)).map V.int))) W = some (.lst (((vw (cs ++ [.gone n])).map (·.1)).map V.int)) := upd_same
          have hF8 : (upd H7 W (HO.lst (((vw (cs ++ [.gone n])).map (·.1)).map V.int))) F = some (.lst fs) := by rw [upd_ne WF.symm]; exact hF7
          have hN8 : (upd H7 W (HO.lst (((vw (cs ++ [.gone n])).map (·.1)).map V.int))) N = some (.lst (us.map V.str)) := by rw [upd_ne NW]; exact hN7
          have S8 := S7.put (o := HO.lst (((vw (cs ++ [.gone n])).map (·.1)).map V.int)) Ws Wa
          have d8 := d7.tk (tk_put (o := HO.lst (((vw (cs ++ [.gone n])).map (·.1)).map V.int)) hW7)
          have x8 : ∀ b o, b ≠ s → H b = some o → (upd H7 W (HO.lst (((vw (cs ++ [.gone n])).map (·.1)).map V.int))) b = some o := fun b o bs hb => by
            rw [upd_ne (fresh b o hb bs).1]; exact x7 _ _ bs (x6 _ _ bs (x4 b o bs hb))
          generalize upd H7 W (HO.lst (((vw (cs ++ [.gone n])).map (·.1)).map V.int)) = H8 at hT hW8 hF8 hN8 S8 d8 x8 ⊢
          have m9 := same_new (o := HO.tup [V.str (Str.ofString "gone"), V.int n]) hT
          have hF9 := m9 _ _ hF8
          have tk := (TK.same (K := K) m9).trans (tk_put (o := HO.lst (fs ++ [V.ref T])) hF9)
          refine ⟨F, _, _, rfl, rfl, hF9, by rw [d4.map_len]; exact small _ (by omega), cs ++ [.gone n], fs ++ [V.ref T], _, _, rfl, by rw [upd_ne WF]; exact m9 _ _ hW8, upd_same, DVs.snoc (x := Chg.gone n) (d8.tk tk) ⟨T, _, rfl, (tk_put hF9) _ _ (SqT.of upd_same), dlc (dls _) (dlc (dli _) dln)⟩, ok.snoc (show fitsC (vw cs) (.gone n) from nm), by rw [List.length_append, cl]; rfl, by rw [upd_ne NF]; exact m9 _ _ hN8, fun b o bs hb => ?_, ((S8.ext m9).put Fs Fa).mono (by omega)⟩
          rw [upd_ne (fresh b o hb bs).2]; exact m9 _ _ (x8 b o bs hb)
        · -- a new one
          generalize upd H5 T0 (HO.tup [V.int 1, V.int 3]) = H6 at m6 S6 x6 hW6 hF6 hN6 d6 ⊢
          refine ⟨_, rfl, _, rfl, s, a, W, _, c + (900 - 10 * i - 6), rfl, hW6, Ws, by rw [kl]; omega, S6.mono (by omega), fun n H7 nn x7 S7 => ?_⟩
          have hW7 := x7 _ _ Ws hW6
          have hF7 := x7 _ _ Fs hF6
          have hN7 := x7 _ _ Ns hN6
          have d7 := d6.tk (TK.ext x7 S6)
          have x07 : ∀ b o, b ≠ s → H b = some o → H7 b = some o := fun b o bs hb => x7 _ _ bs (x6 _ _ bs (x4 b o bs hb))
          refine ⟨_, rfl, .inl ⟨rfl, _, SqL.of hW7⟩, _, rfl, W, _, _, rfl, rfl, hW7, by rw [kl2]; exact small _ (by omega), ?_⟩
          have eW : ((vw cs).map (·.1)).map V.int ++ [V.int n] = (((vw cs).map (·.1)) ++ [n]).map V.int := by rw [List.map_append]; rfl
          rw [eW]
          have hW8 : (upd H7 W (HO.lst ((((vw cs).map (·.1)) ++ [n]).map V.int))) W = some (.lst ((((vw cs).map (·.1)) ++ [n]).map V.int)) := upd_same
          have hF8 : (upd H7 W (HO.lst ((((vw cs).map (·.1)) ++ [n]).map V.int))) F = some (.lst fs) := by rw [upd_ne WF.symm]; exact hF7
          have hN8 : (upd H7 W (HO.lst ((((vw cs).map (·.1)) ++ [n]).map V.int))) N = some (.lst (us.map V.str)) := by rw [upd_ne NW]; exact hN7
          have S8 := S7.put (o := HO.lst ((((vw cs).map (·.1)) ++ [n]).map V.int)) Ws Wa
          have d8 := d7.tk (tk_put (o := HO.lst ((((vw cs).map (·.1)) ++ [n]).map V.int)) hW7)
          have x8 : ∀ b o, b ≠ s → H b = some o → (upd H7 W (HO.lst ((((vw cs).map (·.1)) ++ [n]).map V.int))) b = some o := fun b o bs hb => by
            rw [upd_ne (fresh b o hb bs).1]; exact x07 b o bs hb
          generalize upd H7 W (HO.lst ((((vw cs).map (·.1)) ++ [n]).map V.int)) = H8 at hW8 hF8 hN8 S8 d8 x8 ⊢
          refine ⟨_, rfl, .inl ⟨rfl, _, SqL.of hF8⟩, _, rfl, _, rfl, _, rfl, .inl ⟨s, a, N, _, c + (900 - 10 * i - 7), rfl, SqL.of hN8, Ns, ?_, by rw [List.length_map]; omega, S8.mono (by omega), fun z H9 zm x9 S9 => ?_⟩⟩
          · intro e
            have := List.map_eq_nil_iff.mp e
            rw [this] at ul; cases ul
          obtain ⟨y, ym, rfl⟩ := List.mem_map.mp zm
          refine ⟨_, rfl, s, a, 12, c + (900 - 10 * (i + 1)), rfl, by decide, by decide, S9.mono (by omega), fun g H10 _ _ x10 S10 => ⟨_, _, rfl, rfl, ?_⟩⟩
          refine ⟨by show 2 ≤ sizeLine; decide, fun T1 hT1 => ?_⟩
          have m11 := same_new (o := HO.tup [V.str y, V.int (1 + g)]) hT1
          refine ⟨by show 3 ≤ sizeLine; decide, fun T hT => ?_⟩
          have m12 := same_new (o := HO.tup [V.str (Str.ofString "new"), V.int n, V.ref T1]) hT
          have hT12 := m12 _ _ (upd_same (H := H10) (a := T1) (o := HO.tup [V.str y, V.int (1 + g)]))
          have m1112 := m11.trans m12
          have x812 := (x9.trans x10).trans (Ext.of m1112)
          have hF12 := x812 _ _ Fs hF8
          have hTT : (upd (upd H10 T1 (HO.tup [V.str y, V.int (1 + g)])) T (HO.tup [V.str (Str.ofString "new"), V.int n, V.ref T1])) T = some (.tup [V.str (Str.ofString "new"), V.int n, V.ref T1]) := upd_same
          have S12 := S10.ext m1112
          generalize upd (upd H10 T1 (HO.tup [V.str y, V.int (1 + g)])) T (HO.tup [V.str (Str.ofString "new"), V.int n, V.ref T1]) = H12 at hT12 x812 hF12 hTT S12 ⊢
          have t12 := tk_put (K := K) (o := HO.lst (fs ++ [V.ref T])) hF12
          have tk := (TK.ext (K := K) x812 S8).trans t12
          refine ⟨F, _, _, rfl, rfl, hF12, by rw [d4.map_len]; exact small _ (by omega), cs ++ [.new n (y, 1 + g)], fs ++ [V.ref T], _, _, rfl, ?_, upd_same, DVs.snoc (x := Chg.new n (y, 1 + g)) (d8.tk tk) ⟨T, _, rfl, t12 _ _ (SqT.of hTT), dlc (dls _) (dlc (dli _) (dlc ⟨T1, _, rfl, t12 _ _ (SqT.of hT12), dlc (dls _) (dlc (dli _) dln)⟩ dln))⟩, ok.snoc (show fitsC (vw cs) (.new n (y, 1 + g)) from nn), by rw [List.length_append, cl]; rfl, by rw [upd_ne NF]; exact x812 _ _ Ns hN8, fun b o bs hb => ?_, (S12.put Fs Fa).mono (by omega)⟩
          · rw [upd_ne WF, vw_snoc]
            unfold vstep
            rw [List.map_append]
            exact x812 _ _ Ws hW8
          · rw [upd_ne (fresh b o hb bs).2]; exact x812 _ _ bs (x8 b o bs hb)
      · refine ⟨_, rfl, _, rfl, s, a, W, _, c + (900 - 10 * i - 6), rfl, hW4, Ws, by rw [kl]; omega, S4.mono (by omega), fun n H7 nn x7 S7 => ?_⟩
        have hW7 := x7 _ _ Ws hW4
        have hF7 := x7 _ _ Fs hF4
        have hN7 := x7 _ _ Ns hN4
        have d7 := d4.tk (TK.ext x7 S4)
        have x07 : ∀ b o, b ≠ s → H b = some o → H7 b = some o := fun b o bs hb => x7 _ _ bs (x4 b o bs hb)
        refine ⟨_, rfl, .inl ⟨rfl, _, SqL.of hW7⟩, _, rfl, W, _, _, rfl, rfl, hW7, by rw [kl2]; exact small _ (by omega), ?_⟩
        have eW : ((vw cs).map (·.1)).map V.int ++ [V.int n] = (((vw cs).map (·.1)) ++ [n]).map V.int := by rw [List.map_append]; rfl
        rw [eW]
        have hW8 : (upd H7 W (HO.lst ((((vw cs).map (·.1)) ++ [n]).map V.int))) W = some (.lst ((((vw cs).map (·.1)) ++ [n]).map V.int)) := upd_same
        have hF8 : (upd H7 W (HO.lst ((((vw cs).map (·.1)) ++ [n]).map V.int))) F = some (.lst fs) := by rw [upd_ne WF.symm]; exact hF7
        have hN8 : (upd H7 W (HO.lst ((((vw cs).map (·.1)) ++ [n]).map V.int))) N = some (.lst (us.map V.str)) := by rw [upd_ne NW]; exact hN7
        have S8 := S7.put (o := HO.lst ((((vw cs).map (·.1)) ++ [n]).map V.int)) Ws Wa
        have d8 := d7.tk (tk_put (o := HO.lst ((((vw cs).map (·.1)) ++ [n]).map V.int)) hW7)
        have x8 : ∀ b o, b ≠ s → H b = some o → (upd H7 W (HO.lst ((((vw cs).map (·.1)) ++ [n]).map V.int))) b = some o := fun b o bs hb => by
          rw [upd_ne (fresh b o hb bs).1]; exact x07 b o bs hb
        generalize upd H7 W (HO.lst ((((vw cs).map (·.1)) ++ [n]).map V.int)) = H8 at hW8 hF8 hN8 S8 d8 x8 ⊢
        refine ⟨_, rfl, .inl ⟨rfl, _, SqL.of hF8⟩, _, rfl, _, rfl, _, rfl, .inl ⟨s, a, N, _, c + (900 - 10 * i - 7), rfl, SqL.of hN8, Ns, ?_, by rw [List.length_map]; omega, S8.mono (by omega), fun z H9 zm x9 S9 => ?_⟩⟩
        · intro e
          have := List.map_eq_nil_iff.mp e
          rw [this] at ul; cases ul
        obtain ⟨y, ym, rfl⟩ := List.mem_map.mp zm
        refine ⟨_, rfl, s, a, 12, c + (900 - 10 * (i + 1)), rfl, by decide, by decide, S9.mono (by omega), fun g H10 _ _ x10 S10 => ⟨_, _, rfl, rfl, ?_⟩⟩
        refine ⟨by show 2 ≤ sizeLine; decide, fun T1 hT1 => ?_⟩
        have m11 := same_new (o := HO.tup [V.str y, V.int (1 + g)]) hT1
        refine ⟨by show 3 ≤ sizeLine; decide, fun T hT => ?_⟩
        have m12 := same_new (o := HO.tup [V.str (Str.ofString "new"), V.int n, V.ref T1]) hT
        have hT12 := m12 _ _ (upd_same (H := H10) (a := T1) (o := HO.tup [V.str y, V.int (1 + g)]))
        have m1112 := m11.trans m12
        have x812 := (x9.trans x10).trans (Ext.of m1112)
        have hF12 := x812 _ _ Fs hF8
        have hTT : (upd (upd H10 T1 (HO.tup [V.str y, V.int (1 + g)])) T (HO.tup [V.str (Str.ofString "new"), V.int n, V.ref T1])) T = some (.tup [V.str (Str.ofString "new"), V.int n, V.ref T1]) := upd_same
        have S12 := S10.ext m1112
        generalize upd (upd H10 T1 (HO.tup [V.str y, V.int (1 + g)])) T (HO.tup [V.str (Str.ofString "new"), V.int n, V.ref T1]) = H12 at hT12 x812 hF12 hTT S12 ⊢
        have t12 := tk_put (K := K) (o := HO.lst (fs ++ [V.ref T])) hF12
        have tk := (TK.ext (K := K) x812 S8).trans t12
        refine ⟨F, _, _, rfl, rfl, hF12, by rw [d4.map_len]; exact small _ (by omega), cs ++ [.new n (y, 1 + g)], fs ++ [V.ref T], _, _, rfl, ?_, upd_same, DVs.snoc (x := Chg.new n (y, 1 + g)) (d8.tk tk) ⟨T, _, rfl, t12 _ _ (SqT.of hTT), dlc (dls _) (dlc (dli _) (dlc ⟨T1, _, rfl, t12 _ _ (SqT.of hT12), dlc (dls _) (dlc (dli _) dln)⟩ dln))⟩, ok.snoc (show fitsC (vw cs) (.new n (y, 1 + g)) from nn), by rw [List.length_append, cl]; rfl, by rw [upd_ne NF]; exact x812 _ _ Ns hN8, fun b o bs hb => ?_, (S12.put Fs Fa).mono (by omega)⟩
        · rw [upd_ne WF, vw_snoc]
          unfold vstep
          rw [List.map_append]
          exact x812 _ _ Ws hW8
        · rw [upd_ne (fresh b o hb bs).2]; exact x812 _ _ bs (x8 b o bs hb)
    rintro σ H4 ⟨cs, fs, v5, v6, rfl, hW4, hF4, d4, ok, cl, hN4, x4, S4⟩
    rw [Int.toNat_natCast] at cl S4
    have hF00 : H F = none := by
      cases e : H F with
      | none => rfl
      | some o => exact absurd (fresh F o e Fs).2 (by simp)
    exact ⟨_, rfl, q F fs cs H4 hF00 hF4 d4 ok cl (fun b o bs hb => x4 b o bs hb) (S4.mono (by omega))⟩
end

end Z
namespace Z
open PySem L2 SX
theorem ch_at {K : PySem.W.Frag} {H : Hp} {c : Chg} {v : V} (h : DV K H (chD c) v) : ∃ t us, v = .ref t ∧ SqT K H t us ∧ match c with
    | .new n i => ∃ iv, us = [.str (Str.ofString "new"), .int n, iv] ∧ DV K H (idD i) iv
    | .gone n => us = [.str (Str.ofString "gone"), .int n] := by
  cases c with
  | new n i =>
    obtain ⟨t, us, rfl, hT, d⟩ := h
    obtain ⟨u0, r0, rfl, d0, d⟩ := d
    obtain ⟨u1, r1, rfl, d1, d⟩ := d
    obtain ⟨u2, r2, rfl, d2, d⟩ := d
    unfold DV at d0 d1
    unfold DVs at d
    subst d0; subst d1; subst d
    exact ⟨t, _, rfl, hT, u2, rfl, d2⟩
  | gone n =>
    obtain ⟨t, us, rfl, hT, d⟩ := h
    obtain ⟨u0, r0, rfl, d0, d⟩ := d
    obtain ⟨u1, r1, rfl, d1, d⟩ := d
    unfold DV at d0 d1
    unfold DVs at d
    subst d0; subst d1; subst d
    exact ⟨t, _, rfl, hT, rfl⟩
theorem new_new : decide (V.str (Str.ofString "new") = V.str (Str.ofString "new")) = true := decide_eq_true rfl
theorem gone_new : decide (V.str (Str.ofString "gone") = V.str (Str.ofString "new")) = false := decide_eq_false fun e => by
  have := congrArg tl (V.str.inj e)
  exact absurd this (by decide)
section
variable {P : Program} {w : World} {K : PySem.W.Frag} {mg : Str → Option Value} {base : Heap}
theorem ok__law_view (D : Df K mg "_law_view" s__law_view ["changes"]) (T : Tx mg)   : Cal P w K mg base "_law_view" ["changes"] 1 (sp51_view K) := by
  obtain ⟨f, fd, F, gf, bf⟩ := D
  refine ⟨f, fd, F.ok sc__law_view (fun vs H Q E h => ?_) (fun cdv A outer s₀ H vs Q E hr h => ?_), gf, F.kp, bf⟩
  · obtain ⟨p, us, cs, rfl, _⟩ := h; rfl
  · obtain ⟨p, us, cs, rfl, hp, ds, ok, cl, q⟩ := h
    refine ⟨_, (pss_cons (ps_set (i := 1) sc__law_view.nd rfl (Or.inr rfl) pe_dnewK)
      (pss_cons (ps_for PassesOwn.never rfl (pi_list (pv 0)) (pg_name (i := 2) sc__law_view.nd rfl (Or.inl rfl))
      (pss_one (ps_if (pt_cmpR op_eq (pe_ix ix_tup (pv 2) pe_int (fun _ _ => rfl)) pe_str (nomark _))
        (pss_one (ps_dput (hu_of hr) (pv 1) (pe_ix ix_tup (pv 2) pe_int (fun _ _ => rfl)) (pe_ix ix_tup (pv 2) pe_int (fun _ _ => rfl)) rfl))
        (pss_one (ps_expr (pe_dpop1 (pv 1) (pe_ix ix_tup (pv 2) pe_int (fun _ _ => rfl)) ⟨rfl, rfl, rfl, rfl⟩))))))
      (pss_one (ps_ret (pe_callTy call_tuple_of (by rfl) T.n_tuple (by decide +kernel) (pa_cons (pe_lc (own := [("number", 3)]) (g := gName 3) (tt := tYes) rfl sc__law_view.nd (pi_list (pe_callB (cr_sortKeys (room65 hr) rfl) (by rfl) T.n_sorted (by decide +kernel) (pa_cons (pv 1) pa_nil))) (blkOk_by (own := [("number", 3)]) (N := N__law_view) (sc := defScope s__law_view) (by decide +kernel)) (fun _ _ _ _ _ => pg_name (i := 3) sc__law_view.nd rfl (Or.inl rfl)) (fun _ _ _ _ _ => pts_nil) (fun _ _ _ _ _ => (pe_tup (pa_cons (pv 3) (pa_cons (pe_dget (hu_of hr) (pv 1) (pv 3) (fun _ _ => rfl)) pa_nil))))) pa_nil)))))), ?_⟩
    have small : ∀ n : Nat, n ≤ 30000 → n < sizeLine := fun n h => Nat.lt_of_le_of_lt h (by decide)
    have ul := ds.map_len
    refine fun D hD => ?_
    have n0 := same_new (o := HO.dK []) hD
    refine ⟨_, rfl, p, rfl, ⟨_, n0.seq hp⟩, ?_⟩
    refine for_list (K := K) (a := p) (xs := us) (fun i σ H' => ∃ (v2 : Option V) (kvs : List (Key × V)), σ = [some (.ref p), some (.ref D), v2, none] ∧ H' D = some (.dK kvs) ∧ KvD K H' kvs (vw (cs.take i)) ∧ Same H H') ⟨_, [], rfl, upd_same, True.intro, n0⟩ (fun i σ H' _ h => by obtain ⟨_, _, _, _, _, m⟩ := h; exact m.seq hp) ?_ ?_
    · rintro i x σ H1 hi ⟨v2, kvs, rfl, h1, kv, m1⟩
      obtain ⟨c, hc, dx⟩ := ds.map_get hi
      have il := (List.getElem?_eq_some_iff.mp hc).1
      have ft := ok i c hc
      have vl := vw_len (cs.take i) []
      rw [List.length_nil, List.length_take] at vl
      have kl : kvs.length ≤ 1000 := by rw [kv.len]; unfold vw; omega
      obtain ⟨t, ts, rfl, hT, rest⟩ := ch_at (dx.tk (TK.same m1))
      rw [vw_step hc]
      cases c with
      | new n iv =>
        obtain ⟨w, rfl, dw⟩ := rest
        refine ⟨_, rfl, t, _, 0, _, rfl, rfl, hT, atI_nat (j := 0) rfl, rfl, _, rfl, iG new_new ?_⟩
        refine ⟨_, rfl, t, _, 2, _, rfl, rfl, hT, atI_nat (j := 2) rfl, _, rfl, _, rfl, t, _, 1, _, rfl, rfl, hT, atI_nat (j := 1) rfl, D, _, rfl, DPut.k (k := Sum.inl n) (v := w) h1 (small _ (by omega)), ?_⟩
        rw [putK_new _ (kv.none ft)]
        have t2 : TK K H1 (upd H1 D (.dK (kvs ++ [(Sum.inl n, w)]))) := tk_upd h1 (fun _ e => by cases e) (fun _ _ e => by cases e)
        exact ⟨_, _, rfl, upd_same, KvD.snoc (dw.tk t2) (kv.tk t2), sput m1 hD⟩
      | gone n =>
        have rest : ts = [.str (Str.ofString "gone"), .int n] := rest
        subst rest
        obtain ⟨v0, hv0, _⟩ := kv.get ft
        refine ⟨_, rfl, t, _, 0, _, rfl, rfl, hT, atI_nat (j := 0) rfl, rfl, _, rfl, iN gone_new ?_⟩
        refine ⟨_, rfl, D, rfl, .inl ⟨_, .inl h1⟩, _, rfl, t, _, 1, _, rfl, rfl, hT, atI_nat (j := 1) rfl, kvs, Sum.inl n, v0, h1, rfl, hv0, ?_⟩
        have t2 : TK K H1 (upd H1 D (.dK (dropK kvs (Sum.inl n)))) := tk_upd h1 (fun _ e => by cases e) (fun _ _ e => by cases e)
        exact ⟨_, _, rfl, upd_same, KvD.drop n (kv.tk t2), sput m1 hD⟩
    rintro σ H1 ⟨v2, kvs, rfl, h1, kv, m1⟩
    rw [ul, List.take_length] at kv
    have nd := ok.nd
    have vl := vw_len cs []
    rw [List.length_nil] at vl
    have nl : ((vw cs).map (·.1)).length ≤ 1000 := by rw [List.length_map]; unfold vw; omega
    refine ⟨_, rfl, D, kvs, rfl, h1, ?_, fun S hS => ?_⟩
    · rw [kv.keys]
      rw [List.map_map]
      exact aa_int (f := fun x => x)
    rw [kv.keys, kd_sort, List.map_map]
    have m2 := same_new (o := HO.lst ((srtI ((vw cs).map (·.1))).map (kV ∘ Sum.inl))) hS
    have hS2 : (upd H1 S (HO.lst ((srtI ((vw cs).map (·.1))).map (kV ∘ Sum.inl)))) S = some (.lst ((srtI ((vw cs).map (·.1))).map V.int)) := upd_same
    have h2 := m2 _ _ h1
    generalize (upd H1 S (HO.lst ((srtI ((vw cs).map (·.1))).map (kV ∘ Sum.inl)))) = H2 at m2 hS2 h2 ⊢
    have sl := (srtI_perm ((vw cs).map (·.1))).length_eq
    have sm : ∀ x ∈ srtI ((vw cs).map (·.1)), x ∈ (vw cs).map (·.1) := fun x hx => (srtI_perm _).mem_iff.mp hx
    unfold viewD at q
    generalize srtI ((vw cs).map (·.1)) = ns at q hS2 sl sm
    have kv2 := kv.tk (TK.same m2)
    refine ⟨S, rfl, ⟨_, SqL.of hS2⟩, fun M hM => ?_⟩
    refine lc_list (K := K) (a := S) (xs := ns.map V.int) (fun i H' => ∃ ws, H' M = some (.lst ws) ∧ DVs K H' ((ns.take i).map (pvD (vw cs))) ws ∧ Same H2 H') ⟨[], upd_same, dln, same_new hM⟩ (fun i H' _ h => by obtain ⟨_, _, _, m⟩ := h; exact SqL.of (m _ _ hS2)) ?_ ?_
    · rintro i x H3 hi ⟨ws, h3, d3, m3⟩
      obtain ⟨n, hn, rfl⟩ := map_get hi
      have il := (List.getElem?_eq_some_iff.mp hn).1
      obtain ⟨v, hv, dv⟩ := kv2.get (sm n (List.mem_of_getElem? hn))
      have g : DGet H3 D (V.int n) (some v) := by
        have := DGet.k (k := (Sum.inl n : Key)) (m3 _ _ h2)
        rw [hv] at this
        exact this
      refine ⟨rfl, _, rfl, _, rfl, _, rfl, D, _, rfl, g, by show 2 ≤ sizeLine; decide, fun T hT => ?_⟩
      have m4 := same_new (o := HO.tup [V.int n, v]) hT
      have h4 := m4 _ _ h3
      have tk := (TK.same (K := K) m4).trans (tk_put (o := HO.lst (ws ++ [V.ref T])) h4)
      refine ⟨_, h4, by rw [d3.map_len, List.length_take]; exact small _ (by omega), ws ++ [V.ref T], upd_same, ?_, sput (m3.trans m4) hM⟩
      rw [List.take_add_one, hn]
      exact DVs.snoc (d3.tk tk) ⟨T, _, rfl, (tk_put h4) _ _ (SqT.of upd_same), dlc (dli _) (dlc ((dv.tk (TK.same m3)).tk tk) dln)⟩
    rintro H3 ⟨ws, h3, d3, m3⟩
    rw [List.length_map, List.take_length] at d3
    refine ⟨M, _, rfl, .inl ⟨SqL.of h3, fun T hT => ?_⟩⟩
    have m4 := same_new (o := HO.tup ws) hT
    exact q _ _ (m1.trans (m2.trans (m3.trans m4))) ⟨T, ws, rfl, SqT.of upd_same, d3.tk (TK.same m4)⟩
end
section
variable {P : Program} {w : World} {K : PySem.W.Frag} {mg : Str → Option Value} {base : Heap}
theorem ok__law_do (D : Df K mg "_law_do" s__law_do ["story", "change"]) (T : Tx mg) {A_Story A_Desk : Addr} (O : To K mg A_Story A_Desk)  (C_Story__gone : CalM P w K mg base A_Story "gone" ["self", "number"] 2 (sp51_gone K A_Story)) (C_Story__new : CalM P w K mg base A_Story "new" ["self", "number", "id"] 2 (sp51_new K A_Story)) : Cal P w K mg base "_law_do" ["story", "change"] 3 (sp51_do K A_Story) := by
  obtain ⟨f_Story__gone, fd_Story__gone, G_Story__gone, h_Story__gone, b_Story__gone⟩ := C_Story__gone
  obtain ⟨f_Story__new, fd_Story__new, G_Story__new, h_Story__new, b_Story__new⟩ := C_Story__new
  obtain ⟨f, fd, F, gf, bf⟩ := D
  refine ⟨f, fd, F.ok sc__law_do (fun vs H Q E h => ?_) (fun cdv A outer s₀ H vs Q E hr h => ?_), gf, F.kp, bf⟩
  · obtain ⟨p, ch, nu, lim, cs, c, cv, rfl, _⟩ := h; rfl
  · obtain ⟨p, ch, nu, lim, cs, c, cv, rfl, st, dc, ft, ll, cl, pc, pn, cn, q⟩ := h
    refine ⟨_, (pss_cons (ps_if (pt_cmpR op_eq (pe_ix ix_tup (pv 1) pe_int (fun _ _ => rfl)) pe_str (nomark _))
      (pss_one (ps_ret (pe_meth (pv 0) O.c_Story h_Story__new G_Story__new (hr.mono (by decide)) b_Story__new .nil pass0 (pa_cons (pe_ix ix_tup (pv 1) pe_int (fun _ _ => rfl)) (pa_cons (pe_ix ix_tup (pv 1) pe_int (fun _ _ => rfl)) pa_nil)))))
      pss_nil)
      (pss_one (ps_ret (pe_meth (pv 0) O.c_Story h_Story__gone G_Story__gone (hr.mono (by decide)) b_Story__gone .nil pass0 (pa_cons (pe_ix ix_tup (pv 1) pe_int (fun _ _ => rfl)) pa_nil))))), ?_⟩
    have ob := st.ob
    obtain ⟨dx, ob⟩ := ob
    obtain ⟨t, ts, rfl, hT, rest⟩ := ch_at dc
    cases c with
    | new n i =>
      obtain ⟨w, rfl, dw⟩ := rest
      refine ⟨_, rfl, t, _, 0, _, rfl, rfl, hT, atI_nat (j := 0) rfl, rfl, _, rfl, iG new_new ?_⟩
      exact ⟨_, rfl, p, dx, _, rfl, ob, rfl, _, rfl, t, _, 1, _, rfl, rfl, hT, atI_nat (j := 1) rfl, _, rfl, t, _, 2, _, rfl, rfl, hT, atI_nat (j := 2) rfl, p, ch, nu, lim, cs, n, i, w, rfl, st, dw, ft, ll, cl, pc, pn, cn, q⟩
    | gone n =>
      have rest : ts = [.str (Str.ofString "gone"), .int n] := rest
      subst rest
      refine ⟨_, rfl, t, _, 0, _, rfl, rfl, hT, atI_nat (j := 0) rfl, rfl, _, rfl, iN gone_new ?_⟩
      exact ⟨_, rfl, p, dx, _, rfl, ob, rfl, _, rfl, t, _, 1, _, rfl, rfl, hT, atI_nat (j := 1) rfl, p, ch, nu, lim, cs, n, rfl, st, ft, ll, cl, pc, pn, cn, q⟩
end

end Z
namespace Z
open PySem L2 SX
theorem new_take {α : Type} {l : List α} {i : Nat} {k : α} (nd : l.Nodup) (h : l[i]? = some k) : k ∉ l.take i := fun m => by
  have := (List.take_sublist (i + 1) l).nodup nd
  rw [List.take_add_one, h] at this
  exact (List.nodup_append.mp this).2.2 k m k (by simp) rfl
theorem srtI_nd {l : List Int} (nd : l.Nodup) : (srtI l).Nodup := (srtI_perm l).nodup_iff.mpr nd
theorem whole_whole : decide (V.str (Str.ofString "whole") = V.str (Str.ofString "whole")) = true := decide_eq_true rfl
theorem since_whole : decide (V.str (Str.ofString "since") = V.str (Str.ofString "whole")) = false := decide_eq_false fun e => by
  have := congrArg tl (V.str.inj e)
  exact absurd this (by decide)
section
variable {P : Program} {w : World} {K : PySem.W.Frag} {mg : Str → Option Value} {base : Heap}
theorem ok_Desk____init__ {A_Story A_Desk : Addr} (D : DfI K A_Desk "Desk.__init__" s_Desk____init__ ["self"]) (T : Tx mg) (O : To K mg A_Story A_Desk)   : CalI P w K mg base A_Desk ["self"] 1 (sp52_init K A_Desk) := by
  obtain ⟨f, fd, F, gf, bf⟩ := D
  refine ⟨f, fd, F.ok sc_Desk____init__ (fun vs H Q E h => ?_) (fun cdv A outer s₀ H vs Q E hr h => ?_), gf, bf⟩
  · obtain ⟨p, dx, rfl, _⟩ := h; rfl
  · obtain ⟨p, dx, rfl, hp, q⟩ := h
    refine ⟨_, (pss_cons (ps_fld (pv 0) pe_int rfl)
      (pss_one (ps_fld (pv 0) pe_dnewK rfl))), ?_⟩
    refine ⟨_, rfl, p, A_Desk, dx, _, rfl, hp, O.c_Desk, O.n_Desk_stamp, by decide, ?_⟩
    refine fun nu hnu => ⟨_, rfl, ?_⟩
    have pn : p ≠ nu := fun e => by rw [← e, upd_same] at hnu; cases hnu
    refine ⟨p, A_Desk, dx, _, rfl, by rw [upd_ne pn]; exact upd_same, O.c_Desk, O.n_Desk_numbers, by show (1 : Nat) < 1000; decide, ?_⟩
    rw [upd_ne pn.symm] at hnu
    refine q nu _ hnu (fun b o nb hb => ?_) ⟨⟨dx, upd_same⟩, ⟨[], [], ?_, True.intro, .refl _⟩⟩
    · have b1 : b ≠ p := fun e => nb (by rw [e]; simp)
      rw [upd_ne b1, upd_ne (ne_of_none hb hnu), upd_ne b1]; exact hb
    · rw [upd_ne pn.symm]; exact upd_same
end
section
variable {P : Program} {w : World} {K : PySem.W.Frag} {mg : Str → Option Value} {base : Heap}
theorem ok_Desk__stamp {A_Story A_Desk : Addr} (D : DfP K A_Desk "stamp" "Desk.stamp" s_Desk__stamp ["self"]) (T : Tx mg) (O : To K mg A_Story A_Desk)   : CalP P w K mg base A_Desk "stamp" ["self"] 1 (sp52_stamp K A_Desk) := by
  obtain ⟨p, f, fd, F, gf, bf⟩ := D
  refine ⟨p, f, fd, F.ok sc_Desk__stamp (fun vs H Q E h => ?_) (fun cdv A outer s₀ H vs Q E hr h => ?_), gf, bf⟩
  · obtain ⟨p, nu, n, m, rfl, _⟩ := h; rfl
  · obtain ⟨p, nu, n, m, rfl, d, q⟩ := h
    refine ⟨_, (pss_one (ps_ret (pe_fld (pv 0) rfl))), ?_⟩
    obtain ⟨⟨dx, ob⟩, _⟩ := d
    exact ⟨_, rfl, p, A_Desk, dx, _, _, rfl, ob, O.c_Desk, O.n_Desk_stamp, rfl, q⟩
end
section
variable {P : Program} {w : World} {K : PySem.W.Frag} {mg : Str → Option Value} {base : Heap}
theorem ok_Desk__view {A_Story A_Desk : Addr} (D : DfP K A_Desk "view" "Desk.view" s_Desk__view ["self"]) (T : Tx mg) (O : To K mg A_Story A_Desk)   : CalP P w K mg base A_Desk "view" ["self"] 1 (sp52_view K A_Desk) := by
  obtain ⟨p, f, fd, F, gf, bf⟩ := D
  refine ⟨p, f, fd, F.ok sc_Desk__view (fun vs H Q E h => ?_) (fun cdv A outer s₀ H vs Q E hr h => ?_), gf, bf⟩
  · obtain ⟨p, nu, n, m, rfl, _⟩ := h; rfl
  · obtain ⟨p, nu, n, m, rfl, d, nd, q⟩ := h
    refine ⟨_, (pss_one (ps_ret (pe_callTy call_tuple_of (by rfl) T.n_tuple (by decide +kernel) (pa_cons (pe_callB (cr_sortItemsQ (K := K) rfl (room65 hr) rfl) (by rfl) T.n_sorted (by decide +kernel) (pa_cons (pe_bm0 PySem.F.plainAttrs_dict PySem.F.slot_dict_items PySem.F.type_dict_items mt_itemsK (pe_fld (pv 0) rfl)) pa_nil)) pa_nil)))), ?_⟩
    obtain ⟨⟨dx, ob⟩, ⟨kvs, m', hn, kv, pm⟩⟩ := d
    have nd' : (m'.map (·.1)).Nodup := (pm.map (·.1)).nodup_iff.mpr nd
    rw [← view_perm pm nd] at q
    refine ⟨_, rfl, p, A_Desk, dx, _, _, rfl, ob, O.c_Desk, O.n_Desk_numbers, rfl, .inr (.inr (.inl ⟨rfl, .inl ⟨_, hn⟩⟩)), nu, kvs, rfl, rfl, hn, fun w hw => ?_⟩
    have m1 := same_new (o := L2.DX.itemsO w nu) hw
    have hn1 := m1 _ _ hn
    refine ⟨w, nu, kvs, Int, m'.map (·.1), Sum.inl, fun n => idD (look m' n), rfl, upd_same, hn1, kv.keys, (KvD.vals kv fun e he => look_at nd' he).tk (TK.same m1), aa_of (alike_pv m'), fun b _ => depth_pv m' b, fun ys r H' m2 hr2 hy dy => ?_⟩
    rw [show prD (Sum.inl : Int → Key) (fun n => idD (look m' n)) = pvD m' from rfl, pv_sort] at dy
    refine ⟨r, ys, rfl, .inl ⟨SqL.of hy, fun T hT => ?_⟩⟩
    have m3 := same_new (o := HO.tup ys) hT
    exact q _ _ (m1.trans (m2.trans m3)) ⟨T, ys, rfl, SqT.of upd_same, dy.tk (TK.same m3)⟩
end
section
variable {P : Program} {w : World} {K : PySem.W.Frag} {mg : Str → Option Value} {base : Heap}
theorem ok_Desk__do_change {A_Story A_Desk : Addr} (D : DfM K A_Desk "do_change" "Desk.do_change" s_Desk__do_change ["self", "change"]) (T : Tx mg) (O : To K mg A_Story A_Desk)   : CalM P w K mg base A_Desk "do_change" ["self", "change"] 1 (sp52_dochange K A_Desk) := by
  obtain ⟨f, fd, F, gf, bf⟩ := D
  refine ⟨f, fd, F.ok sc_Desk__do_change (fun vs H Q E h => ?_) (fun cdv A outer s₀ H vs Q E hr h => ?_), gf, bf⟩
  · obtain ⟨p, nu, n, m, c, cv, rfl, _⟩ := h; rfl
  · obtain ⟨p, nu, n, m, c, cv, rfl, d, dc, ft, ml, q⟩ := h
    refine ⟨_, (pss_one (ps_if (pt_cmpR op_eq (pe_ix ix_tup (pv 1) pe_int (fun _ _ => rfl)) pe_str (nomark _))
      (pss_one (ps_dput (hu_of hr) (pe_fld (pv 0) rfl) (pe_ix ix_tup (pv 1) pe_int (fun _ _ => rfl)) (pe_ix ix_tup (pv 1) pe_int (fun _ _ => rfl)) rfl))
      (pss_one (ps_expr (pe_dpop2 (pe_fld (pv 0) rfl) (pe_ix ix_tup (pv 1) pe_int (fun _ _ => rfl)) pe_non ⟨rfl, rfl, rfl, rfl⟩))))), ?_⟩
    have small : ∀ n : Nat, n ≤ 30000 → n < sizeLine := fun n h => Nat.lt_of_le_of_lt h (by decide)
    have pn := d.ne
    obtain ⟨⟨dx, ob⟩, ⟨kvs, m', hn, kv, pm⟩⟩ := d
    have ft' := fits_perm pm ft
    have kl : kvs.length ≤ 1000 := by rw [kv.len, pm.length_eq]; exact ml
    obtain ⟨t, ts, rfl, hT, rest⟩ := ch_at dc
    cases c with
    | new k iv =>
      obtain ⟨w, rfl, dw⟩ := rest
      refine ⟨_, rfl, t, _, 0, _, rfl, rfl, hT, atI_nat (j := 0) rfl, rfl, _, rfl, iG new_new ?_⟩
      refine ⟨_, rfl, t, _, 2, _, rfl, rfl, hT, atI_nat (j := 2) rfl, _, rfl, p, A_Desk, dx, _, _, rfl, ob, O.c_Desk, O.n_Desk_numbers, rfl, _, rfl, t, _, 1, _, rfl, rfl, hT, atI_nat (j := 1) rfl, nu, _, rfl, DPut.k (k := Sum.inl k) (v := w) hn (small _ (by omega)), ?_⟩
      rw [putK_new _ (kv.none ft')]
      have t2 : TK K H (upd H nu (.dK (kvs ++ [(Sum.inl k, w)]))) := tk_upd hn (fun _ e => by cases e) (fun _ _ e => by cases e)
      exact q _ (ExtL.put (by simp)) t2 ⟨⟨dx, by rw [upd_ne pn]; exact ob⟩, ⟨_, _, upd_same, KvD.snoc (dw.tk t2) (kv.tk t2), vstep_perm pm (.new k iv)⟩⟩
    | gone k =>
      have rest : ts = [.str (Str.ofString "gone"), .int k] := rest
      subst rest
      obtain ⟨v0, hv0, _⟩ := kv.get ft'
      refine ⟨_, rfl, t, _, 0, _, rfl, rfl, hT, atI_nat (j := 0) rfl, rfl, _, rfl, iN gone_new ?_⟩
      refine ⟨_, rfl, p, A_Desk, dx, _, _, rfl, ob, O.c_Desk, O.n_Desk_numbers, rfl, nu, rfl, .inl ⟨_, .inl hn⟩, _, rfl, t, _, 1, _, rfl, rfl, hT, atI_nat (j := 1) rfl, kvs, Sum.inl k, hn, rfl, fun v hv => ?_, fun hv => ?_⟩
      · have t2 : TK K H (upd H nu (.dK (dropK kvs (Sum.inl k)))) := tk_upd hn (fun _ e => by cases e) (fun _ _ e => by cases e)
        exact q _ (ExtL.put (by simp)) t2 ⟨⟨dx, by rw [upd_ne pn]; exact ob⟩, ⟨_, _, upd_same, KvD.drop k (kv.tk t2), vstep_perm pm (.gone k)⟩⟩
      · rw [hv0] at hv; cases hv
end
section
variable {P : Program} {w : World} {K : PySem.W.Frag} {mg : Str → Option Value} {base : Heap}
theorem ok_Desk__hear {A_Story A_Desk : Addr} (D : DfM K A_Desk "hear" "Desk.hear" s_Desk__hear ["self", "answer"]) (T : Tx mg) (O : To K mg A_Story A_Desk)  (C_Desk__do_change : CalM P w K mg base A_Desk "do_change" ["self", "change"] 1 (sp52_dochange K A_Desk)) : CalM P w K mg base A_Desk "hear" ["self", "answer"] 2 (sp52_hear K A_Desk) := by
  obtain ⟨f_Desk__do_change, fd_Desk__do_change, G_Desk__do_change, h_Desk__do_change, b_Desk__do_change⟩ := C_Desk__do_change
  obtain ⟨f, fd, F, gf, bf⟩ := D
  refine ⟨f, fd, F.ok sc_Desk__hear (fun vs H Q E h => ?_) (fun cdv A outer s₀ H vs Q E hr h => ?_), gf, bf⟩
  · obtain ⟨p, nu, s, n, cs, av, d, rfl, _⟩ := h; rfl
  · obtain ⟨p, nu, s, n, cs, av, d, rfl, dk, da, an, sn, nl, cl, ok, q⟩ := h
    refine ⟨_, (pss_cons (ps_asg (pv 1) (pg_tup rfl (pgs_cons (pg_name (i := 2) sc_Desk__hear.nd rfl (Or.inl rfl)) (pgs_cons (pg_name (i := 3) sc_Desk__hear.nd rfl (Or.inl rfl)) (pgs_cons (pg_name (i := 4) sc_Desk__hear.nd rfl (Or.inl rfl)) pgs_nil)))))
      (C8.pss_cut (ps_if (pt_cmpR op_eq (pv 2) pe_str (nomark _))
      (pss_one (ps_fld (pv 0) (pe_dc (own := [("number", 6), ("id", 7)]) (g := gTup K 2 (gCons (gName 6) (gCons (gName 7) gNil))) (tt := tYes) rfl sc_Desk__hear.nd (pi_tup (pv 4)) (blkOk_by (own := [("number", 6), ("id", 7)]) (N := N_Desk__hear) (sc := defScope s_Desk__hear) (by decide +kernel)) (fun _ _ _ _ _ => (pg_tup rfl (pgs_cons (pg_name (i := 6) sc_Desk__hear.nd rfl (Or.inl rfl)) (pgs_cons (pg_name (i := 7) sc_Desk__hear.nd rfl (Or.inl rfl)) pgs_nil)))) (fun _ _ _ _ _ => pts_nil) (fun _ _ _ _ _ => (pv 6)) (fun _ _ _ _ _ => (pv 7))) rfl))
      (pss_one (ps_for PassesOwn.never rfl (pi_tup (pv 4)) (pg_name (i := 5) sc_Desk__hear.nd rfl (Or.inl rfl))
        (pss_one (ps_expr (pe_meth (pv 0) O.c_Desk h_Desk__do_change G_Desk__do_change (hr.mono (by decide)) b_Desk__do_change .nil pass0 (pa_cons (pv 5) pa_nil)))))))
      (pss_one (ps_fld (pv 0) (pv 3) rfl)))), ?_⟩
    have small : ∀ n : Nat, n ≤ 30000 → n < sizeLine := fun n h => Nat.lt_of_le_of_lt h (by decide)
    have pn := dk.ne
    have nd := (ok.take n).nd
    have vl := vw_len (cs.take n) []
    rw [List.length_nil, List.length_take] at vl
    have vl : (vw (cs.take n)).length ≤ 1000 := by unfold vw; omega
    rcases an with rfl | rfl
    · obtain ⟨A, us, rfl, hA, da⟩ := da
      obtain ⟨u0, r0, rfl, d0, da⟩ := da
      obtain ⟨u1, r1, rfl, d1, da⟩ := da
      obtain ⟨u2, r2, rfl, d2, da⟩ := da
      unfold DV at d0 d1
      unfold DVs at da
      subst d0; subst d1; subst da
      obtain ⟨L, ls, rfl, hL, dl⟩ := d2
      have ll := dl.map_len
      have l1 : (srtI ((vw (cs.take n)).map (·.1))).length ≤ 1000 := by rw [(srtI_perm _).length_eq, List.length_map]; exact vl
      refine ⟨_, rfl, A, _, rfl, hA, rfl, _, _, rfl, _, _, rfl, _, _, rfl, rfl, ?_⟩
      refine ⟨fun σ' H' => ∃ (nu' : Addr) (v5 v6 v7 : Option V), σ' = [some (.ref p), some (.ref A), some (.str (Str.ofString "whole")), some (.int (n : Nat)), some (.ref L), v5, v6, v7] ∧ ExtL [p, nu] H H' ∧ TK K H H' ∧ (nu' = nu ∨ H nu' = none) ∧ (∃ o, H' nu = some o) ∧ DkAt K H' A_Desk p nu' s (vw (cs.take n)), ?_, ?_⟩
      · refine ⟨_, rfl, rfl, _, rfl, iG whole_whole ?_⟩
        refine ⟨_, rfl, L, rfl, ⟨_, hL⟩, fun D hD => ?_⟩
        refine dc_tup (K := K) (a := L) (xs := ls) (fun i H' => ∃ kvs, H' D = some (.dK kvs) ∧ KvD K H' kvs (((srtI ((vw (cs.take n)).map (·.1))).take i).map fun k => (k, look (vw (cs.take n)) k)) ∧ Same H H') ⟨[], upd_same, True.intro, same_new hD⟩ (fun i H' _ h => by obtain ⟨_, _, _, m⟩ := h; exact m.tup hL) ?_ ?_
        · rintro i x H1 hi ⟨kvs, h1, kv, m1⟩
          obtain ⟨k, hk, dx⟩ := dl.map_get hi
          obtain ⟨t, us, rfl, hT, dx⟩ := dx.tk (TK.same m1)
          obtain ⟨u0, r0, rfl, d0, dx⟩ := dx
          obtain ⟨u1, r1, rfl, d1, dx⟩ := dx
          unfold DV at d0
          unfold DVs at dx
          subst d0; subst dx
          have il := (List.getElem?_eq_some_iff.mp hk).1
          have kl := kv.len
          rw [List.length_map, List.length_take] at kl
          refine ⟨t, _, rfl, hT, rfl, _, _, rfl, _, _, rfl, rfl, rfl, ?_⟩
          have fr : k ∉ (((srtI ((vw (cs.take n)).map (·.1))).take i).map fun k => (k, look (vw (cs.take n)) k)).map (·.1) := by
            rw [List.map_map]
            intro m
            obtain ⟨j, hj, e⟩ := List.mem_map.mp m
            have e : j = k := e
            exact new_take (srtI_nd nd) hk (e ▸ hj)
          unfold tYes
          dsimp only
          rw [if_pos rfl]
          refine ⟨_, rfl, _, rfl, kvs, Sum.inl k, rfl, h1, small _ (by omega), ?_⟩
          rw [putK_new _ (kv.none fr)]
          have t2 : TK K H1 (upd H1 D (.dK (kvs ++ [(Sum.inl k, u1)]))) := tk_upd h1 (fun _ e => by cases e) (fun _ _ e => by cases e)
          refine ⟨_, upd_same, ?_, sput m1 hD⟩
          rw [List.take_add_one, hk, List.map_append]
          exact KvD.snoc (d1.tk t2) (kv.tk t2)
        rintro H1 ⟨kvs, h1, kv, m1⟩
        rw [ll, List.take_length] at kv
        obtain ⟨⟨dx, ob⟩, ⟨kv0, m0, hn, _⟩⟩ := dk
        have ob1 := m1 _ _ ob
        have pD : p ≠ D := ne_of_none ob hD
        refine ⟨_, rfl, p, A_Desk, dx, _, rfl, ob1, O.c_Desk, O.n_Desk_numbers, by show (2 : Nat) < 1000; decide, ?_⟩
        have t2 : TK K H1 (upd H1 p (.ins A_Desk dx (fsD s D))) := tk_upd ob1 (fun _ e => by cases e) (fun _ _ e => by cases e)
        refine ⟨D, _, _, _, rfl, (ExtL.of m1).trans (ExtL.put (by simp)), (TK.same m1).trans t2, .inr hD, ⟨_, by rw [show putF _ _ _ = fsD s D from rfl, upd_ne pn.symm]; exact m1 _ _ hn⟩, ⟨⟨dx, upd_same⟩, ⟨kvs, _, by rw [upd_ne pD.symm]; exact h1, kv.tk t2, sorted_perm nd⟩⟩⟩
      rintro σ' H1 ⟨nu', v5, v6, v7, rfl, x1, t1, nn, hh, dk1⟩
      have pn1 := dk1.ne
      obtain ⟨⟨dx, ob⟩, ⟨kvs, m', hn, kv, pm⟩⟩ := dk1
      refine ⟨_, rfl, _, rfl, p, A_Desk, dx, _, rfl, ob, O.c_Desk, O.n_Desk_stamp, by show (2 : Nat) < 1000; decide, ?_⟩
      have t2 : TK K H1 (upd H1 p (.ins A_Desk dx (fsD n nu'))) := tk_upd ob (fun _ e => by cases e) (fun _ _ e => by cases e)
      refine q nu' _ (x1.trans (ExtL.put (by simp))) (t1.trans t2) nn ?_ ⟨⟨dx, upd_same⟩, ⟨kvs, m', by rw [upd_ne pn1.symm]; exact hn, kv.tk t2, pm⟩⟩
      obtain ⟨o, ho⟩ := hh
      exact ⟨o, by rw [upd_ne pn.symm]; exact ho⟩
    · obtain ⟨A, us, rfl, hA, da⟩ := da
      obtain ⟨u0, r0, rfl, d0, da⟩ := da
      obtain ⟨u1, r1, rfl, d1, da⟩ := da
      obtain ⟨u2, r2, rfl, d2, da⟩ := da
      unfold DV at d0 d1
      unfold DVs at da
      subst d0; subst d1; subst da
      obtain ⟨L, ls, rfl, hL, dl⟩ := d2
      have ll := dl.map_len
      rw [List.length_drop, List.length_take] at ll
      refine ⟨_, rfl, A, _, rfl, hA, rfl, _, _, rfl, _, _, rfl, _, _, rfl, rfl, ?_⟩
      refine ⟨fun σ' H' => ∃ (v5 v6 v7 : Option V), σ' = [some (.ref p), some (.ref A), some (.str (Str.ofString "since")), some (.int (n : Nat)), some (.ref L), v5, v6, v7] ∧ ExtL [nu] H H' ∧ TK K H H' ∧ DkAt K H' A_Desk p nu s (vw (cs.take n)), ?_, ?_⟩
      · refine ⟨_, rfl, rfl, _, rfl, iN since_whole ?_⟩
        refine ⟨_, rfl, L, rfl, ⟨_, hL⟩, ?_⟩
        refine for_tup (K := K) (a := L) (xs := ls) (fun i σ' H' => ∃ (v5 v6 v7 : Option V), σ' = [some (.ref p), some (.ref A), some (.str (Str.ofString "since")), some (.int (n : Nat)), some (.ref L), v5, v6, v7] ∧ ExtL [nu] H H' ∧ TK K H H' ∧ DkAt K H' A_Desk p nu s (vw (cs.take (s + i)))) ⟨_, _, _, rfl, ExtL.refl _ _, TK.same (Same.refl _), dk⟩ (fun i σ H' _ h => by obtain ⟨_, _, _, _, _, t, _⟩ := h; exact t _ _ hL) ?_ ?_
        · rintro i x σ' H1 hi ⟨v5, v6, v7, rfl, x1, t1, dk1⟩
          obtain ⟨c, hc, dc⟩ := dl.map_get hi
          have il := (List.getElem?_eq_some_iff.mp hi).1
          have hc : cs[s + i]? = some c := by
            rw [List.getElem?_drop, List.getElem?_take_of_lt (by omega)] at hc
            exact hc
          have wl := vw_len (cs.take (s + i)) []
          rw [List.length_nil, List.length_take] at wl
          have wl : (vw (cs.take (s + i))).length ≤ 1000 := by unfold vw; omega
          obtain ⟨dx, ob⟩ := dk1.ob
          refine ⟨_, rfl, p, dx, _, rfl, ob, rfl, _, rfl, p, nu, s, _, c, x, rfl, dk1, dc.tk t1, ok _ _ hc, wl, fun H2 x2 t2 dk2 => ?_⟩
          refine ⟨_, _, _, rfl, x1.trans x2, t1.trans t2, ?_⟩
          rw [show s + (i + 1) = s + i + 1 from rfl, vw_step hc]
          exact dk2
        rintro σ' H1 ⟨v5, v6, v7, rfl, x1, t1, dk1⟩
        rw [ll, show s + (min n cs.length - s) = n by omega] at dk1
        exact ⟨_, _, _, rfl, x1, t1, dk1⟩
      rintro σ' H1 ⟨v5, v6, v7, rfl, x1, t1, dk1⟩
      have pn1 := dk1.ne
      obtain ⟨⟨dx, ob⟩, ⟨kvs, m', hn, kv, pm⟩⟩ := dk1
      refine ⟨_, rfl, _, rfl, p, A_Desk, dx, _, rfl, ob, O.c_Desk, O.n_Desk_stamp, by show (2 : Nat) < 1000; decide, ?_⟩
      have t2 : TK K H1 (upd H1 p (.ins A_Desk dx (fsD n nu))) := tk_upd ob (fun _ e => by cases e) (fun _ _ e => by cases e)
      exact q nu _ ((x1.mono (by simp)).trans (ExtL.put (by simp))) (t1.trans t2) (.inl rfl) ⟨_, by rw [upd_ne pn.symm]; exact hn⟩ ⟨⟨dx, upd_same⟩, ⟨kvs, m', by rw [upd_ne pn1.symm]; exact hn, kv.tk t2, pm⟩⟩
end

end Z
namespace Z
open PySem L2 SX
theorem dl_view52 {m : Vw} (h : m.length ≤ 1000) : DL 5 (viewD m) := dl_view h
section
variable {P : Program} {w : World} {K : PySem.W.Frag} {mg : Str → Option Value} {base : Heap}
theorem ok__law_desk_right (D : Df K mg "_law_desk_right" s__law_desk_right ["desk", "stamp", "views"]) (T : Tx mg) {A_Story A_Desk : Addr} (O : To K mg A_Story A_Desk)  (C_Desk__stamp : CalP P w K mg base A_Desk "stamp" ["self"] 1 (sp52_stamp K A_Desk)) (C_Desk__view : CalP P w K mg base A_Desk "view" ["self"] 1 (sp52_view K A_Desk)) (C__law_same : Cal P w K mg base "_law_same" ["actual", "due"] 6 (sp__law_same K 5)) : Cal P w K mg base "_law_desk_right" ["desk", "stamp", "views"] 7 (sp52_right K A_Desk) := by
  obtain ⟨p_Desk__stamp, f_Desk__stamp, fd_Desk__stamp, G_Desk__stamp, h_Desk__stamp, b_Desk__stamp⟩ := C_Desk__stamp
  obtain ⟨p_Desk__view, f_Desk__view, fd_Desk__view, G_Desk__view, h_Desk__view, b_Desk__view⟩ := C_Desk__view
  obtain ⟨f__law_same, fd__law_same, G__law_same, g__law_same, k__law_same, b__law_same⟩ := C__law_same
  obtain ⟨f, fd, F, gf, bf⟩ := D
  refine ⟨f, fd, F.ok sc__law_desk_right (fun vs H Q E h => ?_) (fun cdv A outer s₀ H vs Q E hr h => ?_), gf, F.kp, bf⟩
  · obtain ⟨p, nu, u, n, cs, us, rfl, _⟩ := h; rfl
  · obtain ⟨p, nu, u, n, cs, us, rfl, dk, nl, cl, ok, hu, du, q⟩ := h
    refine ⟨_, (pss_one (ps_ret (pe_and (pe_call G__law_same (hr.mono (by decide)) (by rfl) g__law_same k__law_same b__law_same .nil pass0 (pa_cons (pe_prop (pv 0) O.c_Desk h_Desk__stamp G_Desk__stamp (hr.mono (by decide)) b_Desk__stamp .nil pass0 rfl) (pa_cons (pv 1) pa_nil))) (pe_one (pe_call G__law_same (hr.mono (by decide)) (by rfl) g__law_same k__law_same b__law_same .nil pass0 (pa_cons (pe_prop (pv 0) O.c_Desk h_Desk__view G_Desk__view (hr.mono (by decide)) b_Desk__view .nil pass0 rfl) (pa_cons (pe_ix ix_list (pv 2) (pv 1) (fun _ _ => rfl)) pa_nil))))))), ?_⟩
    obtain ⟨dx, ob⟩ := dk.ob
    obtain ⟨vv, hvv, dvv⟩ := du.get (i := n) (d := viewD (vw (cs.take n))) (vws_at nl)
    have nd := (ok.take n).nd
    have vl := vw_len (cs.take n) []
    rw [List.length_nil, List.length_take] at vl
    have vl : (vw (cs.take n)).length ≤ 1000 := by unfold vw; omega
    refine ⟨_, rfl, p, dx, _, rfl, ob, p, nu, n, _, rfl, dk, _, rfl, .int (n : Nat), _, _, rfl, by unfold DV; rfl, by unfold DV; rfl, True.intro, ?_⟩
    refine ⟨true, rfl, ?_⟩
    rw [if_pos rfl]
    refine ⟨_, rfl, p, dx, _, rfl, ob, p, nu, n, _, rfl, dk, nd, fun v H1 m1 dv => ?_⟩
    exact ⟨_, rfl, _, rfl, u, us, _, vv, rfl, rfl, m1.seq hu, atI_nat hvv, viewD (vw (cs.take n)), v, vv, rfl, dv, dvv.tk (TK.same m1), dl_view52 vl, q H1 m1⟩
end
section
variable {P : Program} {w : World} {K : PySem.W.Frag} {mg : Str → Option Value} {base : Heap}
theorem ok__law_own_answer (D : Df K mg "_law_own_answer" s__law_own_answer ["source", "changes", "views", "stamp", "last"]) (T : Tx mg)  (C__law_draw : Cal P w K mg base "_law_draw" ["source", "many"] 2 sp__law_draw) : Cal P w K mg base "_law_own_answer" ["source", "changes", "views", "stamp", "last"] 3 (sp52_own K) := by
  obtain ⟨f__law_draw, fd__law_draw, G__law_draw, g__law_draw, k__law_draw, b__law_draw⟩ := C__law_draw
  obtain ⟨f, fd, F, gf, bf⟩ := D
  refine ⟨f, fd, F.ok sc__law_own_answer (fun vs H Q E h => ?_) (fun cdv A outer s₀ H vs Q E hr h => ?_), gf, F.kp, bf⟩
  · obtain ⟨s, a, cl, vl, us, ws, cs, st, last, c, rfl, _⟩ := h; rfl
  · obtain ⟨s, a, cl, vl, us, ws, cs, st, last, c, rfl, hc, cs', dc, hv, vs', dv, ll, hS, q⟩ := h
    refine ⟨_, (pss_cons (ps_if (pt_cmpR op_eq (pe_call G__law_draw (hr.mono (by decide)) (by rfl) g__law_draw k__law_draw b__law_draw .nil pass0 (pa_cons (pv 0) (pa_cons pe_int pa_nil))) pe_int (nomark _))
      (pss_one (ps_ret (pe_tup (pa_cons pe_str (pa_cons (pv 4) (pa_cons (pe_ix ix_list (pv 2) (pv 4) (fun _ _ => rfl)) pa_nil))))))
      pss_nil)
      (pss_one (ps_ret (pe_tup (pa_cons pe_str (pa_cons (pv 4) (pa_cons (pe_callTy call_tuple_of (by rfl) T.n_tuple (by decide +kernel) (pa_cons (pe_slice sl_list (pv 1) (po_some (pv 3)) (po_some (pv 4))) pa_nil)) pa_nil))))))), ?_⟩
    have ul := dc.map_len
    obtain ⟨vv, hvv, dvv⟩ := dv.get (i := last) (d := viewD (vw (cs.take last))) (vws_at ll)
    refine ⟨_, rfl, s, a, 2, c, rfl, by decide, by decide, hS, fun z H1 _ _ x1 S1 => ⟨rfl, _, rfl, ite2 (fun _ => ?_) (fun _ => ?_)⟩⟩
    · refine ⟨_, rfl, _, rfl, _, rfl, vl, _, _, _, rfl, rfl, SqL.of (x1 _ _ vs' hv), atI_nat hvv, by show 3 ≤ sizeLine; decide, fun T hT => ?_⟩
      have m2 := same_new (o := HO.tup [V.str (Str.ofString "whole"), V.int (last : Nat), vv]) hT
      refine q _ (wholeD last (vw (cs.take last))) _ ⟨T, _, rfl, SqT.of upd_same, dlc (dls _) (dlc (dli _) (dlc ((dvv.tk (TK.ext x1 hS)).tk (TK.same m2)) dln))⟩ (.inl rfl) (x1.trans (Ext.of m2)) (S1.ext m2)
    · refine ⟨_, rfl, _, rfl, _, rfl, _, rfl, _, rfl, _, rfl, cl, us, rfl, SqL.of (x1 _ _ cs' hc), fun L hL => ?_⟩
      rw [cutV_mid (by omega) (by omega), Int.toNat_natCast, Int.toNat_natCast]
      have m1 := same_new (o := HO.lst ((us.take last).drop st)) hL
      refine ⟨L, _, rfl, .inl ⟨SqL.of upd_same, fun T hT => ?_⟩⟩
      have m2 := same_new (o := HO.tup ((us.take last).drop st)) hT
      refine ⟨by show 3 ≤ sizeLine; decide, fun U hU => ?_⟩
      have m3 := same_new (o := HO.tup [V.str (Str.ofString "since"), V.int (last : Nat), V.ref T]) hU
      have hT3 := m3 _ _ (upd_same (H := upd H1 L (HO.lst ((us.take last).drop st))) (a := T) (o := HO.tup ((us.take last).drop st)))
      have mm := m1.trans (m2.trans m3)
      have d2 := ((dc.take last).drop st).tk ((TK.ext x1 hS).trans (TK.same mm))
      exact q _ (sinceD last ((cs.take last).drop st)) _ ⟨U, _, rfl, SqT.of upd_same, dlc (dls _) (dlc (dli _) (dlc ⟨T, _, rfl, SqT.of hT3, d2⟩ dln))⟩ (.inr rfl) (x1.trans (Ext.of mm)) (S1.ext mm)
end
section
variable {P : Program} {w : World} {K : PySem.W.Frag} {mg : Str → Option Value} {base : Heap}
theorem ok__law_misses_right (D : Df K mg "_law_misses_right" s__law_misses_right ["story", "firsts", "views"]) (T : Tx mg) {A_Story A_Desk : Addr} (O : To K mg A_Story A_Desk)  (C_Desk____init__ : CalI P w K mg base A_Desk ["self"] 1 (sp52_init K A_Desk)) (C_Desk__hear : CalM P w K mg base A_Desk "hear" ["self", "answer"] 2 (sp52_hear K A_Desk)) (C_Story__since : CalM P w K mg base A_Story "since" ["self", "stamp"] 2 (sp51_since K A_Story)) (C__law_desk_right : Cal P w K mg base "_law_desk_right" ["desk", "stamp", "views"] 7 (sp52_right K A_Desk)) : Cal P w K mg base "_law_misses_right" ["story", "firsts", "views"] 8 (sp52_misses K A_Story) := by
  obtain ⟨f_Desk____init__, fd_Desk____init__, G_Desk____init__, h_Desk____init__, b_Desk____init__⟩ := C_Desk____init__
  obtain ⟨f_Desk__hear, fd_Desk__hear, G_Desk__hear, h_Desk__hear, b_Desk__hear⟩ := C_Desk__hear
  obtain ⟨f_Story__since, fd_Story__since, G_Story__since, h_Story__since, b_Story__since⟩ := C_Story__since
  obtain ⟨f__law_desk_right, fd__law_desk_right, G__law_desk_right, g__law_desk_right, k__law_desk_right, b__law_desk_right⟩ := C__law_desk_right
  obtain ⟨f, fd, F, gf, bf⟩ := D
  refine ⟨f, fd, F.ok sc__law_misses_right (fun vs H Q E h => ?_) (fun cdv A outer s₀ H vs Q E hr h => ?_), gf, F.kp, bf⟩
  · obtain ⟨sp, sc, sn, fl, vl, fs, ws, lim, last, cs, rfl, _⟩ := h; rfl
  · obtain ⟨sp, sc, sn, fl, vl, fs, ws, lim, last, cs, rfl, sy, hf, df, hv, dv, ok, cl, ll, lc, q⟩ := h
    refine ⟨_, (pss_cons (ps_set (i := 3) sc__law_misses_right.nd rfl (Or.inl rfl) (pe_op op_sub (pe_callB call_len_seq (by rfl) T.n_len PySem.boot_len (pa_cons (pv 1) pa_nil)) pe_int))
      (pss_cons (ps_for PassesOwn.never rfl (pi_range1 (by rfl) T.n_range (pa_cons (pe_op op_add (pv 3) pe_int) pa_nil)) (pg_name (i := 4) sc__law_misses_right.nd rfl (Or.inl rfl))
      (pss_cons (ps_set (i := 5) sc__law_misses_right.nd rfl (Or.inl rfl) (pe_make0 h_Desk____init__ G_Desk____init__ (hr.mono (by decide)) (by rfl) O.g_Desk b_Desk____init__ .nil pass0))
        (pss_cons (ps_if (PW.pt (pw_or (pt_not (pt_val (pe_call G__law_desk_right (hr.mono (by decide)) (by rfl) g__law_desk_right k__law_desk_right b__law_desk_right .nil pass0 (pa_cons (pv 5) (pa_cons pe_int (pa_cons (pv 2) pa_nil)))))) (pw_or1 (pt_cmpR op_notN (pe_meth (pv 5) O.c_Desk h_Desk__hear G_Desk__hear (hr.mono (by decide)) b_Desk__hear .nil pass0 (pa_cons (pe_ix ix_list (pv 1) (pv 4) (fun _ _ => rfl)) pa_nil)) pe_non (nomark _)))))
        (pss_one (ps_ret pe_bl))
        pss_nil)
        (pss_cons (ps_if (PW.pt (pw_or (pt_not (pt_val (pe_call G__law_desk_right (hr.mono (by decide)) (by rfl) g__law_desk_right k__law_desk_right b__law_desk_right .nil pass0 (pa_cons (pv 5) (pa_cons (pv 4) (pa_cons (pv 2) pa_nil)))))) (pw_or1 (pt_cmpR op_notN (pe_meth (pv 5) O.c_Desk h_Desk__hear G_Desk__hear (hr.mono (by decide)) b_Desk__hear .nil pass0 (pa_cons (pe_meth (pv 0) O.c_Story h_Story__since G_Story__since (hr.mono (by decide)) b_Story__since .nil pass0 (pa_cons (pv 4) pa_nil)) pa_nil)) pe_non (nomark _)))))
        (pss_one (ps_ret pe_bl))
        pss_nil)
        (pss_one (ps_if (pt_not (pt_val (pe_call G__law_desk_right (hr.mono (by decide)) (by rfl) g__law_desk_right k__law_desk_right b__law_desk_right .nil pass0 (pa_cons (pv 5) (pa_cons (pv 3) (pa_cons (pv 2) pa_nil))))))
        (pss_one (ps_ret pe_bl))
        pss_nil))))))
      (pss_one (ps_ret pe_bl)))), ?_⟩
    have ful := df.len
    unfold firD at ful
    rw [List.length_map, List.length_range] at ful
    refine ⟨_, rfl, fl, _, rfl, .inl (SqL.of hf), _, _, rfl, rfl, ?_⟩
    have el : ((fs.length : Nat) : Int) - 1 = ((last : Nat) : Int) := by omega
    refine ⟨_, rfl, _, _, rfl, rfl, _, rfl, by omega, by omega, ?_⟩
    refine for_range (lo := 0) (fun i σ H' => ∃ v4 v5 : Option V, σ = [some (.ref sp), some (.ref fl), some (.ref vl), some (.int (((fs.length : Nat) : Int) - 1)), v4, v5] ∧ Same H H') ⟨_, _, rfl, Same.refl _⟩ ?_ ?_
    · rintro i σ H1 hi ⟨v4, v5, rfl, m1⟩
      have ni : i ≤ last := by omega
      have i0 : (0 : Int) + ((i : Nat) : Int) = ((i : Nat) : Int) := by omega
      have dfk : ∃ v, fs[i]? = some v ∧ DV K H (due51 lim (cs.take i) 0) v := df.get (i := i) (fir_at ni)
      obtain ⟨fv, hfv, dfv⟩ := dfk
      refine fun p dx hp hdx dp => ?_
      have j1 := same_new (o := HO.own p) hdx
      have jp : (upd H1 dx (.own p)) p = none := by rw [upd_ne dp.symm]; exact hp
      have j2 := same_new (o := HO.ins A_Desk dx []) jp
      have j12 := j1.trans j2
      have ins : (upd (upd H1 dx (.own p)) p (.ins A_Desk dx [])) p = some (.ins A_Desk dx []) := upd_same
      refine ⟨p, dx, rfl, upd_same, fun nu H2 hnu x2 d2 => ⟨rfl, ?_⟩⟩
      generalize (upd (upd H1 dx (.own p)) p (.ins A_Desk dx [])) = H1' at j12 ins hnu x2
      -- from H1 on, all that stood stands
      have m2 : Same H1 H2 := fun b o hb => x2 _ _ (by simpa using ne_of_none hb hp) (j12 _ _ hb)
      have hnu1 : H1 nu = none := Same.free j12 hnu
      have mm2 := m1.trans m2
      refine ⟨_, rfl, _, rfl, p, nu, vl, 0, cs, ws, rfl, d2, Nat.zero_le _, by omega, ok, SqL.of (mm2 _ _ hv), dv.tk (TK.same mm2), fun H3 m3 => ?_⟩
      refine ⟨_, rfl, iteF ?_⟩
      have d3 := d2.same m3
      have mm3 := mm2.trans m3
      obtain ⟨dx3, ob3⟩ := d3.ob
      refine ⟨_, rfl, p, dx3, _, rfl, ob3, rfl, _, rfl, _, rfl, fl, fs, _, fv, rfl, rfl, SqL.of (mm3 _ _ hf), (by rw [i0]; exact atI_nat hfv), p, nu, 0, i, cs, fv, due51 lim (cs.take i) 0, rfl, d3, dfv.tk (TK.same mm3), due_ans (by omega), Nat.zero_le _, by omega, by omega, ok, fun nu2 H4 x4 t4 nn4 hh4 d4 => ⟨rfl, _, rfl, iteF ?_⟩⟩
      have m13 := m2.trans m3
      have m14 : Same H1 H4 := fun b o hb => x4 _ _ (by simpa using ⟨ne_of_none hb hp, ne_of_none hb hnu1⟩) (m13 _ _ hb)
      have hnu2 : H1 nu2 = none := by
        rcases nn4 with e | e
        · rw [e]; exact hnu1
        · exact Same.free m13 e
      have mm4 := m1.trans m14
      refine ⟨_, rfl, _, rfl, _, rfl, p, nu2, vl, i, cs, ws, (congrArg (fun z => [V.ref p, V.int z, V.ref vl]) i0), d4, by omega, by omega, ok, SqL.of (mm4 _ _ hv), dv.tk (TK.same mm4), fun H5 m5 => ?_⟩
      refine ⟨_, rfl, iteF ?_⟩
      have d5 := d4.same m5
      have mm5 := mm4.trans m5
      obtain ⟨dx5, ob5⟩ := d5.ob
      have sy5 := sy.same mm5
      obtain ⟨dxs, obs⟩ := sy5.ob
      have tl := List.length_take (l := cs) (i := last)
      refine ⟨_, rfl, p, dx5, _, rfl, ob5, rfl, _, rfl, sp, dxs, _, rfl, obs, rfl, _, rfl, sp, sc, sn, lim, cs.take last, i, (congrArg (fun z => [V.ref sp, V.int z]) i0), sy5, ok.take _, by omega, by omega, fun av H6 m6 da => ?_⟩
      have d6 := d5.same m6
      refine ⟨p, nu2, i, last, cs, av, due51 lim (cs.take last) i, rfl, d6, da, due_ans lc, ni, lc, by omega, ok, fun nu3 H7 x7 t7 nn7 hh7 d7 => ⟨rfl, _, rfl, iteF ?_⟩⟩
      have m16 := m14.trans (m5.trans m6)
      have m17 : Same H1 H7 := fun b o hb => x7 _ _ (by simpa using ⟨ne_of_none hb hp, ne_of_none hb hnu2⟩) (m16 _ _ hb)
      have mm7 := m1.trans m17
      refine ⟨_, rfl, _, rfl, _, rfl, p, nu3, vl, last, cs, ws, (congrArg (fun z => [V.ref p, V.int z, V.ref vl]) el), d7, by omega, by omega, ok, SqL.of (mm7 _ _ hv), dv.tk (TK.same mm7), fun H8 m8 => ?_⟩
      exact ⟨_, rfl, iteF ⟨_, _, rfl, mm7.trans m8⟩⟩
    rintro σ H1 ⟨v4, v5, rfl, m1⟩
    exact q H1 m1
end
section
variable {P : Program} {w : World} {K : PySem.W.Frag} {mg : Str → Option Value} {base : Heap}
theorem ok__law_desks_hear (D : Df K mg "_law_desks_hear" s__law_desks_hear ["source", "story", "desks", "stamps", "changes", "views", "last"]) (T : Tx mg) {A_Story A_Desk : Addr} (O : To K mg A_Story A_Desk)  (C_Desk__hear : CalM P w K mg base A_Desk "hear" ["self", "answer"] 2 (sp52_hear K A_Desk)) (C_Story__since : CalM P w K mg base A_Story "since" ["self", "stamp"] 2 (sp51_since K A_Story)) (C__law_desk_right : Cal P w K mg base "_law_desk_right" ["desk", "stamp", "views"] 7 (sp52_right K A_Desk)) (C__law_draw : Cal P w K mg base "_law_draw" ["source", "many"] 2 sp__law_draw) (C__law_own_answer : Cal P w K mg base "_law_own_answer" ["source", "changes", "views", "stamp", "last"] 3 (sp52_own K)) : Cal P w K mg base "_law_desks_hear" ["source", "story", "desks", "stamps", "changes", "views", "last"] 8 (sp52_hears K A_Story A_Desk) := by
  obtain ⟨f_Desk__hear, fd_Desk__hear, G_Desk__hear, h_Desk__hear, b_Desk__hear⟩ := C_Desk__hear
  obtain ⟨f_Story__since, fd_Story__since, G_Story__since, h_Story__since, b_Story__since⟩ := C_Story__since
  obtain ⟨f__law_desk_right, fd__law_desk_right, G__law_desk_right, g__law_desk_right, k__law_desk_right, b__law_desk_right⟩ := C__law_desk_right
  obtain ⟨f__law_draw, fd__law_draw, G__law_draw, g__law_draw, k__law_draw, b__law_draw⟩ := C__law_draw
  obtain ⟨f__law_own_answer, fd__law_own_answer, G__law_own_answer, g__law_own_answer, k__law_own_answer, b__law_own_answer⟩ := C__law_own_answer
  obtain ⟨f, fd, F, gf, bf⟩ := D
  refine ⟨f, fd, F.ok sc__law_desks_hear (fun vs H Q E h => ?_) (fun cdv A outer s₀ H vs Q E hr h => ?_), gf, F.kp, bf⟩
  · obtain ⟨s, a, g, p, nu, st, last, c, rfl, _⟩ := h; rfl
  · obtain ⟨s, a, g, p, nu, st, last, c, rfl, w, hS, q⟩ := h
    refine ⟨_, (pss_cons (ps_for PassesOwn.never rfl (pi_range1 (by rfl) T.n_range (pa_cons pe_int pa_nil)) (pg_name (i := 7) sc__law_desks_hear.nd rfl (Or.inl rfl))
      (pss_one (ps_if (pt_cmpR op_eq (pe_call G__law_draw (hr.mono (by decide)) (by rfl) g__law_draw k__law_draw b__law_draw .nil pass0 (pa_cons (pv 0) (pa_cons pe_int pa_nil))) pe_int (nomark _))
        (pss_cons (ps_set (i := 8) sc__law_desks_hear.nd rfl (Or.inl rfl) (pe_meth (pv 1) O.c_Story h_Story__since G_Story__since (hr.mono (by decide)) b_Story__since .nil pass0 (pa_cons (pe_ix ix_list (pv 3) (pv 7) (fun _ _ => rfl)) pa_nil)))
          (C8.pss_cut (ps_if (pt_cmpR op_eq (pv 7) pe_int (nomark _))
          (pss_one (ps_set (i := 8) sc__law_desks_hear.nd rfl (Or.inl rfl) (pe_call G__law_own_answer (hr.mono (by decide)) (by rfl) g__law_own_answer k__law_own_answer b__law_own_answer .nil pass0 (pa_cons (pv 0) (pa_cons (pv 4) (pa_cons (pv 5) (pa_cons (pe_ix ix_list (pv 3) (pv 7) (fun _ _ => rfl)) (pa_cons (pv 6) pa_nil))))))))
          pss_nil)
          (pss_cons (ps_if (pt_cmpR op_notN (pe_meth (pe_ix ix_list (pv 2) (pv 7) (fun _ _ => rfl)) O.c_Desk h_Desk__hear G_Desk__hear (hr.mono (by decide)) b_Desk__hear .nil pass0 (pa_cons (pv 8) pa_nil)) pe_non (nomark _))
          (pss_one (ps_ret pe_bl))
          pss_nil)
          (pss_one (ps_asg (pv 6) (pg_sub (pv 3) (pv 7) set_list))))))
        pss_nil)))
      (pss_cons (ps_for PassesOwn.never rfl (pi_range1 (by rfl) T.n_range (pa_cons pe_int pa_nil)) (pg_name (i := 7) sc__law_desks_hear.nd rfl (Or.inl rfl))
      (pss_one (ps_if (pt_not (pt_val (pe_call G__law_desk_right (hr.mono (by decide)) (by rfl) g__law_desk_right k__law_desk_right b__law_desk_right .nil pass0 (pa_cons (pe_ix ix_list (pv 2) (pv 7) (fun _ _ => rfl)) (pa_cons (pe_ix ix_list (pv 3) (pv 7) (fun _ _ => rfl)) (pa_cons (pv 5) pa_nil))))))
        (pss_one (ps_ret pe_bl))
        pss_nil)))
      (pss_one (ps_ret pe_bl)))), ?_⟩
    refine ⟨4, rfl, by decide, by decide, ?_⟩
    refine for_range (lo := 0) (n := 4) (fun k σ H' => ∃ (nu' : Nat → Addr) (st' : Nat → Nat) (v7 v8 : Option V), σ = [some (.ref s), some (.ref g.sp), some (.ref g.dl), some (.ref g.tl), some (.ref g.cl), some (.ref g.vl), some (.int (last : Nat)), v7, v8] ∧ W52 K H' A_Story A_Desk s a g p nu' st' last ∧ Src H' s a (c + 8 - 2 * k)) ⟨nu, st, _, _, rfl, w, hS⟩ ?_ ?_
    · rintro k σ H1 hk ⟨nu1, st1, v7, v8, rfl, w1, S1⟩
      have ek : (0 : Int) + ((k : Nat) : Int) = ((k : Nat) : Int) := by omega
      refine ⟨_, rfl, s, a, 3, c + 8 - 2 * k - 1, rfl, by decide, by decide, S1.mono (by omega), fun z H2 _ _ x2 S2 => ⟨rfl, _, rfl, ite2 (fun _ => ?_) (fun _ => ?_)⟩⟩
      · have w2 := w1.ext x2 S2 (TK.ext x2 S1)
        have lc := w2.ok.2.2.2
        have lc2 := w2.ok.2.1
        have tl := List.length_take (l := g.cs) (i := last)
        obtain ⟨dxs, obs⟩ := w2.sy.ob
        refine ⟨_, rfl, g.sp, dxs, _, rfl, obs, rfl, _, rfl, _, rfl, g.tl, _, _, _, rfl, rfl, SqL.of w2.tl, at_four (fun j => V.int (st1 j : Nat)) hk ek, g.sp, g.sc, g.sn, g.lim, g.cs.take last, st1 k, rfl, w2.sy, w2.ok.1.take _, by have := (w2.dk k hk).2; omega, by omega, fun av H3 m3 da => ?_⟩
        have w3 := w2.same m3
        have S3 := S2.ext m3
        refine ⟨fun σ' H' => ∃ (v : V) (d : D), σ' = [some (.ref s), some (.ref g.sp), some (.ref g.dl), some (.ref g.tl), some (.ref g.cl), some (.ref g.vl), some (.int (last : Nat)), some (.int (0 + (k : Int))), some v] ∧ DV K H' d v ∧ Ans g.cs (st1 k) last d ∧ W52 K H' A_Story A_Desk s a g p nu1 st1 last ∧ Src H' s a (c + 8 - 2 * k - 2), ?_, ?_⟩
        · refine ⟨_, rfl, rfl, _, rfl, ite2 (fun _ => ?_) (fun _ => ⟨av, _, rfl, da, due_ans lc, w3, S3.mono (by omega)⟩)⟩
          refine ⟨_, rfl, _, rfl, _, rfl, _, rfl, _, rfl, g.tl, _, _, _, rfl, rfl, SqL.of w3.tl, at_four (fun j => V.int (st1 j : Nat)) hk ek, _, rfl, s, a, g.cl, g.vl, g.us, g.ws, g.cs, st1 k, last, c + 8 - 2 * k - 2, rfl, w3.cl.1, w3.cne (by simp [Gd.cos]) (by simp), w3.cl.2, w3.vl.1, w3.cne (by simp [Gd.cos]) (by simp), w3.vl.2, lc, S3.mono (by omega), fun v d H4 dv an x4 S4 => ?_⟩
          exact ⟨v, d, rfl, dv, an, w3.ext x4 S4 (TK.ext x4 S3), S4⟩
        rintro σ' H4 ⟨v, d, rfl, dv, an, w4, S4⟩
        obtain ⟨dxd, obd⟩ := (w4.dk k hk).1.ob
        refine ⟨_, rfl, _, rfl, g.dl, _, _, _, rfl, rfl, SqL.of w4.dl, at_four (fun j => V.ref (p j)) hk ek, p k, dxd, _, rfl, obd, rfl, _, rfl, p k, nu1 k, st1 k, last, g.cs, v, d, rfl, (w4.dk k hk).1, dv, an, (w4.dk k hk).2, lc, by omega, w4.ok.1, fun nu' H5 x5 t5 nn hh d5 => ⟨rfl, _, rfl, iteF ?_⟩⟩
        obtain ⟨htl, w5⟩ := w4.hear hk x5 t5 nn hh d5
        refine ⟨_, rfl, _, rfl, _, rfl, g.tl, _, _, k, rfl, rfl, htl, ix_four hk ek, ?_⟩
        rw [set_four st1 hk]
        have pb := w4.sp.pb k hk
        have S5 := S4.extL x5 (fun m => by
          rcases List.mem_cons.mp m with e | m
          · exact pb.1 (by rw [← e]; simp)
          · exact pb.2 (by rw [← List.mem_singleton.mp m]; simp)) (fun m => by
          rcases List.mem_cons.mp m with e | m
          · exact pb.1 (by rw [← e]; simp)
          · exact pb.2 (by rw [← List.mem_singleton.mp m]; simp))
        have nd := w4.nd
        simp only [List.cons_append, List.nil_append, List.nodup_cons, List.mem_cons, List.not_mem_nil, or_false, not_or] at nd
        exact ⟨setN nu1 k nu', setN st1 k last, _, _, rfl, w5, (S5.put (Ne.symm nd.1.2.1) (Ne.symm nd.2.1.1)).mono (by omega)⟩
      · exact ⟨nu1, st1, _, _, rfl, w1.ext x2 S2 (TK.ext x2 S1), S2.mono (by omega)⟩
    rintro σ H1 ⟨nu1, st1, v7, v8, rfl, w1, S1⟩
    refine ⟨4, rfl, by decide, by decide, ?_⟩
    refine for_range (lo := 0) (n := 4) (fun k σ H' => ∃ v7 : Option V, σ = [some (.ref s), some (.ref g.sp), some (.ref g.dl), some (.ref g.tl), some (.ref g.cl), some (.ref g.vl), some (.int (last : Nat)), v7, v8] ∧ Same H1 H') ⟨_, rfl, Same.refl _⟩ ?_ ?_
    · rintro k σ H2 hk ⟨v7', rfl, m2⟩
      have ek : (0 : Int) + ((k : Nat) : Int) = ((k : Nat) : Int) := by omega
      have w2 := w1.same m2
      have lc := w2.ok.2.2.2
      have lc2 := w2.ok.2.1
      refine ⟨_, rfl, _, rfl, g.dl, _, _, _, rfl, rfl, SqL.of w2.dl, at_four (fun j => V.ref (p j)) hk ek, _, rfl, _, rfl, g.tl, _, _, _, rfl, rfl, SqL.of w2.tl, at_four (fun j => V.int (st1 j : Nat)) hk ek, _, rfl, p k, nu1 k, g.vl, st1 k, g.cs, g.ws, rfl, (w2.dk k hk).1, by have := (w2.dk k hk).2; omega, by omega, w2.ok.1, SqL.of w2.vl.1, w2.vl.2, fun H3 m3 => ?_⟩
      exact ⟨_, rfl, iteF ⟨_, rfl, m2.trans m3⟩⟩
    rintro σ H2 ⟨v7', rfl, m2⟩
    exact q nu1 st1 H2 (w1.same m2) ((S1.ext m2).mono (by omega))
end

end Z
namespace Z
open PySem L2 SX
theorem lim8 {v : V} (h : v ∈ [V.int 0, V.int 1, V.int 2, V.int 3, V.int 4, V.int 5, V.int 8, V.int 20]) : ∃ n : Nat, n ≤ 20 ∧ v = .int (n : Nat) := by
  simp only [List.mem_cons, List.not_mem_nil, or_false] at h
  rcases h with rfl | rfl | rfl | rfl | rfl | rfl | rfl | rfl
  · exact ⟨0, by decide, rfl⟩
  · exact ⟨1, by decide, rfl⟩
  · exact ⟨2, by decide, rfl⟩
  · exact ⟨3, by decide, rfl⟩
  · exact ⟨4, by decide, rfl⟩
  · exact ⟨5, by decide, rfl⟩
  · exact ⟨8, by decide, rfl⟩
  · exact ⟨20, by decide, rfl⟩
section
variable {P : Program} {w : World} {K : PySem.W.Frag} {mg : Str → Option Value} {base : Heap}
theorem ok_law {f : Addr} {fd : FuncData} (F : Fun K "law" "law" s_law f fd) (T : Tx mg) {A_Story A_Desk : Addr} (O : To K mg A_Story A_Desk)  (C_Desk____init__ : CalI P w K mg base A_Desk ["self"] 1 (sp52_init K A_Desk)) (C_Story____init__ : CalI P w K mg base A_Story ["self", "limit"] 1 (sp51_init K A_Story)) (C_Story__since : CalM P w K mg base A_Story "since" ["self", "stamp"] 2 (sp51_since K A_Story)) (C__law_changes : Cal P w K mg base "_law_changes" ["source", "many"] 5 (sp51_changes K)) (C__law_desks_hear : Cal P w K mg base "_law_desks_hear" ["source", "story", "desks", "stamps", "changes", "views", "last"] 8 (sp52_hears K A_Story A_Desk)) (C__law_do : Cal P w K mg base "_law_do" ["story", "change"] 3 (sp51_do K A_Story)) (C__law_many : Cal P w K mg base "_law_many" ["source", "least", "wide", "more"] 4 sp51_many) (C__law_misses_right : Cal P w K mg base "_law_misses_right" ["story", "firsts", "views"] 8 (sp52_misses K A_Story)) (C__law_pick : Cal P w K mg base "_law_pick" ["source", "row"] 3 (sp3__law_pick K)) (C__law_source : Cal P w K mg base "_law_source" ["script"] 2 (sp__law_source K)) (C__law_view : Cal P w K mg base "_law_view" ["changes"] 1 (sp51_view K)) : FnOk P w K mg base CX0 9 f fd ["script"] (sp_law K) := by
  obtain ⟨f_Desk____init__, fd_Desk____init__, G_Desk____init__, h_Desk____init__, b_Desk____init__⟩ := C_Desk____init__
  obtain ⟨f_Story____init__, fd_Story____init__, G_Story____init__, h_Story____init__, b_Story____init__⟩ := C_Story____init__
  obtain ⟨f_Story__since, fd_Story__since, G_Story__since, h_Story__since, b_Story__since⟩ := C_Story__since
  obtain ⟨f__law_changes, fd__law_changes, G__law_changes, g__law_changes, k__law_changes, b__law_changes⟩ := C__law_changes
  obtain ⟨f__law_desks_hear, fd__law_desks_hear, G__law_desks_hear, g__law_desks_hear, k__law_desks_hear, b__law_desks_hear⟩ := C__law_desks_hear
  obtain ⟨f__law_do, fd__law_do, G__law_do, g__law_do, k__law_do, b__law_do⟩ := C__law_do
  obtain ⟨f__law_many, fd__law_many, G__law_many, g__law_many, k__law_many, b__law_many⟩ := C__law_many
  obtain ⟨f__law_misses_right, fd__law_misses_right, G__law_misses_right, g__law_misses_right, k__law_misses_right, b__law_misses_right⟩ := C__law_misses_right
  obtain ⟨f__law_pick, fd__law_pick, G__law_pick, g__law_pick, k__law_pick, b__law_pick⟩ := C__law_pick
  obtain ⟨f__law_source, fd__law_source, G__law_source, g__law_source, k__law_source, b__law_source⟩ := C__law_source
  obtain ⟨f__law_view, fd__law_view, G__law_view, g__law_view, k__law_view, b__law_view⟩ := C__law_view
  refine F.ok sc_law (fun vs H Q E h => ?_) (fun cdv A outer s₀ H vs Q E hr h => ?_)
  · obtain ⟨a, ns, rfl, _⟩ := h; rfl
  · obtain ⟨a, ns, rfl, hA, hlen, q⟩ := h
    refine ⟨_, (pss_cons (ps_set (i := 1) sc_law.nd rfl (Or.inl rfl) (pe_call G__law_source (hr.mono (by decide)) (by rfl) g__law_source k__law_source b__law_source .nil pass0 (pa_cons (pv 0) pa_nil)))
      (pss_cons (ps_set (i := 2) sc_law.nd rfl (Or.inl rfl) (pe_make h_Story____init__ G_Story____init__ (hr.mono (by decide)) (by rfl) O.g_Story b_Story____init__ .nil pass0 (pa_cons (pe_call G__law_pick (hr.mono (by decide)) (by rfl) g__law_pick k__law_pick b__law_pick .nil pass0 (pa_cons (pv 1) (pa_cons (pe_lst (pa_cons pe_int (pa_cons pe_int (pa_cons pe_int (pa_cons pe_int (pa_cons pe_int (pa_cons pe_int (pa_cons pe_int (pa_cons pe_int pa_nil))))))))) pa_nil))) pa_nil)))
      (pss_cons (ps_set (i := 3) sc_law.nd rfl (Or.inr rfl) (pe_call G__law_changes (hr.mono (by decide)) (by rfl) g__law_changes k__law_changes b__law_changes .nil pass0 (pa_cons (pv 1) (pa_cons (pe_call G__law_many (hr.mono (by decide)) (by rfl) g__law_many k__law_many b__law_many .nil pass0 (pa_cons (pv 1) (pa_cons pe_int (pa_cons pe_int (pa_cons pe_int pa_nil))))) pa_nil))))
      (pss_cons (ps_setLc (i := 5) (own := [("k", 4)]) (g := gName 4) (tt := tYes) rfl sc_law.nd rfl rfl (sw_true rfl rfl rfl (by decide +kernel)) (pi_range1 (by rfl) T.n_range (pa_cons (pe_op op_add (pe_callB call_len_seq (by rfl) T.n_len PySem.boot_len (pa_cons (pv 3) pa_nil)) pe_int) pa_nil)) (blkOk_by (own := [("k", 4)]) (N := N_law) (sc := defScope s_law) (by decide +kernel)) (fun _ _ _ _ _ => pg_name (i := 4) sc_law.nd rfl (Or.inl rfl)) (fun _ _ _ _ _ => pts_nil) (fun _ _ _ _ _ => (pe_call G__law_view (hr.mono (by decide)) (by rfl) g__law_view k__law_view b__law_view .nil pass0 (pa_cons (pe_slice (sl_listK (K := K) rfl) (pv 3) po_none (po_some (pv 4))) pa_nil))))
      (pss_cons (ps_set (i := 6) sc_law.nd rfl (Or.inl rfl) (pe_lst (pa_cons (pe_make0 h_Desk____init__ G_Desk____init__ (hr.mono (by decide)) (by rfl) O.g_Desk b_Desk____init__ .nil pass0) (pa_cons (pe_make0 h_Desk____init__ G_Desk____init__ (hr.mono (by decide)) (by rfl) O.g_Desk b_Desk____init__ .nil pass0) (pa_cons (pe_make0 h_Desk____init__ G_Desk____init__ (hr.mono (by decide)) (by rfl) O.g_Desk b_Desk____init__ .nil pass0) (pa_cons (pe_make0 h_Desk____init__ G_Desk____init__ (hr.mono (by decide)) (by rfl) O.g_Desk b_Desk____init__ .nil pass0) pa_nil))))))
      (pss_cons (ps_set (i := 7) sc_law.nd rfl (Or.inl rfl) (pe_lst (pa_cons pe_int (pa_cons pe_int (pa_cons pe_int (pa_cons pe_int pa_nil))))))
      (pss_cons (ps_set (i := 8) sc_law.nd rfl (Or.inl rfl) (pe_lst (pa_cons (pe_meth (pv 2) O.c_Story h_Story__since G_Story__since (hr.mono (by decide)) b_Story__since .nil pass0 (pa_cons pe_int pa_nil)) pa_nil)))
      (pss_cons (ps_for PassesOwn.never rfl (pi_range1 (by rfl) T.n_range (pa_cons (pe_callB call_len_seq (by rfl) T.n_len PySem.boot_len (pa_cons (pv 3) pa_nil)) pa_nil)) (pg_name (i := 4) sc_law.nd rfl (Or.inl rfl))
      (pss_cons (ps_if (pt_not (pt_val (pe_call G__law_desks_hear (hr.mono (by decide)) (by rfl) g__law_desks_hear k__law_desks_hear b__law_desks_hear .nil pass0 (pa_cons (pv 1) (pa_cons (pv 2) (pa_cons (pv 6) (pa_cons (pv 7) (pa_cons (pv 3) (pa_cons (pv 5) (pa_cons (pv 4) pa_nil))))))))))
        (pss_one (ps_ret pe_bl))
        pss_nil)
        (pss_cons (ps_expr (pe_call G__law_do (hr.mono (by decide)) (by rfl) g__law_do k__law_do b__law_do .nil pass0 (pa_cons (pv 2) (pa_cons (pe_ix ix_list (pv 3) (pv 4) (fun _ _ => rfl)) pa_nil))))
        (pss_cons (ps_expr (pe_bm PySem.F.plainAttrs_list PySem.F.slot_list_append PySem.F.type_list_append mt_append (pv 8) (pa_cons (pe_meth (pv 2) O.c_Story h_Story__since G_Story__since (hr.mono (by decide)) b_Story__since .nil pass0 (pa_cons pe_int pa_nil)) pa_nil)))
        (pss_one (ps_if (pt_not (pt_val (pe_call G__law_misses_right (hr.mono (by decide)) (by rfl) g__law_misses_right k__law_misses_right b__law_misses_right .nil pass0 (pa_cons (pv 2) (pa_cons (pv 8) (pa_cons (pv 5) pa_nil))))))
        (pss_one (ps_ret pe_bl))
        pss_nil))))))
      (pss_one (ps_ret (pe_call G__law_desks_hear (hr.mono (by decide)) (by rfl) g__law_desks_hear k__law_desks_hear b__law_desks_hear .nil pass0 (pa_cons (pv 1) (pa_cons (pv 2) (pa_cons (pv 6) (pa_cons (pv 7) (pa_cons (pv 3) (pa_cons (pv 5) (pa_cons (pe_callB call_len_seq (by rfl) T.n_len PySem.boot_len (pa_cons (pv 3) pa_nil)) pa_nil)))))))))))))))))), ?_⟩
    refine ⟨_, rfl, a, ns, rfl, hA, hlen, fun s e0 H1 hs x1 S1 => ?_⟩
    have t1 : Trk H1 [s, e0] := S1.trk
    -- the limit
    refine ⟨_, rfl, by show 8 ≤ sizeLine; decide, fun B hB => ?_⟩
    have n2 := same_new (o := HO.lst [V.int 0, V.int 1, V.int 2, V.int 3, V.int 4, V.int 5, V.int 8, V.int 20]) hB
    have S2 := S1.ext n2
    have Bs := S1.ne hB
    refine .inl ⟨s, e0, B, _, 200000, rfl, SqL.of upd_same, Bs, by simp, by decide, S2.mono (by decide), fun z H3 zm x3 S3 => ?_⟩
    obtain ⟨lim, lb, rfl⟩ := lim8 zm
    have t3 := (t1.same n2).ext x3 S3
    -- the story
    refine fun sp dx0 hsp hdx0 dp0 => ?_
    have i1 := (same_new (o := HO.own sp) hdx0)
    have ip0 : (upd H3 dx0 (.own sp)) sp = none := by rw [upd_ne dp0.symm]; exact hsp
    have i12 := i1.trans (same_new (o := HO.ins A_Story dx0 []) ip0)
    refine ⟨sp, dx0, lim, rfl, upd_same, by omega, fun sc sn H4 hsc hsn scn x4 sy4 => ⟨rfl, ?_⟩⟩
    have m4 : Same H3 H4 := fun b o hb => x4 _ _ (by simpa using ne_of_none hb hsp) (i12 _ _ hb)
    obtain ⟨dxs, obs⟩ := sy4.ob
    obtain ⟨chv, chs, _⟩ := sy4.ch
    obtain ⟨nuv, nus, _⟩ := sy4.nu
    have hsc3 : H3 sc = none := Same.free i12 hsc
    have hsn3 : H3 sn = none := Same.free i12 hsn
    have t4a := t3.cons hsp (t3.same m4) ⟨_, obs⟩
    have spsc : sp ≠ sc := fun e => by rw [← e, upd_same] at hsc; cases hsc
    have spsn : sp ≠ sn := fun e => by rw [← e, upd_same] at hsn; cases hsn
    have fr : ∀ y, H3 y = none → y ∉ [s, e0] := fun y hy m => by
      obtain ⟨o, ho⟩ := t3.2 y m
      rw [hy] at ho; cases ho
    have t4 : Trk H4 [sn, sc, sp, s, e0] := ⟨List.nodup_cons.mpr ⟨(fun m => by
        rcases List.mem_cons.mp m with e | m
        · exact scn e.symm
        · rcases List.mem_cons.mp m with e | m
          · exact spsn e.symm
          · exact fr sn hsn3 m), List.nodup_cons.mpr ⟨(fun m => by
        rcases List.mem_cons.mp m with e | m
        · exact spsc e.symm
        · exact fr sc hsc3 m), t4a.1⟩⟩, fun y hy => (List.mem_cons.mp hy).elim (fun e => e ▸ ⟨_, nus⟩) fun hy => (List.mem_cons.mp hy).elim (fun e => e ▸ ⟨_, chs⟩) (t4a.2 y)⟩
    have S4 := S3.ext m4
    clear t4a fr
    -- the changes
    refine ⟨_, rfl, _, rfl, s, e0, 1, 12, 8, 150000, rfl, by decide, by decide, by decide, by decide, S4.mono (by decide), fun m0 H5 ml0 mu0 x5 S5 => ?_⟩
    refine ⟨s, e0, m0, 140000, rfl, by omega, S5.mono (by decide), fun cl us cs H6 hcl hus dus ok len x6 S6 => ?_⟩
    have t5 := t4.ext x5 S5
    have t6 := t5.cons hcl (t5.ext x6 S6) ⟨_, hus⟩
    have sy6 := st_ext sy4 (x5.trans x6) (TK.ext (x5.trans x6) S4) (fun e => by have := t4.1; rw [e] at this; simp at this) (fun e => by have := t4.1; rw [e] at this; simp at this) (fun e => by have := t4.1; rw [e] at this; simp at this)
    have ul : us.length = cs.length := dus.map_len
    have csl : cs.length ≤ 100 := by omega
    -- the views
    refine ⟨_, rfl, cl, _, rfl, .inl (SqL.of hus), _, _, rfl, rfl, _, rfl, by omega, by omega, fun vl hvl => ?_⟩
    refine lc_range (lo := 0) (fun i H' => ∃ vs, H' vl = some (.lst vs) ∧ DVs K H' ((List.range i).map fun k => viewD (vw (cs.take k))) vs ∧ Same H6 H') ⟨[], upd_same, dln, same_new hvl⟩ ?_ ?_
    · rintro i H7 hi ⟨vs, h7, d7, m7⟩
      have i0 : (0 : Int) + ((i : Nat) : Int) = ((i : Nat) : Int) := by omega
      refine ⟨rfl, _, rfl, _, rfl, _, rfl, cl, us, rfl, SqL.of (m7 _ _ hus), fun L hL => ?_⟩
      rw [cutV_to (by omega), show (0 + ((i : Nat) : Int)).toNat = i by omega]
      have n8 := same_new (o := HO.lst (us.take i)) hL
      refine ⟨L, us.take i, cs.take i, rfl, SqL.of upd_same, (dus.tk (TK.same (m7.trans n8))).take i, ok.take i, by rw [List.length_take]; omega, fun v H8 m8 dv => ?_⟩
      have m78 := n8.trans m8
      have t8 := tk_put (K := K) (o := HO.lst (vs ++ [v])) (m78 _ _ h7)
      refine ⟨vs, m78 _ _ h7, by rw [d7.map_len, List.length_range]; exact Nat.lt_of_le_of_lt (show i ≤ 30000 by omega) (by decide), vs ++ [v], upd_same, ?_, sput (m7.trans m78) hvl⟩
      rw [List.range_succ]
      exact DVs.snoc (f := fun k => viewD (vw (cs.take k))) (x := i) ((d7.tk (TK.same m78)).tk t8) (dv.tk t8)
    rintro H7 ⟨ws, hws, dws, m7⟩
    have en : (((us.length : Nat) : Int) + 1).toNat = cs.length + 1 := by omega
    rw [en] at dws
    have dws : DVs K H7 (vwsD cs) ws := dws
    have t7 := t6.cons hvl (t6.same m7) ⟨_, hws⟩
    -- the desks
    refine fun p0 dy0 hp0 hdy0 dq0 => ⟨p0, dy0, rfl, upd_same, fun n0 H8 hn0 x8 dk0 => ⟨rfl, ?_⟩⟩
    obtain ⟨m8, hn0', pn0⟩ := desk_new hp0 hdy0 dq0 hn0 x8
    have t8 := t7.desk hp0 hn0' pn0 m8 dk0
    clear hn0 x8
    refine fun p1 dy1 hp1 hdy1 dq1 => ⟨p1, dy1, rfl, upd_same, fun n1 H9 hn1 x9 dk1 => ⟨rfl, ?_⟩⟩
    obtain ⟨m9, hn1', pn1⟩ := desk_new hp1 hdy1 dq1 hn1 x9
    have t9 := t8.desk hp1 hn1' pn1 m9 dk1
    clear hn1 x9
    refine fun p2 dy2 hp2 hdy2 dq2 => ⟨p2, dy2, rfl, upd_same, fun n2' H10 hn2 x10 dk2 => ⟨rfl, ?_⟩⟩
    obtain ⟨m10, hn2', pn2⟩ := desk_new hp2 hdy2 dq2 hn2 x10
    have t10 := t9.desk hp2 hn2' pn2 m10 dk2
    clear hn2 x10
    refine fun p3 dy3 hp3 hdy3 dq3 => ⟨p3, dy3, rfl, upd_same, fun n3 H11 hn3 x11 dk3 => ⟨rfl, ?_⟩⟩
    obtain ⟨m11, hn3', pn3⟩ := desk_new hp3 hdy3 dq3 hn3 x11
    have t11 := t10.desk hp3 hn3' pn3 m11 dk3
    clear hn3 x11
    refine ⟨by show 4 ≤ sizeLine; decide, fun dl hdl => ?_⟩
    have m12 := same_new (o := HO.lst [V.ref p0, V.ref p1, V.ref p2, V.ref p3]) hdl
    have t12 := t11.cons hdl (t11.same m12) ⟨_, upd_same⟩
    have hdl12 : (upd H11 dl (HO.lst [V.ref p0, V.ref p1, V.ref p2, V.ref p3])) dl = some (.lst [V.ref p0, V.ref p1, V.ref p2, V.ref p3]) := upd_same
    generalize upd H11 dl (HO.lst [V.ref p0, V.ref p1, V.ref p2, V.ref p3]) = H12 at m12 t12 hdl12 ⊢
    refine ⟨by show 4 ≤ sizeLine; decide, fun tl' htl => ?_⟩
    have m13 := same_new (o := HO.lst [V.int 0, V.int 0, V.int 0, V.int 0]) htl
    have t13 := t12.cons htl (t12.same m13) ⟨_, upd_same⟩
    have htl13 : (upd H12 tl' (HO.lst [V.int 0, V.int 0, V.int 0, V.int 0])) tl' = some (.lst [V.int ((0 : Nat) : Int), V.int ((0 : Nat) : Int), V.int ((0 : Nat) : Int), V.int ((0 : Nat) : Int)]) := upd_same
    generalize upd H12 tl' (HO.lst [V.int 0, V.int 0, V.int 0, V.int 0]) = H13 at m13 t13 htl13 ⊢
    -- the first answer
    have m6_13 : Same H6 H13 := m7.trans (m8.trans (m9.trans (m10.trans (m11.trans (m12.trans m13)))))
    have sy13 := sy6.same m6_13
    obtain ⟨dxt, obt⟩ := sy13.ob
    refine ⟨_, rfl, sp, dxt, _, rfl, obt, rfl, sp, sc, sn, lim, [], 0, rfl, sy13, ChOk.nil, Nat.le_refl _, by decide, fun fv H14 m14 dfv => ?_⟩
    refine ⟨by show 1 ≤ sizeLine; decide, fun fl hfl => ?_⟩
    have m15 := same_new (o := HO.lst [fv]) hfl
    have t15 := (t13.same m14).cons hfl ((t13.same m14).same m15) ⟨_, upd_same⟩
    have hfl15 : (upd H14 fl (HO.lst [fv])) fl = some (.lst [fv]) := upd_same
    generalize upd H14 fl (HO.lst [fv]) = H15 at m15 t15 hfl15 ⊢
    have S15 := S6.ext (m6_13.trans (m14.trans m15))
    have m8_15 := m9.trans (m10.trans (m11.trans (m12.trans (m13.trans (m14.trans m15)))))
    have m10_15 := m11.trans (m12.trans (m13.trans (m14.trans m15)))
    have m12_15 := m13.trans (m14.trans m15)
    have m13_15 := m14.trans m15
    obtain ⟨sep, nd⟩ := sep_of t15 (us := us) (ws := ws) (cs := cs) (lim := lim)
    generalize hg : (⟨sp, sc, sn, cl, vl, dl, tl', fl, us, ws, cs, lim⟩ : Gd) = g at sep nd
    obtain ⟨g1, g2, g3, g4, g5, g6, g7, g8, g9⟩ : g.sp = sp ∧ g.cl = cl ∧ g.vl = vl ∧ g.dl = dl ∧ g.tl = tl' ∧ g.fl = fl ∧ g.cs = cs ∧ g.us = us ∧ g.ws = ws := by rw [← hg]; exact ⟨rfl, rfl, rfl, rfl, rfl, rfl, rfl, rfl, rfl⟩
    have w0 : W52 K H15 A_Story A_Desk s e0 g (qw p0 p1 p2 p3) (qw n0 n1 n2' n3) (fun _ => 0) 0 := by
      have nd' := nd
      have sep' := sep
      rw [← hg] at nd' sep'
      rw [← hg]
      refine ⟨sy13.same m13_15, ⟨(m6_13.trans m13_15) _ _ hus, dus.tk (TK.same (m6_13.trans m13_15))⟩, ⟨(m8.trans m8_15) _ _ hws, dws.tk (TK.same (m8.trans m8_15))⟩, m12_15 _ _ hdl12, m13_15 _ _ htl13, ⟨_, hfl15, ?_⟩, fun k hk => ⟨?_, Nat.le_refl _⟩, sep', nd', ok, csl, by show lim ≤ 1000; omega, Nat.zero_le _⟩
      · exact ⟨fv, [], rfl, dfv.tk (TK.same m15), dln⟩
      · have : k = 0 ∨ k = 1 ∨ k = 2 ∨ k = 3 := by omega
        rcases this with rfl | rfl | rfl | rfl
        · exact dk0.same m8_15
        · exact dk1.same (m10.trans m10_15)
        · exact dk2.same m10_15
        · exact dk3.same (m12.trans m12_15)
    subst g1 g2 g3 g4 g5 g6 g7 g8 g9
    clear t1 t3 t4 t5 t6 t7 t8 t9 t10 t11 t12 t13 t15 sep nd
    refine ⟨_, rfl, g.cl, _, rfl, .inl (SqL.of w0.cl.1), _, rfl, by omega, by omega, ?_⟩
    refine for_range (lo := 0) (fun i σ H' => ∃ (nu : Nat → Addr) (st : Nat → Nat) (v4 : Option V), σ = [some (.ref a), some (.ref s), some (.ref g.sp), some (.ref g.cl), v4, some (.ref g.vl), some (.ref g.dl), some (.ref g.tl), some (.ref g.fl)] ∧ W52 K H' A_Story A_Desk s e0 g (qw p0 p1 p2 p3) nu st i ∧ Src H' s e0 (130000 - 8 * i)) ⟨_, _, _, rfl, w0, S15.mono (by omega)⟩ ?_ ?_
    · rintro i σ H16 hi ⟨nu, st, v4, rfl, w1, S16⟩
      have i0 : (0 : Int) + ((i : Nat) : Int) = ((i : Nat) : Int) := by omega
      refine ⟨_, rfl, _, rfl, _, rfl, _, rfl, _, rfl, _, rfl, _, rfl, s, e0, g, qw p0 p1 p2 p3, nu, st, i, 130000 - 8 * i - 8, (congrArg (fun z => [V.ref s, V.ref g.sp, V.ref g.dl, V.ref g.tl, V.ref g.cl, V.ref g.vl, V.int z]) i0), w1, S16.mono (by omega), fun nu2 st2 H17 w2 S17 => ⟨_, rfl, iteF ?_⟩⟩
      obtain ⟨c, hc⟩ : ∃ c, g.cs[i]? = some c := ⟨_, List.getElem?_eq_getElem (by omega)⟩
      obtain ⟨cv, hcv, dcv⟩ := w2.cl.2.get (i := i) (d := chD c) (by rw [List.getElem?_map, hc]; rfl)
      have pcn := w2.pcn
      have tlen := List.length_take (l := g.cs) (i := i)
      refine ⟨_, rfl, _, rfl, _, rfl, g.cl, _, _, _, rfl, rfl, SqL.of w2.cl.1, (by rw [i0]; exact atI_nat hcv), g.sp, g.sc, g.sn, g.lim, g.cs.take i, c, cv, rfl, w2.sy, dcv, ok _ _ hc, w2.ok.2.2.1, by omega, pcn.1, pcn.2.1, pcn.2.2, fun H18 x18 t18 st18 => ?_⟩
      obtain ⟨fs0, hfs0⟩ := w2.flk x18
      obtain ⟨dxq, obq⟩ := st18.ob
      have okc : ChOk (g.cs.take i ++ [c]) := (ok.take i).snoc (ok _ _ hc)
      refine ⟨_, rfl, .inl ⟨rfl, _, SqL.of hfs0⟩, _, rfl, g.sp, dxq, _, rfl, obq, rfl, g.sp, g.sc, g.sn, g.lim, _, 0, rfl, st18, okc, Nat.zero_le _, by rw [List.length_append]; show _ + 1 ≤ _; omega, fun v H19 m19 dv => ?_⟩
      have dv : DV K H19 (due51 g.lim (g.cs.take (i + 1)) 0) v := by rw [List.take_add_one, hc]; exact dv
      obtain ⟨fs, f2, fsl, w4⟩ := w2.done hc x18 t18 st18 m19 dv
      refine ⟨g.fl, fs, v, rfl, rfl, f2, Nat.lt_of_le_of_lt fsl (by decide), ?_⟩
      have S20 := ((w2.srcn S17 x18).ext m19).put (p := g.fl) (o := HO.lst (fs ++ [v])) (w2.cne (by simp [Gd.cos]) (by simp)) (w2.cne (by simp [Gd.cos]) (by simp))
      generalize upd H19 g.fl (HO.lst (fs ++ [v])) = H20 at w4 S20 ⊢
      obtain ⟨fs', hf, df⟩ := w4.fl
      refine ⟨_, rfl, _, rfl, _, rfl, g.sp, g.sc, g.sn, g.fl, g.vl, fs', g.ws, g.lim, i + 1, g.cs, rfl, w4.sy, hf, df, w4.vl.1, w4.vl.2, ok, csl, w4.ok.2.2.1, w4.ok.2.2.2, fun H21 m21 => ⟨_, rfl, iteF ⟨nu2, st2, _, rfl, w4.same m21, (S20.ext m21).mono (by omega)⟩⟩⟩
    rintro σ H16 ⟨nu, st, v4, rfl, w1, S16⟩
    have en2 : (((g.us.length : Nat) : Int)).toNat = g.cs.length := by omega
    rw [en2] at w1 S16
    refine ⟨_, rfl, _, rfl, _, rfl, _, rfl, _, rfl, _, rfl, _, rfl, g.cl, _, rfl, .inl (SqL.of w1.cl.1), s, e0, g, qw p0 p1 p2 p3, nu, st, g.cs.length, 130000 - 8 * g.cs.length - 8, (congrArg (fun z : Nat => [V.ref s, V.ref g.sp, V.ref g.dl, V.ref g.tl, V.ref g.cl, V.ref g.vl, V.int (z : Nat)]) ul), w1, S16.mono (by omega), fun nu2 st2 H17 w2 S17 => q H17⟩
end

end Z
namespace Z
open PySem L2 SX
set_option maxHeartbeats 0 in
theorem all_mk {l : PySem.W.OpenLaw} {w : World} {K : PySem.W.Frag} {h : Heap} {mg : Str → Option Value} {fa : Addr} (X : K.In h) (G : h.Ns mainGlobals mg) (hfa : mg "law" = some (.ref fa))
    {f0 : Addr} {od0 an0 : Option Addr} {sl0 : Array (Option Value)} {oc0 kV0 dc0 pm0 cd0 ct0 : Value}
    {f1 : Addr} {od1 an1 : Option Addr} {sl1 : Array (Option Value)} {oc1 kV1 dc1 pm1 cd1 ct1 : Value}
    {f2 : Addr} {od2 an2 : Option Addr} {sl2 : Array (Option Value)} {oc2 kV2 dc2 pm2 cd2 ct2 : Value}
    {f3 : Addr} {od3 an3 : Option Addr} {sl3 : Array (Option Value)} {oc3 kV3 dc3 pm3 cd3 ct3 : Value}
    {f4 : Addr} {od4 an4 : Option Addr} {sl4 : Array (Option Value)} {oc4 kV4 dc4 pm4 cd4 ct4 : Value}
    {f5 : Addr} {od5 an5 : Option Addr} {sl5 : Array (Option Value)} {oc5 kV5 dc5 pm5 cd5 ct5 : Value}
    {f6 : Addr} {od6 an6 : Option Addr} {sl6 : Array (Option Value)} {oc6 kV6 dc6 pm6 cd6 ct6 : Value}
    {f7 : Addr} {od7 an7 : Option Addr} {sl7 : Array (Option Value)} {oc7 kV7 dc7 pm7 cd7 ct7 : Value}
    {f8 : Addr} {od8 an8 : Option Addr} {sl8 : Array (Option Value)} {oc8 kV8 dc8 pm8 cd8 ct8 : Value}
    {f9 : Addr} {od9 an9 : Option Addr} {sl9 : Array (Option Value)} {oc9 kV9 dc9 pm9 cd9 ct9 : Value}
    {f10 : Addr} {od10 an10 : Option Addr} {sl10 : Array (Option Value)} {oc10 kV10 dc10 pm10 cd10 ct10 : Value}
    {f11 : Addr} {od11 an11 : Option Addr} {sl11 : Array (Option Value)} {oc11 kV11 dc11 pm11 cd11 ct11 : Value}
    {f12 : Addr} {od12 an12 : Option Addr} {sl12 : Array (Option Value)} {oc12 kV12 dc12 pm12 cd12 ct12 : Value}
    {f13 : Addr} {od13 an13 : Option Addr} {sl13 : Array (Option Value)} {oc13 kV13 dc13 pm13 cd13 ct13 : Value}
    {f14 : Addr} {od14 an14 : Option Addr} {sl14 : Array (Option Value)} {oc14 kV14 dc14 pm14 cd14 ct14 : Value}
    {f15 : Addr} {od15 an15 : Option Addr} {sl15 : Array (Option Value)} {oc15 kV15 dc15 pm15 cd15 ct15 : Value}
    {f16 : Addr} {od16 an16 : Option Addr} {sl16 : Array (Option Value)} {oc16 kV16 dc16 pm16 cd16 ct16 : Value}
    {f17 : Addr} {od17 an17 : Option Addr} {sl17 : Array (Option Value)} {oc17 kV17 dc17 pm17 cd17 ct17 : Value}
    {f18 : Addr} {od18 an18 : Option Addr} {sl18 : Array (Option Value)} {oc18 kV18 dc18 pm18 cd18 ct18 : Value}
    {f19 : Addr} {od19 an19 : Option Addr} {sl19 : Array (Option Value)} {oc19 kV19 dc19 pm19 cd19 ct19 : Value}
    {f20 : Addr} {od20 an20 : Option Addr} {sl20 : Array (Option Value)} {oc20 kV20 dc20 pm20 cd20 ct20 : Value}
    {f21 : Addr} {od21 an21 : Option Addr} {sl21 : Array (Option Value)} {oc21 kV21 dc21 pm21 cd21 ct21 : Value}
    {f22 : Addr} {od22 an22 : Option Addr} {sl22 : Array (Option Value)} {oc22 kV22 dc22 pm22 cd22 ct22 : Value}
    {f23 : Addr} {od23 an23 : Option Addr} {sl23 : Array (Option Value)} {oc23 kV23 dc23 pm23 cd23 ct23 : Value}
    {f24 : Addr} {od24 an24 : Option Addr} {sl24 : Array (Option Value)} {oc24 kV24 dc24 pm24 cd24 ct24 : Value}
    {f25 : Addr} {od25 an25 : Option Addr} {sl25 : Array (Option Value)} {oc25 kV25 dc25 pm25 cd25 ct25 : Value}
    {f26 : Addr} {od26 an26 : Option Addr} {sl26 : Array (Option Value)} {oc26 kV26 dc26 pm26 cd26 ct26 : Value}
    {f27 : Addr} {od27 an27 : Option Addr} {sl27 : Array (Option Value)} {oc27 kV27 dc27 pm27 cd27 ct27 : Value}
    {f28 : Addr} {od28 an28 : Option Addr} {sl28 : Array (Option Value)} {oc28 kV28 dc28 pm28 cd28 ct28 : Value}
    {f29 : Addr} {od29 an29 : Option Addr} {sl29 : Array (Option Value)} {oc29 kV29 dc29 pm29 cd29 ct29 : Value}
    {f30 : Addr} {od30 an30 : Option Addr} {sl30 : Array (Option Value)} {oc30 kV30 dc30 pm30 cd30 ct30 : Value}
    {A_Story A_Desk : Addr}
    {p1 : Addr} {rs1 : List Value}
    {p8 : Addr} {rs8 : List Value}
    {p9 : Addr} {rs9 : List Value}
    (oG_Story : PySem.W.nsIn K mainGlobals "Story" = some (some (.ref A_Story)))
    (oP_Story : PySem.W.plainGet K A_Story Str.empty = true)
    (oD_Story : PySem.W.hasDictIn K A_Story = true)
    (oO_Story : PySem.W.plainOver K A_Story = true)
    (oS_Story : PySem.W.findIn K (.ref A_Story) "__setattr__" = some (some (.builtin "object.__setattr__")))
    (oM_Story : PySem.W.makesIn K A_Story = true)
    (oK_Story : PySem.W.keepIn K (.ref A_Story) = true)
    (oN_Story__limit : PySem.W.findIn K (.ref A_Story) "_limit" = some none)
    (oN_Story__stamp : PySem.W.findIn K (.ref A_Story) "_stamp" = some none)
    (oN_Story__changes : PySem.W.findIn K (.ref A_Story) "_changes" = some none)
    (oN_Story__numbers : PySem.W.findIn K (.ref A_Story) "_numbers" = some none)
    (oG_Desk : PySem.W.nsIn K mainGlobals "Desk" = some (some (.ref A_Desk)))
    (oP_Desk : PySem.W.plainGet K A_Desk Str.empty = true)
    (oD_Desk : PySem.W.hasDictIn K A_Desk = true)
    (oO_Desk : PySem.W.plainOver K A_Desk = true)
    (oS_Desk : PySem.W.findIn K (.ref A_Desk) "__setattr__" = some (some (.builtin "object.__setattr__")))
    (oM_Desk : PySem.W.makesIn K A_Desk = true)
    (oK_Desk : PySem.W.keepIn K (.ref A_Desk) = true)
    (oN_Desk__stamp : PySem.W.findIn K (.ref A_Desk) "_stamp" = some none)
    (oN_Desk__numbers : PySem.W.findIn K (.ref A_Desk) "_numbers" = some none)
    (a0 : PySem.W.findIn K (.ref A_Story) "__init__" = some (some (.ref f0)))
    (i0 : PySem.W.isFn K (.ref f0) = true)
    (l0 : K.lookup f0 = some ⟨oc0, od0, .func (PySem.W.fnOf "__init__" "Story.__init__" (defArgs s_Story____init__) (defBody s_Story____init__) (defScope s_Story____init__) .none kV0 dc0 pm0 an0 cd0 ct0), sl0⟩)
    (c0 : PySem.W.codeIn K cd0 "Story.__init__" = true)
    (k0 : PySem.W.keepIn K (.ref f0) = true)
    (a1 : PySem.W.findIn K (.ref A_Story) "last" = some (some (.ref p1)))
    (pg1 : PySem.W.specialIn K (.ref p1) "__get__" = some (some (.builtin "property.__get__")))
    (pt1 : PySem.W.takesIn K (.ref p1) = some true)
    (pr1 : PySem.W.recIn K p1 "property" = some (.ref f1 :: rs1))
    (l1 : K.lookup f1 = some ⟨oc1, od1, .func (PySem.W.fnOf "last" "Story.last" (defArgs s_Story__last) (defBody s_Story__last) (defScope s_Story__last) .none kV1 dc1 pm1 an1 cd1 ct1), sl1⟩)
    (c1 : PySem.W.codeIn K cd1 "Story.last" = true)
    (k1 : PySem.W.keepIn K (.ref f1) = true)
    (a2 : PySem.W.findIn K (.ref A_Story) "new" = some (some (.ref f2)))
    (i2 : PySem.W.isFn K (.ref f2) = true)
    (l2 : K.lookup f2 = some ⟨oc2, od2, .func (PySem.W.fnOf "new" "Story.new" (defArgs s_Story__new) (defBody s_Story__new) (defScope s_Story__new) .none kV2 dc2 pm2 an2 cd2 ct2), sl2⟩)
    (c2 : PySem.W.codeIn K cd2 "Story.new" = true)
    (k2 : PySem.W.keepIn K (.ref f2) = true)
    (a3 : PySem.W.findIn K (.ref A_Story) "gone" = some (some (.ref f3)))
    (i3 : PySem.W.isFn K (.ref f3) = true)
    (l3 : K.lookup f3 = some ⟨oc3, od3, .func (PySem.W.fnOf "gone" "Story.gone" (defArgs s_Story__gone) (defBody s_Story__gone) (defScope s_Story__gone) .none kV3 dc3 pm3 an3 cd3 ct3), sl3⟩)
    (c3 : PySem.W.codeIn K cd3 "Story.gone" = true)
    (k3 : PySem.W.keepIn K (.ref f3) = true)
    (a4 : PySem.W.findIn K (.ref A_Story) "keep_change" = some (some (.ref f4)))
    (i4 : PySem.W.isFn K (.ref f4) = true)
    (l4 : K.lookup f4 = some ⟨oc4, od4, .func (PySem.W.fnOf "keep_change" "Story.keep_change" (defArgs s_Story__keep_change) (defBody s_Story__keep_change) (defScope s_Story__keep_change) .none kV4 dc4 pm4 an4 cd4 ct4), sl4⟩)
    (c4 : PySem.W.codeIn K cd4 "Story.keep_change" = true)
    (k4 : PySem.W.keepIn K (.ref f4) = true)
    (a5 : PySem.W.findIn K (.ref A_Story) "since" = some (some (.ref f5)))
    (i5 : PySem.W.isFn K (.ref f5) = true)
    (l5 : K.lookup f5 = some ⟨oc5, od5, .func (PySem.W.fnOf "since" "Story.since" (defArgs s_Story__since) (defBody s_Story__since) (defScope s_Story__since) .none kV5 dc5 pm5 an5 cd5 ct5), sl5⟩)
    (c5 : PySem.W.codeIn K cd5 "Story.since" = true)
    (k5 : PySem.W.keepIn K (.ref f5) = true)
    (a6 : PySem.W.findIn K (.ref A_Story) "pairs" = some (some (.ref f6)))
    (i6 : PySem.W.isFn K (.ref f6) = true)
    (l6 : K.lookup f6 = some ⟨oc6, od6, .func (PySem.W.fnOf "pairs" "Story.pairs" (defArgs s_Story__pairs) (defBody s_Story__pairs) (defScope s_Story__pairs) .none kV6 dc6 pm6 an6 cd6 ct6), sl6⟩)
    (c6 : PySem.W.codeIn K cd6 "Story.pairs" = true)
    (k6 : PySem.W.keepIn K (.ref f6) = true)
    (a7 : PySem.W.findIn K (.ref A_Desk) "__init__" = some (some (.ref f7)))
    (i7 : PySem.W.isFn K (.ref f7) = true)
    (l7 : K.lookup f7 = some ⟨oc7, od7, .func (PySem.W.fnOf "__init__" "Desk.__init__" (defArgs s_Desk____init__) (defBody s_Desk____init__) (defScope s_Desk____init__) .none kV7 dc7 pm7 an7 cd7 ct7), sl7⟩)
    (c7 : PySem.W.codeIn K cd7 "Desk.__init__" = true)
    (k7 : PySem.W.keepIn K (.ref f7) = true)
    (a8 : PySem.W.findIn K (.ref A_Desk) "stamp" = some (some (.ref p8)))
    (pg8 : PySem.W.specialIn K (.ref p8) "__get__" = some (some (.builtin "property.__get__")))
    (pt8 : PySem.W.takesIn K (.ref p8) = some true)
    (pr8 : PySem.W.recIn K p8 "property" = some (.ref f8 :: rs8))
    (l8 : K.lookup f8 = some ⟨oc8, od8, .func (PySem.W.fnOf "stamp" "Desk.stamp" (defArgs s_Desk__stamp) (defBody s_Desk__stamp) (defScope s_Desk__stamp) .none kV8 dc8 pm8 an8 cd8 ct8), sl8⟩)
    (c8 : PySem.W.codeIn K cd8 "Desk.stamp" = true)
    (k8 : PySem.W.keepIn K (.ref f8) = true)
    (a9 : PySem.W.findIn K (.ref A_Desk) "view" = some (some (.ref p9)))
    (pg9 : PySem.W.specialIn K (.ref p9) "__get__" = some (some (.builtin "property.__get__")))
    (pt9 : PySem.W.takesIn K (.ref p9) = some true)
    (pr9 : PySem.W.recIn K p9 "property" = some (.ref f9 :: rs9))
    (l9 : K.lookup f9 = some ⟨oc9, od9, .func (PySem.W.fnOf "view" "Desk.view" (defArgs s_Desk__view) (defBody s_Desk__view) (defScope s_Desk__view) .none kV9 dc9 pm9 an9 cd9 ct9), sl9⟩)
    (c9 : PySem.W.codeIn K cd9 "Desk.view" = true)
    (k9 : PySem.W.keepIn K (.ref f9) = true)
    (a10 : PySem.W.findIn K (.ref A_Desk) "hear" = some (some (.ref f10)))
    (i10 : PySem.W.isFn K (.ref f10) = true)
    (l10 : K.lookup f10 = some ⟨oc10, od10, .func (PySem.W.fnOf "hear" "Desk.hear" (defArgs s_Desk__hear) (defBody s_Desk__hear) (defScope s_Desk__hear) .none kV10 dc10 pm10 an10 cd10 ct10), sl10⟩)
    (c10 : PySem.W.codeIn K cd10 "Desk.hear" = true)
    (k10 : PySem.W.keepIn K (.ref f10) = true)
    (a11 : PySem.W.findIn K (.ref A_Desk) "do_change" = some (some (.ref f11)))
    (i11 : PySem.W.isFn K (.ref f11) = true)
    (l11 : K.lookup f11 = some ⟨oc11, od11, .func (PySem.W.fnOf "do_change" "Desk.do_change" (defArgs s_Desk__do_change) (defBody s_Desk__do_change) (defScope s_Desk__do_change) .none kV11 dc11 pm11 an11 cd11 ct11), sl11⟩)
    (c11 : PySem.W.codeIn K cd11 "Desk.do_change" = true)
    (k11 : PySem.W.keepIn K (.ref f11) = true)
    (a12 : PySem.W.nsIn K mainGlobals "_law_mix" = some (some (.ref f12))) (l12 : K.lookup f12 = some ⟨oc12, od12, .func (PySem.W.fnOf "_law_mix" "_law_mix" (defArgs s__law_mix) (defBody s__law_mix) (defScope s__law_mix) .none kV12 dc12 pm12 an12 cd12 ct12), sl12⟩) (c12 : PySem.W.codeIn K cd12 "_law_mix" = true) (k12 : PySem.W.keepIn K (.ref f12) = true)
    (a13 : PySem.W.nsIn K mainGlobals "_law_source" = some (some (.ref f13))) (l13 : K.lookup f13 = some ⟨oc13, od13, .func (PySem.W.fnOf "_law_source" "_law_source" (defArgs s__law_source) (defBody s__law_source) (defScope s__law_source) .none kV13 dc13 pm13 an13 cd13 ct13), sl13⟩) (c13 : PySem.W.codeIn K cd13 "_law_source" = true) (k13 : PySem.W.keepIn K (.ref f13) = true)
    (a14 : PySem.W.nsIn K mainGlobals "_law_draw" = some (some (.ref f14))) (l14 : K.lookup f14 = some ⟨oc14, od14, .func (PySem.W.fnOf "_law_draw" "_law_draw" (defArgs s__law_draw) (defBody s__law_draw) (defScope s__law_draw) .none kV14 dc14 pm14 an14 cd14 ct14), sl14⟩) (c14 : PySem.W.codeIn K cd14 "_law_draw" = true) (k14 : PySem.W.keepIn K (.ref f14) = true)
    (a15 : PySem.W.nsIn K mainGlobals "_law_pick" = some (some (.ref f15))) (l15 : K.lookup f15 = some ⟨oc15, od15, .func (PySem.W.fnOf "_law_pick" "_law_pick" (defArgs s__law_pick) (defBody s__law_pick) (defScope s__law_pick) .none kV15 dc15 pm15 an15 cd15 ct15), sl15⟩) (c15 : PySem.W.codeIn K cd15 "_law_pick" = true) (k15 : PySem.W.keepIn K (.ref f15) = true)
    (a16 : PySem.W.nsIn K mainGlobals "_law_once_in" = some (some (.ref f16))) (l16 : K.lookup f16 = some ⟨oc16, od16, .func (PySem.W.fnOf "_law_once_in" "_law_once_in" (defArgs s__law_once_in) (defBody s__law_once_in) (defScope s__law_once_in) .none kV16 dc16 pm16 an16 cd16 ct16), sl16⟩) (c16 : PySem.W.codeIn K cd16 "_law_once_in" = true) (k16 : PySem.W.keepIn K (.ref f16) = true)
    (a17 : PySem.W.nsIn K mainGlobals "_law_new_name" = some (some (.ref f17))) (l17 : K.lookup f17 = some ⟨oc17, od17, .func (PySem.W.fnOf "_law_new_name" "_law_new_name" (defArgs s__law_new_name) (defBody s__law_new_name) (defScope s__law_new_name) .none kV17 dc17 pm17 an17 cd17 ct17), sl17⟩) (c17 : PySem.W.codeIn K cd17 "_law_new_name" = true) (k17 : PySem.W.keepIn K (.ref f17) = true)
    (a18 : PySem.W.nsIn K mainGlobals "_law_names" = some (some (.ref f18))) (l18 : K.lookup f18 = some ⟨oc18, od18, .func (PySem.W.fnOf "_law_names" "_law_names" (defArgs s__law_names) (defBody s__law_names) (defScope s__law_names) .none kV18 dc18 pm18 an18 cd18 ct18), sl18⟩) (c18 : PySem.W.codeIn K cd18 "_law_names" = true) (k18 : PySem.W.keepIn K (.ref f18) = true)
    (a19 : PySem.W.nsIn K mainGlobals "_law_is_int" = some (some (.ref f19))) (l19 : K.lookup f19 = some ⟨oc19, od19, .func (PySem.W.fnOf "_law_is_int" "_law_is_int" (defArgs s__law_is_int) (defBody s__law_is_int) (defScope s__law_is_int) .none kV19 dc19 pm19 an19 cd19 ct19), sl19⟩) (c19 : PySem.W.codeIn K cd19 "_law_is_int" = true) (k19 : PySem.W.keepIn K (.ref f19) = true)
    (a20 : PySem.W.nsIn K mainGlobals "_law_same" = some (some (.ref f20))) (l20 : K.lookup f20 = some ⟨oc20, od20, .func (PySem.W.fnOf "_law_same" "_law_same" (defArgs s__law_same) (defBody s__law_same) (defScope s__law_same) .none kV20 dc20 pm20 an20 cd20 ct20), sl20⟩) (c20 : PySem.W.codeIn K cd20 "_law_same" = true) (k20 : PySem.W.keepIn K (.ref f20) = true)
    (a21 : PySem.W.nsIn K mainGlobals "_law_many" = some (some (.ref f21))) (l21 : K.lookup f21 = some ⟨oc21, od21, .func (PySem.W.fnOf "_law_many" "_law_many" (defArgs s__law_many) (defBody s__law_many) (defScope s__law_many) .none kV21 dc21 pm21 an21 cd21 ct21), sl21⟩) (c21 : PySem.W.codeIn K cd21 "_law_many" = true) (k21 : PySem.W.keepIn K (.ref f21) = true)
    (a22 : PySem.W.nsIn K mainGlobals "_law_number" = some (some (.ref f22))) (l22 : K.lookup f22 = some ⟨oc22, od22, .func (PySem.W.fnOf "_law_number" "_law_number" (defArgs s__law_number) (defBody s__law_number) (defScope s__law_number) .none kV22 dc22 pm22 an22 cd22 ct22), sl22⟩) (c22 : PySem.W.codeIn K cd22 "_law_number" = true) (k22 : PySem.W.keepIn K (.ref f22) = true)
    (a23 : PySem.W.nsIn K mainGlobals "_law_changes" = some (some (.ref f23))) (l23 : K.lookup f23 = some ⟨oc23, od23, .func (PySem.W.fnOf "_law_changes" "_law_changes" (defArgs s__law_changes) (defBody s__law_changes) (defScope s__law_changes) .none kV23 dc23 pm23 an23 cd23 ct23), sl23⟩) (c23 : PySem.W.codeIn K cd23 "_law_changes" = true) (k23 : PySem.W.keepIn K (.ref f23) = true)
    (a24 : PySem.W.nsIn K mainGlobals "_law_view" = some (some (.ref f24))) (l24 : K.lookup f24 = some ⟨oc24, od24, .func (PySem.W.fnOf "_law_view" "_law_view" (defArgs s__law_view) (defBody s__law_view) (defScope s__law_view) .none kV24 dc24 pm24 an24 cd24 ct24), sl24⟩) (c24 : PySem.W.codeIn K cd24 "_law_view" = true) (k24 : PySem.W.keepIn K (.ref f24) = true)
    (a25 : PySem.W.nsIn K mainGlobals "_law_do" = some (some (.ref f25))) (l25 : K.lookup f25 = some ⟨oc25, od25, .func (PySem.W.fnOf "_law_do" "_law_do" (defArgs s__law_do) (defBody s__law_do) (defScope s__law_do) .none kV25 dc25 pm25 an25 cd25 ct25), sl25⟩) (c25 : PySem.W.codeIn K cd25 "_law_do" = true) (k25 : PySem.W.keepIn K (.ref f25) = true)
    (a26 : PySem.W.nsIn K mainGlobals "_law_desk_right" = some (some (.ref f26))) (l26 : K.lookup f26 = some ⟨oc26, od26, .func (PySem.W.fnOf "_law_desk_right" "_law_desk_right" (defArgs s__law_desk_right) (defBody s__law_desk_right) (defScope s__law_desk_right) .none kV26 dc26 pm26 an26 cd26 ct26), sl26⟩) (c26 : PySem.W.codeIn K cd26 "_law_desk_right" = true) (k26 : PySem.W.keepIn K (.ref f26) = true)
    (a27 : PySem.W.nsIn K mainGlobals "_law_misses_right" = some (some (.ref f27))) (l27 : K.lookup f27 = some ⟨oc27, od27, .func (PySem.W.fnOf "_law_misses_right" "_law_misses_right" (defArgs s__law_misses_right) (defBody s__law_misses_right) (defScope s__law_misses_right) .none kV27 dc27 pm27 an27 cd27 ct27), sl27⟩) (c27 : PySem.W.codeIn K cd27 "_law_misses_right" = true) (k27 : PySem.W.keepIn K (.ref f27) = true)
    (a28 : PySem.W.nsIn K mainGlobals "_law_own_answer" = some (some (.ref f28))) (l28 : K.lookup f28 = some ⟨oc28, od28, .func (PySem.W.fnOf "_law_own_answer" "_law_own_answer" (defArgs s__law_own_answer) (defBody s__law_own_answer) (defScope s__law_own_answer) .none kV28 dc28 pm28 an28 cd28 ct28), sl28⟩) (c28 : PySem.W.codeIn K cd28 "_law_own_answer" = true) (k28 : PySem.W.keepIn K (.ref f28) = true)
    (a29 : PySem.W.nsIn K mainGlobals "_law_desks_hear" = some (some (.ref f29))) (l29 : K.lookup f29 = some ⟨oc29, od29, .func (PySem.W.fnOf "_law_desks_hear" "_law_desks_hear" (defArgs s__law_desks_hear) (defBody s__law_desks_hear) (defScope s__law_desks_hear) .none kV29 dc29 pm29 an29 cd29 ct29), sl29⟩) (c29 : PySem.W.codeIn K cd29 "_law_desks_hear" = true) (k29 : PySem.W.keepIn K (.ref f29) = true)
    (a30 : PySem.W.nsIn K mainGlobals "law" = some (some (.ref f30))) (l30 : K.lookup f30 = some ⟨oc30, od30, .func (PySem.W.fnOf "law" "law" (defArgs s_law) (defBody s_law) (defScope s_law) .none kV30 dc30 pm30 an30 cd30 ct30), sl30⟩) (c30 : PySem.W.codeIn K cd30 "law" = true) (k30 : PySem.W.keepIn K (.ref f30) = true)
    (z_abs : PySem.W.nsIn K mainGlobals "abs" = some none)
    (z_bool : PySem.W.nsIn K mainGlobals "bool" = some none)
    (z_int : PySem.W.nsIn K mainGlobals "int" = some none)
    (z_isinstance : PySem.W.nsIn K mainGlobals "isinstance" = some none)
    (z_len : PySem.W.nsIn K mainGlobals "len" = some none)
    (z_list : PySem.W.nsIn K mainGlobals "list" = some none)
    (z_range : PySem.W.nsIn K mainGlobals "range" = some none)
    (z_sorted : PySem.W.nsIn K mainGlobals "sorted" = some none)
    (z_str : PySem.W.nsIn K mainGlobals "str" = some none)
    (z_tuple : PySem.W.nsIn K mainGlobals "tuple" = some none) :
    ∃ fd : FuncData, (∀ (s : Shared) (v : Value), BindsTo s fd ⟨[v], []⟩ [("script", v)]) ∧ ∀ base : Heap, K.In base → base.Ns mainGlobals mg → FnOk l.prog w K mg base CX0 9 fa fd ["script"] (sp_law K) := by
  have e := hfa.symm.trans (PySem.W.mg_of X G a30)
  cases e
  have T : Tx mg := ⟨PySem.W.mg_none_of X G z_abs, PySem.W.mg_none_of X G z_bool, PySem.W.mg_none_of X G z_int, PySem.W.mg_none_of X G z_isinstance, PySem.W.mg_none_of X G z_len, PySem.W.mg_none_of X G z_list, PySem.W.mg_none_of X G z_range, PySem.W.mg_none_of X G z_sorted, PySem.W.mg_none_of X G z_str, PySem.W.mg_none_of X G z_tuple⟩
  refine ⟨PySem.W.fnOf "law" "law" (defArgs s_law) (defBody s_law) (defScope s_law) .none kV30 dc30 pm30 an30 cd30 ct30, fun s v => .of_eq rfl, fun base _ _ => ?_⟩
  have D_Story____init__ : DfI K A_Story "Story.__init__" s_Story____init__ ["self", "limit"] := ⟨f0, _, fun_mk (st := s_Story____init__) l0 c0 k0, ⟨oM_Story, a0, i0, oK_Story⟩, (fun_mk (st := s_Story____init__) l0 c0 k0).binds (ps := ["self", "limit"]) fun _ _ _ _ _ _ us hl => match us, hl with | [_, _], _ => rfl⟩
  have D_Story__last : DfP K A_Story "last" "Story.last" s_Story__last ["self"] := ⟨p1, f1, _, fun_mk (st := s_Story__last) l1 c1 k1, ⟨a1, pg1, pt1, ⟨_, pr1⟩⟩, (fun_mk (st := s_Story__last) l1 c1 k1).binds (ps := ["self"]) fun _ _ _ _ _ _ us hl => match us, hl with | [_], _ => rfl⟩
  have D_Story__new : DfM K A_Story "new" "Story.new" s_Story__new ["self", "number", "id"] := ⟨f2, _, fun_mk (st := s_Story__new) l2 c2 k2, ⟨a2, i2, k2⟩, (fun_mk (st := s_Story__new) l2 c2 k2).binds (ps := ["self", "number", "id"]) fun _ _ _ _ _ _ us hl => match us, hl with | [_, _, _], _ => rfl⟩
  have D_Story__gone : DfM K A_Story "gone" "Story.gone" s_Story__gone ["self", "number"] := ⟨f3, _, fun_mk (st := s_Story__gone) l3 c3 k3, ⟨a3, i3, k3⟩, (fun_mk (st := s_Story__gone) l3 c3 k3).binds (ps := ["self", "number"]) fun _ _ _ _ _ _ us hl => match us, hl with | [_, _], _ => rfl⟩
  have D_Story__keep_change : DfM K A_Story "keep_change" "Story.keep_change" s_Story__keep_change ["self", "change"] := ⟨f4, _, fun_mk (st := s_Story__keep_change) l4 c4 k4, ⟨a4, i4, k4⟩, (fun_mk (st := s_Story__keep_change) l4 c4 k4).binds (ps := ["self", "change"]) fun _ _ _ _ _ _ us hl => match us, hl with | [_, _], _ => rfl⟩
  have D_Story__since : DfM K A_Story "since" "Story.since" s_Story__since ["self", "stamp"] := ⟨f5, _, fun_mk (st := s_Story__since) l5 c5 k5, ⟨a5, i5, k5⟩, (fun_mk (st := s_Story__since) l5 c5 k5).binds (ps := ["self", "stamp"]) fun _ _ _ _ _ _ us hl => match us, hl with | [_, _], _ => rfl⟩
  have D_Story__pairs : DfM K A_Story "pairs" "Story.pairs" s_Story__pairs ["self"] := ⟨f6, _, fun_mk (st := s_Story__pairs) l6 c6 k6, ⟨a6, i6, k6⟩, (fun_mk (st := s_Story__pairs) l6 c6 k6).binds (ps := ["self"]) fun _ _ _ _ _ _ us hl => match us, hl with | [_], _ => rfl⟩
  have D_Desk____init__ : DfI K A_Desk "Desk.__init__" s_Desk____init__ ["self"] := ⟨f7, _, fun_mk (st := s_Desk____init__) l7 c7 k7, ⟨oM_Desk, a7, i7, oK_Desk⟩, (fun_mk (st := s_Desk____init__) l7 c7 k7).binds (ps := ["self"]) fun _ _ _ _ _ _ us hl => match us, hl with | [_], _ => rfl⟩
  have D_Desk__stamp : DfP K A_Desk "stamp" "Desk.stamp" s_Desk__stamp ["self"] := ⟨p8, f8, _, fun_mk (st := s_Desk__stamp) l8 c8 k8, ⟨a8, pg8, pt8, ⟨_, pr8⟩⟩, (fun_mk (st := s_Desk__stamp) l8 c8 k8).binds (ps := ["self"]) fun _ _ _ _ _ _ us hl => match us, hl with | [_], _ => rfl⟩
  have D_Desk__view : DfP K A_Desk "view" "Desk.view" s_Desk__view ["self"] := ⟨p9, f9, _, fun_mk (st := s_Desk__view) l9 c9 k9, ⟨a9, pg9, pt9, ⟨_, pr9⟩⟩, (fun_mk (st := s_Desk__view) l9 c9 k9).binds (ps := ["self"]) fun _ _ _ _ _ _ us hl => match us, hl with | [_], _ => rfl⟩
  have D_Desk__hear : DfM K A_Desk "hear" "Desk.hear" s_Desk__hear ["self", "answer"] := ⟨f10, _, fun_mk (st := s_Desk__hear) l10 c10 k10, ⟨a10, i10, k10⟩, (fun_mk (st := s_Desk__hear) l10 c10 k10).binds (ps := ["self", "answer"]) fun _ _ _ _ _ _ us hl => match us, hl with | [_, _], _ => rfl⟩
  have D_Desk__do_change : DfM K A_Desk "do_change" "Desk.do_change" s_Desk__do_change ["self", "change"] := ⟨f11, _, fun_mk (st := s_Desk__do_change) l11 c11 k11, ⟨a11, i11, k11⟩, (fun_mk (st := s_Desk__do_change) l11 c11 k11).binds (ps := ["self", "change"]) fun _ _ _ _ _ _ us hl => match us, hl with | [_, _], _ => rfl⟩
  have D__law_mix : Df K mg "_law_mix" s__law_mix ["seed", "turn"] := ⟨f12, _, fun_mk (st := s__law_mix) l12 c12 k12, PySem.W.mg_of X G a12, (fun_mk (st := s__law_mix) l12 c12 k12).binds (ps := ["seed", "turn"]) fun _ _ _ _ _ _ us hl => match us, hl with | [_, _], _ => rfl⟩
  have D__law_source : Df K mg "_law_source" s__law_source ["script"] := ⟨f13, _, fun_mk (st := s__law_source) l13 c13 k13, PySem.W.mg_of X G a13, (fun_mk (st := s__law_source) l13 c13 k13).binds (ps := ["script"]) fun _ _ _ _ _ _ us hl => match us, hl with | [_], _ => rfl⟩
  have D__law_draw : Df K mg "_law_draw" s__law_draw ["source", "many"] := ⟨f14, _, fun_mk (st := s__law_draw) l14 c14 k14, PySem.W.mg_of X G a14, (fun_mk (st := s__law_draw) l14 c14 k14).binds (ps := ["source", "many"]) fun _ _ _ _ _ _ us hl => match us, hl with | [_, _], _ => rfl⟩
  have D__law_pick : Df K mg "_law_pick" s__law_pick ["source", "row"] := ⟨f15, _, fun_mk (st := s__law_pick) l15 c15 k15, PySem.W.mg_of X G a15, (fun_mk (st := s__law_pick) l15 c15 k15).binds (ps := ["source", "row"]) fun _ _ _ _ _ _ us hl => match us, hl with | [_, _], _ => rfl⟩
  have D__law_once_in : Df K mg "_law_once_in" s__law_once_in ["source", "many"] := ⟨f16, _, fun_mk (st := s__law_once_in) l16 c16 k16, PySem.W.mg_of X G a16, (fun_mk (st := s__law_once_in) l16 c16 k16).binds (ps := ["source", "many"]) fun _ _ _ _ _ _ us hl => match us, hl with | [_, _], _ => rfl⟩
  have D__law_new_name : Df K mg "_law_new_name" s__law_new_name ["source", "used"] := ⟨f17, _, fun_mk (st := s__law_new_name) l17 c17 k17, PySem.W.mg_of X G a17, (fun_mk (st := s__law_new_name) l17 c17 k17).binds (ps := ["source", "used"]) fun _ _ _ _ _ _ us hl => match us, hl with | [_, _], _ => rfl⟩
  have D__law_names : Df K mg "_law_names" s__law_names ["source", "many"] := ⟨f18, _, fun_mk (st := s__law_names) l18 c18 k18, PySem.W.mg_of X G a18, (fun_mk (st := s__law_names) l18 c18 k18).binds (ps := ["source", "many"]) fun _ _ _ _ _ _ us hl => match us, hl with | [_, _], _ => rfl⟩
  have D__law_is_int : Df K mg "_law_is_int" s__law_is_int ["value"] := ⟨f19, _, fun_mk (st := s__law_is_int) l19 c19 k19, PySem.W.mg_of X G a19, (fun_mk (st := s__law_is_int) l19 c19 k19).binds (ps := ["value"]) fun _ _ _ _ _ _ us hl => match us, hl with | [_], _ => rfl⟩
  have D__law_same : Df K mg "_law_same" s__law_same ["actual", "due"] := ⟨f20, _, fun_mk (st := s__law_same) l20 c20 k20, PySem.W.mg_of X G a20, (fun_mk (st := s__law_same) l20 c20 k20).binds (ps := ["actual", "due"]) fun _ _ _ _ _ _ us hl => match us, hl with | [_, _], _ => rfl⟩
  have D__law_many : Df K mg "_law_many" s__law_many ["source", "least", "wide", "more"] := ⟨f21, _, fun_mk (st := s__law_many) l21 c21 k21, PySem.W.mg_of X G a21, (fun_mk (st := s__law_many) l21 c21 k21).binds (ps := ["source", "least", "wide", "more"]) fun _ _ _ _ _ _ us hl => match us, hl with | [_, _, _, _], _ => rfl⟩
  have D__law_number : Df K mg "_law_number" s__law_number ["source", "view"] := ⟨f22, _, fun_mk (st := s__law_number) l22 c22 k22, PySem.W.mg_of X G a22, (fun_mk (st := s__law_number) l22 c22 k22).binds (ps := ["source", "view"]) fun _ _ _ _ _ _ us hl => match us, hl with | [_, _], _ => rfl⟩
  have D__law_changes : Df K mg "_law_changes" s__law_changes ["source", "many"] := ⟨f23, _, fun_mk (st := s__law_changes) l23 c23 k23, PySem.W.mg_of X G a23, (fun_mk (st := s__law_changes) l23 c23 k23).binds (ps := ["source", "many"]) fun _ _ _ _ _ _ us hl => match us, hl with | [_, _], _ => rfl⟩
  have D__law_view : Df K mg "_law_view" s__law_view ["changes"] := ⟨f24, _, fun_mk (st := s__law_view) l24 c24 k24, PySem.W.mg_of X G a24, (fun_mk (st := s__law_view) l24 c24 k24).binds (ps := ["changes"]) fun _ _ _ _ _ _ us hl => match us, hl with | [_], _ => rfl⟩
  have D__law_do : Df K mg "_law_do" s__law_do ["story", "change"] := ⟨f25, _, fun_mk (st := s__law_do) l25 c25 k25, PySem.W.mg_of X G a25, (fun_mk (st := s__law_do) l25 c25 k25).binds (ps := ["story", "change"]) fun _ _ _ _ _ _ us hl => match us, hl with | [_, _], _ => rfl⟩
  have D__law_desk_right : Df K mg "_law_desk_right" s__law_desk_right ["desk", "stamp", "views"] := ⟨f26, _, fun_mk (st := s__law_desk_right) l26 c26 k26, PySem.W.mg_of X G a26, (fun_mk (st := s__law_desk_right) l26 c26 k26).binds (ps := ["desk", "stamp", "views"]) fun _ _ _ _ _ _ us hl => match us, hl with | [_, _, _], _ => rfl⟩
  have D__law_misses_right : Df K mg "_law_misses_right" s__law_misses_right ["story", "firsts", "views"] := ⟨f27, _, fun_mk (st := s__law_misses_right) l27 c27 k27, PySem.W.mg_of X G a27, (fun_mk (st := s__law_misses_right) l27 c27 k27).binds (ps := ["story", "firsts", "views"]) fun _ _ _ _ _ _ us hl => match us, hl with | [_, _, _], _ => rfl⟩
  have D__law_own_answer : Df K mg "_law_own_answer" s__law_own_answer ["source", "changes", "views", "stamp", "last"] := ⟨f28, _, fun_mk (st := s__law_own_answer) l28 c28 k28, PySem.W.mg_of X G a28, (fun_mk (st := s__law_own_answer) l28 c28 k28).binds (ps := ["source", "changes", "views", "stamp", "last"]) fun _ _ _ _ _ _ us hl => match us, hl with | [_, _, _, _, _], _ => rfl⟩
  have D__law_desks_hear : Df K mg "_law_desks_hear" s__law_desks_hear ["source", "story", "desks", "stamps", "changes", "views", "last"] := ⟨f29, _, fun_mk (st := s__law_desks_hear) l29 c29 k29, PySem.W.mg_of X G a29, (fun_mk (st := s__law_desks_hear) l29 c29 k29).binds (ps := ["source", "story", "desks", "stamps", "changes", "views", "last"]) fun _ _ _ _ _ _ us hl => match us, hl with | [_, _, _, _, _, _, _], _ => rfl⟩
  have O : To K mg A_Story A_Desk := { g_Story := PySem.W.mg_of X G oG_Story, c_Story := ⟨oP_Story, oD_Story, oO_Story, oS_Story⟩, n_Story_limit := oN_Story__limit, n_Story_stamp := oN_Story__stamp, n_Story_changes := oN_Story__changes, n_Story_numbers := oN_Story__numbers, g_Desk := PySem.W.mg_of X G oG_Desk, c_Desk := ⟨oP_Desk, oD_Desk, oO_Desk, oS_Desk⟩, n_Desk_stamp := oN_Desk__stamp, n_Desk_numbers := oN_Desk__numbers }
  have C_Desk____init__ := ok_Desk____init__ (P := l.prog) (w := w) (base := base) D_Desk____init__ T O 
  have C_Story____init__ := ok_Story____init__ (P := l.prog) (w := w) (base := base) D_Story____init__ T O 
  have C_Story__pairs := ok_Story__pairs (P := l.prog) (w := w) (base := base) D_Story__pairs T O 
  have C_Story__since := ok_Story__since (P := l.prog) (w := w) (base := base) D_Story__since T O C_Story__pairs
  have C__law_mix := ok__law_mix (P := l.prog) (w := w) (base := base) D__law_mix T 
  have C__law_draw := ok__law_draw (P := l.prog) (w := w) (base := base) D__law_draw T C__law_mix
  have C__law_new_name := ok__law_new_name (P := l.prog) (w := w) (base := base) D__law_new_name T C__law_draw
  have C__law_names := ok__law_names (P := l.prog) (w := w) (base := base) D__law_names T C__law_new_name
  have C__law_pick := ok__law_pick (P := l.prog) (w := w) (base := base) D__law_pick T C__law_draw
  have C__law_number := ok__law_number (P := l.prog) (w := w) (base := base) D__law_number T C__law_draw C__law_pick
  have C__law_changes := ok__law_changes (P := l.prog) (w := w) (base := base) D__law_changes T C__law_draw C__law_names C__law_number C__law_pick
  have C_Desk__do_change := ok_Desk__do_change (P := l.prog) (w := w) (base := base) D_Desk__do_change T O 
  have C_Desk__hear := ok_Desk__hear (P := l.prog) (w := w) (base := base) D_Desk__hear T O C_Desk__do_change
  have C_Desk__stamp := ok_Desk__stamp (P := l.prog) (w := w) (base := base) D_Desk__stamp T O 
  have C_Desk__view := ok_Desk__view (P := l.prog) (w := w) (base := base) D_Desk__view T O 
  have C__law_is_int := ok__law_is_int (P := l.prog) (w := w) (base := base) D__law_is_int T 
  have C__law_same := ok__law_same (P := l.prog) (w := w) (base := base) D__law_same T C__law_is_int 5
  have C__law_desk_right := ok__law_desk_right (P := l.prog) (w := w) (base := base) D__law_desk_right T O C_Desk__stamp C_Desk__view C__law_same
  have C__law_own_answer := ok__law_own_answer (P := l.prog) (w := w) (base := base) D__law_own_answer T C__law_draw
  have C__law_desks_hear := ok__law_desks_hear (P := l.prog) (w := w) (base := base) D__law_desks_hear T O C_Desk__hear C_Story__since C__law_desk_right C__law_draw C__law_own_answer
  have C_Story__keep_change := ok_Story__keep_change (P := l.prog) (w := w) (base := base) D_Story__keep_change T O 
  have C_Story__gone := ok_Story__gone (P := l.prog) (w := w) (base := base) D_Story__gone T O C_Story__keep_change
  have C_Story__new := ok_Story__new (P := l.prog) (w := w) (base := base) D_Story__new T O C_Story__keep_change
  have C__law_do := ok__law_do (P := l.prog) (w := w) (base := base) D__law_do T O C_Story__gone C_Story__new
  have C__law_once_in := ok__law_once_in (P := l.prog) (w := w) (base := base) D__law_once_in T C__law_draw
  have C__law_many := ok__law_many (P := l.prog) (w := w) (base := base) D__law_many T C__law_draw C__law_once_in
  have C__law_misses_right := ok__law_misses_right (P := l.prog) (w := w) (base := base) D__law_misses_right T O C_Desk____init__ C_Desk__hear C_Story__since C__law_desk_right
  have C__law_source := ok__law_source (P := l.prog) (w := w) (base := base) D__law_source T C__law_mix
  have C__law_view := ok__law_view (P := l.prog) (w := w) (base := base) D__law_view T 
  exact ok_law (fun_mk (st := s_law) l30 c30 k30) T O C_Desk____init__ C_Story____init__ C_Story__since C__law_changes C__law_desks_hear C__law_do C__law_many C__law_misses_right C__law_pick C__law_source C__law_view
theorem walk {l : PySem.W.OpenLaw} {q : Program} {loose : List Str} {XP : (Str → Option Value) → Heap → Prop} {YP : World → Heap → Prop} {d : DefRec} {K : Params → PySem.W.Frag} (hn : l.most = some 63) (hdf : d.params.defaults = [])
    (hY : ∀ (w : World) (h : Heap), YP w h → (K w.params).In h)
    (F : ∀ (w : World) (mg : Str → Option Value) (fa : Addr) (h : Heap), (K w.params).In h → h.Ns mainGlobals mg → mg d.name = some (.ref fa) →
      ∃ fd : FuncData, (∀ (s : Shared) (u : Value), BindsTo s fd ⟨[u], []⟩ [("script", u)]) ∧ ∀ base : Heap, (K w.params).In base → base.Ns mainGlobals mg → FnOk l.prog w (K w.params) mg base CX0 9 fa fd ["script"] (sp_law (K w.params))) :
    PySem.W.WalkO q loose XP YP l.row.toRowW d [] (fun f vs => PySem.call f vs) :=
  L2.walk_of (n := 63) (k := 9) (x := "script") (CX := fun _ => CX0) (sp := fun w => sp_law (K w.params)) hn (by decide) hdf ⟨rfl, by decide, by decide⟩ hY F (fun _ _ a ns hl _ hS => ⟨a, ns, rfl, hS, hl, fun _ => rfl⟩) fun _ _ _ _ _ z => z
end Z
open PySem PySem.W PyProof.Rows in
set_option maxRecDepth 100000 in
set_option maxHeartbeats 0 in
theorem PySem.Challenge.cw_criermoot_k52_whole_desks_holds : PySem.Challenge.rw_criermoot_k52_whole_desks.Holds := by
  w_on; o_law; k_head; (case hw => w_witness2)
  k_fill
  refine Z.walk (l := PySem.Challenge.rw_criermoot_k52_whole_desks) rfl rfl (fun w h Y => PySem.W.kIn_of Y) ?F
  case F =>
    intro w mg fa h KX G hmg
    refine' Z.all_mk KX G hmg ?oG_Story ?oP_Story ?oD_Story ?oO_Story ?oS_Story ?oM_Story ?oK_Story ?oN_Story__limit ?oN_Story__stamp ?oN_Story__changes ?oN_Story__numbers ?oG_Desk ?oP_Desk ?oD_Desk ?oO_Desk ?oS_Desk ?oM_Desk ?oK_Desk ?oN_Desk__stamp ?oN_Desk__numbers ?a0 ?i0 ?l0 ?c0 ?k0 ?a1 ?pg1 ?pt1 ?pr1 ?l1 ?c1 ?k1 ?a2 ?i2 ?l2 ?c2 ?k2 ?a3 ?i3 ?l3 ?c3 ?k3 ?a4 ?i4 ?l4 ?c4 ?k4 ?a5 ?i5 ?l5 ?c5 ?k5 ?a6 ?i6 ?l6 ?c6 ?k6 ?a7 ?i7 ?l7 ?c7 ?k7 ?a8 ?pg8 ?pt8 ?pr8 ?l8 ?c8 ?k8 ?a9 ?pg9 ?pt9 ?pr9 ?l9 ?c9 ?k9 ?a10 ?i10 ?l10 ?c10 ?k10 ?a11 ?i11 ?l11 ?c11 ?k11 ?a12 ?l12 ?c12 ?k12 ?a13 ?l13 ?c13 ?k13 ?a14 ?l14 ?c14 ?k14 ?a15 ?l15 ?c15 ?k15 ?a16 ?l16 ?c16 ?k16 ?a17 ?l17 ?c17 ?k17 ?a18 ?l18 ?c18 ?k18 ?a19 ?l19 ?c19 ?k19 ?a20 ?l20 ?c20 ?k20 ?a21 ?l21 ?c21 ?k21 ?a22 ?l22 ?c22 ?k22 ?a23 ?l23 ?c23 ?k23 ?a24 ?l24 ?c24 ?k24 ?a25 ?l25 ?c25 ?k25 ?a26 ?l26 ?c26 ?k26 ?a27 ?l27 ?c27 ?k27 ?a28 ?l28 ?c28 ?k28 ?a29 ?l29 ?c29 ?k29 ?a30 ?l30 ?c30 ?k30 ?z_abs ?z_bool ?z_int ?z_isinstance ?z_len ?z_list ?z_range ?z_sorted ?z_str ?z_tuple
    (case oG_Story => k_is)
    (case oP_Story => k_is)
    (case oD_Story => k_is)
    (case oO_Story => k_is)
    (case oS_Story => k_is)
    (case oM_Story => k_is)
    (case oK_Story => k_is)
    (case oN_Story__limit => k_is)
    (case oN_Story__stamp => k_is)
    (case oN_Story__changes => k_is)
    (case oN_Story__numbers => k_is)
    (case oG_Desk => k_is)
    (case oP_Desk => k_is)
    (case oD_Desk => k_is)
    (case oO_Desk => k_is)
    (case oS_Desk => k_is)
    (case oM_Desk => k_is)
    (case oK_Desk => k_is)
    (case oN_Desk__stamp => k_is)
    (case oN_Desk__numbers => k_is)
    (case a0 => k_is)
    (case i0 => k_is)
    (case l0 => k_is)
    (case c0 => k_is)
    (case k0 => k_is)
    (case a1 => k_is)
    (case pg1 => k_is)
    (case pt1 => k_is)
    (case pr1 => k_is)
    (case l1 => k_is)
    (case c1 => k_is)
    (case k1 => k_is)
    (case a2 => k_is)
    (case i2 => k_is)
    (case l2 => k_is)
    (case c2 => k_is)
    (case k2 => k_is)
    (case a3 => k_is)
    (case i3 => k_is)
    (case l3 => k_is)
    (case c3 => k_is)
    (case k3 => k_is)
    (case a4 => k_is)
    (case i4 => k_is)
    (case l4 => k_is)
    (case c4 => k_is)
    (case k4 => k_is)
    (case a5 => k_is)
    (case i5 => k_is)
    (case l5 => k_is)
    (case c5 => k_is)
    (case k5 => k_is)
    (case a6 => k_is)
    (case i6 => k_is)
    (case l6 => k_is)
    (case c6 => k_is)
    (case k6 => k_is)
    (case a7 => k_is)
    (case i7 => k_is)
    (case l7 => k_is)
    (case c7 => k_is)
    (case k7 => k_is)
    (case a8 => k_is)
    (case pg8 => k_is)
    (case pt8 => k_is)
    (case pr8 => k_is)
    (case l8 => k_is)
    (case c8 => k_is)
    (case k8 => k_is)
    (case a9 => k_is)
    (case pg9 => k_is)
    (case pt9 => k_is)
    (case pr9 => k_is)
    (case l9 => k_is)
    (case c9 => k_is)
    (case k9 => k_is)
    (case a10 => k_is)
    (case i10 => k_is)
    (case l10 => k_is)
    (case c10 => k_is)
    (case k10 => k_is)
    (case a11 => k_is)
    (case i11 => k_is)
    (case l11 => k_is)
    (case c11 => k_is)
    (case k11 => k_is)
    (case a12 => k_is)
    (case l12 => k_is)
    (case c12 => k_is)
    (case k12 => k_is)
    (case a13 => k_is)
    (case l13 => k_is)
    (case c13 => k_is)
    (case k13 => k_is)
    (case a14 => k_is)
    (case l14 => k_is)
    (case c14 => k_is)
    (case k14 => k_is)
    (case a15 => k_is)
    (case l15 => k_is)
    (case c15 => k_is)
    (case k15 => k_is)
    (case a16 => k_is)
    (case l16 => k_is)
    (case c16 => k_is)
    (case k16 => k_is)
    (case a17 => k_is)
    (case l17 => k_is)
    (case c17 => k_is)
    (case k17 => k_is)
    (case a18 => k_is)
    (case l18 => k_is)
    (case c18 => k_is)
    (case k18 => k_is)
    (case a19 => k_is)
    (case l19 => k_is)
    (case c19 => k_is)
    (case k19 => k_is)
    (case a20 => k_is)
    (case l20 => k_is)
    (case c20 => k_is)
    (case k20 => k_is)
    (case a21 => k_is)
    (case l21 => k_is)
    (case c21 => k_is)
    (case k21 => k_is)
    (case a22 => k_is)
    (case l22 => k_is)
    (case c22 => k_is)
    (case k22 => k_is)
    (case a23 => k_is)
    (case l23 => k_is)
    (case c23 => k_is)
    (case k23 => k_is)
    (case a24 => k_is)
    (case l24 => k_is)
    (case c24 => k_is)
    (case k24 => k_is)
    (case a25 => k_is)
    (case l25 => k_is)
    (case c25 => k_is)
    (case k25 => k_is)
    (case a26 => k_is)
    (case l26 => k_is)
    (case c26 => k_is)
    (case k26 => k_is)
    (case a27 => k_is)
    (case l27 => k_is)
    (case c27 => k_is)
    (case k27 => k_is)
    (case a28 => k_is)
    (case l28 => k_is)
    (case c28 => k_is)
    (case k28 => k_is)
    (case a29 => k_is)
    (case l29 => k_is)
    (case c29 => k_is)
    (case k29 => k_is)
    (case a30 => k_is)
    (case l30 => k_is)
    (case c30 => k_is)
    (case k30 => k_is)
    (case z_abs => k_is)
    (case z_bool => k_is)
    (case z_int => k_is)
    (case z_isinstance => k_is)
    (case z_len => k_is)
    (case z_list => k_is)
    (case z_range => k_is)
    (case z_sorted => k_is)
    (case z_str => k_is)
    (case z_tuple => k_is)
