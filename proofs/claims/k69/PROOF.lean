import PyProof.Rows.All
import Wide.All
import OpenK.AllK
import Wide.FinOn
import HandS.Base
import HandS.Call
import HandS.List
import HandS.Comp
import HandS.Ends
import HandS.Dict
import HandS.Iter
import HandS.Text
import HandS.Words
import HandS.WordsList
import HandS.Conv
import HandS.Codes
import HandS.IsInst
import HandS.Replace
import HandS.StrMore
import HandS.TupAny
import HandS.WideBits
import HandS.ForExc
import HandS.ExcInit
import HandS.ExcField
import HandS.ExcIs
import KE.KExcIs
import HandS.Property
import HandS.Sort
import HandS.Deep
import KE.SortData
import KE.DataMinMax
import KE.KSortTupAny
import KE.KDictSum
import KE.KDictItemsList
import KE.KDictCopyH
import PyProof.DictUpdate
import PyProof.Transfer
import HandS.DictTup
import HandS.ExcOwn
import HandS.ExcValue
import PyProof.MinMaxWalk
import KE.KDictList
import KE.GoesEnum
import KE.GoesMore
import HandS.Rev
import HandS.ReplaceLit
import PyProof.Rows.StrCut
import HandS.TupMul
import PySem.Challenge.RW_criermoot_k69_whole_readers
set_option Elab.async false
set_option linter.all false
set_option maxRecDepth 100000
namespace Z
open PySem L2

/-! ### heaps -/
/-- all that was tracked is as it was, but for what stands at s -/
def Ext (s : Addr) (H H' : Hp) : Prop := ∀ b o, b ≠ s → H b = some o → H' b = some o
theorem Ext.refl (s : Addr) (H : Hp) : Ext s H H := fun _ _ _ h => h
theorem Ext.trans {s : Addr} {H H1 H2 : Hp} (a : Ext s H H1) (b : Ext s H1 H2) : Ext s H H2 := fun c o n h => b c o n (a c o n h)
theorem Ext.of {s : Addr} {H H' : Hp} (a : Same H H') : Ext s H H' := fun c o _ h => a c o h
theorem Ext.new {s p : Addr} {H : Hp} {o : HO} (n : H p = none) : Ext s H (upd H p o) := fun b u _ h => by
  rw [upd_ne (ne_of_none h n)]; exact h
theorem Ext.put {s : Addr} {H : Hp} {o : HO} : Ext s H (upd H s o) := fun b u n h => by
  rw [upd_ne n]; exact h
theorem same_new {p : Addr} {H : Hp} {o : HO} (n : H p = none) : Same H (upd H p o) := fun b u h => by
  rw [upd_ne (ne_of_none h n)]; exact h
theorem Ext.seqT {K : PySem.W.Frag} {s a : Addr} {H H' : Hp} {xs ys : List V} (x : Ext s H H') (hs : H s = some (.lst ys)) (h : SqT K H a xs) : SqT K H' a xs := by
  rcases h with (h | ⟨o, h⟩) | h
  · exact .inl (.inl (x _ _ (fun e => by rw [e, hs] at h; cases h) h))
  · exact .inl (.inr ⟨o, x _ _ (fun e => by rw [e, hs] at h; cases h) h⟩)
  · exact .inr h
theorem Ext.seqL {K : PySem.W.Frag} {s a : Addr} {H H' : Hp} {xs : List V} (x : Ext s H H') (n : a ≠ s) (h : SqL K H a xs) : SqL K H' a xs := by
  rcases h with (h | ⟨o, h⟩) | h
  · exact .inl (.inl (x _ _ n h))
  · exact .inl (.inr ⟨o, x _ _ n h⟩)
  · exact .inr h

theorem and_nn {x : Int} (hx : 0 ≤ x) (k : Nat) : 0 ≤ Builtin.bitAnd x (1 * 2 ^ k - 1) := by
  rw [Int.one_mul, Bits.bitAnd_mask k hx]
  exact Int.emod_nonneg _ (Int.ne_of_gt (Int.pow_pos (by decide)))
/-! ### the source of draws -/
def Src (H : Hp) (s a : Addr) (c : Nat) : Prop := ∃ (ns : List Int) (i b e t : Int),
  H s = some (.lst [.ref a, .int i, .int b, .int e, .int t]) ∧ H a = some (.lst (ns.map V.int)) ∧ a ≠ s ∧ ns.length ≤ 63 ∧ 0 ≤ i ∧ i ≤ 63 ∧ 0 ≤ b ∧ 0 ≤ e ∧ e < 2147483647 ∧ 0 ≤ t ∧ t + c < 4000000000000000000
theorem Src.lst {H : Hp} {s a : Addr} {c : Nat} (h : Src H s a c) : ∃ xs, H s = some (.lst xs) := by
  obtain ⟨_, _, _, _, _, h, _⟩ := h; exact ⟨_, h⟩
theorem Src.mono {H : Hp} {s a : Addr} {c d : Nat} (h : Src H s a c) (l : d ≤ c) : Src H s a d := by
  obtain ⟨ns, i, b, e, t, h1, h2, h3, h4, h5, h6, h7, h8, h9, h10, h11⟩ := h
  exact ⟨ns, i, b, e, t, h1, h2, h3, h4, h5, h6, h7, h8, h9, h10, by omega⟩
theorem Src.ext {H H' : Hp} {s a : Addr} {c : Nat} (h : Src H s a c) (x : Same H H') : Src H' s a c := by
  obtain ⟨ns, i, b, e, t, h1, h2, h3⟩ := h
  exact ⟨ns, i, b, e, t, x _ _ h1, x _ _ h2, h3⟩
theorem Src.new {H : Hp} {s a p : Addr} {o : HO} {c : Nat} (h : Src H s a c) (n : H p = none) : Src (upd H p o) s a c := h.ext (same_new n)
theorem Src.ne {H : Hp} {s a p : Addr} {c : Nat} (h : Src H s a c) (n : H p = none) : p ≠ s := by
  obtain ⟨xs, e⟩ := h.lst
  exact (ne_of_none e n).symm
theorem Src.nea {H : Hp} {s a p : Addr} {c : Nat} (h : Src H s a c) (n : H p = none) : p ≠ a := by
  obtain ⟨ns, i, b, e, t, h1, h2, h3⟩ := h
  exact (ne_of_none h2 n).symm
theorem Src.put {H : Hp} {s a p : Addr} {o : HO} {c : Nat} (h : Src H s a c) (n : p ≠ s) (m : p ≠ a) : Src (upd H p o) s a c := by
  obtain ⟨ns, i, b, e', t, h1, h2, h3⟩ := h
  exact ⟨ns, i, b, e', t, by rw [upd_ne n.symm]; exact h1, by rw [upd_ne m.symm]; exact h2, h3⟩

/-! ### defs and their callers -/
section
variable (P : Program) (w : World) (K : PySem.W.Frag) (mg : Str → Option Value) (base : Heap)
/-- a def as callers use it -/
def Cal (x : Str) (ps : List Str) (k : Nat) (sp : Sp) : Prop := ∃ (f : Addr) (fd : FuncData), FnOk P w K mg base CX0 k f fd ps sp ∧ mg x = some (.ref f) ∧ PySem.W.keepIn K (.ref f) = true ∧ Binds K fd ps []
/-- a def as the top has left it -/
def Df (x : Str) (st : Stmt) (ps : List Str) : Prop := ∃ (f : Addr) (fd : FuncData), Fun K x x st f fd ∧ mg x = some (.ref f) ∧ Binds K fd ps []
end
theorem Cal.mono {P : Program} {w : World} {K : PySem.W.Frag} {mg : Str → Option Value} {base : Heap} {x : Str} {ps : List Str} {j k : Nat} {sp : Sp} (C : Cal P w K mg base x ps j sp) (h : j ≤ k) : Cal P w K mg base x ps k sp := by
  obtain ⟨f, fd, G, g, kp, b⟩ := C
  exact ⟨f, fd, G.mono h, g, kp, b⟩

/-! ### the promises of the drawing defs -/
def sp__law_mix : Sp := fun vs H Q _ => ∃ (x y : Int), vs = [.int x, .int y] ∧ 0 ≤ x ∧ x < 9000000000000000000 ∧ 0 ≤ y ∧ y < 9000000000000000000 ∧ ∀ v : Int, 0 ≤ v → v < 2147483647 → Q (.int v) H
def sp__law_source (K : PySem.W.Frag) : Sp := fun vs H Q _ => ∃ (a : Addr) (ns : List Int), vs = [.ref a] ∧ SqL K H a (ns.map V.int) ∧ ns.length ≤ 63 ∧ ∀ (s b : Addr) (H' : Hp), H s = none → Same H H' → Src H' s b 3000000000000000000 → Q (.ref s) H'
def sp__law_draw : Sp := fun vs H Q _ => ∃ (s a : Addr) (m : Int) (c : Nat), vs = [.ref s, .int m] ∧ 0 < m ∧ m < 1073741824 ∧ Src H s a (c + 1) ∧ ∀ (v : Int) (H' : Hp), 0 ≤ v → v < m → Ext s H H' → Src H' s a c → Q (.int v) H'

/-! ### data -/
inductive D where
  | non | bl (b : Bool) | int (i : Int) | str (x : Str) | tup (xs : List D)
mutual
def DV (K : PySem.W.Frag) (H : Hp) : D → V → Prop
  | .non, v => v = .non
  | .bl b, v => v = .bl b
  | .int i, v => v = .int i
  | .str x, v => v = .str x
  | .tup ds, v => ∃ a vs, v = .ref a ∧ SqT K H a vs ∧ DVs K H ds vs
def DVs (K : PySem.W.Frag) (H : Hp) : List D → List V → Prop
  | [], vs => vs = []
  | d :: ds, vs => ∃ v r, vs = v :: r ∧ DV K H d v ∧ DVs K H ds r
end
mutual
theorem DV.ext {K : PySem.W.Frag} {H H' : Hp} (x : ∀ a xs, SqT K H a xs → SqT K H' a xs) : ∀ {d : D} {v : V}, DV K H d v → DV K H' d v
  | .non, _, h => by unfold DV at *; exact h
  | .bl _, _, h => by unfold DV at *; exact h
  | .int _, _, h => by unfold DV at *; exact h
  | .str _, _, h => by unfold DV at *; exact h
  | .tup ds, v, h => by
    unfold DV at *
    obtain ⟨a, vs, e, q, r⟩ := h
    exact ⟨a, vs, e, x _ _ q, DVs.ext x r⟩
theorem DVs.ext {K : PySem.W.Frag} {H H' : Hp} (x : ∀ a xs, SqT K H a xs → SqT K H' a xs) : ∀ {ds : List D} {vs : List V}, DVs K H ds vs → DVs K H' ds vs
  | [], _, h => by unfold DVs at *; exact h
  | d :: ds, vs, h => by
    unfold DVs at *
    obtain ⟨v, r, e, q, t⟩ := h
    exact ⟨v, r, e, DV.ext x q, DVs.ext x t⟩
end
theorem DVs.len {K : PySem.W.Frag} {H : Hp} : ∀ {ds : List D} {vs : List V}, DVs K H ds vs → vs.length = ds.length
  | [], _, h => by unfold DVs at h; subst h; rfl
  | d :: ds, vs, h => by
    unfold DVs at h
    obtain ⟨v, r, e, q, t⟩ := h
    rw [e, List.length_cons, List.length_cons, DVs.len t]
theorem DVs.get {K : PySem.W.Frag} {H : Hp} : ∀ {ds : List D} {vs : List V} {i : Nat} {d : D}, DVs K H ds vs → ds[i]? = some d → ∃ v, vs[i]? = some v ∧ DV K H d v
  | [], _, i, d, h, e => by simp at e
  | x :: ds, vs, i, d, h, e => by
    unfold DVs at h
    obtain ⟨v, r, e1, q, t⟩ := h
    subst e1
    cases i with
    | zero =>
      have : x = d := by simpa using e
      subst this
      exact ⟨v, rfl, q⟩
    | succ i => exact DVs.get (i := i) t (by simpa using e)
theorem DVs.strs {K : PySem.W.Frag} {H : Hp} : ∀ (xs : List Str), DVs K H (xs.map D.str) (xs.map V.str)
  | [] => by unfold DVs; rfl
  | x :: xs => by
    unfold DVs
    exact ⟨_, _, rfl, by unfold DV; rfl, DVs.strs xs⟩
theorem DVs.ints {K : PySem.W.Frag} {H : Hp} : ∀ (xs : List Int), DVs K H (xs.map D.int) (xs.map V.int)
  | [] => by unfold DVs; rfl
  | x :: xs => by
    unfold DVs
    exact ⟨_, _, rfl, by unfold DV; rfl, DVs.ints xs⟩
/-- tuples lie within fewer than n others -/
def DL : Nat → D → Prop
  | 0, _ => False
  | n + 1, .tup xs => xs.length ≤ 1000000 ∧ ∀ x ∈ xs, DL n x
  | _ + 1, _ => True
theorem TyX.ofT {K : PySem.W.Frag} {H : Hp} {a : Addr} {xs : List V} (h : SqT K H a xs) : TyX K H (.ref a) (.type "tuple") := by
  rcases h with (h | ⟨o, h⟩) | ⟨o, _, _, e, c, _⟩
  · exact .base (.tup h)
  · exact .fTuple h
  · exact .kTuple e c
def sp__law_is_int (K : PySem.W.Frag) : Sp := fun vs H Q _ => ∃ i : Int, vs = [.int i] ∧ Q (.bl true) H
/-- of two values with the same data it tells True -/
def sp__law_same (K : PySem.W.Frag) (n : Nat) : Sp := fun vs H Q _ => ∃ (d : D) (v u : V), vs = [v, u] ∧ DV K H d v ∧ DV K H d u ∧ DL n d ∧ Q (.bl true) H

/-! ### texts by their signs -/
open SX (S S_cat S_len S_inj)
theorem S_lst (l : List Nat) : (S l).cps.toList = l := rfl
theorem S_of (x : Str) : x = S x.cps.toList := (SX.S_tl x).symm
theorem S_app (a b : List Nat) : S a ++ S b = S (a ++ b) := S_cat a b
/-- a for over the signs of a text -/
theorem for_str {l : List Nat} {g : TG} {tb : TS} {D : Ends} {σ : St} {H : Hp} (Pv : Nat → St → Hp → Prop) (h0 : Pv 0 σ H)
    (hs : ∀ i c σ H, l[i]? = some c → Pv i σ H → g (.str (S [c])) σ H fun σ2 H2 => tb { D with nx := Pv (i + 1), ct := Pv (i + 1), bk := D.nx } σ2 H2) (hd : ∀ σ H, Pv l.length σ H → D.nx σ H) :
    ∃ W : Nat → Nat → St → Hp → Prop, (∃ m, W 0 m σ H) ∧ ∀ i m σ H, W i m σ H →
      ((Its (S l)).stop i H ∧ D.nx σ H) ∨ ((Its (S l)).go i H ∧ ∃ N : St → Hp → Prop, (∀ σ' H', N σ' H' → ∃ m', m' < m ∧ W (i + 1) m' σ' H') ∧ ∀ x H', (Its (S l)).yld i H x H' → g x σ H' fun σ2 H2 => tb { D with nx := N, ct := N, bk := D.nx } σ2 H2) := by
  refine ⟨fun i m σ H => m = l.length - i ∧ i ≤ l.length ∧ Pv i σ H, ⟨l.length, by simp, Nat.zero_le _, h0⟩, ?_⟩
  rintro i m σ H ⟨rfl, hi, p⟩
  by_cases hlt : i < l.length
  · refine .inr ⟨by show i < l.toArray.size; simpa using hlt, Pv (i + 1), fun σ' H' p' => ⟨l.length - (i + 1), by omega, rfl, hlt, p'⟩, fun x H' y => ?_⟩
    obtain ⟨e, c, hc, y⟩ := y
    subst e y
    exact hs i c σ _ (by simpa using hc) p
  · have e : i = l.length := by omega
    subst e
    exact .inl ⟨by show l.toArray.size ≤ l.length; simp, hd σ H p⟩
/-- a comprehension over the signs of a text -/
theorem lc_str {l : List Nat} {g : TG} {tt : TT} {te : TE} {vs : List Nat} {σ : St} {H1 : Hp} {D : Addr} {Qd : Hp → Prop} (Pv : Nat → Hp → Prop) (h0 : Pv 0 (upd H1 D (.lst [])))
    (hs : ∀ i c H, l[i]? = some c → Pv i H → g (.str (S [c])) (wipe σ vs) H fun σ2 H2 => wipe σ2 vs = wipe σ vs ∧ tt σ2 H2 fun b H3 =>
      if b = true then te σ2 H3 fun y H4 => ∃ acc, H4 D = some (.lst acc) ∧ acc.length < sizeLine ∧ Pv (i + 1) (upd H4 D (.lst (acc ++ [y]))) else Pv (i + 1) H3) (hd : ∀ H, Pv l.length H → Qd H) :
    ∃ W : Nat → Nat → Hp → Prop, (∃ m, W 0 m (upd H1 D (.lst []))) ∧ ∀ i m H, W i m H →
      ((Its (S l)).stop i H ∧ Qd H) ∨ ((Its (S l)).go i H ∧ ∃ Nx : Hp → Prop, (∀ H', Nx H' → ∃ m', m' < m ∧ W (i + 1) m' H') ∧ ∀ x H', (Its (S l)).yld i H x H' → g x (wipe σ vs) H' fun σ2 H2 => wipe σ2 vs = wipe σ vs ∧ tt σ2 H2 fun b H3 =>
        if b = true then te σ2 H3 fun y H4 => ∃ acc, H4 D = some (.lst acc) ∧ acc.length < sizeLine ∧ Nx (upd H4 D (.lst (acc ++ [y]))) else Nx H3) := by
  refine ⟨fun i m H => m = l.length - i ∧ i ≤ l.length ∧ Pv i H, ⟨l.length, by simp, Nat.zero_le _, h0⟩, ?_⟩
  rintro i m H ⟨rfl, hi, p⟩
  by_cases hlt : i < l.length
  · refine .inr ⟨by show i < l.toArray.size; simpa using hlt, Pv (i + 1), fun H' p' => ⟨l.length - (i + 1), by omega, rfl, hlt, p'⟩, fun x H' y => ?_⟩
    obtain ⟨e, c, hc, y⟩ := y
    subst e y
    exact hs i c _ (by simpa using hc) p
  · have e : i = l.length := by omega
    subst e
    exact .inl ⟨by show l.toArray.size ≤ l.length; simp, hd H p⟩
/-- signs of rows -/
def Asc (l : List Nat) : Prop := ∀ x ∈ l, 32 ≤ x ∧ x ≤ 126
theorem Asc.nil : Asc [] := fun _ h => nomatch h
theorem Asc.app {a b : List Nat} (x : Asc a) (y : Asc b) : Asc (a ++ b) := fun c h => (List.mem_append.mp h).elim (x c) (y c)
theorem Asc.by_ {l : List Nat} (h : l.all (fun x => decide (32 ≤ x) && decide (x ≤ 126)) = true) : Asc l := fun x m => by
  have := List.all_eq_true.mp h x m
  simp at this
  exact this
theorem Asc.all128 {l : List Nat} (h : Asc l) : l.all (· < 128) = true := List.all_eq_true.mpr fun x m => decide_eq_true (by have := h x m; omega)
theorem joinNil : ∀ ls : List (List Nat), TL.joinL [] ls = ls.flatten
  | [] => rfl
  | [x] => by simp [TL.joinL]
  | x :: y :: r => by
    have := joinNil (y :: r)
    simp only [TL.joinL] at *
    rw [List.flatten_cons, ← this]
    simp [TL.joinL]
theorem join_nil (ls : List (List Nat)) : Txt.join (S []) (ls.map S) = S ls.flatten := by
  rw [SX.join_S, joinNil]

/-! ### texts, further -/
abbrev tl (x : Str) : List Nat := x.cps.toList
theorem tl_S (l : List Nat) : tl (S l) = l := rfl
theorem S_tl (x : Str) : S (tl x) = x := rfl
theorem tl_app (x y : Str) : tl (x ++ y) = tl x ++ tl y := TL.tl_append x y
theorem tl_len (x : Str) : x.length = (tl x).length := by show x.cps.size = x.cps.toList.length; simp
theorem tl_ext {x y : Str} (h : tl x = tl y) : x = y := TL.ext_tl h
theorem at_str {x : Str} {i : Int} (h0 : 0 ≤ i) (h1 : i < (x.length : Int)) : ∃ c, x.cps[i.toNat]? = some c ∧ (tl x)[i.toNat]? = some c ∧ c ∈ tl x := by
  have h : i.toNat < (tl x).length := by rw [← tl_len]; omega
  refine ⟨(tl x)[i.toNat], ?_, List.getElem?_eq_getElem h, List.getElem_mem h⟩
  have := List.getElem?_eq_getElem h
  rw [← this]; simp [tl]
/-- small letters and digits -/
def Low (l : List Nat) : Prop := ∀ x ∈ l, (97 ≤ x ∧ x ≤ 122) ∨ (48 ≤ x ∧ x ≤ 57)
theorem Low.nil : Low [] := fun _ h => nomatch h
theorem Low.app {a b : List Nat} (x : Low a) (y : Low b) : Low (a ++ b) := fun c h => (List.mem_append.mp h).elim (x c) (y c)
theorem Low.asc {a : List Nat} (x : Low a) : Asc a := fun c h => by have := x c h; omega
theorem low_num (n : Nat) : Low (TL.numL n) := fun c h => .inr (by have := TL.numL_digits n c h; omega)
theorem num_len : ∀ n : Nat, (TL.numL n).length ≤ n + 1 := fun n => by
  induction n using Nat.strongRecOn with
  | ind n ih =>
    by_cases h : n < 10
    · rw [TL.numL_lt h]; simp
    · rw [TL.numL_step (by omega), List.length_append]
      have := ih (n / 10) (by omega)
      simp; omega
/-- a name: a letter, then letters and digits -/
def Nm (l : List Nat) : Prop := (∃ c r, l = c :: r ∧ 97 ≤ c ∧ c ≤ 122) ∧ Low l
theorem Nm.app {a b : List Nat} (x : Nm a) (y : Low b) : Nm (a ++ b) := by
  obtain ⟨⟨c, r, e, h⟩, l⟩ := x
  exact ⟨⟨c, r ++ b, by rw [e]; rfl, h⟩, l.app y⟩
theorem flat_strs (xs : List Str) : (xs.map V.str).all flatV = true := List.all_eq_true.mpr fun x h => by
  obtain ⟨y, _, rfl⟩ := List.mem_map.mp h; rfl
theorem inV_strs (x : Str) (xs : List Str) : inV (V.str x) (xs.map V.str) = decide (x ∈ xs) := by
  unfold inV
  induction xs with
  | nil => rfl
  | cons y ys ih =>
    rw [List.map_cons, List.any_cons, ih]
    by_cases e : x = y
    · subst e; simp [eqV]
    · have : ¬ y = x := fun h => e h.symm
      simp [eqV, e, this]
def sp__law_new_name (K : PySem.W.Frag) : Sp := fun vs H Q _ => ∃ (s a u : Addr) (us : List Str) (c : Nat), vs = [.ref s, .ref u] ∧ SqL K H u (us.map V.str) ∧ u ≠ s ∧ us.length ≤ 60 ∧ Src H s a (c + 8) ∧
  ∀ (x : Str) (H' : Hp), Nm (tl x) → (tl x).length ≤ 70 → Ext s H H' → Src H' s a c → Q (.str x) H'
def sp__law_names (K : PySem.W.Frag) : Sp := fun vs H Q _ => ∃ (s a : Addr) (m c : Nat), vs = [.ref s, .int m] ∧ m ≤ 60 ∧ Src H s a (c + 8 * m) ∧
  ∀ (u : Addr) (us : List Str) (H' : Hp), H u = none → H' u = some (.lst (us.map V.str)) → us.length = m → (∀ x ∈ us, Nm (tl x) ∧ (tl x).length ≤ 70) → Ext s H H' → Src H' s a c → Q (.ref u) H'
def sp__law_row : Sp := fun vs H Q _ => ∃ (s a : Addr) (m : Int) (c : Nat), vs = [.ref s, .int m] ∧ 0 ≤ m ∧ m ≤ 1000 ∧ Src H s a (c + m.toNat) ∧
  ∀ (x : Str) (H' : Hp), Asc (tl x) → (tl x).length = m.toNat → Ext s H H' → Src H' s a c → Q (.str x) H'

/-! ### rules that name the written part themselves (for the blocks of comprehensions) -/
section
variable {X : Cx} {K : PySem.W.Frag}
/-- len of a text -/
theorem call_lenS : CallR X (.builtin "len") (fun xs H Q => ∃ x : Str, xs = [.str x] ∧ x.length ≤ sizeLine ∧ Q (.int x.length) H) := by
  intro pins s σ H xs us Q I r h
  obtain ⟨x, e, hl, q⟩ := h
  exact call_len pins s σ H xs us Q I r ⟨.str x, x.length, e, ⟨hl, rfl⟩, q⟩
theorem call_lenQ (h : X.K = K) : CallR X (.builtin "len") (fun xs H Q => ∃ p ys, xs = [.ref p] ∧ (SqL K H p ys ∨ SqT K H p ys) ∧ Q (.int ys.length) H) := by
  subst h; exact call_len_seq
theorem ix_listQ (h : X.K = K) : IxR X (rIxL K) := by subst h; exact ix_list
theorem ix_tupQ (h : X.K = K) : IxR X (rIxT K) := by subst h; exact ix_tup
theorem in_seqQ (h : X.K = K) : OpR X (compareOp .In) (rIn K false) := by subst h; exact op_in_seq
theorem notIn_seqQ (h : X.K = K) : OpR X (compareOp .NotIn) (rIn K true) := by subst h; exact op_notIn_seq
theorem isiQ (h : X.K = K) : CallR X (.builtin "isinstance") (rIsi K) := by subst h; exact call_isi
end

/-- texts of one sign each -/
def Ones (p : Nat → Prop) (xs : List Str) : Prop := ∀ x ∈ xs, ∃ c, tl x = [c] ∧ p c
theorem Ones.tail {p : Nat → Prop} {x : Str} {xs : List Str} (h : Ones p (x :: xs)) : Ones p xs := fun y m => h y (List.mem_cons_of_mem _ m)
theorem ones_len {p : Nat → Prop} : ∀ {xs : List Str}, (∀ x ∈ xs, ∃ c, tl x = [c] ∧ p c) → (xs.map (·.length)).sum = xs.length
  | [], _ => rfl
  | x :: xs, h => by
    obtain ⟨c, e, _⟩ := h x List.mem_cons_self
    have : x.length = 1 := by rw [tl_len, e]; rfl
    rw [List.map_cons, List.sum_cons, ones_len (Ones.tail h), List.length_cons, this]
    omega
/-- their only signs -/
def heads (xs : List Str) : List Nat := xs.map fun x => (tl x).headD 0
theorem tl_join0 (xs : List Str) : tl (Txt.join (S []) xs) = (xs.map tl).flatten := by
  have e : xs = (xs.map tl).map S := by rw [List.map_map]; exact (List.map_id _).symm
  have h := join_nil (xs.map tl)
  rw [← e] at h
  show tl (Txt.join (S []) xs) = _
  rw [h]
theorem ones_join {p : Nat → Prop} {xs : List Str} (h : ∀ x ∈ xs, ∃ c, tl x = [c] ∧ p c) : tl (Txt.join (S []) xs) = heads xs := by
  rw [tl_join0]
  induction xs with
  | nil => rfl
  | cons x xs ih =>
    obtain ⟨c, e, _⟩ := h x List.mem_cons_self
    rw [List.map_cons, List.flatten_cons, ih (Ones.tail h), e]
    show c :: heads xs = (tl x).headD 0 :: heads xs
    rw [e]; rfl
theorem ones_all {p : Nat → Prop} {xs : List Str} (h : ∀ x ∈ xs, ∃ c, tl x = [c] ∧ p c) : ∀ c ∈ heads xs, p c := fun c m => by
  obtain ⟨x, hx, e⟩ := List.mem_map.mp m
  obtain ⟨d, e2, hd⟩ := h x hx
  rw [e2] at e
  have : d = c := e
  rw [← this]; exact hd
theorem str0 : Str.ofString "" = S [] := rfl
theorem ones_room {p : Nat → Prop} {xs : List Str} (h : ∀ x ∈ xs, ∃ c, tl x = [c] ∧ p c) : (xs.map (·.length)).sum + xs.length * (Str.ofString "").length = xs.length := by
  rw [ones_len h]; show xs.length + xs.length * 0 = xs.length; omega
theorem ones_joinE {p : Nat → Prop} {xs : List Str} (h : ∀ x ∈ xs, ∃ c, tl x = [c] ∧ p c) : tl (Txt.join (Str.ofString "") xs) = heads xs := ones_join h
theorem ones_asc {xs : List Str} (h : ∀ x ∈ xs, ∃ c, tl x = [c] ∧ 32 ≤ c ∧ c ≤ 126) : Asc (heads xs) := fun c m => ones_all (p := fun c => 32 ≤ c ∧ c ≤ 126) h c m
theorem heads_len (xs : List Str) : (heads xs).length = xs.length := List.length_map _

theorem alpha_mem {c : Nat} (h : c ∈ tl (Str.ofString "abcdefghijklmnopqrstuvwxyz")) : 97 ≤ c ∧ c ≤ 122 := by
  have : (tl (Str.ofString "abcdefghijklmnopqrstuvwxyz")).all (fun c => decide (97 ≤ c) && decide (c ≤ 122)) = true := by decide +kernel
  have := List.all_eq_true.mp this c h
  simp at this; exact this
theorem low_mem {c : Nat} (h : c ∈ tl (Str.ofString "abcdefghijklmnopqrstuvwxyz" ++ Str.ofString "0123456789")) : (97 ≤ c ∧ c ≤ 122) ∨ (48 ≤ c ∧ c ≤ 57) := by
  rw [tl_app] at h
  have : (tl (Str.ofString "abcdefghijklmnopqrstuvwxyz") ++ tl (Str.ofString "0123456789")).all (fun c => (decide (97 ≤ c) && decide (c ≤ 122)) || (decide (48 ≤ c) && decide (c ≤ 57))) = true := by decide +kernel
  have := List.all_eq_true.mp this c h
  simp at this; exact this

theorem log_small {i : Nat} (h : i ≤ 1000000) : (Int.natAbs (0 + (i : Int))).log2 < 1920 := by
  rw [Int.zero_add, Int.natAbs_natCast]
  by_cases e : i = 0
  · subst e; decide
  · rw [Nat.log2_lt e]
    exact Nat.lt_of_le_of_lt h (Nat.lt_of_lt_of_le (by decide : 1000000 < 2 ^ 20) (Nat.pow_le_pow_right (by decide) (by decide)))

theorem fold_take {α β : Type} {f : β → α → β} {a : β} {l : List α} {i : Nat} {c : α} (h : l[i]? = some c) : (l.take (i + 1)).foldl f a = f ((l.take i).foldl f a) c := by
  rw [List.take_add_one, h, List.foldl_append]
  rfl
theorem fold_all {α β : Type} {f : β → α → β} {a : β} {l : List α} : (l.take l.length).foldl f a = l.foldl f a := by rw [List.take_length]
theorem in_abc {c : Nat} : decide (c ∈ (Str.ofString "abcdefghijklmnopqrstuvwxyz").cps.toList) = (decide (97 ≤ c) && decide (c ≤ 122)) := by
  have e : (Str.ofString "abcdefghijklmnopqrstuvwxyz").cps.toList = List.range' 97 26 := by decide +kernel
  rw [e, Bool.eq_iff_iff, decide_eq_true_iff, List.mem_range'_1]
  simp only [Bool.and_eq_true, decide_eq_true_eq]
  omega
theorem in_ABC {c : Nat} : decide (c ∈ (Str.ofString "ABCDEFGHIJKLMNOPQRSTUVWXYZ").cps.toList) = (decide (65 ≤ c) && decide (c ≤ 90)) := by
  have e : (Str.ofString "ABCDEFGHIJKLMNOPQRSTUVWXYZ").cps.toList = List.range' 65 26 := by decide +kernel
  rw [e, Bool.eq_iff_iff, decide_eq_true_iff, List.mem_range'_1]
  simp only [Bool.and_eq_true, decide_eq_true_eq]
  omega
theorem in_012 {c : Nat} : decide (c ∈ (Str.ofString "0123456789").cps.toList) = (decide (48 ≤ c) && decide (c ≤ 57)) := by
  have e : (Str.ofString "0123456789").cps.toList = List.range' 48 10 := by decide +kernel
  rw [e, Bool.eq_iff_iff, decide_eq_true_iff, List.mem_range'_1]
  simp only [Bool.and_eq_true, decide_eq_true_eq]
  omega
theorem in_abc012 {c : Nat} : decide (c ∈ (Str.ofString "abcdefghijklmnopqrstuvwxyz0123456789").cps.toList) = ((decide (97 ≤ c) && decide (c ≤ 122)) || (decide (48 ≤ c) && decide (c ≤ 57))) := by
  have e : (Str.ofString "abcdefghijklmnopqrstuvwxyz0123456789").cps.toList = List.range' 97 26 ++ List.range' 48 10 := by decide +kernel
  rw [e, Bool.eq_iff_iff, decide_eq_true_iff, List.mem_append, List.mem_range'_1, List.mem_range'_1]
  simp only [Bool.and_eq_true, Bool.or_eq_true, decide_eq_true_eq]
  omega
/-- literal texts -/
theorem tl_mapS (ws : List Str) : (ws.map tl).map S = ws := by rw [List.map_map]; exact List.map_id _

theorem strs_at (zs : List Str) {v : Int} (h0 : 0 ≤ v) (h1 : v < (zs.length : Int)) : ∃ z, z ∈ zs ∧ atI (zs.map V.str) v = some (.str z) := by
  have h : v.toNat < zs.length := by omega
  exact ⟨zs[v.toNat], List.getElem_mem h, at_of (j := v.toNat) (by omega) (by rw [List.getElem?_map, List.getElem?_eq_getElem h]; rfl)⟩
theorem tl_upper {x : Str} (h : Asc (tl x)) : tl (Txt.upper x) = (tl x).map PyProof.Rows.up1 := congrArg tl (SX.upper_S (a := tl x) h.all128)
theorem asc_upper {x : Str} (h : Asc (tl x)) : Asc (tl (Txt.upper x)) := by
  rw [tl_upper h]
  intro c hc
  obtain ⟨d, hd, e⟩ := List.mem_map.mp hc
  have := h d hd
  unfold PyProof.Rows.up1 at e
  split at e <;> omega
theorem len_upper {x : Str} (h : Asc (tl x)) : (tl (Txt.upper x)).length = (tl x).length := by rw [tl_upper h, List.length_map]
theorem DL.strs {n : Nat} (xs : List Str) (h : xs.length ≤ 1000000) : DL (n + 2) (.tup (xs.map D.str)) := ⟨by rw [List.length_map]; exact h, fun d m => by obtain ⟨x, _, rfl⟩ := List.mem_map.mp m; exact True.intro⟩
theorem DV.strs {K : PySem.W.Frag} {H : Hp} {p : Addr} {xs : List Str} (h : H p = some (.tup (xs.map V.str))) : DV K H (.tup (xs.map D.str)) (.ref p) := by
  unfold DV
  exact ⟨p, _, rfl, SqT.of h, DVs.strs xs⟩
def sp_law (K : PySem.W.Frag) : Sp := fun vs H Q _ => ∃ (a : Addr) (ns : List Int), vs = [.ref a] ∧ SqL K H a (ns.map V.int) ∧ ns.length ≤ 63 ∧ ∀ H', Q (.bl true) H'
end Z
namespace Z
open PySem L2 SX
/-! ### cuts -/
theorem sIx_pos {n d : Nat} {i : Int} (h : 0 ≤ i) : HT.sIx n d (some i) = min i.toNat n := by
  obtain ⟨k, rfl⟩ := Int.eq_ofNat_of_zero_le h
  rw [HT.sIx_nat]; rfl
theorem cutS_to {z : Str} {i : Int} (h : 0 ≤ i) : tl (cutS z none (some i)) = (tl z).take i.toNat := by
  show ((tl z).drop 0).take (HT.sIx z.length z.length (some i) - 0) = _
  rw [sIx_pos h, List.drop_zero, Nat.sub_zero, tl_len]
  by_cases e : i.toNat ≤ (tl z).length
  · rw [Nat.min_eq_left e]
  · rw [Nat.min_eq_right (by omega), List.take_length, List.take_of_length_le (by omega)]
theorem cutS_from {z : Str} {i : Int} (h : 0 ≤ i) : tl (cutS z (some i) none) = (tl z).drop i.toNat := by
  show ((tl z).drop (HT.sIx z.length 0 (some i))).take (z.length - HT.sIx z.length 0 (some i)) = _
  rw [sIx_pos h, tl_len]
  by_cases e : i.toNat ≤ (tl z).length
  · rw [Nat.min_eq_left e, List.take_of_length_le (by rw [List.length_drop]; omega)]
  · rw [Nat.min_eq_right (by omega), List.drop_of_length_le (l := tl z) (i := i.toNat) (by omega), List.drop_of_length_le (Nat.le_refl _), List.take_nil]
theorem cutS_mid {z : Str} {i j : Int} (h : 0 ≤ i) (h2 : 0 ≤ j) : tl (cutS z (some i) (some j)) = ((tl z).drop i.toNat).take (j.toNat - i.toNat) := by
  show ((tl z).drop (HT.sIx z.length 0 (some i))).take (HT.sIx z.length z.length (some j) - HT.sIx z.length 0 (some i)) = _
  rw [sIx_pos h, sIx_pos h2, tl_len]
  by_cases e : i.toNat ≤ (tl z).length
  · rw [Nat.min_eq_left e]
    by_cases f : j.toNat ≤ (tl z).length
    · rw [Nat.min_eq_left f]
    · rw [Nat.min_eq_right (by omega), List.take_of_length_le (by rw [List.length_drop]; omega), List.take_of_length_le (by rw [List.length_drop]; omega)]
  · rw [Nat.min_eq_right (a := i.toNat) (by omega), List.drop_of_length_le (Nat.le_refl _), List.drop_of_length_le (l := tl z) (i := i.toNat) (by omega)]; simp
theorem cutV_to {xs : List V} {i : Int} (h : 0 ≤ i) : cutV xs none (some i) = xs.take i.toNat := by
  show ((xs.drop 0).take (HT.sIx xs.length xs.length (some i) - 0)) = _
  rw [sIx_pos h, List.drop_zero, Nat.sub_zero]
  by_cases e : i.toNat ≤ xs.length
  · rw [Nat.min_eq_left e]
  · rw [Nat.min_eq_right (by omega), List.take_length, List.take_of_length_le (by omega)]
theorem cutV_from {xs : List V} {i : Int} (h : 0 ≤ i) : cutV xs (some i) none = xs.drop i.toNat := by
  show ((xs.drop (HT.sIx xs.length 0 (some i))).take (xs.length - HT.sIx xs.length 0 (some i))) = _
  rw [sIx_pos h]
  by_cases e : i.toNat ≤ xs.length
  · rw [Nat.min_eq_left e, List.take_of_length_le (by rw [List.length_drop]; omega)]
  · rw [Nat.min_eq_right (by omega), List.drop_of_length_le (l := xs) (i := i.toNat) (by omega), List.drop_of_length_le (Nat.le_refl _), List.take_nil]
/-- the text k times -/
def rep (k : Nat) (l : List Nat) : List Nat := (List.replicate k l).flatten
theorem rep_fold (x : Array Nat) : ∀ (k : Nat) (a : Array Nat), ((List.replicate k x).foldl (· ++ ·) a).toList = a.toList ++ rep k x.toList
  | 0, a => by simp [rep]
  | k + 1, a => by
    rw [List.replicate_succ, List.foldl_cons, rep_fold x k]
    simp [rep, List.replicate_succ]
theorem rep_len (k : Nat) (l : List Nat) : (rep k l).length = k * l.length := by
  induction k with
  | zero => simp [rep]
  | succ k ih => unfold rep at *; rw [List.replicate_succ, List.flatten_cons, List.length_append, ih, Nat.succ_mul]; omega
theorem rep_mem {k : Nat} {l : List Nat} {c : Nat} (h : c ∈ rep k l) : c ∈ l := by
  obtain ⟨x, hx, hc⟩ := List.mem_flatten.mp h
  rw [(List.mem_replicate.mp hx).2] at hc; exact hc
section
variable {X : Cx}
/-- s * k -/
theorem op_mul_str : OpR X (binaryOp .Mult) (fun x y H Q => ∃ (z : Str) (k : Int), x = .str z ∧ y = .int k ∧ k ≤ 100000 ∧ (-100000 ≤ k) ∧ (tl z).length * k.toNat ≤ 10000000 ∧ ∀ r : Str, tl r = rep k.toNat (tl z) → Q (.str r) H) := by
  intro pins s σ H x y v u Q I rx ry h
  obtain ⟨z, k, rfl, rfl, h1, h0, hz, q⟩ := h
  obtain ⟨t, rfl⟩ := rx
  obtain ⟨t', rfl⟩ := ry
  have hz' : z.length * k.toNat ≤ 10000000 := by rw [tl_len]; exact hz
  have small := PyProof.Rows.short24 (n := z.length * k.toNat) (Nat.le_trans hz' (by decide))
  refine P.mul_str ?_ (fun a b => ?_) (fun _ _ => small) ?_
  · rw [decide_eq_false (by omega), decide_eq_false (by omega)]; rfl
  · have hk : 1 ≤ k := by omega
    have hm : (z.length : Int) * k ≤ 10000000 := by
      have : ((z.length * k.toNat : Nat) : Int) ≤ 10000000 := by omega
      rw [Int.natCast_mul, Int.toNat_of_nonneg (by omega)] at this; exact this
    have hle : (z.length : Int) ≤ (2 ^ 63 - 1) / k := by
      rw [Int.le_ediv_iff_mul_le (by omega)]
      exact Int.le_trans hm (by decide)
    omega
  · by_cases hk : k < 1
    · rw [if_pos hk]
      refine ⟨by decide, ?_⟩
      exact ⟨.str Str.empty, H, I.tok _, ⟨_, rfl⟩, q _ (by rw [show k.toNat = 0 by omega]; rfl)⟩
    · rw [if_neg hk]
      by_cases hb : (k == 1 || z.length == 0) = true
      · rw [if_pos hb]
        refine ⟨.str z, H, I, ⟨_, rfl⟩, q _ ?_⟩
        rw [Bool.or_eq_true] at hb
        rcases hb with e | e
        · have : k = 1 := by simpa using e
          subst this; simp [rep]
        · have e : z.length = 0 := by simpa using e
          rw [tl_len] at e
          have : tl z = [] := List.length_eq_zero_iff.mp e
          rw [this]
          exact (List.length_eq_zero_iff.mp (by rw [rep_len]; rfl)).symm
      · rw [if_neg hb]
        have hr : tl (⟨(List.replicate k.toNat z.cps).foldl (· ++ ·) #[]⟩ : Str) = rep k.toNat (tl z) := by
          show ((List.replicate k.toNat z.cps).foldl (· ++ ·) #[]).toList = _
          rw [rep_fold]; simp [tl]
        refine ⟨?_, ?_⟩
        · rw [tl_len, hr, rep_len, Nat.mul_comm]
          exact Nat.le_trans hz (by decide)
        · exact ⟨.str _, H, I.tok _, ⟨_, rfl⟩, q _ hr⟩
end
section
variable {X : Cx} {K : PySem.W.Frag}
/-- t + u, of tuples -/
theorem op_cat (hK : X.K = K) : OpR X (binaryOp .Add) (fun x y H Q => ∃ a b xs ys, x = .ref a ∧ y = .ref b ∧ SqT K H a xs ∧ SqT K H b ys ∧ xs.length + ys.length ≤ sizeLine ∧
    ∀ p H', Same H H' → SqT K H' p (xs ++ ys) → Q (.ref p) H') := by
  subst hK
  intro pins s σ H x y v u Q I rx ry h
  obtain ⟨a, b, xs, ys, e1, e2, ha, hb, hz, q⟩ := h
  refine op_catA pins s σ H x y v u Q I rx ry ⟨a, b, xs, ys, e1, e2, ha, hb, hz, fun e => ?_, fun _ e => ?_, fun _ _ p hp => q p _ (same_new hp) (SqT.of upd_same)⟩
  · subst e; exact q b H (Same.refl _) hb
  · subst e; exact q a H (Same.refl _) (by rw [List.append_nil]; exact ha)
/-- t[lo:hi] of a tuple -/
theorem sl_tupS (hK : X.K = K) : SlR X (fun x lo hi H Q => ∃ a xs, x = .ref a ∧ SqT K H a xs ∧ ∀ p H', Same H H' → SqT K H' p (cutV xs lo hi) → Q (.ref p) H') := by
  subst hK
  intro pins s σ H x v vl vu lo hi sl Q I rx hs pl pu h
  obtain ⟨a, xs, e, hx, q⟩ := h
  refine sl_tupA pins s σ H x v vl vu lo hi sl Q I rx hs pl pu ⟨a, xs, e, hx, fun hw => q a H (Same.refl _) ?_, fun _ p hp => q p _ (same_new hp) (SqT.of upd_same)⟩
  have : cutV xs lo hi = xs := by
    show (xs.drop (HT.sIx xs.length 0 lo)).take (HT.sIx xs.length xs.length hi - HT.sIx xs.length 0 lo) = xs
    rw [hw.1, hw.2, List.drop_zero, Nat.sub_zero, List.take_length]
  rw [this]; exact hx
end
theorem _root_.L2.Same.tup {K : PySem.W.Frag} {H H' : Hp} {a : Addr} {xs : List V} (e : Same H H') (h : SqT K H a xs) : SqT K H' a xs := by
  rcases h with (h | ⟨o, h⟩) | h
  · exact .inl (.inl (e _ _ h))
  · exact .inl (.inr ⟨o, e _ _ h⟩)
  · exact .inr h

/-- a comprehension over a range that makes texts by draws (at most d of them for each) -/
theorem lc_strs {j n d : Nat} {te : TE} {vs : List Nat} {σ : St} {H : Hp} {D s a : Addr} {c : Nat} {Qd : Hp → Prop} (p : Str → Prop) (hD : H D = none) (hS : Src H s a (c + n * d)) (hn : n ≤ 100000)
    (hw : ∀ i : Nat, wipe ((wipe σ vs).set j (some (.int (0 + (i : Int))))) vs = wipe σ vs)
    (hs : ∀ (i c' : Nat) (H1 : Hp) (R : VK), i < n → Ext s H H1 → Src H1 s a (c' + d) → (∀ (x : Str) (H2 : Hp), p x → Ext s H1 H2 → Src H2 s a c' → R (.str x) H2) → te ((wipe σ vs).set j (some (.int (0 + (i : Int))))) H1 R)
    (hd : ∀ (xs : List Str) (H' : Hp), H' D = some (.lst (xs.map V.str)) → xs.length = n → (∀ x ∈ xs, p x) → Ext s H H' → Src H' s a c → Qd H') :
    ∃ W : Nat → Nat → Hp → Prop, (∃ m, W 0 m (upd H D (.lst []))) ∧ ∀ i m H, W i m H →
      ((Itr 0 n).stop i H ∧ Qd H) ∨ ((Itr 0 n).go i H ∧ ∃ Nx : Hp → Prop, (∀ H', Nx H' → ∃ m', m' < m ∧ W (i + 1) m' H') ∧ ∀ x H', (Itr 0 n).yld i H x H' → gName j x (wipe σ vs) H' fun σ2 H2 => wipe σ2 vs = wipe σ vs ∧ tYes σ2 H2 fun b H3 =>
        if b = true then te σ2 H3 fun y H4 => ∃ acc, H4 D = some (.lst acc) ∧ acc.length < sizeLine ∧ Nx (upd H4 D (.lst (acc ++ [y]))) else Nx H3) := by
  have Ds : D ≠ s := hS.ne hD
  have Da : D ≠ a := hS.nea hD
  refine lc_range (lo := 0) (n := n) (fun i H' => ∃ xs : List Str, H' D = some (.lst (xs.map V.str)) ∧ xs.length = i ∧ (∀ x ∈ xs, p x) ∧ Ext s H H' ∧ Src H' s a (c + (n - i) * d)) ?_ ?_ ?_
  · exact ⟨[], upd_same, rfl, (fun _ h => by cases h), Ext.new hD, (hS.new hD).mono (by simp)⟩
  · rintro i H' hi ⟨xs, hx, hl, hA, hE, hS'⟩
    refine ⟨hw i, ?_⟩
    show te _ H' _
    have e : c + (n - i) * d = c + (n - (i + 1)) * d + d := by
      rw [show n - i = n - (i + 1) + 1 by omega, Nat.succ_mul]; omega
    refine hs i (c + (n - (i + 1)) * d) H' _ hi hE (by rw [← e]; exact hS') (fun x H2 hp hE2 hS2 => ?_)
    refine ⟨xs.map V.str, hE2 _ _ Ds hx, ?_, xs ++ [x], by rw [upd_same, List.map_append]; rfl, by rw [List.length_append]; simp [hl], fun y hy => ?_, ?_, hS2.put Ds Da⟩
    · rw [List.length_map]; exact Nat.lt_of_lt_of_le (show xs.length < 100000 by omega) (by decide)
    · rcases List.mem_append.mp hy with h | h
      · exact hA y h
      · rw [List.mem_singleton.mp h]; exact hp
    · intro b o hb hH
      rw [upd_ne (ne_of_none hH hD)]; exact hE2 _ _ hb (hE _ _ hb hH)
  · rintro H' ⟨xs, hx, hl, hA, hE, hS'⟩
    exact hd xs H' hx hl hA hE (hS'.mono (by omega))
theorem atI_pos {α : Type} {xs : List α} {v : Int} {x : α} (h0 : 0 ≤ v) (h : xs[v.toNat]? = some x) : atI xs v = some x := by
  have e : v = (v.toNat : Int) := by omega
  rw [e]; exact atI_nat h
/-- any item of a list of texts -/
def sp__law_pick (K : PySem.W.Frag) : Sp := fun vs H Q _ =>
  (∃ (s a r : Addr) (xs : List V) (c : Nat), vs = [.ref s, .ref r] ∧ SqL K H r xs ∧ r ≠ s ∧ xs ≠ [] ∧ xs.length ≤ 100000 ∧ Src H s a (c + 1) ∧ ∀ (v : V) (H' : Hp), v ∈ xs → Ext s H H' → Src H' s a c → Q v H') ∨
  (∃ (s a : Addr) (x : Str) (c : Nat), vs = [.ref s, .str x] ∧ tl x ≠ [] ∧ (tl x).length ≤ 100000 ∧ Src H s a (c + 1) ∧ ∀ (ch : Nat) (H' : Hp), ch ∈ tl x → Ext s H H' → Src H' s a c → Q (.str (S [ch])) H')
def sp__law_once_in : Sp := fun vs H Q _ => ∃ (s a : Addr) (m : Int) (c : Nat), vs = [.ref s, .int m] ∧ 0 < m ∧ m < 1073741824 ∧ Src H s a (c + 1) ∧ ∀ (b : Bool) (H' : Hp), Ext s H H' → Src H' s a c → Q (.bl b) H'
end Z
namespace Z
open PySem L2
/-! ### own errors: raised, caught, asked -/
section
variable (P : Program) (w : World) (K : PySem.W.Frag) (mg : Str → Option Value) (base : Heap)
/-- a def that may raise, as callers use it -/
def CalX (x : Str) (ps : List Str) (k : Nat) (sp : Sp) : Prop := ∃ (f : Addr) (fd : FuncData), FnOk P w K mg base (L2.CX P w) k f fd ps sp ∧ mg x = some (.ref f) ∧ PySem.W.keepIn K (.ref f) = true ∧ Binds K fd ps []
end
/-- an own error class with an __init__ of its own (at fI) -/
structure XOk (K : PySem.W.Frag) (mg : Str → Option Value) (x : Str) (C : Addr) : Prop where
  g : mg x = some (.ref C)
  o : OexC K C
  e : ExcC K C
theorem XOk.xf {K : PySem.W.Frag} {mg : Str → Option Value} {x : Str} {C : Addr} (T : XOk K mg x C) : XfC K C := ⟨T.e.hg, T.e.hk, T.e.hs, T.e.hd⟩
/-- the class's __init__(self, f): self.f = f -/
def sp_init (K : PySem.W.Frag) (C : Addr) (f : Str) : Sp := fun vs H Q _ => ∃ (a : Addr) (v : V), vs = [.ref a, v] ∧ OexC K C ∧ PySem.W.findIn K (.ref C) f = some none ∧ H a = some (exo a C none) ∧
  ∀ dx, H dx = none → dx ≠ a → Q .non (upd (upd H dx (exd dx [(f, v)])) a (exo a C (some dx)))
/-- isinstance(e, c), e the caught error at a -/
def rIsX (K : PySem.W.Frag) (cls : Value) (d : Option Addr) (a : Addr) : List V → Hp → VK → Prop := fun xs H Q => ∃ (D dd : Addr) (c : V) (cv : Value) (b : Bool) (fs : List (Str × V)), cls = .ref D ∧ d = some dd ∧ ExcC K D ∧ xs = [.ref a, c] ∧ H dd = some (.xd fs) ∧ ClsV c cv ∧
  PySem.W.kitOne K cls cv = some b ∧ Q (.bl b) H
def rIsXT (K : PySem.W.Frag) (cls : Value) (d : Option Addr) (a : Addr) : List V → Hp → VK → Prop := fun xs H Q => ∃ (D dd tp : Addr) (cs : List V) (us : List Value) (b : Bool) (fs : List (Str × V)), cls = .ref D ∧ d = some dd ∧ ExcC K D ∧ xs = [.ref a, .ref tp] ∧ H dd = some (.xd fs) ∧
  H tp = some (.tup cs) ∧ Paired ClsV cs us ∧ PySem.W.kitAny K cls us = some b ∧ Q (.bl b) H
section
variable {X : Cx} {a : Addr} {oe : Obj} {cls : Value} {d : Option Addr} {pn : List (Addr × Obj)}
theorem inst_at {pins : List (Addr × Obj)} {σ : St} {H : Hp} {s : Shared} {D dd : Addr} {fs : List (Str × V)} (I : Inv (X.suite a ((a, oe) :: pn)) pins σ H s) (hz : Zc (.ref D) (some dd) oe) (hf : ∃ vs, oe.data = .fields vs) (hd : H dd = some (.xd fs)) :
    ∃ od, PySem.W.InstAt s.heap a oe D (some od) := by
  obtain ⟨hget, _⟩ := I.pin (a, oe) (List.mem_append.mpr (.inl List.mem_cons_self))
  obtain ⟨vs, hv⟩ := hf
  have hx : ObjOk X.prog X.w H s.heap dd (.xd fs) := I.hok dd _ hd
  obtain ⟨mA, hns, hr⟩ := hx
  obtain ⟨od, ho, hl⟩ := lookIn_ns hns
  exact ⟨od, ⟨hget, hz.1, by unfold PySem.W.notCls; rw [hv] <;> rfl, by rw [hz.2]; exact ho⟩⟩
theorem kitx_D {K : PySem.W.Frag} {D x : Addr} {ox : Obj} {od : Option Obj} (C : ExcC K D) : PySem.W.KitX K (.ref x) (.ref D) (fun h => PySem.W.InstAt h x ox D od) := by
  refine PySem.W.kitx_exc ?_ C.hg C.hk C.hs C.ha C.hn C.ht C.hm
  have h := C.hd
  obtain ⟨cd, hc, _⟩ := PySem.W.any_some h
  rw [hc]; rfl
theorem call_isX (hz : Zc cls d oe) (hf : ∃ vs, oe.data = .fields vs) : CallR (X.suite a ((a, oe) :: pn)) (.builtin "isinstance") (rIsX X.K cls d a) := by
  intro pins s σ H xs us Q I r h
  obtain ⟨D, dd, c, cv, b, fs, rfl, rfl, C, rfl, hd, k, e, q⟩ := h
  obtain ⟨u1, u2, rfl, r1, r2⟩ := vals2 r
  have e2 := k.eq r2
  subst e2
  obtain rfl : u1 = Value.ref a := r1
  obtain ⟨od, J⟩ := inst_at I hz hf hd
  exact PySem.W.kia_one (kitx_D C) I.kIn J e (fun z => nomatch z) fun tk => ⟨.bl b, H, I.kept (t' := tk) fun _ _ z => z, rfl, q⟩
theorem call_isXT (hz : Zc cls d oe) (hf : ∃ vs, oe.data = .fields vs) : CallR (X.suite a ((a, oe) :: pn)) (.builtin "isinstance") (rIsXT X.K cls d a) := by
  intro pins s σ H xs us Q I r h
  obtain ⟨D, dd, tp, cs, ws, b, fs, rfl, rfl, C, rfl, hd, hT, k, e, q⟩ := h
  obtain ⟨u1, u2, rfl, r1, r2⟩ := vals2 r
  obtain rfl : u2 = Value.ref tp := r2
  obtain rfl : u1 = Value.ref a := r1
  obtain ⟨od, J⟩ := inst_at I hz hf hd
  obtain ⟨_, its, rv, o, h1, h2, n, h3⟩ := (show ObjOk X.prog X.w H s.heap tp (.tup cs) from I.hok tp _ hT)
  have e3 := ClsV.all k rv
  subst e3
  obtain ⟨oc, od', dt, sl⟩ := o
  simp only at h2 h3
  subst h2 h3
  exact PySem.W.kia_tup (kitx_D C) I.kIn J h1 e (fun z => nomatch z) fun tk => ⟨.bl b, H, I.kept (t' := tk) fun _ _ z => z, rfl, q⟩
end
/-- the heap behind a made error -/
theorem made_same {H : Hp} {a dx : Addr} {o1 o2 o3 o4 : HO} (ha : H a = none) (hd : H dx = none) : Same H (upd (del (upd (upd (upd H a o1) dx o2) a o3) a) dx o4) := fun b u h => by
  rw [upd_ne (ne_of_none h hd), del_ne (ne_of_none h ha), upd_ne (ne_of_none h ha), upd_ne (ne_of_none h hd), upd_ne (ne_of_none h ha)]; exact h
/-- what a raised error tells: behind it all stands that stood -/
theorem paired1 {c : V} {u : Value} (k : ClsV c u) : Paired ClsV [c] [u] := .cons k .nil
end Z
namespace Z
open PySem L2 SX
open PySem.Builtin.Str (occurrences lastOccurrence subAt)
theorem at_one {x : Str} {c hi k : Nat} (h : hi ≤ (tl x).length) : StrLaws.At x (S [c]) hi k ↔ k < hi ∧ (tl x)[k]? = some c := by
  have e := StrLaws.subAt_one x c k
  have l1 : (S [c]).length = 1 := rfl
  unfold StrLaws.At
  constructor
  · rintro ⟨h1, h2⟩
    rw [l1] at h1
    refine ⟨by omega, e.mp ⟨?_, h2⟩⟩
    show k + 1 ≤ x.length
    rw [tl_len]; omega
  · rintro ⟨h1, h2⟩
    have h3 := e.mpr h2
    exact ⟨by rw [l1]; omega, h3.2⟩
theorem find_from (x : Str) (c : Nat) {i : Int} (h : 0 ≤ i) :
    (Txt.find3 x (S [c]) i = -1 ∧ ∀ k : Nat, i ≤ (k : Int) → (tl x)[k]? ≠ some c) ∨ ∃ k : Nat, Txt.find3 x (S [c]) i = (k : Int) ∧ i ≤ (k : Int) ∧ (tl x)[k]? = some c ∧ ∀ j : Nat, i ≤ (j : Int) → j < k → (tl x)[j]? ≠ some c := by
  obtain ⟨n, rfl⟩ := Int.eq_ofNat_of_zero_le h
  have hf : fromIndex x.length (n : Int) = n := by
    unfold fromIndex
    rw [if_neg (by omega), Int.max_eq_right (by omega)]; rfl
  unfold Txt.find3
  rw [hf, StrLaws.occ_eq]
  have hx : x.length = (tl x).length := tl_len x
  rcases StrLaws.occ_first x (S [c]) x.length 1 (Nat.le_refl _) (List.range' n (x.length + 1 - n)) n (fun i hi => (List.mem_range'_1.mp hi).1) with ⟨h0, hn⟩ | ⟨pre, a, post, e, h0, ha, hn⟩
  · refine .inl ⟨by rw [h0], fun k hk hc => ?_⟩
    have hlt := (List.getElem?_eq_some_iff.mp hc).1
    exact hn k (List.mem_range'_1.mpr ⟨by omega, by omega⟩) ((at_one (by omega)).mpr ⟨by omega, hc⟩)
  · have h1 := (at_one (by omega)).mp ha
    have hm : a ∈ List.range' n (x.length + 1 - n) := by rw [e]; simp
    refine .inr ⟨a, ?_, by have := (List.mem_range'_1.mp hm).1; omega, h1.2, fun j hj hl hc => ?_⟩
    · cases hq : (forIn (List.range' n (x.length + 1 - n)) ((#[] : Array Nat), n) (StrLaws.occBody x (S [c]) x.length 1)).run.fst.toList with
      | nil =>
        have : (forIn (List.range' n (x.length + 1 - n)) ((#[] : Array Nat), n) (StrLaws.occBody x (S [c]) x.length 1)).run.fst = #[] := Array.toList_eq_nil_iff.mp hq
        rw [this] at h0; simp at h0
      | cons b r =>
        have hb : (forIn (List.range' n (x.length + 1 - n)) ((#[] : Array Nat), n) (StrLaws.occBody x (S [c]) x.length 1)).run.fst[0]? = some b := by
          rw [← Array.getElem?_toList, hq]; rfl
        rw [hb] at h0
        cases h0; rfl
    · have hjm : j ∈ pre := by
        have hlt := (List.getElem?_eq_some_iff.mp hc).1
        have hjr : j ∈ List.range' n (x.length + 1 - n) := List.mem_range'_1.mpr ⟨by omega, by omega⟩
        have hp : (pre ++ a :: post).Pairwise (· < ·) := by rw [← e]; exact List.pairwise_lt_range'
        rw [e] at hjr
        rcases List.mem_append.mp hjr with q | q
        · exact q
        · rcases List.mem_cons.mp q with q | q
          · omega
          · have := (List.pairwise_cons.mp (List.pairwise_append.mp hp).2.1).1 j q
            omega
      exact hn j hjm ((at_one (by omega)).mpr ⟨by have := (List.getElem?_eq_some_iff.mp hc).1; omega, hc⟩)
theorem rfind_in (x : Str) (c : Nat) {i m : Int} (h : 0 ≤ i) (hm : 0 ≤ m) :
    (Txt.rfindIn x (S [c]) i m = -1 ∧ ∀ k : Nat, i ≤ (k : Int) → (k : Int) < m → (tl x)[k]? ≠ some c) ∨ ∃ k : Nat, Txt.rfindIn x (S [c]) i m = (k : Int) ∧ i ≤ (k : Int) ∧ (k : Int) < m ∧ (tl x)[k]? = some c ∧ ∀ j : Nat, k < j → (j : Int) < m → (tl x)[j]? ≠ some c := by
  obtain ⟨n, rfl⟩ := Int.eq_ofNat_of_zero_le h
  obtain ⟨e, rfl⟩ := Int.eq_ofNat_of_zero_le hm
  have hf : fromIndex x.length (n : Int) = n := by
    unfold fromIndex
    rw [if_neg (by omega), Int.max_eq_right (by omega)]; rfl
  have ht : toIndexW x.length (e : Int) = min e x.length := by
    unfold toIndexW
    rw [if_neg (by omega), Int.max_eq_right (by omega)]; rfl
  have hx : x.length = (tl x).length := tl_len x
  unfold Txt.rfindIn
  rw [hf, ht, StrLaws.last_eq]
  have key := StrLaws.last_run x (S [c]) (min e x.length) (List.range' n (min e x.length + 1 - n)) [] none (fun _ h => nomatch h) (fun _ h => nomatch h) List.pairwise_lt_range'
  rw [List.nil_append] at key
  cases hq : (forIn (List.range' n (min e x.length + 1 - n)) none (StrLaws.lastBody x (S [c]) (min e x.length))).run with
  | none =>
    rw [hq] at key
    refine .inl ⟨rfl, fun k hk hk2 hc => ?_⟩
    have hlt := (List.getElem?_eq_some_iff.mp hc).1
    exact key k (List.mem_range'_1.mpr ⟨by omega, by omega⟩) ((at_one (by omega)).mpr ⟨by omega, hc⟩)
  | some a =>
    rw [hq] at key
    obtain ⟨ha, hl⟩ := key
    have h1 := (at_one (by omega)).mp ha
    have hr : n ≤ a := by
      -- the last place is one of those that were looked at
      have : ∀ (l : List Nat) (st : Option Nat) (b : Nat), (forIn l st (StrLaws.lastBody x (S [c]) (min e x.length))).run = some b → st = some b ∨ b ∈ l := by
        intro l
        induction l with
        | nil => intro st b hb; exact .inl hb
        | cons d l ih =>
          intro st b hb
          rw [List.forIn_cons] at hb
          unfold StrLaws.lastBody at hb
          split at hb
          · rcases ih _ _ hb with q | q
            · exact .inr (by cases q; exact List.mem_cons_self)
            · exact .inr (List.mem_cons_of_mem _ q)
          · rcases ih _ _ hb with q | q
            · exact .inl q
            · exact .inr (List.mem_cons_of_mem _ q)
      rcases this _ _ _ hq with q | q
      · cases q
      · exact (List.mem_range'_1.mp q).1
    refine .inr ⟨a, rfl, by omega, by omega, h1.2, fun j hj hj2 hc => ?_⟩
    have hlt := (List.getElem?_eq_some_iff.mp hc).1
    exact hl j (List.mem_range'_1.mpr ⟨by omega, by omega⟩) hj ((at_one (by omega)).mpr ⟨by omega, hc⟩)

theorem tl_inj : ∀ {a b : List Str}, a.map tl = b.map tl → a = b
  | [], [], _ => rfl
  | [], _ :: _, h => by cases h
  | _ :: _, [], h => by cases h
  | x :: a, y :: b, h => by
    rw [List.map_cons, List.map_cons] at h
    obtain ⟨h1, h2⟩ := List.cons.inj h
    rw [tl_ext h1, tl_inj h2]
theorem DV.strsT {K : PySem.W.Frag} {H : Hp} {p : Addr} {xs : List Str} (h : SqT K H p (xs.map V.str)) : DV K H (.tup (xs.map D.str)) (.ref p) := by
  unfold DV
  exact ⟨p, _, rfl, h, DVs.strs xs⟩
end Z
namespace Z
open PySem L2 SX
/-! ### methods of own classes -/
section
variable (P : Program) (w : World) (K : PySem.W.Frag) (mg : Str → Option Value) (base : Heap)
/-- a method, with its promise -/
def CalM (C : Addr) (m : Str) (ps : List Str) (k : Nat) (sp : Sp) : Prop := ∃ (f : Addr) (fd : FuncData), FnOk P w K mg base CX0 k f fd ps sp ∧ Meth K C m f ∧ Binds K fd ps []
def CalI (C : Addr) (ps : List Str) (k : Nat) (sp : Sp) : Prop := ∃ (f : Addr) (fd : FuncData), FnOk P w K mg base CX0 k f fd ps sp ∧ Mk K C f ∧ Binds K fd ps []
def CalP (C : Addr) (m : Str) (ps : List Str) (k : Nat) (sp : Sp) : Prop := ∃ (p f : Addr) (fd : FuncData), FnOk P w K mg base CX0 k f fd ps sp ∧ PropOf K C m p f ∧ Binds K fd ps []
def DfM (C : Addr) (m q : Str) (st : Stmt) (ps : List Str) : Prop := ∃ (f : Addr) (fd : FuncData), Fun K m q st f fd ∧ Meth K C m f ∧ Binds K fd ps []
def DfI (C : Addr) (q : Str) (st : Stmt) (ps : List Str) : Prop := ∃ (f : Addr) (fd : FuncData), Fun K "__init__" q st f fd ∧ Mk K C f ∧ Binds K fd ps []
def DfP (C : Addr) (m q : Str) (st : Stmt) (ps : List Str) : Prop := ∃ (p f : Addr) (fd : FuncData), Fun K m q st f fd ∧ PropOf K C m p f ∧ Binds K fd ps []
end
/-- all but these stays -/
def ExtL (ms : List Addr) (H H' : Hp) : Prop := ∀ b o, b ∉ ms → H b = some o → H' b = some o
theorem ExtL.refl (ms : List Addr) (H : Hp) : ExtL ms H H := fun _ _ _ h => h
theorem ExtL.trans {ms : List Addr} {H H1 H2 : Hp} (a : ExtL ms H H1) (b : ExtL ms H1 H2) : ExtL ms H H2 := fun c o n h => b c o n (a c o n h)
theorem ExtL.of {ms : List Addr} {H H' : Hp} (a : Same H H') : ExtL ms H H' := fun c o _ h => a c o h
theorem ExtL.ofExt {ms : List Addr} {s : Addr} {H H' : Hp} (a : Ext s H H') (m : s ∈ ms) : ExtL ms H H' := fun c o n h => a c o (fun e => n (by rw [e]; exact m)) h
theorem ExtL.mono {ms ns : List Addr} {H H' : Hp} (a : ExtL ms H H') (m : ∀ x ∈ ms, x ∈ ns) : ExtL ns H H' := fun c o n h => a c o (fun e => n (m c e)) h
theorem ExtL.put {ms : List Addr} {p : Addr} {H : Hp} {o : HO} (m : p ∈ ms) : ExtL ms H (upd H p o) := fun c u n h => by
  rw [upd_ne (fun e => n (by rw [e]; exact m))]; exact h
theorem ExtL.new {ms : List Addr} {p : Addr} {H : Hp} {o : HO} (n : H p = none) : ExtL ms H (upd H p o) := ExtL.of (same_new n)
end Z
namespace Z
open PySem PySem.W PySem.Calls PyProof.Rows L2
/-! ### data, as the sorts and comparisons see it -/
mutual
def py : D → PyData
  | .non => .none
  | .bl b => .bool b
  | .int i => .int i
  | .str x => .str x
  | .tup xs => .tuple (pys xs)
def pys : List D → List PyData
  | [] => []
  | d :: ds => py d :: pys ds
end
theorem pys_map : ∀ ds : List D, pys ds = ds.map py
  | [] => by simp [pys]
  | d :: ds => by rw [pys, pys_map ds, List.map_cons]
section
variable {K : Frag} {H : Hp}
mutual
theorem DV.dp : ∀ {d : D} {v : V}, DV K H d v → Dp K H v (py d)
  | .non, _, h => by unfold DV at h; subst h; unfold py; exact .non
  | .bl b, _, h => by unfold DV at h; subst h; unfold py; exact .bl b
  | .int i, _, h => by unfold DV at h; subst h; unfold py; exact .int i
  | .str x, _, h => by unfold DV at h; subst h; unfold py; exact .str x
  | .tup ds, _, h => by
    unfold DV at h
    obtain ⟨a, vs, rfl, q, r⟩ := h
    unfold py
    exact .tup q (DVs.dpa r)
theorem DVs.dpa : ∀ {ds : List D} {vs : List V}, DVs K H ds vs → DpAll K H vs (pys ds)
  | [], _, h => by unfold DVs at h; subst h; unfold pys; exact .nil
  | d :: ds, _, h => by
    unfold DVs at h
    obtain ⟨v, r, rfl, q, t⟩ := h
    unfold pys
    exact .cons (DV.dp q) (DVs.dpa t)
end
end
mutual
theorem py_eqv : ∀ (d e : D), alike (py d) (py e) = true → (PyData.eqv (py d) (py e) = true ↔ d = e)
  | .non, .non, _ => by simp [py, PyData.eqv]
  | .bl b, .bl c, _ => by simp [py, PyData.eqv]
  | .int b, .int c, _ => by simp [py, PyData.eqv]
  | .str b, .str c, _ => by simp [py, PyData.eqv]
  | .tup xs, .tup ys, h => by
    have := pys_eqv xs ys (by simpa [py, alike] using h)
    simp only [py, PyData.eqv, D.tup.injEq]
    exact this
  | .non, .bl _, h | .non, .int _, h | .non, .str _, h | .non, .tup _, h => by simp [py, alike] at h
  | .bl _, .non, h | .bl _, .int _, h | .bl _, .str _, h | .bl _, .tup _, h => by simp [py, alike] at h
  | .int _, .non, h | .int _, .bl _, h | .int _, .str _, h | .int _, .tup _, h => by simp [py, alike] at h
  | .str _, .non, h | .str _, .bl _, h | .str _, .int _, h | .str _, .tup _, h => by simp [py, alike] at h
  | .tup _, .non, h | .tup _, .bl _, h | .tup _, .int _, h | .tup _, .str _, h => by simp [py, alike] at h
theorem pys_eqv : ∀ (d e : List D), alikeAll (pys d) (pys e) = true → (PyData.eqvAll (pys d) (pys e) = true ↔ d = e)
  | [], [], _ => by simp [pys, PyData.eqvAll]
  | [], y :: ys, _ => by simp [pys, PyData.eqvAll]
  | x :: xs, [], _ => by simp [pys, PyData.eqvAll]
  | x :: xs, y :: ys, h => by
    have h' : alike (py x) (py y) = true ∧ alikeAll (pys xs) (pys ys) = true := by simpa [pys, alikeAll] using h
    simp only [pys, PyData.eqvAll, Bool.and_eq_true, List.cons.injEq, py_eqv x y h'.1, pys_eqv xs ys h'.2]
end
/-- compared with another by == -/
def eqD (d e : D) : Bool := PyData.eqv (py d) (py e)
theorem eqD_iff {d e : D} (h : alike (py d) (py e) = true) : eqD d e = true ↔ d = e := py_eqv d e h
def Okd (d : D) : Prop := SeqAt.shaped (py d) = true
def Okl (ds : List D) : Prop := SeqAt.shaped (.list (pys ds)) = true
mutual
def fine : Nat → D → Bool
  | _, .non => true
  | _, .bl _ => true
  | _, .int _ => true
  | _, .str x => PyData.strOk x
  | 0, .tup _ => false
  | n + 1, .tup xs => fines n xs
def fines : Nat → List D → Bool
  | _, [] => true
  | n, d :: ds => fine n d && fines n ds
end
mutual
theorem fine_lay : ∀ {n : Nat} {d : D}, fine n d = true → (py d).canLay0 = true ∧ (py d).depth ≤ n
  | n, .non, _ => by simp [py, PyData.canLay0, PyData.depth]
  | n, .bl _, _ => by simp [py, PyData.canLay0, PyData.depth]
  | n, .int _, _ => by simp [py, PyData.canLay0, PyData.depth]
  | n, .str x, h => by
    have h' : PyData.strOk x = true := by cases n <;> simpa [fine] using h
    refine ⟨by simpa [py, PyData.canLay0] using h', by simp [py, PyData.depth]⟩
  | 0, .tup _, h => by simp [fine] at h
  | n + 1, .tup xs, h => by
    have h' := fines_lay (show fines n xs = true by simpa [fine] using h)
    refine ⟨by simpa [py, PyData.canLay0] using h'.1, ?_⟩
    simp only [py, PyData.depth]
    have := h'.2
    omega
theorem fines_lay : ∀ {n : Nat} {ds : List D}, fines n ds = true → PyData.canLayAll0 (pys ds) = true ∧ PyData.depthAll (pys ds) ≤ n
  | n, [], _ => by simp [pys, PyData.canLayAll0, PyData.depthAll]
  | n, d :: ds, h => by
    have h' : fine n d = true ∧ fines n ds = true := by simpa [fines] using h
    have h1 := fine_lay h'.1
    have h2 := fines_lay h'.2
    refine ⟨by simp [pys, PyData.canLayAll0, h1.1, h2.1], ?_⟩
    simp only [pys, PyData.depthAll]
    have := h1.2
    have := h2.2
    omega
end
theorem fine_ok {n : Nat} {d : D} (h : fine n d = true) (hn : n ≤ 60 := by decide) : Okd d := by
  have := fine_lay h
  unfold Okd SeqAt.shaped
  rw [this.1, decide_eq_true (by omega)]; rfl
theorem fines_ok {n : Nat} {ds : List D} (h : fines n ds = true) (hn : n ≤ 60 := by decide) : Okl ds := by
  have := fines_lay h
  unfold Okl SeqAt.shaped
  have e : (PyData.list (pys ds)).canLay0 = true := by simpa [PyData.canLay0] using this.1
  have f : (PyData.list (pys ds)).depth ≤ 64 := by simp only [PyData.depth]; omega
  rw [e, decide_eq_true f]; rfl
theorem fines_map {α : Type} {f : α → D} {n : Nat} : ∀ {l : List α}, (∀ x ∈ l, fine n (f x) = true) → fines n (l.map f) = true
  | [], _ => by simp [fines]
  | x :: l, h => by
    rw [List.map_cons, fines, h x (by simp), fines_map fun y m => h y (List.mem_cons_of_mem _ m)]; rfl
theorem fine_tup {n : Nat} {ds : List D} (h : fines n ds = true) : fine (n + 1) (.tup ds) = true := by simpa [fine] using h
theorem fine_low {n : Nat} {x : Str} (h : ∀ c ∈ tl x, c < 1114112) : fine n (.str x) = true := by
  have : PyData.strOk x = true := by
    unfold PyData.strOk
    rw [← Array.all_toList, List.all_eq_true]
    exact fun c m => decide_eq_true (h c m)
  cases n <;> simpa [fine] using this
theorem fines_cons {n : Nat} {d : D} {ds : List D} (h : fine n d = true) (t : fines n ds = true) : fines n (d :: ds) = true := by rw [fines, h, t]; rfl
theorem fines_nil {n : Nat} : fines n [] = true := by rw [fines]
theorem fine_int {n : Nat} {i : Int} : fine n (.int i) = true := by cases n <;> simp [fine]
theorem fine_non {n : Nat} : fine n .non = true := by cases n <;> simp [fine]
section
variable {X : Cx}
/-- == and != of data -/
def rEqDD (K : Frag) : R2 := fun x y H Q => ∃ d e, DV K H d x ∧ DV K H e y ∧ Okd d ∧ Okd e ∧ Q (.bl (eqD d e)) H
def rNeDD (K : Frag) : R2 := fun x y H Q => ∃ d e, DV K H d x ∧ DV K H e y ∧ Okd d ∧ Okd e ∧ Q (.bl (!eqD d e)) H
theorem op_eqDD (hu : X.A.units + 64 < cLine) : OpR X (compareOp .Eq) (rEqDD X.K) := by
  intro pins s σ H x y v u Q I rx ry h
  obtain ⟨d, e, hd, he, sd, se, q⟩ := h
  exact op_eqD hu pins s σ H x y v u Q I rx ry ⟨_, _, hd.dp, he.dp, sd, se, q⟩
theorem op_neDD (hu : X.A.units + 64 < cLine) : OpR X (compareOp .NotEq) (rNeDD X.K) := by
  intro pins s σ H x y v u Q I rx ry h
  obtain ⟨d, e, hd, he, sd, se, q⟩ := h
  exact op_neD hu pins s σ H x y v u Q I rx ry ⟨_, _, hd.dp, he.dp, sd, se, q⟩
/-- in and not in over a list of data -/
def rInDD (K : Frag) (neg : Bool) : R2 := fun x y H Q => ∃ (d : D) (a : Addr) (vs : List V) (ds : List D), DV K H d x ∧ y = .ref a ∧ SqL K H a vs ∧ DVs K H ds vs ∧ Okd d ∧ Okl ds ∧ Q (.bl (if neg then !ds.any (fun z => eqD z d) else ds.any fun z => eqD z d)) H
theorem any_pys (d : D) (ds : List D) : ((pys ds).any fun z => PyData.eqv z (py d)) = ds.any fun z => eqD z d := by
  rw [pys_map, List.any_map]; rfl
theorem op_inDD (hu : X.A.units + 65 < cLine) : OpR X (compareOp .In) (rInDD X.K false) := by
  intro pins s σ H x y v u Q I rx ry h
  obtain ⟨d, a, vs, ds, hd, rfl, hs, he, sd, se, q⟩ := h
  exact op_inD hu pins s σ H _ _ v u Q I rx ry ⟨_, _, hd.dp, .lst hs he.dpa, sd, se, by rw [any_pys]; exact q⟩
theorem op_notInDD (hu : X.A.units + 65 < cLine) : OpR X (compareOp .NotIn) (rInDD X.K true) := by
  intro pins s σ H x y v u Q I rx ry h
  obtain ⟨d, a, vs, ds, hd, rfl, hs, he, sd, se, q⟩ := h
  exact op_notInD hu pins s σ H _ _ v u Q I rx ry ⟨_, _, hd.dp, .lst hs he.dpa, sd, se, by rw [any_pys]; exact q⟩
theorem any_eqD {α : Type} {f : α → D} {d : α} {l : List α} (hf : ∀ x ∈ l, f x = f d → x = d) (h : ∀ x ∈ l, alike (py (f x)) (py (f d)) = true) : (l.map f).any (fun z => eqD z (f d)) = true ↔ d ∈ l := by
  rw [List.any_eq_true]
  constructor
  · rintro ⟨z, hz, e⟩
    obtain ⟨x, hx, rfl⟩ := List.mem_map.mp hz
    rw [← hf x hx ((eqD_iff (h x hx)).mp e)]; exact hx
  · intro m
    exact ⟨f d, List.mem_map_of_mem m, (eqD_iff (h d m)).mpr rfl⟩
/-- sorted(xs), xs a list of data -/
def dle {β : Type} (f : β → D) : β → β → Bool := dataLe false fun b => py (f b)
def rSortDD (K : Frag) : List V → Hp → VK → Prop := fun vs H Q => ∃ (a : Addr) (us : List V) (β : Type) (l : List β) (f : β → D), vs = [.ref a] ∧ SqL K H a us ∧ DVs K H (l.map f) us ∧ AllAlike (l.map fun b => py (f b)) ∧ Sortable (l.map fun b => py (f b)) ∧ (∀ b ∈ l, (py (f b)).depth ≤ 60) ∧
  ∀ (ys : List V) (p : Addr), H p = none → DVs K H ((l.mergeSort (dle f)).map f) ys → Q (.ref p) (upd H p (.lst ys))
theorem dvs_each {K : Frag} {H : Hp} {β : Type} {f : β → D} : ∀ {l : List β} {us : List V} {vs : List Value}, DVs K H (l.map f) us → Vals us vs → EachIs (fun u b => ∃ v, RelV v u ∧ DV K H (f b) v) vs l
  | [], _, _, h, r => by
    unfold List.map DVs at h; subst h; cases r; exact .nil
  | b :: l, _, _, h, r => by
    obtain ⟨v, t, rfl, q, h2⟩ := h
    cases r with
    | cons r1 r2 => exact .cons ⟨v, r1, q⟩ (dvs_each h2 r2)
theorem each_dvs {K : Frag} {H : Hp} {β : Type} {f : β → D} : ∀ {l : List β} {vs : List Value}, EachIs (fun u b => ∃ v, RelV v u ∧ DV K H (f b) v) vs l → ∃ us, DVs K H (l.map f) us ∧ Vals us vs
  | [], _, h => by cases h; exact ⟨[], by unfold List.map DVs; rfl, .nil⟩
  | b :: l, _, h => by
    cases h with
    | cons h1 h2 =>
      obtain ⟨v, r1, q⟩ := h1
      obtain ⟨us, d, r2⟩ := each_dvs h2
      exact ⟨v :: us, ⟨v, us, rfl, q, d⟩, .cons r1 r2⟩
theorem each_reads {pins : List (Addr × Obj)} {σ : L2.St} {H : Hp} {s : Shared} (I : Inv X pins σ H s) {β : Type} {f : β → D} {l : List β} {vs : List Value} (h : EachIs (fun u b => ∃ v, RelV v u ∧ DV X.K H (f b) v) vs l) :
    EachIs (fun u b => ∃ as, Reads s.heap u (py (f b)) as) vs l := h.mono fun u b ⟨v, r, q⟩ => Dp.reads I _ _ _ q.dp r
theorem vals_len : ∀ {us : List V} {vs : List Value}, Vals us vs → us.length = vs.length
  | _, _, .nil => rfl
  | _, _, .cons _ r => by rw [List.length_cons, List.length_cons, vals_len r]
theorem hu_big {n : Nat} (h : X.A.units + 65 < cLine) (k : n ≤ 60) : X.A.units + 2 + n < cLine := by omega
theorem cr_sortDD (hu : X.A.units + 65 < cLine) : CallR X (.builtin "sorted") (rSortDD X.K) := by
  intro pins s σ H vs us Q I r h
  obtain ⟨a, xs, β, l, f, rfl, hs, hd, hal, hsb, hdp, q⟩ := h
  obtain ⟨its, rv, hl, hz⟩ := I.list hs
  obtain ⟨u, rfl, ru⟩ := vals1 r
  obtain rfl : u = Value.ref a := ru
  have e := dvs_each hd rv
  have hlen := vals_len rv
  have hlen2 := e.length
  refine PySem.W.sorted_data (enc := fun b => py (f b)) hl.isList e (each_reads I e) hal hsb (by omega) (fun b m => hu_big hu (hdp b m)) fun out ho eo => ?_
  obtain ⟨ys, dy, ry⟩ := each_dvs eo
  have fr : H (s.heap.objs.size + 1) = none := I.hok.fresh (Nat.le_succ _)
  obtain ⟨n, hn⟩ := sortedAll_at s.heap its (List.toArray out)
  refine ⟨.ref _, upd H _ (.lst ys), I.laid (t' := s.toks) (fun b o g => sortedAll_old g) (Nat.le_succ _) ⟨?_, out, n, ry, hn⟩, rfl, q ys _ fr dy⟩
  rw [vals_len ry]; omega
/-- min(xs), max(xs) of data -/
def rMinDD (K : Frag) (mx : Bool) : List V → Hp → VK → Prop := fun vs H Q => ∃ (a : Addr) (us : List V) (β : Type) (l : List β) (f : β → D), vs = [.ref a] ∧ SqL K H a us ∧ DVs K H (l.map f) us ∧ AllAlike (l.map fun b => py (f b)) ∧ (∀ b ∈ l, f b ≠ .non) ∧ (∀ b ∈ l, (py (f b)).depth ≤ 60) ∧ l ≠ [] ∧
  ∀ (m : β) (v : V), m ∈ l → (∀ y ∈ l, (if mx then dataLt (py (f m)) (py (f y)) else dataLt (py (f y)) (py (f m))) = false) → DV K H (f m) v → Q v H
theorem depth_all {β : Type} {g : β → PyData} : ∀ {l : List β}, (∀ b ∈ l, (g b).depth ≤ 60) → PyData.depthAll (l.map g) ≤ 60
  | [], _ => by simp [PyData.depthAll]
  | b :: l, h => by
    have h1 := h b (by simp)
    have h2 := depth_all (l := l) fun c m => h c (List.mem_cons_of_mem _ m)
    rw [List.map_cons, PyData.depthAll]; omega
theorem lt_irr (x : PyData) : dataLt x x = false := lex_irrefl _
theorem minD_mem (x : PyData) : ∀ xs : List PyData, minD x xs ∈ x :: xs := by
  intro xs
  unfold minD
  suffices h : ∀ (xs : List PyData) (a : PyData) (L : List PyData), a ∈ L → (∀ y ∈ xs, y ∈ L) → xs.foldl (fun a y => if dataLt y a then y else a) a ∈ L from h xs x (x :: xs) (by simp) (fun y m => List.mem_cons_of_mem _ m)
  intro xs
  induction xs with
  | nil => intro a L h _; exact h
  | cons y ys ih =>
    intro a L h k
    rw [List.foldl_cons]
    refine ih _ L ?_ fun z m => k z (List.mem_cons_of_mem _ m)
    split
    · exact k y (by simp)
    · exact h
def pyLe (a b : PyData) : Bool := !dataLt b a
theorem pyLe_total : TotalLe pyLe := sortLe_total (listOrd itemOrd) false keyToks
theorem lt_of_pyLe {a b : PyData} (h : pyLe a b = true) : dataLt b a = false := by unfold pyLe at h; simpa using h
theorem pyLe_of {a b : PyData} (h : dataLt b a = false) : pyLe a b = true := by unfold pyLe; rw [h]; rfl
theorem pyLe_lt {a b : PyData} (h : dataLt a b = true) : pyLe a b = true := (pyLe_total.total a b).elim id fun k => by
  have := lt_of_pyLe k
  rw [this] at h; cases h
theorem minD_le : ∀ (xs : List PyData) (x : PyData), ∀ y ∈ x :: xs, pyLe (minD x xs) y = true := by
  intro xs
  suffices h : ∀ (xs : List PyData) (a : PyData) (L : List PyData), (∀ y ∈ L, pyLe a y = true) → ∀ y, y ∈ L ∨ y ∈ xs → pyLe (xs.foldl (fun a y => if dataLt y a then y else a) a) y = true from fun x y m => h xs x [x] (fun z m => by rw [List.mem_singleton.mp m]; exact pyLe_total.refl x) y (by
    rcases List.mem_cons.mp m with e | e
    · exact .inl (by rw [e]; simp)
    · exact .inr e)
  intro xs
  induction xs with
  | nil => intro a L h y m; exact h y (m.resolve_right (by simp))
  | cons z zs ih =>
    intro a L h y m
    rw [List.foldl_cons]
    refine ih _ (z :: L) ?_ y ?_
    · intro w mw
      by_cases c : dataLt z a = true
      · rw [if_pos c]
        rcases List.mem_cons.mp mw with e | e
        · rw [e]; exact pyLe_total.refl z
        · exact pyLe_total.trans _ _ _ (pyLe_lt c) (h w e)
      · rw [if_neg c]
        rcases List.mem_cons.mp mw with e | e
        · rw [e]; exact pyLe_of (by simpa using c)
        · exact h w e
    · rcases m with m | m
      · exact .inl (List.mem_cons_of_mem _ m)
      · rcases List.mem_cons.mp m with e | e
        · exact .inl (by rw [e]; simp)
        · exact .inr e
theorem maxD_mem (x : PyData) : ∀ xs : List PyData, maxD x xs ∈ x :: xs := by
  intro xs
  unfold maxD
  suffices h : ∀ (xs : List PyData) (a : PyData) (L : List PyData), a ∈ L → (∀ y ∈ xs, y ∈ L) → xs.foldl (fun a y => if dataLt a y then y else a) a ∈ L from h xs x (x :: xs) (by simp) (fun y m => List.mem_cons_of_mem _ m)
  intro xs
  induction xs with
  | nil => intro a L h _; exact h
  | cons y ys ih =>
    intro a L h k
    rw [List.foldl_cons]
    refine ih _ L ?_ fun z m => k z (List.mem_cons_of_mem _ m)
    split
    · exact k y (by simp)
    · exact h
theorem maxD_le : ∀ (xs : List PyData) (x : PyData), ∀ y ∈ x :: xs, pyLe y (maxD x xs) = true := by
  intro xs
  suffices h : ∀ (xs : List PyData) (a : PyData) (L : List PyData), (∀ y ∈ L, pyLe y a = true) → ∀ y, y ∈ L ∨ y ∈ xs → pyLe y (xs.foldl (fun a y => if dataLt a y then y else a) a) = true from fun x y m => h xs x [x] (fun z m => by rw [List.mem_singleton.mp m]; exact pyLe_total.refl x) y (by
    rcases List.mem_cons.mp m with e | e
    · exact .inl (by rw [e]; simp)
    · exact .inr e)
  intro xs
  induction xs with
  | nil => intro a L h y m; exact h y (m.resolve_right (by simp))
  | cons z zs ih =>
    intro a L h y m
    rw [List.foldl_cons]
    refine ih _ (z :: L) ?_ y ?_
    · intro w mw
      by_cases c : dataLt a z = true
      · rw [if_pos c]
        rcases List.mem_cons.mp mw with e | e
        · rw [e]; exact pyLe_total.refl z
        · exact pyLe_total.trans _ _ _ (h w e) (pyLe_lt c)
      · rw [if_neg c]
        rcases List.mem_cons.mp mw with e | e
        · rw [e]; exact pyLe_of (by simpa using c)
        · exact h w e
    · rcases m with m | m
      · exact .inl (List.mem_cons_of_mem _ m)
      · rcases List.mem_cons.mp m with e | e
        · exact .inl (by rw [e]; simp)
        · exact .inr e
theorem each_get {β : Type} {R : Value → β → Prop} : ∀ {vs : List Value} {l : List β} {i : Nat} {v : Value}, EachIs R vs l → vs[i]? = some v → ∃ b, l[i]? = some b ∧ R v b
  | _, _, _, _, .nil, h => by simp at h
  | _, _, 0, _, .cons h1 _, h => by cases (show some _ = some _ from h); exact ⟨_, rfl, h1⟩
  | _, _, i + 1, _, .cons _ t, h => each_get (i := i) t (by simpa using h)
theorem min_pick {pins : List (Addr × Obj)} {σ : L2.St} {H : Hp} {s : Shared} (I : Inv X pins σ H s) {β : Type} {l : List β} {f : β → D} {its : List Value} (e : EachIs (fun u b => ∃ v, RelV v u ∧ DV X.K H (f b) v) its l) (hal : AllAlike (l.map fun b => py (f b))) {i : Nat} {v : Value} {h' : Heap} {m : PyData} {bs : List Addr}
    (hv : its[i]? = some v) (hr : Reads h' v m bs) (kp : ∀ b o, s.heap.get? b = some o → h'.get? b = some o) (hm : m ∈ l.map fun b => py (f b)) : ∃ b w, b ∈ l ∧ RelV w v ∧ DV X.K H (f b) w ∧ py (f b) = m := by
  obtain ⟨b, hb, w, rw', dw⟩ := each_get e hv
  have mb := List.mem_of_getElem? hb
  obtain ⟨as, r1⟩ := Dp.reads I _ _ _ dw.dp rw'
  have r2 : Reads h' v (py (f b)) as := PyProof.Rows.Reads.keeps kp r1
  exact ⟨b, w, mb, rw', dw, alike_unique _ _ _ _ _ (hal _ (List.mem_map_of_mem mb) _ hm) r2 hr⟩
theorem cr_minDD (hu : X.A.units + 65 < cLine) (hc : X.calm = true) : CallR X (.builtin "min") (rMinDD X.K false) := by
  intro pins s σ H vs us Q I r h
  obtain ⟨a, xs, β, l, f, rfl, hs, hd, hal, hnn, hdp, hne, q⟩ := h
  obtain ⟨its, rv, hl, hz⟩ := I.list hs
  obtain ⟨u, rfl, ru⟩ := vals1 r
  obtain rfl : u = Value.ref a := ru
  have e := dvs_each hd rv
  obtain ⟨b0, l', rfl⟩ : ∃ b0 l', l = b0 :: l' := by
    cases l with
    | nil => exact absurd rfl hne
    | cons b r => exact ⟨b, r, rfl⟩
  obtain ⟨as, hra⟩ := Dp.readsAll I _ _ _ hd.dpa rv
  have ep : pys ((b0 :: l').map f) = py (f b0) :: l'.map (fun b => py (f b)) := by rw [pys_map, List.map_map]; rfl
  rw [ep] at hra
  have hal' : AllAlike (py (f b0) :: l'.map (fun b => py (f b))) := hal
  refine min_list_data (I.ok.hd hc) hl.isList (vs := its.toArray) (by simpa using hra) ⟨fun x mx y my => hal' x mx y my, fun x mx => ?_⟩ ?_ fun i v h' tk bs hv hr kp => ?_
  · obtain ⟨b, hb, rfl⟩ := List.mem_map.mp (show x ∈ (b0 :: l').map (fun b => py (f b)) from mx)
    intro e0
    refine hnn b hb ?_
    cases hf : f b with
    | non => rfl
    | _ => rw [hf] at e0; simp [py] at e0
  · have := depth_all hdp
    rw [List.map_cons] at this
    omega
  · obtain ⟨b, w, mb, rw', dw, em⟩ := min_pick I e hal (by simpa using hv) hr kp (minD_mem _ _)
    refine ⟨w, H, I.kept kp, rw', q b w mb (fun y my => ?_) dw⟩
    have := minD_le (l'.map fun b => py (f b)) (py (f b0)) (py (f y)) (List.mem_map_of_mem (f := fun b => py (f b)) my)
    rw [← em] at this
    exact lt_of_pyLe this
theorem cr_maxDD (hu : X.A.units + 65 < cLine) (hc : X.calm = true) : CallR X (.builtin "max") (rMinDD X.K true) := by
  intro pins s σ H vs us Q I r h
  obtain ⟨a, xs, β, l, f, rfl, hs, hd, hal, hnn, hdp, hne, q⟩ := h
  obtain ⟨its, rv, hl, hz⟩ := I.list hs
  obtain ⟨u, rfl, ru⟩ := vals1 r
  obtain rfl : u = Value.ref a := ru
  have e := dvs_each hd rv
  obtain ⟨b0, l', rfl⟩ : ∃ b0 l', l = b0 :: l' := by
    cases l with
    | nil => exact absurd rfl hne
    | cons b r => exact ⟨b, r, rfl⟩
  obtain ⟨as, hra⟩ := Dp.readsAll I _ _ _ hd.dpa rv
  have ep : pys ((b0 :: l').map f) = py (f b0) :: l'.map (fun b => py (f b)) := by rw [pys_map, List.map_map]; rfl
  rw [ep] at hra
  have hal' : AllAlike (py (f b0) :: l'.map (fun b => py (f b))) := hal
  refine max_list_data (I.ok.hd hc) hl.isList (vs := its.toArray) (by simpa using hra) ⟨fun x mx y my => hal' x mx y my, fun x mx => ?_⟩ ?_ fun i v h' tk bs hv hr kp => ?_
  · obtain ⟨b, hb, rfl⟩ := List.mem_map.mp (show x ∈ (b0 :: l').map (fun b => py (f b)) from mx)
    intro e0
    refine hnn b hb ?_
    cases hf : f b with
    | non => rfl
    | _ => rw [hf] at e0; simp [py] at e0
  · have := depth_all hdp
    rw [List.map_cons] at this
    omega
  · obtain ⟨b, w, mb, rw', dw, em⟩ := min_pick I e hal (by simpa using hv) hr kp (maxD_mem _ _)
    refine ⟨w, H, I.kept kp, rw', q b w mb (fun y my => ?_) dw⟩
    have := maxD_le (l'.map fun b => py (f b)) (py (f b0)) (py (f y)) (List.mem_map_of_mem (f := fun b => py (f b)) my)
    rw [← em] at this
    exact lt_of_pyLe this
/-- what a sorted list of data is -/
theorem dle_total {β : Type} (f : β → D) : TotalLe (dle f) := sortLe_total (listOrd itemOrd) false fun b => keyToks (py (f b))
theorem sort_perm {β : Type} (f : β → D) (l : List β) : (l.mergeSort (dle f)).Perm l := List.mergeSort_perm l _
theorem sort_pw {β : Type} (f : β → D) (l : List β) : (l.mergeSort (dle f)).Pairwise fun a b => dle f a b = true := sort_pairwise (dle_total f) l
theorem dle_str {β : Type} {f : β → Str} {a b : β} : dle (fun b => D.str (f b)) a b = !decide (tl (f b) < tl (f a)) := by
  show (!dataLt (py (.str (f b))) (py (.str (f a)))) = _
  rw [py, py, dataLt_str]
/-- the same, the written part named -/
theorem op_eqDDQ {K : Frag} (h : X.K = K) (hu : X.A.units + 65 < cLine) : OpR X (compareOp .Eq) (rEqDD K) := by subst h; exact op_eqDD (by omega)
theorem op_neDDQ {K : Frag} (h : X.K = K) (hu : X.A.units + 65 < cLine) : OpR X (compareOp .NotEq) (rNeDD K) := by subst h; exact op_neDD (by omega)
theorem op_inDDQ {K : Frag} (h : X.K = K) (hu : X.A.units + 65 < cLine) : OpR X (compareOp .In) (rInDD K false) := by subst h; exact op_inDD hu
theorem op_notInDDQ {K : Frag} (h : X.K = K) (hu : X.A.units + 65 < cLine) : OpR X (compareOp .NotIn) (rInDD K true) := by subst h; exact op_notInDD hu
theorem cr_sortDDQ {K : Frag} (h : X.K = K) (hu : X.A.units + 65 < cLine) : CallR X (.builtin "sorted") (rSortDD K) := by subst h; exact cr_sortDD hu
theorem cr_minDDQ {K : Frag} (h : X.K = K) (hu : X.A.units + 65 < cLine) (hc : X.calm = true) : CallR X (.builtin "min") (rMinDD K false) := by subst h; exact cr_minDD hu hc
theorem cr_maxDDQ {K : Frag} (h : X.K = K) (hu : X.A.units + 65 < cLine) (hc : X.calm = true) : CallR X (.builtin "max") (rMinDD K true) := by subst h; exact cr_maxDD hu hc
theorem aa_of {β : Type} {f : β → D} {l : List β} (h : ∀ b c, alike (py (f b)) (py (f c)) = true) : AllAlike (l.map fun b => py (f b)) := AllAlike.of h
theorem aa_str {β : Type} {f : β → Str} {l : List β} : AllAlike (l.map fun b => py (.str (f b))) := aa_of fun _ _ => by simp [py, alike]
theorem aa_int {β : Type} {f : β → Int} {l : List β} : AllAlike (l.map fun b => py (.int (f b))) := aa_of fun _ _ => by simp [py, alike]
theorem so_str {β : Type} {f : β → Str} {l : List β} : Sortable (l.map fun b => py (.str (f b))) := Sortable.others fun b => ⟨by simp [py], fun _ => by simp [py]⟩
theorem so_tup {β : Type} {f : β → D} {l : List β} (h : ∀ b, ∃ x r, f b = .tup (x :: r)) : Sortable (l.map fun b => py (f b)) := Sortable.tuples fun b => by
  obtain ⟨x, r, e⟩ := h b
  exact ⟨py x, pys r, by rw [e, py, pys]⟩
theorem lt_of_dl {x y : Str} (h : (if false = true then dataLt (py (.str y)) (py (.str x)) else dataLt (py (.str x)) (py (.str y))) = false) : ¬ tl x < tl y := by
  simp only [Bool.false_eq_true, if_false, py] at h
  rw [dataLt_str] at h
  exact of_decide_eq_false h
theorem room65 {k : Nat} {A : Around} (r : Room k A) : A.units + 65 < cLine := by have := r.un; omega
end
end Z
namespace Z
open PySem PySem.W PySem.Calls PyProof.Rows L2
/-! ### sorted of whatever can be collected, dicts among them -/
section
variable {prog : Program} {w : World} {A : Around} {E : Value → Shared → Prop} {s : Shared}
theorem each_ix {β : Type} {R : Value → β → Prop} : ∀ {vs : List Value} {bs : List β}, EachIs R vs bs → EachIs (fun v b => ∃ j : Nat, vs[j]? = some v ∧ bs[j]? = some b) vs bs
  | _, _, .nil => .nil
  | _, _, .cons h t => .cons ⟨0, rfl, rfl⟩ ((each_ix t).mono fun v b ⟨j, h1, h2⟩ => ⟨j + 1, h1, h2⟩)
theorem sorted_by {x : Value} {β : Type} {enc : β → PyData} {bs : List β} {C : Heap → List Value → Prop} {Q : Value → Shared → Prop}
    (hcol : ∀ {R' : List Value → Shared → Prop}, (∀ (h' : Heap) (tk : Nat) (vs : List Value), (∀ b o, s.heap.get? b = some o → h'.get? b = some o) → C h' vs → R' vs { s with heap := h', toks := tk }) → wpAny (model prog w) A.in1 (collect x) R' E s)
    (hC : ∀ h' vs, C h' vs → EachIs (fun v b => ∃ as, Reads h' v (enc b) as) vs bs)
    (hal : AllAlike (bs.map enc)) (hk : Sortable (bs.map enc)) (hL : bs.length ≤ sizeLine) (hu : ∀ b ∈ bs, A.units + 2 + (enc b).depth < cLine)
    (h : ∀ (h1 h' : Heap) (tk : Nat) (a : Addr) (vs out : List Value) (n : Nat), C h1 vs → (∀ b o, s.heap.get? b = some o → h1.get? b = some o) → (∀ b o, h1.get? b = some o → h'.get? b = some o) → h1.objs.size = a → h'.get? a = some (seqObj "list" out.toArray n) → out.length = bs.length →
      EachIs (fun v b => ∃ j : Nat, vs[j]? = some v ∧ bs[j]? = some b) out (bs.mergeSort (dataLe false enc)) → Q (.ref a) { s with heap := h', toks := tk }) :
    wpAny (model prog w) A (call (.builtin "sorted") [x]) Q E s := by
  refine call_function_entry kind_sorted plain_sorted entry_sorted (args_sorted1 _) ?_
  unfold Builtin.«sorted»
  refine wpAny_bind (m := checkCount "sorted" 1 1 _) (wpAny_pure ?_)
  refine wpAny_bind (hcol fun h1 tk vs kp hc => ?_)
  have er := hC h1 vs hc
  have el := er.length
  refine wpAny_bind (wpAny_newList ?_ (by omega))
  have ho : (h1.push { cls := .type "list", data := .seq vs.toArray }).get? h1.objs.size = some (seqObj "list" vs.toArray 0) := Heap.get?_push_size _ rfl
  have old : ∀ b o, h1.get? b = some o → (h1.push { cls := .type "list", data := .seq vs.toArray }).get? b = some o := fun b o e => Heap.get?_push_of_some _ e
  refine wpAny_bind (wpAny_holding (wpAny_mono (PySem.W.list_sort_data (A := A.in1) (enc := enc) (s := { s with heap := h1.push { cls := .type "list", data := .seq vs.toArray }, toks := tk }) ho (each_ix er) ?_ hal hk hL (fun b m => hu b m) fun out lo eo => ?_) (fun _ s' x => x) fun _ _ e => e))
  · refine er.mono fun v b ⟨as, r⟩ => ?_
    exact ⟨as, PyProof.Rows.Reads.keeps old r, fun m => by
      obtain ⟨o, ho⟩ := PyProof.On.reads_mem_get r _ m
      exact absurd (Heap.lt_size ho) (Nat.lt_irrefl _)⟩
  · obtain ⟨n, hn⟩ := sortedHeap_at (h := h1.push { cls := .type "list", data := .seq vs.toArray }) (out := List.toArray out) ho
    refine wpAny_pure ⟨_, rfl, h h1 _ _ _ vs out n hc kp (fun b o e => ?_) rfl hn lo eo⟩
    have lt := Heap.lt_size e
    rw [sortedHeap_old (Nat.ne_of_lt lt) (by rw [size_push']; exact Nat.lt_succ_of_lt lt)]
    exact old b o e
end
/-! ### keys, values and items of dicts, sorted -/
def kD : Key → D
  | .inl i => .int i
  | .inr x => .str x
theorem kD_dv {K : Frag} {H : Hp} : ∀ k : Key, DV K H (kD k) (kV k)
  | .inl i => by unfold kD; unfold DV; rfl
  | .inr x => by unfold kD; unfold DV; rfl
theorem kD_dvs {K : Frag} {H : Hp} : ∀ l : List Key, DVs K H (l.map kD) (l.map kV)
  | [] => by unfold List.map DVs; rfl
  | k :: l => ⟨_, _, rfl, kD_dv k, kD_dvs l⟩
theorem dvs_kD {K : Frag} {H : Hp} : ∀ {l : List Key} {ys : List V}, DVs K H (l.map kD) ys → ys = l.map kV
  | [], _, h => by unfold List.map DVs at h; exact h
  | .inl i :: l, _, h => by
    obtain ⟨v, r, rfl, q, t⟩ := h
    unfold kD DV at q
    rw [q, dvs_kD t]; rfl
  | .inr i :: l, _, h => by
    obtain ⟨v, r, rfl, q, t⟩ := h
    unfold kD DV at q
    rw [q, dvs_kD t]; rfl
theorem so_key {l : List Key} : Sortable (l.map fun k => py (kD k)) := Sortable.others fun k => by
  cases k with
  | inl i => exact ⟨by simp [kD, py], fun _ => by simp [kD, py]⟩
  | inr x => exact ⟨by simp [kD, py], fun _ => by simp [kD, py]⟩
theorem each_of_ix {β : Type} {R : Value → β → Prop} : ∀ {vs : List Value} {bs : List β}, vs.length = bs.length → (∀ (i : Nat) (v : Value) (b : β), vs[i]? = some v → bs[i]? = some b → R v b) → EachIs R vs bs
  | [], [], _, _ => .nil
  | [], _ :: _, h, _ => by simp at h
  | _ :: _, [], h, _ => by simp at h
  | v :: vs, b :: bs, h, k => .cons (k 0 v b rfl rfl) (each_of_ix (by simpa using h) fun i v' b' h1 h2 => k (i + 1) v' b' h1 h2)
theorem vals_of_each {β : Type} {R : Value → β → Prop} {f : β → V} : ∀ {out : List Value} {l : List β}, EachIs R out l → (∀ v b, R v b → RelV (f b) v) → Vals (l.map f) out
  | _, _, .nil, _ => .nil
  | _, _, .cons h t, k => .cons (k _ _ h) (vals_of_each t k)
theorem pair_get {α β : Type} {F : α → β → Prop} : ∀ {l₁ : List α} {l₂ : List β} {j : Nat} {x : α}, Paired F l₁ l₂ → l₁[j]? = some x → ∃ y, l₂[j]? = some y ∧ F x y
  | _, _, _, _, .nil, h => by simp at h
  | _, _, 0, _, .cons a _, h => by cases (show some _ = some _ from h); exact ⟨_, rfl, a⟩
  | _, _, j + 1, _, .cons _ t, h => pair_get (j := j) t (by simpa using h)
theorem kV_rel {P : Program} {w : World} {k : Key} {u : Value} (h : (mixKind P w).is k u = true) : RelV (kV k) u := by
  rcases keyIs_shape h with ⟨i, t, e1, e2⟩ | ⟨x, t, e1, e2⟩
  · subst e1; subst e2; exact ⟨t, rfl⟩
  · subst e1; subst e2; exact ⟨t, rfl⟩
theorem Dp.reads0 {h : Heap} (k : Key) {u : Value} (r : RelV (kV k) u) : ∃ as, Reads h u (py (kD k)) as := by
  cases k with
  | inl i => obtain ⟨t, e⟩ := (show ∃ t, u = Value.int i t from r); subst e; exact ⟨_, by unfold kD py; exact Reads.int i t⟩
  | inr x => obtain ⟨t, e⟩ := (show ∃ t, u = Value.str x t from r); subst e; exact ⟨_, by unfold kD py; exact Reads.str x t⟩
theorem no_get {h h' : Heap} (k : ∀ b o, h.get? b = some o → h'.get? b = some o) : h.get? h'.objs.size = none := by
  cases e : h.get? h'.objs.size with
  | none => rfl
  | some o => exact absurd (Heap.lt_size (k _ _ e)) (Nat.lt_irrefl _)
section
variable {X : Cx}
/-- what stands in the entries -/
theorem kv_raw {H : Hp} {h : Heap} {a : Addr} {kvs : List (Key × V)} (ok : HOk X.prog X.w H h) (e : H a = some (.dK kvs)) : kvs.length ≤ sizeLine ∧ (a == sysModules) = false ∧ ∃ es ep, h.DictRaw a es ep ∧ es.size = kvs.length ∧
    ∀ i (hi : i < es.size) k v, kvs[i]? = some (k, v) → RelV (kV k) es[i].key ∧ RelV v es[i].val := by
  obtain ⟨z, hd, vs, rel, dd⟩ := dk_of ok e
  obtain ⟨es, ep, hr, hs, he⟩ := dd.raw
  have hl : kvs.length = vs.length := Paired.length rel
  refine ⟨z, hd, es, ep, hr, by omega, fun i hi k v hk => ?_⟩
  obtain ⟨⟨k', u⟩, hp, h1, h2⟩ := pair_get rel hk
  have h1' : k = k' := h1
  subst h1'
  obtain ⟨q1, q2⟩ := he i hi k u hp
  exact ⟨kV_rel q1, by rw [q2]; exact h2⟩
def rSortKeys : List V → Hp → VK → Prop := fun vs H Q => ∃ (a : Addr) (kvs : List (Key × V)), vs = [.ref a] ∧ H a = some (.dK kvs) ∧ AllAlike ((kvs.map (·.1)).map fun k => py (kD k)) ∧
  ∀ p, H p = none → Q (.ref p) (upd H p (.lst (((kvs.map (·.1)).mergeSort (dle kD)).map kV)))
theorem cr_sortKeys (hu : X.A.units + 65 < cLine) (hc : X.calm = true) : CallR X (.builtin "sorted") rSortKeys := by
  intro pins s σ H vs us Q I r h
  obtain ⟨a, kvs, rfl, ha, hal, q⟩ := h
  obtain ⟨u, rfl, ru⟩ := vals1 r
  obtain rfl : u = Value.ref a := ru
  obtain ⟨z, lo, es, ep, hr, hs, he⟩ := kv_raw I.hok ha
  have hh : X.A.handled = none := I.ok.hd hc
  refine sorted_by (enc := fun k => py (kD k)) (bs := kvs.map (·.1)) (C := fun h' vs => (∀ b o, s.heap.get? b = some o → h'.get? b = some o) ∧ EachIs (fun u k => RelV (kV k) u) vs (kvs.map (·.1)))
    (fun {R'} k => kdu_collect (KdlSrc.rawDict (prog := X.prog) (w := X.w) lo) hh hr (by omega) fun h' tk acc kp hI => k h' tk acc.toList kp ⟨kp, each_of_ix (by rw [Array.length_toList, hI.1, List.length_map, hs]) fun i v k hv hk => ?_⟩)
    (fun h' vs c => c.2.mono fun u k ru => Dp.reads0 k ru) hal so_key (by rw [List.length_map]; exact z) (fun k _ => by
      have : (py (kD k)).depth = 0 := by cases k <;> simp [kD, py, PyData.depth]
      rw [this]; exact hu_big hu (by decide)) fun h1 h' tk b vs out n c kp1 kp2 eb hb lo' eo => ?_
  · rw [Array.getElem?_toList] at hv
    obtain ⟨hi, rfl⟩ := hI.2 i v hv
    rw [List.getElem?_map] at hk
    cases hk' : kvs[i]? with
    | none => rw [hk'] at hk; cases hk
    | some p =>
      rw [hk'] at hk
      obtain rfl := Option.some.inj hk
      exact (he i hi p.1 p.2 hk').1
  · have ng : s.heap.get? b = none := by rw [← eb]; exact no_get kp1
    have fr : H b = none := I.hok.gone ng
    have vo : Vals (((kvs.map (·.1)).mergeSort (dle kD)).map kV) out := vals_of_each eo fun v k ⟨j, h1, h2⟩ => by
      obtain ⟨k', hk', rk⟩ := each_get c.2 h1
      rw [h2] at hk'
      obtain rfl := Option.some.inj hk'
      exact rk
    refine ⟨.ref b, upd H b (.lst _), I.laidN (t' := tk) (fun b o g => kp2 b o (kp1 b o g)) ng fr ⟨?_, out, n, vo, hb⟩, rfl, q b fr⟩
    rw [vals_len vo, lo', List.length_map]; exact z
/-- the view d.values() at p -/
def valuesO (p d : Addr) : HO := .ext fun h => h.IsValuesView p d
theorem valuesO_ok {P : Program} {w : World} {H : Hp} {h : Heap} {p d : Addr} (e : h.get? p = some { cls := .type "dict_values", data := .fields #[.ref d] }) : ObjOk P w H h p (valuesO p d) :=
  ⟨⟨_, e, rfl, rfl⟩, ⟨_, e⟩, fun h1 h2 x k => let ⟨o, ho, r⟩ := x; ⟨o, k o ho, r⟩⟩
def rValuesK : V → List V → Hp → VK → Prop := fun x xs H Q => ∃ (a : Addr) (kvs : List (Key × V)), x = .ref a ∧ xs = [] ∧ H a = some (.dK kvs) ∧ ∀ p, H p = none → Q (.ref p) (upd H p (valuesO p a))
def rItemsK : V → List V → Hp → VK → Prop := fun x xs H Q => ∃ (a : Addr) (kvs : List (Key × V)), x = .ref a ∧ xs = [] ∧ H a = some (.dK kvs) ∧ ∀ p, H p = none → Q (.ref p) (upd H p (L2.DX.itemsO p a))
theorem mt_itemsK : MtR X "dict.items" rItemsK := by
  intro pins s σ H x xs v us Q I rx rxs h
  obtain ⟨a, kvs, rfl, rfl, ha, q⟩ := h
  cases rx
  cases rxs
  obtain ⟨z, hd, es, ep, hr, hs, he⟩ := kv_raw I.hok ha
  refine DT.callItems (es := es) (ep := ep) hd hr ?_
  have hf : H s.heap.objs.size = none := I.hok.fresh (Nat.le_refl _)
  exact ⟨.ref s.heap.objs.size, upd H s.heap.objs.size (L2.DX.itemsO s.heap.objs.size a), I.laid (t' := s.toks) (fun b u e => Heap.get?_push_of_some _ e) (Nat.le_refl _) (L2.DX.itemsO_ok (Heap.get?_push_size _ rfl)), rfl, q _ hf⟩
/-- sorted of such a view -/
def rSortVals (K : Frag) : List V → Hp → VK → Prop := fun vs H Q => ∃ (p a : Addr) (kvs : List (Key × V)) (β : Type) (l : List β) (f : β → D), vs = [.ref p] ∧ H p = some (valuesO p a) ∧ H a = some (.dK kvs) ∧ DVs K H (l.map f) (kvs.map (·.2)) ∧ AllAlike (l.map fun b => py (f b)) ∧ PySem.W.Sortable (l.map fun b => py (f b)) ∧ (∀ b ∈ l, (py (f b)).depth ≤ 60) ∧
  ∀ (ys : List V) (r : Addr), H r = none → DVs K H ((l.mergeSort (dle f)).map f) ys → Q (.ref r) (upd H r (.lst ys))
theorem cr_sortVals (hu : X.A.units + 65 < cLine) (hc : X.calm = true) : CallR X (.builtin "sorted") (rSortVals X.K) := by
  intro pins s σ H vs us Q I r h
  obtain ⟨p, a, kvs, β, l, f, rfl, hp, ha, hd, hal, hsb, hdp, q⟩ := h
  obtain ⟨u, rfl, ru⟩ := vals1 r
  obtain rfl : u = Value.ref p := ru
  have view : s.heap.IsValuesView p a := (show ObjOk X.prog X.w H s.heap p (valuesO p a) from I.hok p _ hp).1
  obtain ⟨z, lo, es, ep, hr, hs, he⟩ := kv_raw I.hok ha
  have hh : X.A.handled = none := I.ok.hd hc
  have ll : l.length = kvs.length := by have := hd.len; rw [List.length_map, List.length_map] at this; omega
  have dv : ∀ (i : Nat) (b : β) (k : Key) (v : V), l[i]? = some b → kvs[i]? = some (k, v) → DV X.K H (f b) v := fun i b k v hb hk => by
    obtain ⟨v', hv', d⟩ := hd.get (i := i) (d := f b) (by rw [List.getElem?_map, hb]; rfl)
    rw [List.getElem?_map, hk] at hv'
    obtain rfl := Option.some.inj hv'
    exact d
  refine sorted_by (enc := fun b => py (f b)) (bs := l) (C := fun h' vs => (∀ b o, s.heap.get? b = some o → h'.get? b = some o) ∧ EachIs (fun u b => ∃ v, RelV v u ∧ DV X.K H (f b) v) vs l)
    (fun {R'} k => kdu_collect (KdlSrc.rawValues (prog := X.prog) (w := X.w)) hh ⟨view, hr⟩ (by omega) fun h' tk acc kp hI => k h' tk acc.toList kp ⟨kp, each_of_ix (by rw [Array.length_toList, hI.1, ll, hs]) fun i v b hv hb => ?_⟩)
    (fun h' vs c => c.2.mono fun u b ⟨v, rv, d⟩ => by
      obtain ⟨as, rr⟩ := Dp.reads I _ _ _ d.dp rv
      exact ⟨as, PyProof.Rows.Reads.keeps c.1 rr⟩) hal hsb (by omega) (fun b m => hu_big hu (hdp b m)) fun h1 h' tk b vs out n c kp1 kp2 eb hb lo' eo => ?_
  · rw [Array.getElem?_toList] at hv
    obtain ⟨hi, rfl⟩ := hI.2 i v hv
    obtain ⟨⟨k, v⟩, hk⟩ : ∃ p, kvs[i]? = some p := ⟨_, List.getElem?_eq_getElem (by omega)⟩
    exact ⟨v, (he i hi k v hk).2, dv i b k v hb hk⟩
  · have ng : s.heap.get? b = none := by rw [← eb]; exact no_get kp1
    have fr : H b = none := I.hok.gone ng
    have eo2 : EachIs (fun u b => ∃ v, RelV v u ∧ DV X.K H (f b) v) out (l.mergeSort (dle f)) := eo.mono fun v k ⟨j, h1, h2⟩ => by
      obtain ⟨k', hk', rk⟩ := each_get c.2 h1
      rw [h2] at hk'
      obtain rfl := Option.some.inj hk'
      exact rk
    obtain ⟨ys, dy, ry⟩ := each_dvs eo2
    refine ⟨.ref b, upd H b (.lst ys), I.laidN (t' := tk) (fun b o g => kp2 b o (kp1 b o g)) ng fr ⟨?_, out, n, ry, hb⟩, rfl, q ys b fr dy⟩
    rw [vals_len ry, lo', ll]; exact z
/-- d.update(e) -/
def rUpdK : V → List V → Hp → VK → Prop := fun x xs H Q => ∃ (a b : Addr) (kvs more : List (Key × V)), x = .ref a ∧ xs = [.ref b] ∧ a ≠ b ∧ H a = some (.dK kvs) ∧ H b = some (.dK more) ∧ kvs.length + more.length ≤ sizeLine ∧ Q .non (upd H a (.dK (mergeK kvs more)))
theorem mt_updK : MtR X "dict.update" rUpdK := by
  intro pins s σ H x xs v us Q I rx rxs h
  obtain ⟨a, b, kvs, more, rfl, rfl, ab, ha, hb, hz, q⟩ := h
  cases rx
  obtain ⟨u, rfl, ru⟩ := rxs.one
  cases ru
  obtain ⟨z, hd, vs, rel, dd⟩ := dk_of I.hok ha
  obtain ⟨z', hd', vs', rel', dd'⟩ := dk_of I.hok hb
  refine call_meetsIn PySem.F.slot_dict_update dd.typeIs PySem.F.entry_dict_update (PySem.F.args_dict_update_2 _ _) (meets_dict_update (mixKind X.prog X.w) a b ab hd')
    ⟨vs, vs', dd, dd', by rw [← rel.length, ← rel'.length]; exact hz, fun h' d1 d2 hs => ⟨.non, _, ?_, rfl, q⟩⟩
  have he : ∃ q, h'.get? a = some q := let ⟨q, _, _, hq, _⟩ := d1; ⟨q, hq⟩
  exact d_write I (by rw [ha]; exact True.intro) hs he (dk_new (Nat.le_trans (length_mergeK _ _) hz) hd (KV.merge rel' rel) d1)
theorem mt_valuesK : MtR X "dict.values" rValuesK := by
  intro pins s σ H x xs v us Q I rx rxs h
  obtain ⟨a, kvs, rfl, rfl, ha, q⟩ := h
  cases rx
  cases rxs
  obtain ⟨z, hd, es, ep, hr, hs, he⟩ := kv_raw I.hok ha
  have hf : H s.heap.objs.size = none := I.hok.fresh (Nat.le_refl _)
  refine call_meetsIn PySem.F.slot_dict_values hr.typeIs PySem.F.entry_dict_values (PySem.F.args_dict_values_1 _) (meets_dict_values_raw (prog := X.prog) (w := X.w) a hd) ⟨⟨es, ep, hr⟩, ?_⟩
  exact ⟨.ref s.heap.objs.size, upd H s.heap.objs.size (valuesO s.heap.objs.size a), I.laid (t' := s.toks) (fun b u e => Heap.get?_push_of_some _ e) (Nat.le_refl _) (valuesO_ok (Heap.get?_push_size _ rfl)), rfl, q _ hf⟩
end
section
variable {prog : Program} {w : World} {A : Around} {E : Value → Shared → Prop} {s : Shared}
theorem bestX (bt : Nat → Nat → Bool) : (bt 1 0 = false ∧ argBest bt 1 = 0) ∨ (bt 1 0 = true ∧ argBest bt 1 = 1) := by
  by_cases h : bt 1 (argBest bt 0) = true
  · exact .inr ⟨h, if_pos h⟩
  · exact .inl ⟨Bool.eq_false_iff.mpr h, if_neg h⟩
/-- the larger one -/
theorem max_strX {x y : Str} {t u : Tok} {Q : Value → Shared → Prop} (calm : A.handled = none)
    (h : ∀ (hp : Heap) (tk : Nat), (∀ b o, s.heap.get? b = some o → hp.get? b = some o) → Q (if decide (tl x < tl y) = true then .str y u else .str x t) { s with heap := hp, toks := tk }) : wpAny (model prog w) A (call (.builtin "max") [.str x t, .str y u]) Q E s := by
  have tp : (s.heap.push { cls := .type "tuple", data := .seq #[.str x t, .str y u] }).IsTuple s.heap.objs.size #[.str x t, .str y u] := ⟨_, Heap.get?_push_size _ rfl, rfl, 0, rfl⟩
  have z1 : (s.heap.push { cls := .type "tuple", data := .seq #[.str x t, .str y u] }).objs.size = s.heap.objs.size + 1 := Heap.size_push ..
  refine call_max_two (wpAny_pyIter_tuple tp ?_)
  refine ⟨_, [_, s.heap.objs.size], [_], _, _, _, fun i j => decide ((if j = 0 then x else y).cps.toList < (if i = 0 then x else y).cps.toList), rfl, Walks.tuple (A := A.in1) calm _ s.heap.objs.size (by rw [z1]; exact Nat.ne_of_lt (Nat.lt_succ_self _)) #[.str x t, .str y u], ⟨⟨_, Heap.get?_push_size _ rfl, rfl, rfl⟩, tp.push _⟩, fun b hb => ?_, by simp, fun i j vi vj s1 Q1 E1 gi gj q => ?_, fun v hp tk hv kp => ?_⟩
  · show b < ((s.heap.push _).push _).objs.size
    rw [Heap.size_push]
    simp only [List.mem_cons, List.not_mem_nil, or_false] at hb
    rcases hb with e | e <;> subst e
    · exact Nat.lt_succ_self _
    · rw [z1]; exact Nat.lt_succ_of_lt (Nat.lt_succ_self _)
  · have pick : ∀ {k : Nat} {v : Value}, (#[Value.str x t, Value.str y u])[k]? = some v → ∃ tt, v = .str (if k = 0 then x else y) tt := fun {k v} g => by
      match k, g with
      | 0, g => exact ⟨t, (Option.some.inj g).symm⟩
      | 1, g => exact ⟨u, (Option.some.inj g).symm⟩
      | k + 2, g => simp at g
    obtain ⟨ti, rfl⟩ := pick gi
    obtain ⟨tj, rfl⟩ := pick gj
    exact PySem.P.gt_str q
  · have old : ∀ b o, s.heap.get? b = some o → hp.get? b = some o := fun b o g => by
      refine kp b o (fun m => ?_) (Heap.get?_push_of_some _ (Heap.get?_push_of_some _ g))
      have lt := Heap.lt_size g
      rw [List.mem_singleton.mp m, z1] at lt
      exact absurd lt (Nat.not_lt_of_lt (Nat.lt_succ_self _))
    have hv' : (#[Value.str x t, Value.str y u])[argBest (fun i j => decide ((if j = 0 then x else y).cps.toList < (if i = 0 then x else y).cps.toList)) 1]? = some v := hv
    rcases bestX (fun i j => decide ((if j = 0 then x else y).cps.toList < (if i = 0 then x else y).cps.toList)) with ⟨e0, e⟩ | ⟨e0, e⟩
    · rw [e] at hv'
      have ev : Value.str x t = v := Option.some.inj hv'
      have := h hp tk old
      have e1 : (decide (tl x < tl y)) = false := e0
      rw [e1] at this
      rw [← ev]; exact this
    · rw [e] at hv'
      have ev : Value.str y u = v := Option.some.inj hv'
      have := h hp tk old
      have e1 : (decide (tl x < tl y)) = true := e0
      rw [e1] at this
      rw [← ev]; exact this
theorem min_strX {x y : Str} {t u : Tok} {Q : Value → Shared → Prop} (calm : A.handled = none)
    (h : ∀ (hp : Heap) (tk : Nat), (∀ b o, s.heap.get? b = some o → hp.get? b = some o) → Q (if decide (tl y < tl x) = true then .str y u else .str x t) { s with heap := hp, toks := tk }) : wpAny (model prog w) A (call (.builtin "min") [.str x t, .str y u]) Q E s := by
  have tp : (s.heap.push { cls := .type "tuple", data := .seq #[.str x t, .str y u] }).IsTuple s.heap.objs.size #[.str x t, .str y u] := ⟨_, Heap.get?_push_size _ rfl, rfl, 0, rfl⟩
  have z1 : (s.heap.push { cls := .type "tuple", data := .seq #[.str x t, .str y u] }).objs.size = s.heap.objs.size + 1 := Heap.size_push ..
  refine call_min_two (wpAny_pyIter_tuple tp ?_)
  refine ⟨_, [_, s.heap.objs.size], [_], _, _, _, fun i j => decide ((if i = 0 then x else y).cps.toList < (if j = 0 then x else y).cps.toList), rfl, Walks.tuple (A := A.in1) calm _ s.heap.objs.size (by rw [z1]; exact Nat.ne_of_lt (Nat.lt_succ_self _)) #[.str x t, .str y u], ⟨⟨_, Heap.get?_push_size _ rfl, rfl, rfl⟩, tp.push _⟩, fun b hb => ?_, by simp, fun i j vi vj s1 Q1 E1 gi gj q => ?_, fun v hp tk hv kp => ?_⟩
  · show b < ((s.heap.push _).push _).objs.size
    rw [Heap.size_push]
    simp only [List.mem_cons, List.not_mem_nil, or_false] at hb
    rcases hb with e | e <;> subst e
    · exact Nat.lt_succ_self _
    · rw [z1]; exact Nat.lt_succ_of_lt (Nat.lt_succ_self _)
  · have pick : ∀ {k : Nat} {v : Value}, (#[Value.str x t, Value.str y u])[k]? = some v → ∃ tt, v = .str (if k = 0 then x else y) tt := fun {k v} g => by
      match k, g with
      | 0, g => exact ⟨t, (Option.some.inj g).symm⟩
      | 1, g => exact ⟨u, (Option.some.inj g).symm⟩
      | k + 2, g => simp at g
    obtain ⟨ti, rfl⟩ := pick gi
    obtain ⟨tj, rfl⟩ := pick gj
    exact PySem.P.lt_str q
  · have old : ∀ b o, s.heap.get? b = some o → hp.get? b = some o := fun b o g => by
      refine kp b o (fun m => ?_) (Heap.get?_push_of_some _ (Heap.get?_push_of_some _ g))
      have lt := Heap.lt_size g
      rw [List.mem_singleton.mp m, z1] at lt
      exact absurd lt (Nat.not_lt_of_lt (Nat.lt_succ_self _))
    have hv' : (#[Value.str x t, Value.str y u])[argBest (fun i j => decide ((if i = 0 then x else y).cps.toList < (if j = 0 then x else y).cps.toList)) 1]? = some v := hv
    rcases bestX (fun i j => decide ((if i = 0 then x else y).cps.toList < (if j = 0 then x else y).cps.toList)) with ⟨e0, e⟩ | ⟨e0, e⟩
    · rw [e] at hv'
      have ev : Value.str x t = v := Option.some.inj hv'
      have := h hp tk old
      have e1 : (decide (tl y < tl x)) = false := e0
      rw [e1] at this
      rw [← ev]; exact this
    · rw [e] at hv'
      have ev : Value.str y u = v := Option.some.inj hv'
      have := h hp tk old
      have e1 : (decide (tl y < tl x)) = true := e0
      rw [e1] at this
      rw [← ev]; exact this
end
section
variable {X : Cx}
def minP (x y : Str) : Str := if decide (tl y < tl x) = true then y else x
def maxP (x y : Str) : Str := if decide (tl x < tl y) = true then y else x
theorem call_maxX (hc : X.calm = true) : CallR X (.builtin "max") (fun xs H Q => ∃ x y : Str, xs = [.str x, .str y] ∧ Q (.str (maxP x y)) H) := by
  intro pins s σ H xs us Q I r h
  obtain ⟨x, y, rfl, q⟩ := h
  obtain ⟨u, w', rfl, ⟨t, rfl⟩, ⟨t', rfl⟩⟩ := vals2 r
  refine max_strX (I.ok.hd hc) fun hp tk old => ?_
  refine ⟨.str (maxP x y), H, I.kept old, ?_, q⟩
  unfold maxP
  split
  · exact ⟨t', rfl⟩
  · exact ⟨t, rfl⟩
theorem call_minX (hc : X.calm = true) : CallR X (.builtin "min") (fun xs H Q => ∃ x y : Str, xs = [.str x, .str y] ∧ Q (.str (minP x y)) H) := by
  intro pins s σ H xs us Q I r h
  obtain ⟨x, y, rfl, q⟩ := h
  obtain ⟨u, w', rfl, ⟨t, rfl⟩, ⟨t', rfl⟩⟩ := vals2 r
  refine min_strX (I.ok.hd hc) fun hp tk old => ?_
  refine ⟨.str (minP x y), H, I.kept old, ?_, q⟩
  unfold minP
  split
  · exact ⟨t', rfl⟩
  · exact ⟨t, rfl⟩
end
end Z
namespace Z
open PySem PySem.W PySem.Calls PyProof.Rows L2
/-! ### values of a dict with tuple keys -/
section
variable {X : Cx}
/-- what stands in the entries of a dict with tuple keys -/
theorem kt_raw {H : Hp} {h : Heap} {a : Addr} {kvs : List (List Key × V)} (ok : HOk X.prog X.w H h) (e : H a = some (.dT kvs)) : kvs.length ≤ sizeLine ∧ (a == sysModules) = false ∧ ∃ es ep, h.DictRaw a es ep ∧ es.size = kvs.length ∧
    ∀ i (hi : i < es.size) k v, kvs[i]? = some (k, v) → (∃ b, es[i].key = .ref b ∧ H b = some (.tup (k.map kV))) ∧ RelV v es[i].val := by
  obtain ⟨z, hd, xs, rel, o, es, ep, ho, hx, hdat, hes, his, hn⟩ := dt_of ok e
  have hs : es.size = kvs.length := by rw [size_of_entries hes, Paired.length rel]
  refine ⟨z, hd, es, ep, ⟨o, ho, hx, hdat⟩, hs, fun i hi k v hk => ?_⟩
  obtain ⟨x, hp, h1, h2, h3⟩ := pair_get rel hk
  have he := entry_at hes i
  rw [hp, Array.getElem?_eq_getElem hi] at he
  have he' : es[i] = entryOfKey (tupleKind (mixKind X.prog X.w)) x := Option.some.inj he
  rw [he']
  exact ⟨⟨x.2.1, rfl, h2⟩, h3⟩
def rValuesT : V → List V → Hp → VK → Prop := fun x xs H Q => ∃ (a : Addr) (kvs : List (List Key × V)), x = .ref a ∧ xs = [] ∧ H a = some (.dT kvs) ∧ ∀ p, H p = none → Q (.ref p) (upd H p (valuesO p a))
theorem mt_valuesT : MtR X "dict.values" rValuesT := by
  intro pins s σ H x xs v us Q I rx rxs h
  obtain ⟨a, kvs, rfl, rfl, ha, q⟩ := h
  cases rx
  cases rxs
  obtain ⟨z, hd, es, ep, hr, hs, he⟩ := kt_raw I.hok ha
  have hf : H s.heap.objs.size = none := I.hok.fresh (Nat.le_refl _)
  refine call_meetsIn PySem.F.slot_dict_values hr.typeIs PySem.F.entry_dict_values (PySem.F.args_dict_values_1 _) (meets_dict_values_raw (prog := X.prog) (w := X.w) a hd) ⟨⟨es, ep, hr⟩, ?_⟩
  exact ⟨.ref s.heap.objs.size, upd H s.heap.objs.size (valuesO s.heap.objs.size a), I.laid (t' := s.toks) (fun b u e => Heap.get?_push_of_some _ e) (Nat.le_refl _) (valuesO_ok (Heap.get?_push_size _ rfl)), rfl, q _ hf⟩
/-- list of such a view -/
def rListValsT : List V → Hp → VK → Prop := fun xs H Q => ∃ (p a : Addr) (kvs : List (List Key × V)), xs = [.ref p] ∧ H p = some (valuesO p a) ∧ H a = some (.dT kvs) ∧ ∀ r, H r = none → Q (.ref r) (upd H r (.lst (kvs.map (·.2))))
theorem cr_listValsT (hc : X.calm = true) : CallR X (.type "list") rListValsT := by
  intro pins s σ H xs us Q I r h
  obtain ⟨p, a, kvs, rfl, hp, ha, q⟩ := h
  obtain ⟨u, rfl, ru⟩ := vals1 r
  obtain rfl : u = Value.ref p := ru
  have view : s.heap.IsValuesView p a := (show ObjOk X.prog X.w H s.heap p (valuesO p a) from I.hok p _ hp).1
  obtain ⟨z, lo, es, ep, hr, hs, he⟩ := kt_raw I.hok ha
  have hh : X.A.handled = none := I.ok.hd hc
  refine kdl_call (KdlSrc.rawValues (prog := X.prog) (w := X.w)) hh ⟨view, hr⟩ (by omega) fun h' tk acc c kp hg hI => ?_
  have fr : H s.heap.objs.size = none := I.hok.fresh (Nat.le_refl _)
  have vo : Vals (kvs.map (·.2)) acc.toList := by
    refine vals_of_each (R := fun v (kv : List Key × V) => RelV kv.2 v) (f := fun kv => kv.2) (each_of_ix (by rw [Array.length_toList, hI.1, hs]) fun i v b hv hb => ?_) fun v b h => h
    rw [Array.getElem?_toList] at hv
    obtain ⟨hi, rfl⟩ := hI.2 i v hv
    exact (he i hi b.1 b.2 hb).2
  refine ⟨.ref s.heap.objs.size, upd H s.heap.objs.size (.lst (kvs.map (·.2))), I.laid (t' := tk) kp (Nat.le_refl _) ⟨?_, acc.toList, c, vo, by rw [Array.toArray_toList]; exact hg⟩, rfl, q _ fr⟩
  rw [List.length_map]; exact z
/-! ### sorted of a dict with tuple keys -/
def ktD (k : List Key) : D := .tup (k.map kD)
theorem ktD_dv {K : Frag} {H : Hp} {a : Addr} {k : List Key} (h : H a = some (.tup (k.map kV))) : DV K H (ktD k) (.ref a) := ⟨a, _, rfl, SqT.of h, kD_dvs k⟩
/-- tuples of these keys, one by one -/
def KsAt (H : Hp) : List (List Key) → List V → Prop
  | [], us => us = []
  | k :: r, us => ∃ a t, us = .ref a :: t ∧ H a = some (.tup (k.map kV)) ∧ KsAt H r t
theorem each_ks {H : Hp} {β : Type} {g : β → List Key} : ∀ {l : List β} {vs : List Value}, EachIs (fun u b => ∃ a, u = Value.ref a ∧ H a = some (.tup ((g b).map kV))) vs l → ∃ us, KsAt H (l.map g) us ∧ Vals us vs
  | [], _, h => by cases h; exact ⟨[], rfl, .nil⟩
  | b :: l, _, h => by
    cases h with
    | cons h1 h2 =>
      obtain ⟨a, e1, e2⟩ := h1
      obtain ⟨us, d, r2⟩ := each_ks h2
      subst e1
      exact ⟨V.ref a :: us, ⟨a, us, rfl, e2, d⟩, .cons rfl r2⟩
def rSortKeysT : List V → Hp → VK → Prop := fun vs H Q => ∃ (a : Addr) (kvs : List (List Key × V)) (β : Type) (l : List β) (g : β → List Key), vs = [.ref a] ∧ H a = some (.dT kvs) ∧ kvs.map (·.1) = l.map g ∧ AllAlike (l.map fun b => py (ktD (g b))) ∧ PySem.W.Sortable (l.map fun b => py (ktD (g b))) ∧ (∀ b ∈ l, (py (ktD (g b))).depth ≤ 60) ∧
  ∀ (ys : List V) (r : Addr), H r = none → KsAt H ((l.mergeSort (dle fun b => ktD (g b))).map g) ys → Q (.ref r) (upd H r (.lst ys))
theorem cr_sortKeysT (hu : X.A.units + 65 < cLine) (hc : X.calm = true) : CallR X (.builtin "sorted") rSortKeysT := by
  intro pins s σ H vs us Q I r h
  obtain ⟨a, kvs, β, l, g, rfl, ha, hkl, hal, hsb, hdp, q⟩ := h
  obtain ⟨u, rfl, ru⟩ := vals1 r
  obtain rfl : u = Value.ref a := ru
  obtain ⟨z, lo, es, ep, hr, hs, he⟩ := kt_raw I.hok ha
  have hh : X.A.handled = none := I.ok.hd hc
  have ll : l.length = kvs.length := by have := congrArg List.length hkl; rw [List.length_map, List.length_map] at this; omega
  refine sorted_by (enc := fun b => py (ktD (g b))) (bs := l) (C := fun h' vs => (∀ b o, s.heap.get? b = some o → h'.get? b = some o) ∧ EachIs (fun u b => ∃ c, u = Value.ref c ∧ H c = some (.tup ((g b).map kV))) vs l)
    (fun {R'} k => kdu_collect (KdlSrc.rawDict (prog := X.prog) (w := X.w) lo) hh hr (by omega) fun h' tk acc kp hI => k h' tk acc.toList kp ⟨kp, each_of_ix (by rw [Array.length_toList, hI.1, ll, hs]) fun i v b hv hb => ?_⟩)
    (fun h' vs c => c.2.mono fun u b ⟨c', e1, e2⟩ => by
      subst e1
      obtain ⟨as, rr⟩ := Dp.reads I _ _ _ (ktD_dv (K := X.K) e2).dp (show RelV (.ref c') (Value.ref c') from rfl)
      exact ⟨as, PyProof.Rows.Reads.keeps c.1 rr⟩) hal hsb (by omega) (fun b m => hu_big hu (hdp b m)) fun h1 h' tk b vs out n c kp1 kp2 eb hb lo' eo => ?_
  · rw [Array.getElem?_toList] at hv
    obtain ⟨hi, rfl⟩ := hI.2 i v hv
    obtain ⟨⟨k, w⟩, hk⟩ : ∃ p, kvs[i]? = some p := ⟨_, List.getElem?_eq_getElem (by omega)⟩
    have ek : k = g b := by
      have h1 : (kvs.map (·.1))[i]? = some k := by rw [List.getElem?_map, hk]; rfl
      rw [hkl, List.getElem?_map, hb] at h1
      exact (Option.some.inj h1).symm
    obtain ⟨c, c1, c2⟩ := (he i hi k w hk).1
    exact ⟨c, c1, by rw [← ek]; exact c2⟩
  · have ng : s.heap.get? b = none := by rw [← eb]; exact no_get kp1
    have fr : H b = none := I.hok.gone ng
    have eo2 : EachIs (fun u b => ∃ c, u = Value.ref c ∧ H c = some (.tup ((g b).map kV))) out (l.mergeSort (dle fun b => ktD (g b))) := eo.mono fun v k ⟨j, h1, h2⟩ => by
      obtain ⟨k', hk', rk⟩ := each_get c.2 h1
      rw [h2] at hk'
      obtain rfl := Option.some.inj hk'
      exact rk
    obtain ⟨ys, dy, ry⟩ := each_ks eo2
    refine ⟨.ref b, upd H b (.lst ys), I.laidN (t' := tk) (fun b o g => kp2 b o (kp1 b o g)) ng fr ⟨?_, out, n, ry, hb⟩, rfl, q ys b fr dy⟩
    rw [vals_len ry, lo', ll]; exact z
/-- list.count of data -/
def rCountD (K : Frag) : V → List V → Hp → VK → Prop := fun x xs H Q => ∃ (a : Addr) (y : V) (us : List V) (d : D) (ds : List D), x = .ref a ∧ xs = [y] ∧ SqL K H a us ∧ DVs K H ds us ∧ DV K H d y ∧ Okd d ∧ Okl ds ∧ Q (.int (ds.countP fun z => eqD z d : Nat)) H
theorem mt_countDD (hu : X.A.units + 65 < cLine) : MtR X "list.count" (rCountD X.K) := by
  intro pins s σ H x xs v us Q I rx rxs h
  obtain ⟨a, y, ws, d, ds, rfl, rfl, hs, hds, hd, sd, sl, q⟩ := h
  cases rx
  obtain ⟨u, rfl, ru⟩ := rxs.one
  obtain ⟨bs, r1⟩ := Dp.reads I _ y u hd.dp ru
  have hxs : PyData.canLayAll0 (pys ds) = true := SeqAt.canLay_of_shaped sl
  have hroom : X.A.units + 1 + min (PyData.depthAll (pys ds)) (py d).depth < cLine := room_in_shaped sd hu
  obtain ⟨its, rv, ⟨⟨cls, dd, data, sls⟩, n, ho, hc, hdn, hdt⟩, hlen⟩ := I.list hs
  simp only at hc hdt
  subst hc hdt
  obtain ⟨as, h4⟩ := Dp.readsAll I (pys ds) _ its hds.dpa rv
  have hmap : its.map (SeqAt.readOf s.heap) = pys ds := SeqAt.readsAll_map (pys ds) its as hxs h4
  refine call_meets PySem.F.slot_list_count ⟨_, ho, rfl⟩ PySem.F.entry_list_count (PySem.F.args_list_count_2 _ _)
    (SeqAt.list_countAt a its.toArray n dd sls u (fun z => PyData.eqv (SeqAt.readOf s.heap z) (py d))) ⟨ho, SeqAt.items_eqAt (vs := its.toArray) (show ReadsAll s.heap its.toArray.toList (pys ds) as from h4) r1 hxs (SeqAt.canLay_of_shaped sd) hroom, ?_⟩
  have ec : its.toArray.toList.countP (fun z => PyData.eqv (SeqAt.readOf s.heap z) (py d)) = ds.countP fun z => eqD z d := by
    have e1 : (its.map (SeqAt.readOf s.heap)).countP (fun z => PyData.eqv z (py d)) = ds.countP fun z => eqD z d := by
      rw [hmap, pys_map, List.countP_map]; rfl
    rw [← e1, List.countP_map]; rfl
  refine ⟨.int (ds.countP fun z => eqD z d : Nat), H, I.tok _, ⟨s.toks, ?_⟩, q⟩
  show Value.int _ s.toks = Value.int _ s.toks
  rw [ec]
end
/-- a field, read in a comprehension -/
theorem pe_fldQ {X : Cx} {K : Frag} {e : Expr} {f : Str} {pos : Pos} {ta : TE} (h : X.K = K) (he : PE X e ta) (hb : attributeBase e f X.env (eval e X.env) = eval e X.env) : PE X (.Attribute e f pos) (tFld K ta f) := by subst h; exact pe_fld he hb
end Z
namespace Z
open PySem L2 SX
def top (i : Nat) : Stmt := PySem.Challenge.pw_criermoot_k69_whole_readers.main.body.getD i (.Pass ⟨0, 0, 0, 0⟩)
abbrev s_Reader____init__ : Stmt := inClass (top 1) 0
abbrev N_Reader____init__ : List Str := ["self"]
theorem sc_Reader____init__ : FnScope ["self"] ["self"] (defScope s_Reader____init__) := ⟨rfl, rfl, rfl, by decide +kernel, rfl, by decide +kernel, by decide +kernel⟩
abbrev s_Reader__new : Stmt := inClass (top 1) 1
abbrev N_Reader__new : List Str := ["self", "view", "number", "id"]
theorem sc_Reader__new : FnScope ["self", "view", "number", "id"] ["self", "view"] (defScope s_Reader__new) := ⟨rfl, rfl, rfl, by decide +kernel, rfl, by decide +kernel, by decide +kernel⟩
abbrev s_Reader__read : Stmt := inClass (top 1) 2
abbrev N_Reader__read : List Str := ["self", "id"]
theorem sc_Reader__read : FnScope ["self", "id"] ["self", "id"] (defScope s_Reader__read) := ⟨rfl, rfl, rfl, by decide +kernel, rfl, by decide +kernel, by decide +kernel⟩
abbrev s_Reader__meet : Stmt := inClass (top 1) 3
abbrev N_Reader__meet : List Str := ["self", "other", "id"]
theorem sc_Reader__meet : FnScope ["self", "other", "id"] ["self", "other"] (defScope s_Reader__meet) := ⟨rfl, rfl, rfl, by decide +kernel, rfl, by decide +kernel, by decide +kernel⟩
abbrev s_Reader__ids : Stmt := inClass (top 1) 4
abbrev N_Reader__ids : List Str := ["self"]
theorem sc_Reader__ids : FnScope ["self"] ["self"] (defScope s_Reader__ids) := ⟨rfl, rfl, rfl, by decide +kernel, rfl, by decide +kernel, by decide +kernel⟩
abbrev s__law_mix : Stmt := top 3
abbrev N__law_mix : List Str := ["seed", "turn", "number"]
theorem sc__law_mix : FnScope ["seed", "turn", "number"] ["seed", "turn"] (defScope s__law_mix) := ⟨rfl, rfl, rfl, by decide +kernel, rfl, by decide +kernel, by decide +kernel⟩
abbrev s__law_source : Stmt := top 4
abbrev N__law_source : List Str := ["script", "seed", "k"]
theorem sc__law_source : FnScope ["script", "seed", "k"] ["script"] (defScope s__law_source) := ⟨rfl, rfl, rfl, by decide +kernel, rfl, by decide +kernel, by decide +kernel⟩
abbrev s__law_draw : Stmt := top 5
abbrev N__law_draw : List Str := ["source", "many", "cell", "value"]
theorem sc__law_draw : FnScope ["source", "many", "cell", "value"] ["source", "many"] (defScope s__law_draw) := ⟨rfl, rfl, rfl, by decide +kernel, rfl, by decide +kernel, by decide +kernel⟩
abbrev s__law_pick : Stmt := top 6
abbrev N__law_pick : List Str := ["source", "row"]
theorem sc__law_pick : FnScope ["source", "row"] ["source", "row"] (defScope s__law_pick) := ⟨rfl, rfl, rfl, by decide +kernel, rfl, by decide +kernel, by decide +kernel⟩
abbrev s__law_shuffled : Stmt := top 7
abbrev N__law_shuffled : List Str := ["source", "row", "left", "done", "k"]
theorem sc__law_shuffled : FnScope ["source", "row", "left", "done", "k"] ["source", "row"] (defScope s__law_shuffled) := ⟨rfl, rfl, rfl, by decide +kernel, rfl, by decide +kernel, by decide +kernel⟩
abbrev s__law_new_name : Stmt := top 8
abbrev N__law_new_name : List Str := ["source", "used", "letters", "size", "name", "k", "tried"]
theorem sc__law_new_name : FnScope ["source", "used", "letters", "size", "name", "k", "tried"] ["source", "used"] (defScope s__law_new_name) := ⟨rfl, rfl, rfl, by decide +kernel, rfl, by decide +kernel, by decide +kernel⟩
abbrev s__law_names : Stmt := top 9
abbrev N__law_names : List Str := ["source", "many", "used", "k"]
theorem sc__law_names : FnScope ["source", "many", "used", "k"] ["source", "many"] (defScope s__law_names) := ⟨rfl, rfl, rfl, by decide +kernel, rfl, by decide +kernel, by decide +kernel⟩
abbrev s__law_is_int : Stmt := top 10
abbrev N__law_is_int : List Str := ["value"]
theorem sc__law_is_int : FnScope ["value"] ["value"] (defScope s__law_is_int) := ⟨rfl, rfl, rfl, by decide +kernel, rfl, by decide +kernel, by decide +kernel⟩
abbrev s__law_same : Stmt := top 11
abbrev N__law_same : List Str := ["actual", "due", "k"]
theorem sc__law_same : FnScope ["actual", "due", "k"] ["actual", "due"] (defScope s__law_same) := ⟨rfl, rfl, rfl, by decide +kernel, rfl, by decide +kernel, by decide +kernel⟩
abbrev s__law_idents : Stmt := top 12
abbrev N__law_idents : List Str := ["source", "names", "found", "k", "number", "ident"]
theorem sc__law_idents : FnScope ["source", "names", "found", "k", "number", "ident"] ["source"] (defScope s__law_idents) := ⟨rfl, rfl, rfl, by decide +kernel, rfl, by decide +kernel, by decide +kernel⟩
abbrev s__law_view : Stmt := top 13
abbrev N__law_view : List Str := ["source", "idents", "left", "number", "view", "ident"]
theorem sc__law_view : FnScope ["source", "idents", "left", "number", "view", "ident"] ["source", "idents"] (defScope s__law_view) := ⟨rfl, rfl, rfl, by decide +kernel, rfl, by decide +kernel, by decide +kernel⟩
abbrev s__law_change : Stmt := top 14
abbrev N__law_change : List Str := ["source", "view", "idents", "there", "left", "last", "pair", "ident"]
theorem sc__law_change : FnScope ["source", "view", "idents", "there", "left", "last", "pair", "ident"] ["source", "view", "idents"] (defScope s__law_change) := ⟨rfl, rfl, rfl, by decide +kernel, rfl, by decide +kernel, by decide +kernel⟩
abbrev s__law_new_due : Stmt := top 15
abbrev N__law_new_due : List Str := ["view", "ids", "pair"]
theorem sc__law_new_due : FnScope ["view", "ids", "pair"] ["view", "ids"] (defScope s__law_new_due) := ⟨rfl, rfl, rfl, by decide +kernel, rfl, by decide +kernel, by decide +kernel⟩
abbrev s__law_look : Stmt := top 16
abbrev N__law_look : List Str := ["source", "reader", "ids", "view", "share", "due", "pair"]
theorem sc__law_look : FnScope ["source", "reader", "ids", "view", "share", "due", "pair"] ["source", "reader", "ids", "view", "share"] (defScope s__law_look) := ⟨rfl, rfl, rfl, by decide +kernel, rfl, by decide +kernel, by decide +kernel⟩
abbrev s__law_join : Stmt := top 17
abbrev N__law_join : List Str := ["readers", "rows", "one", "two", "ident"]
theorem sc__law_join : FnScope ["readers", "rows", "one", "two", "ident"] ["readers", "rows", "one", "two"] (defScope s__law_join) := ⟨rfl, rfl, rfl, by decide +kernel, rfl, by decide +kernel, by decide +kernel⟩
abbrev s__law_all_right : Stmt := top 18
abbrev N__law_all_right : List Str := ["readers", "rows", "k"]
theorem sc__law_all_right : FnScope ["readers", "rows", "k"] ["readers", "rows"] (defScope s__law_all_right) := ⟨rfl, rfl, rfl, by decide +kernel, rfl, by decide +kernel, by decide +kernel⟩
abbrev s__law_step : Stmt := top 19
abbrev N__law_step : List Str := ["source", "readers", "rows", "many", "views", "idents", "way", "who", "view", "ident", "one", "two"]
theorem sc__law_step : FnScope ["source", "readers", "rows", "many", "views", "idents", "way", "who", "view", "ident", "one", "two"] ["source", "readers", "rows", "many", "views", "idents"] (defScope s__law_step) := ⟨rfl, rfl, rfl, by decide +kernel, rfl, by decide +kernel, by decide +kernel⟩
abbrev s__law_chain : Stmt := top 20
abbrev N__law_chain : List Str := ["readers", "rows", "many", "k"]
theorem sc__law_chain : FnScope ["readers", "rows", "many", "k"] ["readers", "rows", "many"] (defScope s__law_chain) := ⟨rfl, rfl, rfl, by decide +kernel, rfl, by decide +kernel, by decide +kernel⟩
abbrev s__law_tour : Stmt := top 21
abbrev N__law_tour : List Str := ["source", "readers", "rows", "many", "views", "known", "told", "last", "view", "who", "fresh", "pair", "k"]
theorem sc__law_tour : FnScope ["source", "readers", "rows", "many", "views", "known", "told", "last", "view", "who", "fresh", "pair", "k"] ["source", "readers", "rows", "many", "views"] (defScope s__law_tour) := ⟨rfl, rfl, rfl, by decide +kernel, rfl, by decide +kernel, by decide +kernel⟩
abbrev s_law : Stmt := top 22
abbrev N_law : List Str := ["script", "source", "idents", "views", "many", "readers", "rows", "step", "k", "reader"]
theorem sc_law : FnScope ["script", "source", "idents", "views", "many", "readers", "rows", "step", "k", "reader"] ["script"] (defScope s_law) := ⟨rfl, rfl, rfl, by decide +kernel, rfl, by decide +kernel, by decide +kernel⟩
structure Tx (mg : Str → Option Value) : Prop where
  n_abs : mg "abs" = none
  n_bool : mg "bool" = none
  n_int : mg "int" = none
  n_isinstance : mg "isinstance" = none
  n_len : mg "len" = none
  n_list : mg "list" = none
  n_max : mg "max" = none
  n_range : mg "range" = none
  n_sorted : mg "sorted" = none
  n_str : mg "str" = none
  n_tuple : mg "tuple" = none
structure To (K : PySem.W.Frag) (mg : Str → Option Value) (A_Reader : Addr) : Prop where
  g_Reader : mg "Reader" = some (.ref A_Reader)
  c_Reader : Cls K A_Reader
  n_Reader_read : NoAttr K A_Reader "_read"
end Z
namespace Z
open PySem PySem.Spec PyProof.Rows L2 SX
/-! ### enumerate(text) -/
def ItEs (x : Str) : It := ⟨fun i _ => i < x.cps.size, fun i H v H' => ∃ (T : Addr) (c : Nat), v = .ref T ∧ H T = none ∧ H' = upd H T (.tup [.int (i : Nat), .str ⟨#[c]⟩]) ∧ x.cps[i]? = some c, fun i _ => i = x.cps.size⟩
theorem turn_enumS {P : Program} {w : World} {K : PySem.W.Frag} {elts : List Expr} {kk : Nat} {tpos : Pos} (x : Str) (t : Tok) (e it : Addr) :
    Turn P w K (.Tuple elts kk tpos) (ItEs x) [e, it] e (fun i h => (∃ old, IsEnum h e it ((i : Nat) : Int) old) ∧ h.IsStrIter it (strIterType x) x t i ∧ e ≠ it) where
  mem := by simp
  obj := fun i h st b hb => by
    obtain ⟨⟨old, he⟩, ⟨o, ho, hc, hd⟩, _⟩ := st
    have e' : b = e ∨ b = it := by simpa using hb
    rcases e' with z | z
    · rw [z]; exact ⟨_, he, fun v q => nomatch q⟩
    · rw [z]; exact ⟨o, ho, fun v q => by rw [hd] at q; cases q⟩
  keep := fun i h h' st k => by
    obtain ⟨⟨old, he⟩, ⟨o, ho, r⟩, hne⟩ := st
    exact ⟨⟨old, k e (by simp) _ he⟩, ⟨o, k it (by simp) o ho, r⟩, hne⟩
  item := by
    intro X hP hw hK hc i pins s σ H E I hf st hg
    subst hP hw hK
    obtain ⟨⟨old, he⟩, hit, hne⟩ := st
    have hel : e < s.heap.objs.size := Heap.lt_size he
    have hil : it < s.heap.objs.size := by obtain ⟨_, q, _⟩ := hit; exact Heap.lt_size q
    have D := Draws.text (prog := X.prog) (w := X.w) (A := X.A.in1) (I.ok.hd hc) it x t
    refine wpAny_pyNext_enum_itemC D he hit hg hne (by simp [hne]) fun v h' tk hv ho hit' hT hsz hk => ?_
    obtain ⟨c, u, hcx, rfl⟩ := hv
    refine ⟨_, rfl, wpAny_letOwnedTupleGo_enum (s := { s with heap := h', toks := tk + 1 }) ho fun h'' he' sb => ?_⟩
    have hT2 : h''.get? s.heap.objs.size = some { cls := .type "tuple", data := .seq #[.int i tk, .str ⟨#[c]⟩ u] } := (sb.2 _ (Nat.ne_of_gt hel)).trans hT
    have new : ObjOk X.prog X.w (upd H s.heap.objs.size (.tup [.int (i : Nat), .str ⟨#[c]⟩])) h'' s.heap.objs.size (.tup [.int (i : Nat), .str ⟨#[c]⟩]) :=
      ⟨by show 2 ≤ sizeLine; decide, [.int i tk, .str ⟨#[c]⟩ u], .cons ⟨_, rfl⟩ (.cons ⟨_, rfl⟩ .nil), ⟨_, hT2, rfl, _, rfl⟩⟩
    have I1 : Inv X pins σ (upd H s.heap.objs.size (.tup [.int (i : Nat), .str ⟨#[c]⟩])) { s with heap := h'', toks := tk + 1 } :=
      I.turnedNew (ch := [e, it]) (fun b ob hb q => (sb.2 b (fun z => hb (by simp [z]))).trans (hk b ob (fun z => hb (by simp [z])) (fun z => hb (by simp [z])) q)) hf (Nat.le_refl _) new
    refine ⟨.ref s.heap.objs.size, _, I1, rfl, ⟨_, c, rfl, I.hok.fresh (Nat.le_refl _), rfl, hcx⟩, ⟨⟨.str ⟨#[c]⟩ u, ?_⟩, ?_, hne⟩, fun b hb => ?_⟩
    · have e1 : ((i + 1 : Nat) : Int) = (i : Int) + 1 := by omega
      rw [e1]; exact he'
    · obtain ⟨o, q, r⟩ := hit'
      exact ⟨o, (sb.2 it (Ne.symm hne)).trans q, r⟩
    · have hb' : b < s.heap.objs.size := by
        have e' : b = e ∨ b = it := by simpa using hb
        rcases e' with z | z
        · rw [z]; exact hel
        · rw [z]; exact hil
      rw [upd_ne (Nat.ne_of_lt hb')]
      exact (hf b hb).1
  done := by
    intro X hP hw hK hc i pins s σ H E I hf st hg
    subst hP hw hK
    obtain ⟨⟨old, he⟩, hit, hne⟩ := st
    obtain ⟨f0, f1, f2, f3, f4, f5⟩ := hf it (by simp)
    have hg' : i = x.cps.size := hg
    subst hg'
    have D := Draws.text (prog := X.prog) (w := X.w) (A := X.A.in1) (I.ok.hd hc) it x t
    exact wpAny_pyNext_enum_endD D he hit fun h' eb => ⟨rfl, I.turned (t' := s.toks) (fun b o hb q => eb b o hb q) f0 f1 f3 f4 f5⟩
  self := fun A i s Q E st h => let ⟨⟨_, he⟩, _⟩ := st; wpAny_pyIter_enum he h
def iEnumS (ta : TA) : TI := fun σ H R => ta σ H fun vs H1 => ∃ x : Str, vs = [.str x] ∧ R (ItEs x) H1
theorem pi_enumS {X : Cx} {e : Expr} {ta : TA} {p pos tpos : Pos} {elts : List Expr} {kk : Nat} (hg : Gl X "enumerate") (hm : X.mg "enumerate" = none) (ha : PA X [e] ta) (hs : starEach [e] X.env = [(false, eval e X.env)] := by rfl) :
    PI X (.Tuple elts kk tpos) (.Call (.Name "enumerate" p) [e] [] pos) (iEnumS ta) := by
  refine ⟨fun pins s σ H R I h => ?_⟩
  refine Call_ (ld_blt I hg hm boot_enumerate (PyProof.Rows.callWith_type1 (thn (ha.run pos pins s σ H _ I h) fun us s1 ⟨vs, H1, I1, r1, q1⟩ => ?_) hs rfl))
  obtain ⟨x, ex, q⟩ := q1
  subst ex
  cases r1 with
  | cons r rr =>
    cases rr
    obtain ⟨t, rfl⟩ := r
    refine call_enumerate_str fun h' he hit hsz hk => wpAny_pyIter_enum he ?_
    have I2 : Inv X pins σ H1 { s1 with heap := h' } := I1.kept (t' := s1.toks) hk
    refine ⟨s1.heap.objs.size + 1, [s1.heap.objs.size + 1, s1.heap.objs.size], _, _, H1, rfl, I2, turn_enumS x t (s1.heap.objs.size + 1) s1.heap.objs.size, ⟨⟨.none, he⟩, hit, Nat.succ_ne_self _⟩, fun b hb => ?_, q⟩
    have e' : b = s1.heap.objs.size + 1 ∨ b = s1.heap.objs.size := by simpa using hb
    have hle : s1.heap.objs.size ≤ b := by
      rcases e' with z | z
      · rw [z]; exact Nat.le_add_right _ _
      · rw [z]; exact Nat.le_refl _
    exact I1.fpOk hle (I1.hok.fresh hle)
theorem for_enumS {l : List Nat} {g : TG} {tb : TS} {D : Ends} {σ : L2.St} {H : Hp} (Pv : Nat → L2.St → Hp → Prop) (h0 : Pv 0 σ H)
    (hs : ∀ i c T σ H, l[i]? = some c → Pv i σ H → H T = none → g (.ref T) σ (upd H T (.tup [.int (i : Nat), .str (S [c])])) fun σ2 H2 => tb { D with nx := Pv (i + 1), ct := Pv (i + 1), bk := D.nx } σ2 H2) (hd : ∀ σ H, Pv l.length σ H → D.nx σ H) :
    ∃ W : Nat → Nat → L2.St → Hp → Prop, (∃ m, W 0 m σ H) ∧ ∀ i m σ H, W i m σ H →
      ((ItEs (S l)).stop i H ∧ D.nx σ H) ∨ ((ItEs (S l)).go i H ∧ ∃ N : L2.St → Hp → Prop, (∀ σ' H', N σ' H' → ∃ m', m' < m ∧ W (i + 1) m' σ' H') ∧ ∀ x H', (ItEs (S l)).yld i H x H' → g x σ H' fun σ2 H2 => tb { D with nx := N, ct := N, bk := D.nx } σ2 H2) := by
  refine ⟨fun i m σ H => m = l.length - i ∧ i ≤ l.length ∧ Pv i σ H, ⟨l.length, by simp, Nat.zero_le _, h0⟩, ?_⟩
  rintro i m σ H ⟨rfl, hi, p⟩
  by_cases hlt : i < l.length
  · refine .inr ⟨by show i < l.toArray.size; simpa using hlt, Pv (i + 1), fun σ' H' p' => ⟨l.length - (i + 1), by omega, rfl, hlt, p'⟩, fun x H' y => ?_⟩
    obtain ⟨T, c, rfl, hT, rfl, hc⟩ := y
    exact hs i c T _ _ (by simpa using hc) p hT
  · have e : i = l.length := by omega
    subst e
    exact .inl ⟨by show l.length = l.toArray.size; simp, hd σ H p⟩
end Z
namespace Z
open PySem L2 SX
/-! ### where a beginning stands in a glob -/
abbrev nts (l : List Nat) : List V := l.map fun k : Nat => V.int (k : Int)
def st0 (g : List Nat) : Nat → Prop
  | 0 => True
  | i + 1 => g[i]? = some 42 ∧ st0 g i
def nxt (g : List Nat) (M : Nat → Prop) (c : Nat) : Nat → Prop
  | 0 => False
  | i + 1 => (g[i]? = some 42 ∧ (nxt g M c i ∨ M (i + 1))) ∨ (g[i]? ≠ some 42 ∧ M i ∧ (g[i]? = some 63 ∨ g[i]? = some c))
def stand (g b : List Nat) : Nat → Prop := b.foldl (fun M c => nxt g M c) (st0 g)
/-- closed along stars -/
def closed (g : List Nat) (M : Nat → Prop) : Prop := ∀ y, M y → g[y]? = some 42 → M (y + 1)
def within (g : List Nat) (M : Nat → Prop) : Prop := ∀ y, M y → y ≤ g.length
theorem st0_closed (g : List Nat) : closed g (st0 g) := fun _ h e => ⟨e, h⟩
theorem st0_within (g : List Nat) : within g (st0 g) := fun y h => by
  cases y with
  | zero => omega
  | succ i => have := (List.getElem?_eq_some_iff.mp h.1).1; omega
theorem nxt_closed (g : List Nat) (M : Nat → Prop) (c : Nat) : closed g (nxt g M c) := fun _ h e => .inl ⟨e, .inl h⟩
theorem nxt_within (g : List Nat) (M : Nat → Prop) (c : Nat) : within g (nxt g M c) := fun y h => by
  cases y with
  | zero => omega
  | succ i =>
    rcases h with ⟨h, _⟩ | ⟨_, _, h | h⟩ <;> (have := (List.getElem?_eq_some_iff.mp h).1; omega)
theorem stand_nil (g : List Nat) : stand g [] = st0 g := rfl
theorem stand_snoc (g b : List Nat) (c : Nat) : stand g (b ++ [c]) = nxt g (stand g b) c := by unfold stand; rw [List.foldl_append]; rfl
theorem stand_ok (g b : List Nat) : closed g (stand g b) ∧ within g (stand g b) := by
  unfold stand
  rw [← List.reverse_reverse b, List.foldl_reverse]
  cases b.reverse with
  | nil => exact ⟨st0_closed g, st0_within g⟩
  | cons c r => exact ⟨nxt_closed g _ c, nxt_within g _ c⟩
/-- the places, ascending -/
def Asd (ps : List Nat) (M : Nat → Prop) : Prop := ps.Pairwise (· < ·) ∧ ∀ y, y ∈ ps ↔ M y
theorem asd_one : ∀ {a b : List Nat}, a.Pairwise (· < ·) → b.Pairwise (· < ·) → (∀ y, y ∈ a ↔ y ∈ b) → a = b
  | [], [], _, _, _ => rfl
  | [], y :: b, _, _, h => by have := (h y).mpr (by simp); cases this
  | x :: a, [], _, _, h => by have := (h x).mp (by simp); cases this
  | x :: a, y :: b, pa, pb, h => by
    have ha := List.pairwise_cons.mp pa
    have hb := List.pairwise_cons.mp pb
    have e : x = y := by
      have h1 := (h x).mp (by simp)
      have h2 := (h y).mpr (by simp)
      rcases List.mem_cons.mp h1 with e | e
      · exact e
      · rcases List.mem_cons.mp h2 with f | f
        · exact f.symm
        · have := hb.1 x e; have := ha.1 y f; omega
    subst e
    rw [asd_one ha.2 hb.2 fun z => ?_]
    constructor
    · intro hz
      rcases List.mem_cons.mp ((h z).mp (List.mem_cons_of_mem _ hz)) with e | e
      · subst e; have := ha.1 z hz; omega
      · exact e
    · intro hz
      rcases List.mem_cons.mp ((h z).mpr (List.mem_cons_of_mem _ hz)) with e | e
      · subst e; have := hb.1 z hz; omega
      · exact e
theorem Asd.one {a b : List Nat} {M : Nat → Prop} (x : Asd a M) (y : Asd b M) : a = b := asd_one x.1 y.1 fun z => (x.2 z).trans (y.2 z).symm
theorem Asd.congr {a : List Nat} {M N : Nat → Prop} (x : Asd a M) (h : ∀ y, M y ↔ N y) : Asd a N := ⟨x.1, fun y => (x.2 y).trans (h y)⟩
theorem Asd.len {a : List Nat} {M : Nat → Prop} {g : List Nat} (x : Asd a M) (w : within g M) : a.length ≤ g.length + 1 := by
  have : ∀ (n : Nat) (l : List Nat), l.Pairwise (· < ·) → (∀ y ∈ l, y < n) → l.length ≤ n := by
    intro n
    induction n with
    | zero => intro l _ h; cases l with
      | nil => simp
      | cons y r => have := h y (by simp); omega
    | succ n ih =>
      intro l p h
      rcases List.eq_nil_or_concat l with e | ⟨r, z, e⟩
      · subst e; simp
      · subst e
        rw [List.concat_eq_append] at p h ⊢
        have h2 := ih r (List.pairwise_append.mp p).1 (fun y hy => by
          have := (List.pairwise_append.mp p).2.2 y hy z (by simp)
          have := h z (by simp)
          omega)
        rw [List.length_append]; simp; exact h2
  exact this (g.length + 1) a x.1 fun y hy => by have := w y ((x.2 y).mp hy); omega
/-- a row of stars behind x -/
def isRun (g : List Nat) (x k : Nat) : Prop := (∀ j, j < k → g[x + j]? = some 42) ∧ g[x + k]? ≠ some 42
/-- places that are built up: L so far, m the greatest one that was put in, A what was put in -/
structure Up (g L : List Nat) (m : Nat) (A : Nat → Prop) : Prop where
  asc : L.Pairwise (· < ·)
  cl : ∀ y ∈ L, g[y]? = some 42 → y + 1 ∈ L
  gap : ∀ y z, m ≤ y → y ≤ z → z ∈ L → y ∈ L
  has : ∀ y, A y → y ∈ L
  only : ∀ (N : Nat → Prop), closed g N → (∀ y, A y → N y) → ∀ y ∈ L, N y
theorem Up.nil (g : List Nat) : Up g [] 0 (fun _ => False) := ⟨.nil, (fun _ h => by cases h), (fun _ _ _ _ h => by cases h), (fun _ h => h.elim), (fun _ _ _ _ h => by cases h)⟩
theorem Up.stay {g L : List Nat} {m x z : Nat} {A : Nat → Prop} (u : Up g L m A) (hm : m ≤ x) (hz : z ∈ L) (hx : x ≤ z) : Up g L x (fun y => A y ∨ y = x) :=
  ⟨u.asc, u.cl, fun y z a b c => u.gap y z (by omega) b c, fun y h => h.elim (u.has y) fun e => by subst e; exact u.gap _ _ hm hx hz, fun N c h => u.only N c fun y a => h y (.inl a)⟩
theorem run_mem {x k y : Nat} : y ∈ List.range' x (k + 1) ↔ x ≤ y ∧ y ≤ x + k := by rw [List.mem_range'_1]; omega
theorem Up.more {g L : List Nat} {m x k : Nat} {A : Nat → Prop} (u : Up g L m A) (hl : ∀ y ∈ L, y < x) (hr : isRun g x k) : Up g (L ++ List.range' x (k + 1)) x (fun y => A y ∨ y = x) := by
  refine ⟨?_, ?_, ?_, ?_, ?_⟩
  · exact List.pairwise_append.mpr ⟨u.asc, List.pairwise_lt_range', fun a ha b hb => by have := hl a ha; have := (run_mem.mp hb).1; omega⟩
  · intro y hy e
    rcases List.mem_append.mp hy with h | h
    · exact List.mem_append_left _ (u.cl y h e)
    · refine List.mem_append_right _ (run_mem.mpr ?_)
      have := run_mem.mp h
      by_cases q : y = x + k
      · subst q; exact absurd e hr.2
      · omega
  · intro y z hy hyz hz
    rcases List.mem_append.mp hz with h | h
    · have := hl z h; omega
    · have := run_mem.mp h
      exact List.mem_append_right _ (run_mem.mpr ⟨by omega, by omega⟩)
  · intro y h
    rcases h with h | e
    · exact List.mem_append_left _ (u.has y h)
    · subst e; exact List.mem_append_right _ (run_mem.mpr ⟨Nat.le_refl _, by omega⟩)
  · intro N c h y hy
    rcases List.mem_append.mp hy with q | q
    · exact u.only N c (fun z a => h z (.inl a)) y q
    · obtain ⟨q1, q2⟩ := run_mem.mp q
      have : ∀ j, j ≤ k → N (x + j) := by
        intro j
        induction j with
        | zero => intro _; exact h x (.inr rfl)
        | succ j ih => intro hj; exact c _ (ih (by omega)) (hr.1 j (by omega))
      have := this (y - x) (by omega)
      rwa [show x + (y - x) = y by omega] at this
theorem Up.congr {g L : List Nat} {m : Nat} {A B : Nat → Prop} (u : Up g L m A) (h : ∀ y, A y ↔ B y) : Up g L m B :=
  ⟨u.asc, u.cl, u.gap, fun y b => u.has y ((h y).mpr b), fun N c q => u.only N c fun y a => q y ((h y).mp a)⟩
/-- what is put in by the places of M that are taken -/
def puts (g : List Nat) (c : Nat) (T : Nat → Prop) (y : Nat) : Prop := (T y ∧ ∃ i, y = i + 1 ∧ g[i]? = some 42) ∨ ∃ i, y = i + 1 ∧ T i ∧ (g[i]? = some 63 ∨ g[i]? = some c)
theorem puts_next {g : List Nat} {M : Nat → Prop} {c : Nat} (hc : c ≠ 42) (cl : closed g M) {L : List Nat} {m : Nat} (u : Up g L m (puts g c M)) : Asd L (nxt g M c) := by
  refine ⟨u.asc, fun y => ⟨fun hy => u.only _ (nxt_closed g M c) (fun y p => ?_) y hy, ?_⟩⟩
  · rcases p with ⟨t, i, rfl, e⟩ | ⟨i, rfl, t, e⟩
    · exact .inl ⟨e, .inr t⟩
    · refine .inr ⟨fun q => ?_, t, e⟩
      rcases e with e | e <;> rw [e] at q
      · cases q
      · exact hc (Option.some.inj q)
  · intro h
    induction y with
    | zero => exact h.elim
    | succ i ih =>
      rcases h with ⟨e, h | h⟩ | ⟨_, t, e⟩
      · exact u.cl i (ih h) e
      · exact u.has _ (.inl ⟨h, i, rfl, e⟩)
      · exact u.has _ (.inr ⟨i, rfl, t, e⟩)
theorem start_asd {g L : List Nat} {m : Nat} (u : Up g L m (fun y => y = 0)) : Asd L (st0 g) := by
  refine ⟨u.asc, fun y => ⟨fun hy => u.only _ (st0_closed g) (fun y e => by subst e; exact True.intro) y hy, ?_⟩⟩
  intro h
  induction y with
  | zero => exact u.has 0 rfl
  | succ i ih => exact u.cl i (ih h.2) h.1
/-! ### promises -/
def sp_add_place : Sp := fun vs H Q _ => ∃ (g : Str) (p : Addr) (x : Nat) (L : List Nat) (m : Nat) (A : Nat → Prop), vs = [.str g, .ref p, .int (x : Int)] ∧ H p = some (.lst (nts L)) ∧ Up (tl g) L m A ∧ m ≤ x ∧ x ≤ (tl g).length ∧ (∀ y ∈ L, y ≤ (tl g).length) ∧ (tl g).length ≤ 10000 ∧
  ∀ (L' : List Nat) (H' : Hp), H' p = some (.lst (nts L')) → (∀ b, b ≠ p → H' b = H b) → Up (tl g) L' x (fun y => A y ∨ y = x) → (∀ y ∈ L', y ≤ (tl g).length) → Q .non H'
def sp_follows (K : PySem.W.Frag) : Sp := fun vs H Q _ => ∃ (g : Str) (a : Addr) (c : Nat) (ps : List Nat) (M : Nat → Prop), vs = [.str g, .ref a, .str (S [c])] ∧ SqT K H a (nts ps) ∧ Asd ps M ∧ closed (tl g) M ∧ within (tl g) M ∧ c ≠ 42 ∧ (tl g).length ≤ 10000 ∧
  ∀ (q : Addr) (qs : List Nat) (H' : Hp), Same H H' → H' q = some (.tup (nts qs)) → Asd qs (nxt (tl g) M c) → Q (.ref q) H'
def sp_standing (K : PySem.W.Frag) : Sp := fun vs H Q _ => ∃ (g b : Str), vs = [.str g, .str b] ∧ (∀ c ∈ tl b, c ≠ 42) ∧ (tl g).length ≤ 10000 ∧
  ∀ (q : Addr) (qs : List Nat) (H' : Hp), Same H H' → H' q = some (.tup (nts qs)) → Asd qs (stand (tl g) (tl b)) → Q (.ref q) H'
open Classical in
def sp_fits (K : PySem.W.Frag) : Sp := fun vs H Q _ => ∃ (g b : Str), vs = [.str g, .str b] ∧ (∀ c ∈ tl b, c ≠ 42) ∧ (tl g).length ≤ 10000 ∧
  ∀ (H' : Hp), Same H H' → Q (.bl (decide (stand (tl g) (tl b) (tl g).length))) H'
theorem inV_nts (n : Nat) (l : List Nat) : inV (V.int (n : Int)) (nts l) = decide (n ∈ l) := by
  unfold inV nts
  induction l with
  | nil => rfl
  | cons y ys ih =>
    rw [List.map_cons, List.any_cons, ih]
    by_cases e : n = y
    · subst e; simp [eqV]
    · have : ¬ (y : Int) = (n : Int) := fun h => e (by omega)
      simp [eqV, e, this]
theorem flat_nts (xs : List Nat) : (nts xs).all flatV = true := List.all_eq_true.mpr fun x h => by
  obtain ⟨y, _, rfl⟩ := List.mem_map.mp h; rfl
theorem DVs.nats {K : PySem.W.Frag} {H : Hp} (xs : List Nat) : DVs K H (xs.map fun k : Nat => D.int (k : Int)) (nts xs) := by
  have := DVs.ints (K := K) (H := H) (xs.map fun k : Nat => (k : Int))
  rwa [List.map_map, List.map_map] at this
theorem DV.nats {K : PySem.W.Frag} {H : Hp} {p : Addr} {xs : List Nat} (h : SqT K H p (nts xs)) : DV K H (.tup (xs.map fun k : Nat => D.int (k : Int))) (.ref p) := by
  unfold DV
  exact ⟨p, _, rfl, h, DVs.nats xs⟩
theorem DL.nats {n : Nat} (xs : List Nat) (h : xs.length ≤ 1000000) : DL (n + 2) (.tup (xs.map fun k : Nat => D.int (k : Int))) := ⟨by rw [List.length_map]; exact h, fun d m => by obtain ⟨x, _, rfl⟩ := List.mem_map.mp m; exact True.intro⟩
end Z
namespace Z
open PySem L2 SX
/-! ### patterns -/
def parts (p : List Nat) : List (List Nat) := TL.spl [44] 0 [] p
theorem spl_bound (c0 : Nat) : ∀ (l acc : List Nat), (∀ q ∈ TL.spl [c0] 0 acc l, q.length ≤ acc.length + l.length) ∧ (TL.spl [c0] 0 acc l).length ≤ l.length + 1
  | [], acc => by
    rw [TL.spl_nil]
    exact ⟨fun q h => by rw [List.mem_singleton.mp h]; exact Nat.le_refl _, Nat.le_refl _⟩
  | c :: r, acc => by
    cases h : TL.pre [c0] (c :: r) with
    | true =>
      rw [TL.spl_hit h]
      have ih := spl_bound c0 r []
      refine ⟨fun q hq => ?_, ?_⟩
      · rcases List.mem_cons.mp hq with e | e
        · subst e; omega
        · have := ih.1 q e; rw [List.length_nil] at this; rw [List.length_cons]; omega
      · have := ih.2; show (TL.spl [c0] 0 [] r).length + 1 ≤ r.length + 1 + 1; omega
    | false =>
      rw [TL.spl_miss h]
      have ih := spl_bound c0 r (acc ++ [c])
      refine ⟨fun q hq => ?_, ?_⟩
      · have := ih.1 q hq; rw [List.length_append] at this; rw [List.length_cons]; simp at this; omega
      · rw [List.length_cons]; have := ih.2; omega
theorem parts_len {p q : List Nat} (h : q ∈ parts p) : q.length ≤ p.length := by have := (spl_bound 44 p []).1 q h; rw [List.length_nil] at this; omega
theorem parts_num (p : List Nat) : (parts p).length ≤ p.length + 1 := (spl_bound 44 p []).2
/-- an item: its sign, its glob -/
def isBar (it : List Nat) : Bool := decide (it.take 1 = [33])
def globOf (it : List Nat) : List Nat := if isBar it = true then it.drop 1 else it
theorem globOf_len (it : List Nat) : (globOf it).length ≤ it.length := by
  unfold globOf; split
  · rw [List.length_drop]; omega
  · exact Nat.le_refl _
def fit (g b : List Nat) : Prop := stand g b g.length
open Classical in
noncomputable def letsL (its : List (List Nat)) (b : List Nat) : Bool := its.foldl (fun ans it => if fit (globOf it) b then !isBar it else ans) false
open Classical in
theorem lets_skip (b : List Nat) : ∀ (its : List (List Nat)) (v : Bool), (∀ it ∈ its, ¬ fit (globOf it) b) → its.foldl (fun ans it => if fit (globOf it) b then !isBar it else ans) v = v
  | [], _, _ => rfl
  | x :: r, v, h => by rw [List.foldl_cons, if_neg (h x (by simp))]; exact lets_skip b r v fun y hy => h y (List.mem_cons_of_mem _ hy)
theorem lets_last {its : List (List Nat)} {b : List Nat} {i : Nat} {it : List Nat} (h : its[i]? = some it) (hf : fit (globOf it) b) (hn : ∀ (j : Nat) (y : List Nat), i < j → its[j]? = some y → ¬ fit (globOf y) b) : letsL its b = !isBar it := by
  classical
  unfold letsL
  have e : its = its.take i ++ it :: its.drop (i + 1) := by
    obtain ⟨h1, h2⟩ := List.getElem?_eq_some_iff.mp h
    rw [← h2, List.getElem_cons_drop, List.take_append_drop]
  rw [e, List.foldl_append, List.foldl_cons, if_pos hf]
  refine lets_skip b _ _ fun y hy => ?_
  obtain ⟨j, hj, e2⟩ := List.getElem_of_mem hy
  refine hn (i + 1 + j) y (by omega) ?_
  have := List.getElem?_eq_getElem hj
  rw [List.getElem?_drop, e2] at this
  exact this
theorem lets_none {its : List (List Nat)} {b : List Nat} (hn : ∀ (j : Nat) (y : List Nat), its[j]? = some y → ¬ fit (globOf y) b) : letsL its b = false := by
  classical
  unfold letsL
  refine lets_skip b _ _ fun y hy => ?_
  obtain ⟨j, hj, e⟩ := List.getElem_of_mem hy
  exact hn j y (by rw [List.getElem?_eq_getElem hj, e])
def Clean (b : List Nat) : Prop := ∀ c ∈ b, c ≠ 42
theorem bar_starts (x : Str) : Txt.startswith x (Str.ofString "!") = isBar (tl x) := by
  have e := StrLaws.subAt_one x 33 0
  have e0 : ((tl x)[0]? = some 33) ↔ (tl x).take 1 = [33] := by
    cases tl x with
    | nil => simp
    | cons y r => simp
  unfold Txt.startswith isBar
  rw [Bool.eq_iff_iff, Bool.and_eq_true, decide_eq_true_iff, decide_eq_true_iff, ← e0]
  exact e
theorem bar_cut (x : Str) : decide (V.str (cutS x none (some 1)) = V.str (Str.ofString "!")) = isBar (tl x) := by
  unfold isBar
  rw [Bool.eq_iff_iff, decide_eq_true_iff, decide_eq_true_iff]
  have e : tl (cutS x none (some 1)) = (tl x).take 1 := cutS_to (by decide)
  constructor
  · intro h
    have h2 := congrArg tl (V.str.inj h)
    rw [e] at h2; exact h2
  · intro h
    exact congrArg V.str (tl_ext (by rw [e, h]; rfl))
/-- the law's places: those that lie ahead of a star, too -/
def Lax (g : List Nat) (N M : Nat → Prop) : Prop := ∀ y, M y ↔ (N y ∨ (g[y]? = some 42 ∧ N (y + 1)))
theorem lax_start (g : List Nat) : Lax g (st0 g) (st0 g) := fun y => ⟨.inl, fun h => h.elim id fun k => k.2.2⟩
/-- what the law puts in, ahead of its last loop -/
def lawA (g : List Nat) (M : Nat → Prop) (c : Nat) (y : Nat) : Prop := (M y ∧ g[y]? = some 42) ∨ ∃ i, y = i + 1 ∧ M i ∧ (g[i]? = some 63 ∨ g[i]? = some c)
def lawB (g : List Nat) (A : Nat → Prop) : Nat → Prop
  | 0 => A 0
  | i + 1 => A (i + 1) ∨ (lawB g A i ∧ g[i]? = some 42)
theorem lax_next {g : List Nat} {N M : Nat → Prop} {c : Nat} (hc : c ≠ 42) (cl : closed g N) (l : Lax g N M) : Lax g (nxt g N c) (lawB g (lawA g M c)) := by
  have ns : ∀ i : Nat, (g[i]? = some 63 ∨ g[i]? = some c) → g[i]? ≠ some 42 := fun i h e => by
    rcases h with h | h <;> rw [h] at e
    · cases e
    · exact hc (Option.some.inj e)
  have bA : ∀ y, lawA g M c y → lawB g (lawA g M c) y := fun y h => by
    cases y with
    | zero => exact h
    | succ i => exact .inl h
  have fA : ∀ y, lawA g M c y → nxt g N c y ∨ (g[y]? = some 42 ∧ nxt g N c (y + 1)) := fun y h => by
    rcases h with ⟨m, e⟩ | ⟨i, rfl, m, k⟩
    · refine .inr ⟨e, .inl ⟨e, .inr ?_⟩⟩
      rcases (l y).mp m with n | ⟨_, n⟩
      · exact cl y n e
      · exact n
    · refine .inl (.inr ⟨ns i k, ?_, k⟩)
      rcases (l i).mp m with n | ⟨q, _⟩
      · exact n
      · exact absurd q (ns i k)
  have back : ∀ y, nxt g N c y → lawB g (lawA g M c) y := fun y => by
    induction y with
    | zero => intro h; exact h.elim
    | succ i ih =>
      rintro (⟨e, h | h⟩ | ⟨_, n, k⟩)
      · exact .inr ⟨ih h, e⟩
      · exact .inr ⟨bA i (.inl ⟨(l i).mpr (.inr ⟨e, h⟩), e⟩), e⟩
      · exact .inl (.inr ⟨i, rfl, (l i).mpr (.inl n), k⟩)
  intro y
  constructor
  · induction y with
    | zero => intro h; exact fA 0 h
    | succ i ih =>
      rintro (h | ⟨h, e⟩)
      · exact fA _ h
      · rcases ih h with n | ⟨_, n⟩
        · exact .inl (.inl ⟨e, .inl n⟩)
        · exact .inl n
  · rintro (h | ⟨e, h⟩)
    · exact back y h
    · rcases h with ⟨_, h | h⟩ | ⟨q, _⟩
      · exact back y h
      · exact bA y (.inl ⟨(l y).mpr (.inr ⟨e, h⟩), e⟩)
      · exact absurd e q
/-! ### promises -/
def itemV (it : List Nat) : List V := [.int (if isBar it = true then 0 else 1), .str (S (globOf it))]
def sp_items_of (K : PySem.W.Frag) : Sp := fun vs H Q _ => ∃ (p : Str), vs = [.str p] ∧ (tl p).length ≤ 3000 ∧
  ∀ (q : Addr) (ts : List Addr) (H' : Hp), Same H H' → H' q = some (.tup (ts.map V.ref)) → ts.length = (parts (tl p)).length → (∀ (i : Nat) (t : Addr) (it : List Nat), ts[i]? = some t → (parts (tl p))[i]? = some it → H' t = some (.tup (itemV it))) → Q (.ref q) H'
def sp_lets (K : PySem.W.Frag) : Sp := fun vs H Q _ => ∃ (p b : Str), vs = [.str p, .str b] ∧ (tl p).length ≤ 3000 ∧ Clean (tl b) ∧ ∀ H', Same H H' → Q (.bl (letsL (parts (tl p)) (tl b))) H'
def sp_lets_one (K : PySem.W.Frag) : Sp := fun vs H Q _ => ∃ (p : Str) (a : Addr) (bs : List Str), vs = [.str p, .ref a] ∧ SqT K H a (bs.map V.str) ∧ (tl p).length ≤ 3000 ∧ bs.length ≤ 1000 ∧ (∀ b ∈ bs, Clean (tl b)) ∧ ∀ H', Same H H' → Q (.bl (bs.any fun b => letsL (parts (tl p)) (tl b))) H'
open Classical in
def sp__law_fits (K : PySem.W.Frag) : Sp := fun vs H Q _ => ∃ (g b : Str), vs = [.str g, .str b] ∧ Clean (tl b) ∧ (tl g).length ≤ 10000 ∧ ∀ (H' : Hp), Same H H' → Q (.bl (decide (fit (tl g) (tl b)))) H'
def sp__law_lets (K : PySem.W.Frag) : Sp := sp_lets K
def sp__law_lets_some (K : PySem.W.Frag) : Sp := sp_lets_one K
theorem split_bar (p : Str) : Txt.split p (Str.ofString ",") = (parts (tl p)).map S := split_S (a := tl p) (b := [44]) (by decide) (by decide)

/-! ### lists of truth values -/
def Bs (bs : List Bool) (n : Nat) (M : Nat → Prop) : Prop := bs.length = n + 1 ∧ ∀ y, bs[y]? = some true ↔ M y
theorem Bs.set {bs : List Bool} {n k : Nat} {M : Nat → Prop} (h : Bs bs n M) (hk : k ≤ n) : Bs (bs.set k true) n (fun y => M y ∨ y = k) := by
  refine ⟨by rw [List.length_set]; exact h.1, fun y => ?_⟩
  rw [List.getElem?_set]
  by_cases e : k = y
  · subst e
    rw [if_pos rfl, if_pos (by have := h.1; omega)]
    exact ⟨fun _ => .inr rfl, fun _ => rfl⟩
  · rw [if_neg e]
    exact ⟨fun q => .inl ((h.2 y).mp q), fun q => q.elim (h.2 y).mpr fun z => absurd z.symm e⟩
theorem Bs.congr {bs : List Bool} {n : Nat} {M N : Nat → Prop} (h : Bs bs n M) (e : ∀ y, M y ↔ N y) : Bs bs n N := ⟨h.1, fun y => (h.2 y).trans (e y)⟩
theorem Bs.get {bs : List Bool} {n k : Nat} {M : Nat → Prop} (h : Bs bs n M) (hk : k ≤ n) : ∃ b : Bool, bs[k]? = some b ∧ (b = true ↔ M k) := by
  have hl : k < bs.length := by have := h.1; omega
  refine ⟨bs[k], List.getElem?_eq_getElem hl, ?_⟩
  rw [← h.2 k, List.getElem?_eq_getElem hl]
  exact ⟨fun e => by rw [e], fun e => Option.some.inj e⟩
theorem atI_bl {bs : List Bool} {k : Nat} {b : Bool} {z : Int} (hz : z = (k : Int)) (h : bs[k]? = some b) : atI (bs.map V.bl) z = some (.bl b) := at_of hz (by rw [List.getElem?_map, h]; rfl)
theorem ixN_pos {n k : Nat} {z : Int} (hz : z = (k : Int)) (h : k < n) : ixN n z = some k := by
  subst hz
  unfold ixN
  rw [if_pos (by omega), if_pos (by omega)]; rfl
theorem map_set_bl (bs : List Bool) (k : Nat) : (bs.map V.bl).set k (.bl true) = (bs.set k true).map V.bl := by rw [List.map_set]
theorem bs_false (n : Nat) : Bs (List.replicate (n + 1) false) n (fun _ => False) := by
  refine ⟨List.length_replicate, fun y => ⟨fun h => ?_, fun h => h.elim⟩⟩
  rw [List.getElem?_replicate] at h
  split at h <;> cases h
theorem flatten_one (n : Nat) : (List.replicate n [V.bl false]).flatten = (List.replicate n false).map V.bl := by
  induction n with
  | zero => rfl
  | succ n ih => rw [List.replicate_succ, List.flatten_cons, ih, List.replicate_succ, List.map_cons]; rfl
end Z
namespace Z
open PySem L2 SX
def sp13 (f n : Nat) : Sp := fun vs H Q _ => ∃ (s a : Addr) (c : Nat), vs = [.ref s] ∧ Src H s a (c + f) ∧ ∀ (x : Str) (H' : Hp), (tl x).length ≤ n → Ext s H H' → Src H' s a c → Q (.str x) H'
def sp13_bent : Sp := fun vs H Q _ => ∃ (s a : Addr) (x : Str) (c : Nat), vs = [.ref s, .str x] ∧ (tl x).length ≤ 1000 ∧ Src H s a (c + 10) ∧ ∀ (y : Str) (H' : Hp), (tl y).length ≤ (tl x).length + 3 → Ext s H H' → Src H' s a c → Q (.str y) H'
theorem ext_free {H H1 : Hp} {s a u : Addr} {c : Nat} (x : Ext s H H1) (S : Src H1 s a c) (h : H1 u = none) : H u = none := by
  cases e : H u with
  | none => rfl
  | some o =>
    by_cases q : u = s
    · subst q
      obtain ⟨xs, e2⟩ := S.lst
      rw [h] at e2; cases e2
    · have := x _ _ q e
      rw [h] at this; cases this
theorem joinL_len {s : List Nat} {n : Nat} : ∀ {ls : List (List Nat)}, (∀ l ∈ ls, l.length ≤ n) → (TL.joinL s ls).length ≤ ls.length * (n + s.length)
  | [], _ => by simp [TL.joinL]
  | [x], h => by have := h x (by simp); show x.length ≤ 1 * (n + s.length); omega
  | x :: y :: r, h => by
    have ih := joinL_len (s := s) (ls := y :: r) (fun l m => h l (List.mem_cons_of_mem _ m))
    have := h x (by simp)
    show (x ++ (s ++ TL.joinL s (y :: r))).length ≤ ((y :: r).length + 1) * (n + s.length)
    rw [List.length_append, List.length_append, Nat.succ_mul]
    omega
theorem tl_joinS (s : Str) (xs : List Str) : tl (Txt.join s xs) = TL.joinL (tl s) (xs.map tl) := by
  have h := join_S (tl s) (xs.map tl)
  rw [tl_mapS] at h
  exact congrArg tl h
theorem sum_len {n : Nat} : ∀ {xs : List Str}, (∀ x ∈ xs, (tl x).length ≤ n) → (xs.map (·.length)).sum ≤ xs.length * n
  | [], _ => by simp
  | x :: xs, h => by
    have := h x (by simp)
    have ih := sum_len (n := n) (xs := xs) (fun y m => h y (List.mem_cons_of_mem _ m))
    rw [List.map_cons, List.sum_cons, List.length_cons, Nat.succ_mul, tl_len]; omega
theorem cut_le (x : Str) (i j : Option Int) : (tl (cutS x i j)).length ≤ (tl x).length := by
  show ((List.drop _ (tl x)).take _).length ≤ _
  rw [List.length_take, List.length_drop]; omega
theorem len_mem {n : Nat} {xs : List Str} {w : V} (h : ∀ x ∈ xs, (tl x).length ≤ n) (m : w ∈ xs.map V.str) : ∃ x, w = V.str x ∧ (tl x).length ≤ n := by
  obtain ⟨x, hx, rfl⟩ := List.mem_map.mp m
  exact ⟨x, rfl, h x hx⟩
end Z
namespace Z
open PySem L2 SX
/-! ### patterns: scanning and splitting -/
def okc (c : Nat) : Bool := decide (c ∈ tl (Str.ofString "abcdefghijklmnopqrstuvwxyz0123456789.*?"))
theorem okc_44 : okc 44 = false := by decide +kernel
theorem okc_33 : okc 33 = false := by decide +kernel
def step (a c : Nat) : Bool := (decide (c = 33) && decide (a = 44)) || (decide (c = 44) && (decide (a ≠ 44) && decide (a ≠ 33))) || okc c
/-- all signs may follow each other, behind a -/
def runs : Nat → List Nat → Bool
  | _, [] => true
  | a, c :: r => step a c && runs c r
def lastOf : Nat → List Nat → Nat
  | a, [] => a
  | _, c :: r => lastOf c r
def globP (it : List Nat) : List Nat := if decide (it.take 1 = [33]) = true then it.drop 1 else it
def goodItem (it : List Nat) : Bool := decide (globP it ≠ []) && (globP it).all okc
/-- an item so far: what stands behind its ! is of glob signs -/
def part1 (acc : List Nat) : Bool := (globP acc).all okc
theorem runs_app (a : Nat) (l m : List Nat) : runs a (l ++ m) = (runs a l && runs (lastOf a l) m) := by
  induction l generalizing a with
  | nil => simp [runs, lastOf]
  | cons c r ih => show (step a c && runs c (r ++ m)) = ((step a c && runs c r) && runs (lastOf c r) m); rw [ih, Bool.and_assoc]
theorem last_app (a c : Nat) (l : List Nat) : lastOf a (l ++ [c]) = c := by
  induction l generalizing a with
  | nil => rfl
  | cons d r ih => exact ih d
theorem globP_app {acc : List Nat} {c : Nat} (h : acc ≠ []) : globP (acc ++ [c]) = globP acc ++ [c] := by
  cases acc with
  | nil => exact absurd rfl h
  | cons d r =>
    unfold globP
    show (if decide ([d] = [33]) = true then r ++ [c] else d :: (r ++ [c])) = (if decide ([d] = [33]) = true then r else d :: r) ++ [c]
    split <;> rfl
/-- the last sign ahead, as the scan sees it: the accumulated item behind a comma -/
theorem good_last {acc : List Nat} (h : part1 acc = true) : goodItem acc = (decide (lastOf 44 acc ≠ 44) && decide (lastOf 44 acc ≠ 33)) := by
  rcases List.eq_nil_or_concat acc with e | ⟨l, c, e⟩
  · subst e; decide
  · rw [List.concat_eq_append] at e
    subst e
    rw [last_app]
    unfold goodItem
    rw [show (globP (l ++ [c])).all okc = true from h, Bool.and_true]
    by_cases hl : l = []
    · subst hl
      by_cases e33 : c = 33
      · subst e33; decide
      · have g : globP ([] ++ [c]) = [c] := by
          unfold globP
          rw [if_neg (by simp [e33])]; rfl
        have oc : okc c = true := by
          have h' : (globP ([] ++ [c])).all okc = true := h
          rw [g] at h'
          simpa using h'
        have e44 : c ≠ 44 := fun e => by rw [e, okc_44] at oc; cases oc
        rw [g, decide_eq_true (show [c] ≠ [] by simp), decide_eq_true e44, decide_eq_true e33]; rfl
    · have g := globP_app (c := c) hl
      have h' : (globP (l ++ [c])).all okc = true := h
      rw [g, List.all_append] at h'
      have oc : okc c = true := by
        have := (Bool.and_eq_true_iff.mp h').2
        simpa using this
      have e44 : c ≠ 44 := fun e => by rw [e, okc_44] at oc; cases oc
      have e33 : c ≠ 33 := fun e => by rw [e, okc_33] at oc; cases oc
      rw [g, decide_eq_true (show globP l ++ [c] ≠ [] by simp), decide_eq_true e44, decide_eq_true e33]; rfl
theorem part_step {acc : List Nat} {c : Nat} (h : part1 acc = true) (hc : c ≠ 44) : part1 (acc ++ [c]) = step (lastOf 44 acc) c := by
  unfold step
  rw [decide_eq_false hc, Bool.false_and, Bool.or_false]
  by_cases hl : acc = []
  · subst hl
    by_cases e33 : c = 33
    · subst e33; decide
    · have g : globP ([] ++ [c]) = [c] := by
        unfold globP
        rw [if_neg (by simp [e33])]; rfl
      unfold part1
      rw [g, decide_eq_false e33, Bool.false_and, Bool.false_or]
      simp
  · unfold part1
    rw [globP_app hl, List.all_append, show (globP acc).all okc = true from h]
    have l44 : lastOf 44 acc ≠ 44 := by
      rcases List.eq_nil_or_concat acc with e | ⟨l, d, e⟩
      · exact absurd e hl
      · rw [List.concat_eq_append] at e
        subst e
        rw [last_app]
        intro e
        subst e
        by_cases hl2 : l = []
        · subst hl2
          revert h; decide +kernel
        · have h' : (globP (l ++ [44])).all okc = true := h
          rw [globP_app hl2, List.all_append] at h'
          have := (Bool.and_eq_true_iff.mp h').2
          simp [okc_44] at this
    rw [decide_eq_false l44, Bool.and_false, Bool.false_or]
    simp
theorem bad_part (l : List Nat) : ∀ acc : List Nat, part1 acc = false → (TL.spl [44] 0 acc l).all goodItem = false := by
  induction l with
  | nil =>
    intro acc h
    rw [TL.spl_nil]
    show (goodItem acc && true) = false
    unfold goodItem
    rw [show (globP acc).all okc = false from h, Bool.and_false]; rfl
  | cons c r ih =>
    intro acc h
    by_cases hc : c = 44
    · subst hc
      rw [TL.spl_hit (show TL.pre [44] (44 :: r) = true by show ([44] == [44]) = true; rfl)]
      show (goodItem acc && _) = false
      unfold goodItem
      rw [show (globP acc).all okc = false from h, Bool.and_false, Bool.false_and]
    · rw [TL.spl_miss (show TL.pre [44] (c :: r) = false by show ([c] == [44]) = false; simp [hc])]
      refine ih _ ?_
      have hl : acc ≠ [] := fun e => by rw [e] at h; revert h; decide
      unfold part1
      rw [globP_app hl, List.all_append, show (globP acc).all okc = false from h, Bool.false_and]
theorem spl_good (l : List Nat) : ∀ acc : List Nat, part1 acc = true → (TL.spl [44] 0 acc l).all goodItem = (runs (lastOf 44 acc) l && (decide (lastOf (lastOf 44 acc) l ≠ 44) && decide (lastOf (lastOf 44 acc) l ≠ 33))) := by
  induction l with
  | nil =>
    intro acc h
    rw [TL.spl_nil]
    show (goodItem acc && true) = _
    rw [Bool.and_true, good_last h]; rfl
  | cons c r ih =>
    intro acc h
    by_cases hc : c = 44
    · subst hc
      rw [TL.spl_hit (show TL.pre [44] (44 :: r) = true by show ([44] == [44]) = true; rfl)]
      show (goodItem acc && (TL.spl [44] 0 [] r).all goodItem) = ((step (lastOf 44 acc) 44 && runs 44 r) && _)
      rw [ih [] (by decide), good_last h]
      have : step (lastOf 44 acc) 44 = (decide (lastOf 44 acc ≠ 44) && decide (lastOf 44 acc ≠ 33)) := by
        unfold step
        rw [okc_44]; simp
      rw [this]
      show (_ && (runs 44 r && (decide (lastOf 44 r ≠ 44) && decide (lastOf 44 r ≠ 33)))) = _
      rw [show lastOf (lastOf 44 acc) (44 :: r) = lastOf 44 r from rfl]
      simp only [Bool.and_assoc]
    · rw [TL.spl_miss (show TL.pre [44] (c :: r) = false by show ([c] == [44]) = false; simp [hc])]
      by_cases hs : step (lastOf 44 acc) c = true
      · rw [ih (acc ++ [c]) (by rw [part_step h hc]; exact hs), last_app]
        show _ = ((step (lastOf 44 acc) c && runs c r) && _)
        rw [hs, Bool.true_and]; rfl
      · have hs' : step (lastOf 44 acc) c = false := Bool.eq_false_iff.mpr hs
        show _ = ((step (lastOf 44 acc) c && runs c r) && _)
        rw [hs', Bool.false_and, Bool.false_and]
        have np : part1 (acc ++ [c]) = false := by rw [part_step h hc]; exact hs'
        exact bad_part r _ np
theorem spl_count (l : List Nat) : ∀ acc : List Nat, (TL.spl [44] 0 acc l).length = l.count 44 + 1 := by
  induction l with
  | nil => intro acc; rw [TL.spl_nil]; rfl
  | cons c r ih =>
    intro acc
    by_cases hc : c = 44
    · subst hc
      rw [TL.spl_hit (show TL.pre [44] (44 :: r) = true by show ([44] == [44]) = true; rfl), List.count_cons_self]
      show (TL.spl [44] 0 [] r).length + 1 = _
      rw [ih]
    · rw [TL.spl_miss (show TL.pre [44] (c :: r) = false by show ([c] == [44]) = false; simp [hc]), ih, List.count_cons_of_ne hc]
/-- a pattern, as the law splits it -/
def isPat (l : List Nat) : Bool := decide (l.length ≤ 60) && (decide ((TL.spl [44] 0 [] l).length ≤ 8) && (TL.spl [44] 0 [] l).all goodItem)
def endOk (a : Nat) : Bool := decide (a ≠ 44) && decide (a ≠ 33)
theorem isPat_eq (l : List Nat) : isPat l = (decide (l.length ≤ 60) && (decide (l.count 44 ≤ 7) && (runs 44 l && endOk (lastOf 44 l)))) := by
  unfold isPat endOk
  rw [spl_good l [] (by decide), spl_count]
  rw [show decide (l.count 44 + 1 ≤ 8) = decide (l.count 44 ≤ 7) by rw [decide_eq_decide]; omega]
  rfl
/-- the beginning of some pattern, as the law asks it -/
def isBeg (l : List Nat) : Bool := isPat l || isPat (l ++ [97])
theorem isBeg_eq (l : List Nat) : isBeg l = (runs 44 l && (decide (l.count 44 ≤ 7) && (decide (l.length ≤ 59) || (decide (l.length ≤ 60) && endOk (lastOf 44 l))))) := by
  unfold isBeg
  rw [isPat_eq, isPat_eq, runs_app, last_app, List.length_append, List.count_append]
  rw [show runs (lastOf 44 l) [97] = true by show (step _ 97 && true) = true; unfold step; rw [show okc 97 = true by decide +kernel]; simp, show endOk 97 = true by decide]
  rw [show List.count 44 [97] = 0 by decide, Nat.add_zero, Bool.and_true, Bool.and_true]
  rw [show decide (l.length + [97].length ≤ 60) = decide (l.length ≤ 59) by rw [decide_eq_decide]; show l.length + 1 ≤ 60 ↔ _; omega]
  cases runs 44 l <;> cases decide (l.count 44 ≤ 7) <;> cases decide (l.length ≤ 59) <;> cases decide (l.length ≤ 60) <;> cases endOk (lastOf 44 l) <;> rfl
/-- a sign behind a, behind k commas, at the place n -/
def may (c a k n : Nat) : Bool := if c = 33 then decide (a = 44) && decide (n < 59) else if c = 44 then (decide (a ≠ 44) && decide (a ≠ 33)) && (decide (k < 7) && decide (n < 59)) else okc c && decide (n < 60)
theorem isBeg_snoc (l : List Nat) (c : Nat) : isBeg (l ++ [c]) = (isBeg l && may c (lastOf 44 l) (l.count 44) l.length) := by
  rw [isBeg_eq, isBeg_eq, runs_app, last_app, List.length_append, List.count_append]
  show ((runs 44 l && (step (lastOf 44 l) c && true)) && (decide (l.count 44 + List.count 44 [c] ≤ 7) && (decide (l.length + 1 ≤ 59) || (decide (l.length + 1 ≤ 60) && endOk c)))) = _
  unfold may step
  by_cases h33 : c = 33
  · subst h33
    rw [if_pos rfl, show List.count 44 [33] = 0 by decide, okc_33, show endOk 33 = false by decide, decide_eq_true (rfl : (33 : Nat) = 33), decide_eq_false (show ¬ (33 : Nat) = 44 by decide)]
    by_cases hn : l.length < 59
    · rw [decide_eq_true (show l.length + 1 ≤ 59 by omega), decide_eq_true (show l.length ≤ 59 by omega), decide_eq_true hn]
      cases runs 44 l <;> cases decide (lastOf 44 l = 44) <;> cases decide (l.count 44 ≤ 7) <;> simp
    · rw [decide_eq_false (show ¬ l.length + 1 ≤ 59 by omega), decide_eq_false hn]
      simp
  · rw [if_neg h33]
    by_cases h44 : c = 44
    · subst h44
      rw [if_pos rfl, show List.count 44 [44] = 1 by decide, okc_44, show endOk 44 = false by decide, decide_eq_true (rfl : (44 : Nat) = 44), decide_eq_false h33]
      rw [show decide (l.count 44 + 1 ≤ 7) = decide (l.count 44 < 7) by rw [decide_eq_decide]; omega]
      by_cases hn : l.length < 59
      · rw [decide_eq_true (show l.length + 1 ≤ 59 by omega), decide_eq_true (show l.length ≤ 59 by omega), decide_eq_true hn]
        by_cases hk : l.count 44 < 7
        · rw [decide_eq_true hk, decide_eq_true (show l.count 44 ≤ 7 by omega)]; simp
        · rw [decide_eq_false hk]; simp
      · rw [decide_eq_false (show ¬ l.length + 1 ≤ 59 by omega), decide_eq_false hn]
        simp
    · rw [if_neg h44, show List.count 44 [c] = 0 by rw [List.count_cons_of_ne h44]; rfl, decide_eq_false h33, decide_eq_false h44, Nat.add_zero]
      have : endOk c = true := by unfold endOk; rw [decide_eq_true h44, decide_eq_true h33]; rfl
      rw [this]
      by_cases hn : l.length < 60
      · rw [decide_eq_true (show l.length + 1 ≤ 60 by omega), decide_eq_true (show l.length ≤ 59 by omega), decide_eq_true hn]
        cases runs 44 l <;> cases okc c <;> cases decide (l.count 44 ≤ 7) <;> simp
      · rw [decide_eq_false (show ¬ l.length + 1 ≤ 59 by omega), decide_eq_false (show ¬ l.length + 1 ≤ 60 by omega), decide_eq_false hn]
        simp
theorem isPat_of_beg {l : List Nat} (h : isBeg l = true) : isPat l = endOk (lastOf 44 l) := by
  rw [isPat_eq]
  rw [isBeg_eq] at h
  simp only [Bool.and_eq_true, Bool.or_eq_true] at h
  obtain ⟨h1, h2, h3⟩ := h
  rw [h1, h2]
  have : l.length ≤ 60 := by rcases h3 with h | h
                             · have := of_decide_eq_true h; omega
                             · exact of_decide_eq_true h.1
  rw [decide_eq_true this]; rfl
theorem eqL {x y : Str} : V.str x = V.str y ↔ tl x = tl y := ⟨fun h => by injection h with h; rw [h], fun h => by rw [tl_ext h]⟩
theorem split_comma (x : Str) : Txt.split x (Str.ofString ",") = (TL.spl [44] 0 [] (tl x)).map S := split_S (a := tl x) (b := [44]) (by decide) (by decide)
def sp_isPat : Sp := fun vs H Q _ => ∃ (x : Str), vs = [.str x] ∧ (tl x).length ≤ 2000 ∧ ∀ H', Same H H' → Q (.bl (isPat (tl x))) H'
def sp_may_stand : Sp := fun vs H Q _ => ∃ (c a k n : Nat), vs = [.str (S [c]), .str (S [a]), .int (k : Int), .int (n : Int)] ∧ Q (.bl (may c a k n)) H
/-- where a text is wrong -/
def wrongAt (l : List Nat) (o : Option Nat) : Prop := match o with
  | some k => (∀ j, j < k → j < l.length → isBeg (l.take (j + 1)) = true) ∧ ((k < l.length ∧ isBeg (l.take (k + 1)) = false) ∨ (k = l.length ∧ isPat l = false))
  | none => (∀ j, j < l.length → isBeg (l.take (j + 1)) = true) ∧ isPat l = true
theorem wrongAt_one {l : List Nat} {o p : Option Nat} (x : wrongAt l o) (y : wrongAt l p) : o = p := by
  have key : ∀ (k m : Nat), wrongAt l (some k) → wrongAt l (some m) → ¬ k < m := fun k m x y h => by
    obtain ⟨_, x2⟩ := x
    obtain ⟨y1, y2⟩ := y
    have ml : m ≤ l.length := by rcases y2 with h | h <;> omega
    rcases x2 with x2 | x2
    · have := y1 k h x2.1
      rw [x2.2] at this; cases this
    · omega
  have mix : ∀ k : Nat, wrongAt l (some k) → wrongAt l none → False := fun k x y => by
    obtain ⟨_, x2⟩ := x
    obtain ⟨y1, y2⟩ := y
    rcases x2 with x2 | x2
    · have := y1 k x2.1
      rw [x2.2] at this; cases this
    · rw [x2.2] at y2; cases y2
  cases o with
  | none => cases p with
    | none => rfl
    | some m => exact (mix m y x).elim
  | some k => cases p with
    | none => exact (mix k x y).elim
    | some m =>
      have h1 := key k m x y
      have h2 := key m k y x
      rw [show k = m by omega]
def optV : Option Nat → V
  | none => .non
  | some k => .int (k : Int)
def sp_wrong_place : Sp := fun vs H Q _ => ∃ (x : Str), vs = [.str x] ∧ (tl x).length ≤ 2000 ∧ ∀ o H', wrongAt (tl x) o → Same H H' → Q (optV o) H'
def sgnI (it : List Nat) : Int := if decide (it.take 1 = [33]) = true then 0 else 1
def itemP (it : List Nat) : List V := [.int (sgnI it), .str (S (globP it))]
def itemD (it : List Nat) : D := .tup [.int (sgnI it), .str (S (globP it))]
def sp_sign_and_glob : Sp := fun vs H Q _ => ∃ (x : Str), vs = [.str x] ∧ (tl x).length ≤ 2000 ∧ ∀ (t : Addr), H t = none → Q (.ref t) (upd H t (.tup (itemP (tl x))))
def dueD (l : List Nat) : Option Nat → D
  | some k => .tup [.str (Str.ofString "bad"), .int (k : Int)]
  | none => .tup [.str (Str.ofString "read"), .tup ((TL.spl [44] 0 [] l).map itemD)]
def sp_due (K : PySem.W.Frag) : Sp := fun vs H Q _ => ∃ (x : Str), vs = [.str x] ∧ (tl x).length ≤ 1000 ∧ ∀ o v H', wrongAt (tl x) o → DV K H' (dueD (tl x) o) v → Same H H' → Q v H'
theorem DVs.items {K : PySem.W.Frag} {H : Hp} : ∀ {its : List (List Nat)} {ts : List Addr}, ts.length = its.length → (∀ (k : Nat) (t : Addr) (it : List Nat), ts[k]? = some t → its[k]? = some it → H t = some (.tup (itemP it))) → DVs K H (its.map itemD) (ts.map V.ref)
  | [], [], _, _ => by unfold DVs; rfl
  | [], _ :: _, h, _ => by simp at h
  | _ :: _, [], h, _ => by simp at h
  | it :: its, t :: ts, h, f => by
    refine ⟨.ref t, ts.map V.ref, rfl, ?_, DVs.items (by simpa using h) fun k t' it' h1 h2 => f (k + 1) t' it' (by simpa using h1) (by simpa using h2)⟩
    exact ⟨t, _, rfl, SqT.of (f 0 t it rfl rfl), _, _, rfl, by unfold DV; rfl, _, _, rfl, by unfold DV; rfl, rfl⟩
def sp_write_pattern (K : PySem.W.Frag) : Sp := fun vs H Q _ => ∃ (a : Addr) (ts : List Addr) (its : List (List Nat)), vs = [.ref a] ∧ SqT K H a (ts.map V.ref) ∧ ts.length = its.length ∧ its.length ≤ 100 ∧ (∀ it ∈ its, it.length ≤ 1000) ∧ (∀ (k : Nat) (t : Addr) (it : List Nat), ts[k]? = some t → its[k]? = some it → SqT K H t (itemP it)) ∧
  ∀ (y : Str) (H' : Hp), tl y = TL.joinL [44] its → Same H H' → Q (.str y) H'
theorem join_spl (l : List Nat) : ∀ acc : List Nat, TL.joinL [44] (TL.spl [44] 0 acc l) = acc ++ l := by
  induction l with
  | nil => intro acc; rw [TL.spl_nil, List.append_nil]; rfl
  | cons c r ih =>
    intro acc
    by_cases hc : c = 44
    · subst hc
      rw [TL.spl_hit (show TL.pre [44] (44 :: r) = true by show ([44] == [44]) = true; rfl)]
      have e := ih []
      have ne : TL.spl [44] 0 [] r ≠ [] := fun h => by
        have := spl_count r []
        rw [h] at this; cases this
      show TL.joinL [44] (acc :: TL.spl [44] 0 [] r) = _
      cases hs : TL.spl [44] 0 [] r with
      | nil => exact absurd hs ne
      | cons y ys =>
        show acc ++ ([44] ++ TL.joinL [44] (y :: ys)) = _
        rw [← hs, e]; rfl
    · rw [TL.spl_miss (show TL.pre [44] (c :: r) = false by show ([c] == [44]) = false; simp [hc]), ih, List.append_assoc]; rfl
theorem DVs.items_inv {K : PySem.W.Frag} {H : Hp} : ∀ {its : List (List Nat)} {vs : List V}, DVs K H (its.map itemD) vs → ∃ ts : List Addr, vs = ts.map V.ref ∧ ts.length = its.length ∧ ∀ (k : Nat) (t : Addr) (it : List Nat), ts[k]? = some t → its[k]? = some it → SqT K H t (itemP it)
  | [], vs, h => by unfold DVs at h; subst h; exact ⟨[], rfl, rfl, fun k t it h1 h2 => by simp at h1⟩
  | it :: its, vs, h => by
    obtain ⟨v, r, rfl, h1, h2⟩ := h
    obtain ⟨ts, rfl, hl, hk⟩ := DVs.items_inv h2
    unfold itemD DV at h1
    obtain ⟨a, xs, rfl, hS, h3⟩ := h1
    obtain ⟨v1, r1, rfl, e1, h4⟩ := h3
    obtain ⟨v2, r2, rfl, e2, h5⟩ := h4
    unfold DV at e1 e2
    unfold DVs at h5
    subst e1 e2 h5
    refine ⟨a :: ts, rfl, by rw [List.length_cons, hl, List.length_cons], fun k t it' g1 g2 => ?_⟩
    cases k with
    | zero =>
      have ea : a = t := Option.some.inj g1
      have ei : it = it' := Option.some.inj g2
      subst ea ei
      exact hS
    | succ k => exact hk k t it' (by simpa using g1) (by simpa using g2)
def sp_read_pattern (K : PySem.W.Frag) (C : Addr) : Sp := fun vs H Q E => ∃ (x : Str), vs = [.str x] ∧ (tl x).length ≤ 1000 ∧
  (∀ (u : Addr) (ts : List Addr) (H1 : Hp), wrongAt (tl x) none → Same H H1 → H1 u = some (.tup (ts.map V.ref)) → ts.length = (TL.spl [44] 0 [] (tl x)).length → (∀ (i : Nat) (t : Addr) (it : List Nat), ts[i]? = some t → (TL.spl [44] 0 [] (tl x))[i]? = some it → H1 t = some (.tup (itemP it))) → Q (.ref u) H1) ∧
  (∀ (k : Nat) (dd : Addr) (H1 : Hp), wrongAt (tl x) (some k) → Same H H1 → H1 dd = some (.xd [("at", .int (k : Int))]) → E (.ref C) (some dd) H1)
end Z
namespace Z
open PySem PySem.Spec PyProof.Rows L2 SX
/-! ### name = text[..]; text = text.replace(name, ''): the token of the name is known -/
theorem nsSet_det {M : Model} {Γ : PySem.Ctx} {E : Value → Pos → Shared → Prop} {p : Pos} {s : Shared} {a : Addr} {m : Str → Option Value} (hn : s.heap.Ns a m) (name : Str) (v : Value) :
    ∃ h', h'.Ns a (fun x => if x = name then some v else m x) ∧ ∀ Q, Sem.wp M Γ (nsSet a name v) Q E p s ↔ Q () p { s with heap := h', toks := s.toks + 1 } := by
  have key : ∃ h', ∀ Q, Sem.wp M Γ (nsSet a name v) Q E p s ↔ Q () p { s with heap := h', toks := s.toks + 1 } := by
    obtain ⟨o, es, ep, ho, hd, hk, hm⟩ := hn
    have hany : es.any (·.refKey) = false := by
      rw [Array.any_eq_false']
      intro e he
      obtain ⟨n, t, h⟩ := hk e he
      simp [DictEntry.refKey, h]
    apply Exists.intro
    intro Q
    simp only [nsSet, strHash, Sem.wp_bind', Sem.wp_cmd_ask, Sem.wp_pure', Sem.wp_cmd_mkText]
    rw [Sem.wp_loadPart_of M Γ E p { s with toks := s.toks + 1 } (o := o) _ ho]
    simp only [hd, aRefKeyMayBeTheName_eq, aRefKeyMayBeTheNameByArray, hany, Bool.and_false, Bool.false_eq_true, if_false, Sem.wp_cmd_updatePart]
    exact ⟨fun h => h.2, fun h => ⟨by rw [ho]; rfl, h⟩⟩
  obtain ⟨h', hq⟩ := key
  refine ⟨h', ?_, hq⟩
  have := (hq _).mp (Sem.wp_nsSet M Γ E p s hn name v (fun _ _ s' => ∃ h2 : Heap, h2.Ns a (fun x => if x = name then some v else m x) ∧ s' = { s with heap := h2, toks := s.toks + 1 }) (fun h2 a1 _ => ⟨h2, a1, rfl⟩))
  obtain ⟨h2, a1, e⟩ := this
  have e2 : h' = h2 := congrArg Shared.heap e
  rw [e2]; exact a1
theorem store_det {M : Model} {A : Around} {E : Value → Shared → Prop} {s : Shared} {env : Env} {name : Str} {m : Str → Option Value} {v : Value} {Q : Unit → Shared → Prop} (hl : env.kindOf name = some .local) (hn : s.heap.Ns env.locals m)
    (hp : (env.scope.kind == .class || (env.scope.kind == .module && env.locals != env.globals)) = false) (h : wpAny M A (storeName env name v) Q E s) :
    wpAny M A (storeName env name v) (fun u s' => Q u s' ∧ s'.heap.Ns env.locals (fun x => if x = name then some v else m x) ∧ s'.toks = s.toks + 1) E s := by
  rw [storeName_local hl hp] at h ⊢
  intro Γ p hΓ
  obtain ⟨h', a1, hq⟩ := nsSet_det (M := M) (Γ := Γ) (E := fun e _ s' => E e s') (p := p) hn name v
  have h1 := (hq _).mp (h Γ p hΓ)
  exact (hq _).mpr ⟨h1, a1, rfl⟩
section
variable {X : Cx}
def tRepS (l o : Nat) (tb : TE) (u : TS) : TS := fun D σ H => ∃ z : Str, σ[l]? = some (some (.str z)) ∧ tb σ H fun y H1 => ∃ (i : Int) (c : Nat), y = .int i ∧ 0 ≤ i ∧ i < 2 ^ 63 ∧ i < z.length ∧ z.cps[i.toNat]? = some c ∧ z.length ≤ 1000000 ∧
  u D ((σ.set o (some (.str ⟨#[c]⟩))).set l (some (.str (Txt.replace z ⟨#[c]⟩ (Str.ofString ""))))) H1
theorem psst_rep {l o j : Nat} {nl no : Str} {eb : Expr} {rest : List Stmt} {tb : TE} {u : TS} {p1 p2 p3 p4 p5 p6 p7 p8 c1 ap pos : Pos} (hN : X.N.Nodup) (hl : X.N[l]? = some nl) (ho : X.N[o]? = some no) (hlo : o ≠ l)
    (kl : X.env.scope.names.lookup nl = some .local) (ko : X.env.scope.names.lookup no = some .local) (hb : PE X eb tb) (hs : PlainIxT eb) (h2 : PSsT X rest u)
    (hs1 : swapsWith (.Subscript (.Name nl p2) eb p3) (some (.Name no p1)) p4.line X.env = pure false := by rfl)
    (hs2 : swapsWith (.Call (.Attribute (.Name nl p6) "replace" ap) [.Name no p7, .Constant (.str (Str.ofString "")) j c1] [] pos) (some (.Name nl p5)) p8.line X.env = pure false := by rfl)
    (hst : starEach [.Name no p7, .Constant (.str (Str.ofString "")) j c1] X.env = [(false, eval (.Name no p7) X.env), (false, eval (.Constant (.str (Str.ofString "")) j c1) X.env)] := by rfl)
    (hbase : attributeBase (.Name nl p6) "replace" X.env (eval (.Name nl p6) X.env) = eval (.Name nl p6) X.env := by rfl) (hline : (ap.endLine == pos.line) = true := by rfl)
    (hd : (nl == ("__debug__" : Str)) = false := by decide) (hc : (nl == ("__classdict__" : Str)) = false := by decide) (hd' : (no == ("__debug__" : Str)) = false := by decide) :
    PSsT X (.Assign [.Name no p1] (.Subscript (.Name nl p2) eb p3) p4 :: .Assign [.Name nl p5] (.Call (.Attribute (.Name nl p6) "replace" ap) [.Name no p7, .Constant (.str (Str.ofString "")) j c1] [] pos) p8 :: rest) (tRepS l o tb u) := by
  intro pins s σ H D h0 I h
  obtain ⟨z, hz, h⟩ := h
  refine wpAny_execs_cons (wpAny_Assign_Name (Subscript_ (raw_name hl (.inl kl) I hz (fun uz rz => ?_) hd hc)) hs1)
  obtain ⟨tz, rfl⟩ := rz
  refine wpAny_mono (PySem.wpAny_toks (hb.run pins s σ H _ I h)) (fun ub s2 q => ?_) (fun _ _ x => x.2)
  obtain ⟨hk, y, H1, I2, ry, i, c, rfl, i0, i63, il, hcc, hzl, q⟩ := q
  obtain ⟨ti, rfl⟩ := ry
  have e := PySem.StrLaws.seqIndex_nonneg i0 il
  have n0 : s2.toks ≠ 0 := by omega
  refine tail_any (typeIs_str s2 z tz) slot_str_getitem.lookup (getItem_str (c := c) (by
    have e1 : decide (i < -(2 ^ 63 : Int)) = false := decide_eq_false (by omega)
    have e2 : decide (i ≥ 2 ^ 63) = false := decide_eq_false (by omega)
    rw [e1, e2] <;> rfl) (by rw [e]; exact hcc) ?_) (hs _ _)
  have I2' := I2.tok (s2.toks + 1)
  obtain ⟨m, hn, _⟩ := id I2'.loc
  have hp : (X.env.scope.kind == .class || (X.env.scope.kind == .module && X.env.locals != X.env.globals)) = false := by rw [I2.ok.kind]; rfl
  have st := store_ok (M := model X.prog X.w) (A := X.A) (E := X.xe) (v := V.str ⟨#[c]⟩) (u := Value.str ⟨#[c]⟩ s2.toks) (Q := fun _ s' => Inv X pins (σ.set o (some (V.str ⟨#[c]⟩))) H1 s') I2' hN ho (.inl ko) ⟨_, rfl⟩ (fun s' I' => I') (.inr ko)
  refine wpAny_mono (store_det ko hn hp st) (fun _ s3 q3 => ?_) (fun _ _ x => x)
  obtain ⟨I3, hn3, ht3⟩ := q3
  have ht3' : s3.toks = s2.toks + 1 + 1 := ht3
  have hz3 : (σ.set o (some (V.str ⟨#[c]⟩)))[l]? = some (some (.str z)) := by rw [List.getElem?_set_ne hlo]; exact hz
  have B : wpAny (model X.prog X.w) X.A (exec (.Assign [.Name nl p5] (.Call (.Attribute (.Name nl p6) "replace" ap) [.Name no p7, .Constant (.str (Str.ofString "")) j c1] [] pos) p8) X.env) (fun f s4 => f = .next ∧ Inv X pins ((σ.set o (some (V.str ⟨#[c]⟩))).set l (some (.str (Txt.replace z ⟨#[c]⟩ (Str.ofString ""))))) H1 s4) X.xe s3 := by
    refine wpAny_Assign_Name (PySem.Call_method2 hbase hst hline (raw_name hl (.inl kl) I3 hz3 (fun uz2 rz2 => ?_) hd hc)) hs2
    obtain ⟨tz2, rfl⟩ := rz2
    refine ⟨"str", _, PySem.F.plainAttrs_str, PySem.F.slot_str_replace, PySem.F.type_str_replace, typeIs_str _ _ _, (fun _ e => nomatch e), Calls.callWith_builtin rfl (Calls.evalArgs_plain (Calls.spliced_cons ?_))⟩
    refine wpAny_Name (wpAny_loadName_local I3.ok.kind ko hn3 (if_pos rfl) ?_) hd'
    refine Calls.spliced_cons (Calls.Constant_str (Calls.spliced_nil ?_))
    have n1 : s3.toks ≠ 0 := by omega
    have n2 : s2.toks ≠ s3.toks := by omega
    refine PySem.SC.replace (u := s2.toks) (v := s3.toks) n0 n1 n2 ?_ ?_ fun t' k => ?_
    · rfl
    · show z.length + (z.length + 1) * 0 ≤ _; omega
    exact store_ok (v := V.str (Txt.replace z ⟨#[c]⟩ (Str.ofString ""))) (u := Value.str (Txt.replace z ⟨#[c]⟩ (Str.ofString "")) t') (I3.tok k) hN hl (.inl kl) ⟨_, rfl⟩ (fun s' I' => ⟨rfl, I'⟩) (.inr kl)
  refine wpAny_execs_cons (wpAny_mono (PySem.wpAny_toks B) (fun f s4 q4 => ?_) (fun _ _ x => x.2))
  obtain ⟨hk4, rfl, I4⟩ := q4
  exact h2 pins s4 _ H1 D (by omega) I4 q
end
end Z
namespace Z
open PySem L2 SX
/-! ### items that are joined, and split again -/
theorem spl_no {it : List Nat} : (44 ∉ it) → ∀ acc : List Nat, TL.spl [44] 0 acc it = [acc ++ it] := by
  induction it with
  | nil => intro _ acc; rw [TL.spl_nil, List.append_nil]
  | cons c r ih =>
    intro h acc
    have hc : c ≠ 44 := fun e => h (by rw [e]; exact List.mem_cons_self)
    rw [TL.spl_miss (show TL.pre [44] (c :: r) = false by show ([c] == [44]) = false; simp [hc]), ih (fun m => h (List.mem_cons_of_mem _ m)), List.append_assoc]; rfl
theorem spl_cut {it m : List Nat} : (44 ∉ it) → ∀ acc : List Nat, TL.spl [44] 0 acc (it ++ 44 :: m) = (acc ++ it) :: TL.spl [44] 0 [] m := by
  induction it with
  | nil =>
    intro _ acc
    rw [List.nil_append, TL.spl_hit (show TL.pre [44] (44 :: m) = true by show ([44] == [44]) = true; rfl), List.append_nil]; rfl
  | cons c r ih =>
    intro h acc
    have hc : c ≠ 44 := fun e => h (by rw [e]; exact List.mem_cons_self)
    show TL.spl [44] 0 acc (c :: (r ++ 44 :: m)) = _
    rw [TL.spl_miss (show TL.pre [44] (c :: (r ++ 44 :: m)) = false by show ([c] == [44]) = false; simp [hc]), ih (fun m => h (List.mem_cons_of_mem _ m)), List.append_assoc]; rfl
theorem spl_join : ∀ {its : List (List Nat)}, its ≠ [] → (∀ it ∈ its, 44 ∉ it) → TL.spl [44] 0 [] (TL.joinL [44] its) = its
  | [], h, _ => absurd rfl h
  | [x], _, h => by
    show TL.spl [44] 0 [] x = [x]
    rw [spl_no (h x (by simp))]; rfl
  | x :: y :: r, _, h => by
    show TL.spl [44] 0 [] (x ++ ([44] ++ TL.joinL [44] (y :: r))) = _
    rw [show x ++ ([44] ++ TL.joinL [44] (y :: r)) = x ++ 44 :: TL.joinL [44] (y :: r) from rfl, spl_cut (h x (by simp)), spl_join (by simp) (fun z m => h z (List.mem_cons_of_mem _ m))]; rfl
/-- a text whose items are right -/
def GP (l : List Nat) : Prop := (TL.spl [44] 0 [] l).all goodItem = true
def okG (l : List Nat) : Prop := l ≠ [] ∧ ∀ c ∈ l, okc c = true
theorem good_no {it : List Nat} (h : goodItem it = true) : 44 ∉ it := fun m => by
  unfold goodItem at h
  have h2 := List.all_eq_true.mp (Bool.and_eq_true_iff.mp h).2
  unfold globP at h2
  by_cases e : it.take 1 = [33]
  · rw [if_pos (decide_eq_true e)] at h2
    cases it with
    | nil => cases m
    | cons c r =>
      have : c = 33 := by simpa using e
      subst this
      rcases List.mem_cons.mp m with q | q
      · cases q
      · have := h2 44 q; rw [okc_44] at this; cases this
  · rw [if_neg (fun q => e (of_decide_eq_true q))] at h2
    have := h2 44 m; rw [okc_44] at this; cases this
theorem okG.no33 {g : List Nat} (h : okG g) : ¬ g.take 1 = [33] := fun e => by
  cases g with
  | nil => exact h.1 rfl
  | cons c r =>
    have : c = 33 := by simpa using e
    subst this
    have := h.2 33 (by simp); rw [okc_33] at this; cases this
theorem good_glob {g : List Nat} (h : okG g) : goodItem g = true ∧ goodItem (33 :: g) = true := by
  have ha : g.all okc = true := List.all_eq_true.mpr h.2
  constructor
  · unfold goodItem globP
    rw [if_neg (fun q => h.no33 (of_decide_eq_true q)), ha, decide_eq_true h.1]; rfl
  · have e : globP (33 :: g) = g := by unfold globP; rw [if_pos (decide_eq_true (by simp))]; rfl
    unfold goodItem
    rw [e, ha, decide_eq_true h.1]; rfl
theorem GP.join {its : List (List Nat)} (ne : its ≠ []) (h : ∀ it ∈ its, goodItem it = true) : GP (TL.joinL [44] its) := by
  unfold GP
  rw [spl_join ne fun it m => good_no (h it m)]
  exact List.all_eq_true.mpr h
theorem lastOf_app (m : List Nat) : ∀ (l : List Nat) (a : Nat), lastOf a (l ++ m) = lastOf (lastOf a l) m
  | [], _ => rfl
  | c :: r, _ => lastOf_app m r c
theorem runs_ok {m : List Nat} : ∀ a : Nat, (∀ c ∈ m, okc c = true) → runs a m = true := by
  induction m with
  | nil => intro a _; rfl
  | cons c r ih =>
    intro a h
    show (step a c && runs c r) = true
    rw [ih c (fun d hd => h d (List.mem_cons_of_mem _ hd))]
    unfold step
    rw [h c (by simp)]; simp
theorem last_ok {m : List Nat} : ∀ a : Nat, (∀ c ∈ m, okc c = true) → m ≠ [] → endOk (lastOf a m) = true := by
  induction m with
  | nil => intro a _ h; exact absurd rfl h
  | cons c r ih =>
    intro a h _
    show endOk (lastOf c r) = true
    by_cases e : r = []
    · subst e
      show endOk c = true
      have hc := h c (by simp)
      unfold endOk
      rw [decide_eq_true (show c ≠ 44 from fun e => by rw [e, okc_44] at hc; cases hc), decide_eq_true (show c ≠ 33 from fun e => by rw [e, okc_33] at hc; cases hc)]; rfl
    · exact ih c (fun d hd => h d (List.mem_cons_of_mem _ hd)) e
theorem GP_iff {l : List Nat} : GP l ↔ (runs 44 l && endOk (lastOf 44 l)) = true := by
  unfold GP
  rw [spl_good l [] (by decide)]; rfl
theorem GP.app {l m : List Nat} (h : GP l) (hm : ∀ c ∈ m, okc c = true) : GP (l ++ m) := by
  by_cases e : m = []
  · subst e; rw [List.append_nil]; exact h
  rw [GP_iff] at h ⊢
  obtain ⟨h1, h2⟩ := Bool.and_eq_true_iff.mp h
  rw [runs_app, lastOf_app, h1, runs_ok _ hm, last_ok _ hm e]; rfl
/-- the other sign -/
def turnI (it : List Nat) : List Nat := if isBar it = true then it.drop 1 else 33 :: it
def oppI (l : List Nat) : List (List Nat) := [42] :: (parts l).map turnI
def oppL (l : List Nat) : List Nat := TL.joinL [44] (oppI l)
theorem globOf_nb {x : List Nat} (h : isBar x = false) : globOf x = x := by unfold globOf; rw [if_neg (by rw [h]; exact Bool.false_ne_true)]
theorem turn_good {it : List Nat} (h : goodItem it = true) : goodItem (turnI it) = true ∧ globOf (turnI it) = globOf it ∧ isBar (turnI it) = !isBar it := by
  have hg : okG (globOf it) := by
    unfold goodItem at h
    obtain ⟨h1, h2⟩ := Bool.and_eq_true_iff.mp h
    exact ⟨of_decide_eq_true h1, List.all_eq_true.mp h2⟩
  unfold turnI
  by_cases e : isBar it = true
  · have eg : globOf it = it.drop 1 := by unfold globOf; rw [if_pos e]
    rw [if_pos e, ← eg]
    have nb : isBar (globOf it) = false := by unfold isBar; exact decide_eq_false hg.no33
    exact ⟨(good_glob hg).1, globOf_nb nb, by rw [nb, e]; rfl⟩
  · have e' : isBar it = false := by simpa using e
    have eg : globOf it = it := by unfold globOf; rw [if_neg e]
    rw [if_neg e]
    have hb : isBar (33 :: it) = true := by unfold isBar; exact decide_eq_true (by simp)
    rw [eg] at hg
    refine ⟨(good_glob hg).2, ?_, by rw [hb, e']; rfl⟩
    rw [eg]; unfold globOf; rw [if_pos hb]; rfl
theorem GP.good {l it : List Nat} (h : GP l) (m : it ∈ parts l) : goodItem it = true := List.all_eq_true.mp h it m
theorem opp_good {l : List Nat} (h : GP l) : ∀ it ∈ oppI l, goodItem it = true := fun it m => by
  rcases List.mem_cons.mp m with e | m
  · subst e; decide +kernel
  · obtain ⟨x, hx, rfl⟩ := List.mem_map.mp m
    exact (turn_good (h.good hx)).1
theorem opp_parts {l : List Nat} (h : GP l) : parts (oppL l) = oppI l := spl_join (by unfold oppI; simp) fun it m => good_no (opp_good h it m)
theorem isPat_opp {l : List Nat} (h : GP l) : isPat (oppL l) = (decide ((oppL l).length ≤ 60) && decide ((parts l).length ≤ 7)) := by
  unfold isPat
  have e : TL.spl [44] 0 [] (oppL l) = oppI l := opp_parts h
  rw [e, List.all_eq_true.mpr (opp_good h), Bool.and_true]
  rw [show decide ((oppI l).length ≤ 8) = decide ((parts l).length ≤ 7) by
    rw [decide_eq_decide]; unfold oppI; rw [List.length_cons, List.length_map]; omega]
theorem fit_star (b : List Nat) : fit [42] b := by
  have key : ∀ (b : List Nat) (M : Nat → Prop), M 1 → (b.foldl (fun M c => nxt [42] M c) M) 1 := by
    intro b
    induction b with
    | nil => intro M h; exact h
    | cons c r ih => intro M h; exact ih _ (.inl ⟨rfl, .inr h⟩)
  exact key b _ ⟨rfl, True.intro⟩
open Classical in
theorem lets_opp {l b : List Nat} (h : GP l) : letsL (oppI l) b = !letsL (parts l) b := by
  have key : ∀ (its : List (List Nat)) (v : Bool), (∀ it ∈ its, goodItem it = true) →
      (its.map turnI).foldl (fun ans it => if fit (globOf it) b then !isBar it else ans) (!v) = !(its.foldl (fun ans it => if fit (globOf it) b then !isBar it else ans) v) := by
    intro its
    induction its with
    | nil => intro v _; rfl
    | cons x r ih =>
      intro v hg
      obtain ⟨_, t2, t3⟩ := turn_good (hg x (by simp))
      rw [List.map_cons, List.foldl_cons, List.foldl_cons, t2, t3, ← ih _ (fun y hy => hg y (List.mem_cons_of_mem _ hy))]
      congr 1
      by_cases hf : fit (globOf x) b
      · rw [if_pos hf, if_pos hf]
      · rw [if_neg hf, if_neg hf]
  have := key (parts l) false fun it m => h.good m
  unfold letsL
  unfold oppI
  rw [List.foldl_cons]
  have g42 : globOf [42] = [42] := by decide +kernel
  rw [g42, if_pos (fit_star b), show (!isBar [42]) = !false by decide +kernel]
  exact this
theorem isBeg_take {l : List Nat} (h : isBeg l = true) (k : Nat) : isBeg (l.take k) = true := by
  have key : ∀ (m : Nat), m ≤ l.length → isBeg (l.take (l.length - m)) = true := by
    intro m
    induction m with
    | zero => intro _; rw [Nat.sub_zero, List.take_length]; exact h
    | succ m ih =>
      intro hm
      have h1 := ih (by omega)
      have e : l.length - m = l.length - (m + 1) + 1 := by omega
      have hi : l.length - (m + 1) < l.length := by omega
      rw [e, List.take_add_one, List.getElem?_eq_getElem hi] at h1
      have h2 : isBeg (l.take (l.length - (m + 1)) ++ [l[l.length - (m + 1)]]) = true := h1
      rw [isBeg_snoc] at h2
      exact (Bool.and_eq_true_iff.mp h2).1
  by_cases hk : k ≤ l.length
  · have := key (l.length - k) (by omega)
    rw [show l.length - (l.length - k) = k by omega] at this; exact this
  · rw [List.take_of_length_le (by omega)]; exact h
theorem pat_wrong {l : List Nat} {o : Option Nat} (w : wrongAt l o) : decide (optV o = V.non) = isPat l := by
  cases o with
  | none => rw [w.2]; rfl
  | some k =>
    cases e : isPat l with
    | false => exact decide_eq_false (fun h => by cases h)
    | true =>
      have hb : isBeg l = true := by unfold isBeg; rw [e]; rfl
      have := wrongAt_one w (p := none) ⟨fun j _ => isBeg_take hb _, e⟩
      cases this
def sp_is_pattern : Sp := fun vs H Q _ => ∃ (x : Str), vs = [.str x] ∧ (tl x).length ≤ 2000 ∧ ∀ H', Same H H' → Q (.bl (isPat (tl x))) H'
def oppD (l : List Nat) : D := if isPat (oppL l) = true then .tup [.str (Str.ofString "told"), .str (S (oppL l))] else .tup [.str (Str.ofString "large"), .str (Str.ofString "pattern")]
def sp_opp (K : PySem.W.Frag) : Sp := fun vs H Q _ => ∃ (x : Str), vs = [.str x] ∧ (tl x).length ≤ 200 ∧ GP (tl x) ∧ ∀ v H', DV K H' (oppD (tl x)) v → Same H H' → Q v H'
def sp_opposite (K : PySem.W.Frag) (C : Addr) : Sp := fun vs H Q E => ∃ (x : Str), vs = [.str x] ∧ (tl x).length ≤ 200 ∧ GP (tl x) ∧ (isPat (oppL (tl x)) = true → ∀ H', Same H H' → Q (.str (S (oppL (tl x)))) H') ∧
  (isPat (oppL (tl x)) = false → ∀ (dd : Addr) (H1 : Hp), Same H H1 → H1 dd = some (.xd [("part", .str (Str.ofString "pattern"))]) → E (.ref C) (some dd) H1)
def sp_write_patternL (K : PySem.W.Frag) : Sp := fun vs H Q _ => ∃ (a : Addr) (ts : List Addr) (its : List (List Nat)), vs = [.ref a] ∧ SqL K H a (ts.map V.ref) ∧ ts.length = its.length ∧ its.length ≤ 1000 ∧ (∀ it ∈ its, it.length ≤ 1000) ∧ (∀ (k : Nat) (t : Addr) (it : List Nat), ts[k]? = some t → its[k]? = some it → SqT K H t (itemP it)) ∧
  ∀ (y : Str) (H' : Hp), tl y = TL.joinL [44] its → Same H H' → Q (.str y) H'
def sp_sight (K : PySem.W.Frag) : Sp := fun vs H Q _ => ∃ (a b : Addr) (ps bs : List Str), vs = [.ref a, .ref b] ∧ SqT K H a (ps.map V.str) ∧ SqT K H b (bs.map V.str) ∧ (∀ p ∈ ps, (tl p).length ≤ 3000) ∧ ps.length ≤ 1000 ∧ bs.length ≤ 1000 ∧ (∀ b ∈ bs, Clean (tl b)) ∧
  ∀ (t : Addr) (H' : Hp), Same H H' → SqT K H' t ((ps.map fun p => if (bs.any fun b => letsL (parts (tl p)) (tl b)) = true then (1 : Int) else 0).map V.int) → Q (.ref t) H'
def sp_lets_someL (K : PySem.W.Frag) : Sp := fun vs H Q _ => ∃ (p : Str) (a : Addr) (bs : List Str), vs = [.str p, .ref a] ∧ SqL K H a (bs.map V.str) ∧ (tl p).length ≤ 3000 ∧ bs.length ≤ 1000 ∧ (∀ b ∈ bs, Clean (tl b)) ∧ ∀ H', Same H H' → Q (.bl (bs.any fun b => letsL (parts (tl p)) (tl b))) H'
def sp_pattern_right (K : PySem.W.Frag) : Sp := fun vs H Q _ => ∃ (p : Str) (a : Addr) (bs : List Str), vs = [.str p, .ref a] ∧ SqL K H a (bs.map V.str) ∧ (tl p).length ≤ 200 ∧ GP (tl p) ∧ bs.length ≤ 1000 ∧ (∀ b ∈ bs, Clean (tl b)) ∧ ∀ H', Same H H' → Q (.bl true) H'
/-! ### signs, boards, globs, patterns, as they are drawn -/
abbrev sgs (cs : List Nat) : List V := cs.map fun c => V.str (S [c])
def No42 (l : List Nat) : Prop := ∀ c ∈ l, c ≠ 42
theorem No42.app {a b : List Nat} (x : No42 a) (y : No42 b) : No42 (a ++ b) := fun c h => (List.mem_append.mp h).elim (x c) (y c)
def Sgns (cs : List Nat) : Prop := cs.length = 4 ∧ ∀ c ∈ cs, (97 ≤ c ∧ c ≤ 122) ∨ (48 ≤ c ∧ c ≤ 57)
theorem okc_low {c : Nat} (h : (97 ≤ c ∧ c ≤ 122) ∨ (48 ≤ c ∧ c ≤ 57)) : okc c = true := by
  have e : tl (Str.ofString "abcdefghijklmnopqrstuvwxyz0123456789.*?") = List.range' 97 26 ++ List.range' 48 10 ++ [46, 42, 63] := by decide +kernel
  unfold okc
  rw [e]
  refine decide_eq_true (List.mem_append_left _ (List.mem_append.mpr ?_))
  rw [List.mem_range'_1, List.mem_range'_1]
  omega
def Wds (us : List Str) : Prop := us ≠ [] ∧ us.length ≤ 9 ∧ ∀ x ∈ us, Nm (tl x) ∧ (tl x).length ≤ 8
/-- tuples stay -/
def TK (K : PySem.W.Frag) (H H' : Hp) : Prop := ∀ a xs, SqT K H a xs → SqT K H' a xs
theorem TK.same {K : PySem.W.Frag} {H H' : Hp} (h : Same H H') : TK K H H' := fun _ _ q => h.tup q
theorem TK.ext {K : PySem.W.Frag} {H H' : Hp} {s a : Addr} {c : Nat} (h : Ext s H H') (S : Src H s a c) : TK K H H' := fun _ _ q => h.seqT S.lst.choose_spec q
theorem TK.trans {K : PySem.W.Frag} {H H1 H2 : Hp} (x : TK K H H1) (y : TK K H1 H2) : TK K H H2 := fun a xs q => y a xs (x a xs q)
/-- signs of boards -/
def Bdc (l : List Nat) : Prop := ∀ c ∈ l, (97 ≤ c ∧ c ≤ 122) ∨ (48 ≤ c ∧ c ≤ 57) ∨ c = 46
theorem Low.bdc {l : List Nat} (h : Low l) : Bdc l := fun c m => (h c m).elim .inl fun q => .inr (.inl q)
theorem Bdc.clean {l : List Nat} (h : Bdc l) : Clean l := fun c m => by have := h c m; omega
theorem Bdc.okc {l : List Nat} (h : Bdc l) : ∀ c ∈ l, okc c = true := fun c m => by
  rcases h c m with q | q | q
  · exact okc_low (.inl q)
  · exact okc_low (.inr q)
  · subst q; decide +kernel
theorem Low.okc {l : List Nat} (h : Low l) : ∀ c ∈ l, Z.okc c = true := h.bdc.okc
theorem Nm.ne {l : List Nat} (h : Nm l) : l ≠ [] := fun e => by obtain ⟨⟨c, r, e2, _⟩, _⟩ := h; rw [e] at e2; cases e2
theorem joinL_mem {s : List Nat} : ∀ {ls : List (List Nat)} {c : Nat}, c ∈ TL.joinL s ls → c ∈ s ∨ ∃ l ∈ ls, c ∈ l
  | [], c, h => by cases h
  | [x], c, h => .inr ⟨x, by simp, h⟩
  | x :: y :: r, c, h => by
    have h' : c ∈ x ++ (s ++ TL.joinL s (y :: r)) := h
    rcases List.mem_append.mp h' with q | q
    · exact .inr ⟨x, by simp, q⟩
    · rcases List.mem_append.mp q with q | q
      · exact .inl q
      · rcases joinL_mem q with q | ⟨l, m, q⟩
        · exact .inl q
        · exact .inr ⟨l, List.mem_cons_of_mem _ m, q⟩
theorem joinL_ne {s : List Nat} {ls : List (List Nat)} (h : ls ≠ []) (hx : ∀ l ∈ ls, l ≠ []) : TL.joinL s ls ≠ [] := fun e => by
  match ls, h with
  | [x], _ => exact hx x (by simp) e
  | x :: y :: r, _ =>
    have e' : x ++ (s ++ TL.joinL s (y :: r)) = [] := e
    exact hx x (by simp) (List.append_eq_nil_iff.mp e').1
def sp8__law_new_name (K : PySem.W.Frag) : Sp := fun vs H Q _ => ∃ (s a u : Addr) (us : List Str) (c : Nat), vs = [.ref s, .ref u] ∧ SqL K H u (us.map V.str) ∧ u ≠ s ∧ us.length ≤ 9 ∧ Src H s a (c + 8) ∧
  ∀ (x : Str) (H' : Hp), Nm (tl x) → (tl x).length ≤ 8 → Ext s H H' → Src H' s a c → Q (.str x) H'
def sp8__law_names (K : PySem.W.Frag) : Sp := fun vs H Q _ => ∃ (s a : Addr) (m c : Nat), vs = [.ref s, .int m] ∧ m ≤ 9 ∧ Src H s a (c + 8 * m) ∧
  ∀ (u : Addr) (us : List Str) (H' : Hp), H u = none → H' u = some (.lst (us.map V.str)) → us.length = m → (∀ x ∈ us, Nm (tl x) ∧ (tl x).length ≤ 8) → Ext s H H' → Src H' s a c → Q (.ref u) H'
def sp2__law_words (K : PySem.W.Frag) : Sp := fun vs H Q _ => ∃ (s a : Addr) (c : Nat), vs = [.ref s] ∧ Src H s a (c + 100) ∧
  ∀ (u : Addr) (us : List Str) (H' : Hp), H u = none → H' u = some (.lst (us.map V.str)) → Wds us → Ext s H H' → Src H' s a c → Q (.ref u) H'
def sp2__law_board (K : PySem.W.Frag) : Sp := fun vs H Q _ => ∃ (s a u : Addr) (us : List Str) (c : Nat), vs = [.ref s, .ref u] ∧ SqL K H u (us.map V.str) ∧ u ≠ s ∧ Wds us ∧ Src H s a (c + 10) ∧
  ∀ (x : Str) (H' : Hp), Bdc (tl x) → tl x ≠ [] → (tl x).length ≤ 30 → Ext s H H' → Src H' s a c → Q (.str x) H'
def sp2__law_boards (K : PySem.W.Frag) : Sp := fun vs H Q _ => ∃ (s a u : Addr) (us : List Str) (m : Int) (c : Nat), vs = [.ref s, .ref u, .int m] ∧ SqL K H u (us.map V.str) ∧ u ≠ s ∧ Wds us ∧ 0 < m ∧ m ≤ 10 ∧ Src H s a (c + 200) ∧
  ∀ (t : Addr) (bs : List Str) (H' : Hp), H' t = some (.tup (bs.map V.str)) → bs.length ≤ 10 → (∀ x ∈ bs, Bdc (tl x) ∧ (tl x).length ≤ 30) → Ext s H H' → Src H' s a c → Q (.ref t) H'
def sp2__law_glob (K : PySem.W.Frag) : Sp := fun vs H Q _ => ∃ (s a u : Addr) (us : List Str) (c : Nat), vs = [.ref s, .ref u] ∧ SqL K H u (us.map V.str) ∧ u ≠ s ∧ Wds us ∧ Src H s a (c + 20) ∧
  ∀ (x : Str) (H' : Hp), okG (tl x) → (tl x).length ≤ 40 → Ext s H H' → Src H' s a c → Q (.str x) H'
def sp2__law_pattern (K : PySem.W.Frag) : Sp := fun vs H Q _ => ∃ (s a u : Addr) (us : List Str) (c : Nat), vs = [.ref s, .ref u] ∧ SqL K H u (us.map V.str) ∧ u ≠ s ∧ Wds us ∧ Src H s a (c + 200) ∧
  ∀ (x : Str) (H' : Hp), GP (tl x) → (tl x).length ≤ 130 → Ext s H H' → Src H' s a c → Q (.str x) H'
def sp__law_shuffled (K : PySem.W.Frag) : Sp := fun vs H Q _ => ∃ (s a r : Addr) (xs : List V) (c : Nat), vs = [.ref s, .ref r] ∧ SqL K H r xs ∧ r ≠ s ∧ xs.length ≤ 1000 ∧ Src H s a (c + xs.length) ∧
  ∀ (d : Addr) (ys : List V) (H' : Hp), H d = none → H' d = some (.lst ys) → ys.length = xs.length → (∀ y ∈ ys, y ∈ xs) → Ext s H H' → Src H' s a c → Q (.ref d) H'
def sp2__law_signs : Sp := fun vs H Q _ => ∃ (s a : Addr) (c : Nat), vs = [.ref s] ∧ Src H s a (c + 10) ∧
  ∀ (u : Addr) (cs : List Nat) (H' : Hp), H u = none → H' u = some (.lst (sgs cs)) → Sgns cs → Ext s H H' → Src H' s a c → Q (.ref u) H'
def sp2__law_free_glob (K : PySem.W.Frag) : Sp := fun vs H Q _ => ∃ (s a u : Addr) (cs : List Nat) (m : Int) (c : Nat), vs = [.ref s, .ref u, .int m] ∧ SqL K H u (sgs cs) ∧ u ≠ s ∧ Sgns cs ∧ 0 < m ∧ m ≤ 60 ∧ Src H s a (c + 100) ∧
  ∀ (g : Str) (H' : Hp), okG (tl g) → ((tl g).length : Int) ≤ m → Ext s H H' → Src H' s a c → Q (.str g) H'
def sp__law_put : Sp := fun vs H Q _ => ∃ (t : Str) (c : Nat), vs = [.str t, .str (S [c])] ∧ c ≠ 42 ∧ No42 (tl t) ∧ (tl t).length ≤ 9000 ∧ ∀ (y : Str) (H' : Hp), Same H H' → No42 (tl y) → (tl y).length ≤ (tl t).length + 1 → Q (.str y) H'
def sp__law_drawn (K : PySem.W.Frag) : Sp := fun vs H Q _ => ∃ (s a u w : Addr) (cs : List Nat) (us : List Str) (c : Nat), vs = [.ref s, .ref u, .ref w] ∧ SqL K H u (sgs cs) ∧ u ≠ s ∧ Sgns cs ∧ SqL K H w (us.map V.str) ∧ w ≠ s ∧ Wds us ∧ Src H s a (c + 2000) ∧
  ∀ (x : Str) (H' : Hp), GP (tl x) → (tl x).length ≤ 200 → Ext s H H' → Src H' s a c → Q (.str x) H'
def sp__law_board_for (K : PySem.W.Frag) : Sp := fun vs H Q _ => ∃ (s a u : Addr) (p : Str) (cs : List Nat) (c : Nat), vs = [.ref s, .str p, .ref u] ∧ (tl p).length ≤ 200 ∧ H u = some (.lst (sgs cs)) ∧ u ≠ s ∧ Sgns cs ∧ Src H s a (c + 2000) ∧
  ∀ (y : Str) (H' : Hp), No42 (tl y) → (tl y).length ≤ 500 → Ext s H H' → Src H' s a c → Q (.str y) H'
theorem strike_len (c : Nat) : ∀ {l : List Nat}, l.Nodup → l.length ≤ (l.filter (· != c)).length + 1
  | [], _ => by simp
  | x :: r, h => by
    have hh := List.nodup_cons.mp h
    by_cases e : x = c
    · subst e
      have : r.filter (· != x) = r := List.filter_eq_self.mpr fun y hy => by
        have : y ≠ x := fun e => hh.1 (e ▸ hy)
        simp [this]
      rw [List.filter_cons_of_neg (by simp), this, List.length_cons]; exact Nat.le_refl _
    · rw [List.filter_cons_of_pos (by simp [e]), List.length_cons, List.length_cons]
      have := strike_len c hh.2
      omega
theorem tl_strike (z : Str) (c : Nat) : tl (Txt.replace z ⟨#[c]⟩ (Str.ofString "")) = (tl z).filter (· != c) := PyProof.Rows.replace_strikes z c
theorem cut_mem (x : Str) (i j : Option Int) : ∀ c ∈ tl (cutS x i j), c ∈ tl x := fun c h => by
  have h' : c ∈ (List.drop _ (tl x)).take _ := h
  exact List.mem_of_mem_drop (List.mem_of_mem_take h')
/-- what is stripped at the end is a piece -/
theorem rstrip_sub (x y : Str) : (∀ c ∈ tl (Txt.rstripChars x y), c ∈ tl x) ∧ (tl (Txt.rstripChars x y)).length ≤ (tl x).length := by
  have e : ∃ i j, tl (Txt.rstripChars x y) = ((tl x).drop i).take (j - i) := by
    have h := PyProof.Rows.stripBy_eq y.cps.contains false true x
    apply Exists.intro; apply Exists.intro
    refine (congrArg tl h).trans ?_
    show (x.cps.extract _ _).toList = _
    rw [Array.toList_extract]
  obtain ⟨i, j, e⟩ := e
  rw [e]
  exact ⟨fun c m => List.mem_of_mem_drop (List.mem_of_mem_take m), by rw [List.length_take, List.length_drop]; omega⟩
/-- a walk over the signs of a text behind a token -/
theorem pit_str {X : Cx} {tg e : Expr} {te : TE} (he : PET X e te) : PIT X tg e (iStr te) := by
  intro pins s σ H R h0 I h
  refine thn (he pins s σ H _ h0 I h) fun v s1 hh => ?_
  obtain ⟨y, H1, I1, r1, x, rfl, q⟩ := hh
  obtain ⟨t, rfl⟩ := r1
  have J := fun (ty : String) (hty : ty = "str_ascii_iterator" ∨ ty = "str_iterator") => pi_one (tk := s1.toks) I1 (tg := tg) (R := R) ⟨.type ty, none, .fields #[.str x t, .int 0 0], #[]⟩ (turn_str _ x t ty hty) ⟨_, Heap.get?_push_size _ rfl, rfl, rfl⟩ q
  by_cases ha : x.cps.all (· < 128) = true
  · exact wpAny_pyIter_ascii ha (J _ (.inl rfl))
  · exact wpAny_pyIter_wide (by simpa using ha) (J _ (.inr rfl))
theorem strs_of {ws : List V} {bs : List Str} (h : ∀ y ∈ ws, y ∈ bs.map V.str) : ∃ cs : List Str, ws = cs.map V.str ∧ ∀ c ∈ cs, c ∈ bs := by
  induction ws with
  | nil => exact ⟨[], rfl, fun _ h => by cases h⟩
  | cons w ws ih =>
    obtain ⟨cs, e, k⟩ := ih fun y hy => h y (List.mem_cons_of_mem _ hy)
    obtain ⟨b, hb, rfl⟩ := List.mem_map.mp (h w (by simp))
    exact ⟨b :: cs, by rw [e]; rfl, fun c hc => by
      rcases List.mem_cons.mp hc with e | hc
      · rw [e]; exact hb
      · exact k c hc⟩
theorem joinL_sum : ∀ {ls : List (List Nat)}, ls ≠ [] → (TL.joinL [44] ls).length + 1 = (ls.map fun it => it.length + 1).sum
  | [], h => absurd rfl h
  | [x], _ => by show x.length + 1 = _; simp
  | x :: y :: r, _ => by
    have ih := joinL_sum (ls := y :: r) (by simp)
    show (x ++ ([44] ++ TL.joinL [44] (y :: r))).length + 1 = _
    rw [List.map_cons, List.sum_cons, ← ih, List.length_append, List.length_append]
    show x.length + (1 + _) + 1 = _
    omega
theorem turn_len (it : List Nat) : (turnI it).length ≤ it.length + 1 := by
  unfold turnI
  split
  · rw [List.length_drop]; omega
  · exact Nat.le_refl _
theorem turn_sum : ∀ ls : List (List Nat), ((ls.map turnI).map fun it => it.length + 1).sum ≤ (ls.map fun it => it.length + 1).sum + ls.length
  | [] => Nat.le_refl _
  | x :: r => by
    have := turn_sum r
    have := turn_len x
    rw [List.map_cons, List.map_cons, List.map_cons, List.sum_cons, List.sum_cons, List.length_cons]
    omega
theorem opp_len (l : List Nat) : (oppL l).length ≤ 2 * l.length + 3 := by
  have h1 := joinL_sum (ls := oppI l) (by unfold oppI; simp)
  have h2 := turn_sum (parts l)
  have h3 := parts_num l
  have ne : parts l ≠ [] := fun h => by
    have := spl_count l []
    have h' : TL.spl [44] 0 [] l = [] := h
    rw [h'] at this; cases this
  have h4 := joinL_sum ne
  have e : TL.joinL [44] (parts l) = l := join_spl l []
  rw [e] at h4
  have h5 : ((oppI l).map fun it => it.length + 1).sum = 2 + (((parts l).map turnI).map fun it => it.length + 1).sum := by
    unfold oppI; rw [List.map_cons, List.sum_cons]; rfl
  have h6 : (oppL l).length = (TL.joinL [44] (oppI l)).length := rfl
  omega
theorem joinL_snoc {y : List Nat} : ∀ {ls : List (List Nat)}, ls ≠ [] → TL.joinL [44] (ls ++ [y]) = TL.joinL [44] ls ++ 44 :: y
  | [], h => absurd rfl h
  | [x], _ => rfl
  | x :: z :: r, _ => by
    have ih := joinL_snoc (y := y) (ls := z :: r) (by simp)
    show x ++ ([44] ++ TL.joinL [44] (z :: r ++ [y])) = (x ++ ([44] ++ TL.joinL [44] (z :: r))) ++ 44 :: y
    rw [ih]; simp
theorem DL_opp (l : List Nat) : DL 3 (oppD l) := by
  unfold oppD
  split
  · refine ⟨by show 2 ≤ _; decide, fun x hx => ?_⟩
    rcases List.mem_cons.mp hx with e | hx
    · subst e; exact True.intro
    · rw [List.mem_singleton.mp hx]; exact True.intro
  · refine ⟨by show 2 ≤ _; decide, fun x hx => ?_⟩
    rcases List.mem_cons.mp hx with e | hx
    · subst e; exact True.intro
    · rw [List.mem_singleton.mp hx]; exact True.intro
theorem DV_pair {K : PySem.W.Frag} {H : Hp} {t : Addr} {x y : Str} (h : SqT K H t [V.str x, V.str y]) : DV K H (.tup [.str x, .str y]) (.ref t) :=
  ⟨t, _, rfl, h, _, _, rfl, by unfold DV; rfl, _, _, rfl, by unfold DV; rfl, rfl⟩
theorem DV_pair_inv {K : PySem.W.Frag} {H : Hp} {v : V} {x y : Str} (h : DV K H (.tup [.str x, .str y]) v) : ∃ t, v = .ref t ∧ SqT K H t [V.str x, V.str y] := by
  obtain ⟨t, vs, rfl, hS, h3⟩ := h
  obtain ⟨u1, r1, rfl, e1, h4⟩ := h3
  obtain ⟨u2, r2, rfl, e2, h5⟩ := h4
  unfold DV at e1 e2
  unfold DVs at h5
  subst e1 e2 h5
  exact ⟨t, rfl, hS⟩
end Z
namespace Z
open PySem PySem.W PySem.Calls PyProof.Rows L2
/-! ### sorted(tuples of texts and numbers), min and max of two texts -/
/-- a text where the shape says so, elsewhere a number -/
def Shp (shape : Nat → Bool) : Nat → List V → Prop
  | _, [] => True
  | i, .int _ :: r => shape i = false ∧ Shp shape (i + 1) r
  | i, .str _ :: r => shape i = true ∧ Shp shape (i + 1) r
  | _, _ :: _ => False
/-- what the sort asks of a tuple in the heap -/
def TupAt (h : Heap) (shape : Nat → Bool) (v : Value) : Prop := ∃ (a : Addr) (o : Obj) (us : List Value) (n : Nat) (as : List (Int ⊕ List Nat)), v = .ref a ∧ h.get? a = some o ∧ o.cls = .type "tuple" ∧ o.data = .seq us.toArray n ∧ tupItems shape 0 us = some as ∧
  ∃ f, us[0]? = some f ∧ (shape 0 = false → ∃ k t, f = .int k t) ∧ (shape 0 = true → ∃ x t, f = .str x t)
theorem TupAt.keep {h h' : Heap} {shape : Nat → Bool} {v : Value} (p : TupAt h shape v) (k : ∀ b o, h.get? b = some o → o.cls = .type "tuple" → h'.get? b = some o) : TupAt h' shape v := by
  obtain ⟨a, o, us, n, as, e, g, c, r⟩ := p
  exact ⟨a, o, us, n, as, e, k _ _ g c, c, r⟩
theorem shp_items {shape : Nat → Bool} : ∀ {ws : List V} {us : List Value} {i : Nat}, Shp shape i ws → Vals ws us → ∃ l, tupItems shape i us = some l
  | [], _, _, _, r => by cases r; exact ⟨[], by simp [tupItems]⟩
  | .int k :: ws, _, i, h, r => by
    cases r with
    | cons r1 r2 =>
      obtain ⟨t, rfl⟩ := r1
      obtain ⟨l, hl⟩ := shp_items h.2 r2
      exact ⟨.inl k :: l, by simp [tupItems, h.1, hl]⟩
  | .str x :: ws, _, i, h, r => by
    cases r with
    | cons r1 r2 =>
      obtain ⟨t, rfl⟩ := r1
      obtain ⟨l, hl⟩ := shp_items h.2 r2
      exact ⟨.inr x.cps.toList :: l, by simp [tupItems, h.1, hl]⟩
  | .non :: _, _, _, h, _ => by unfold Shp at h; exact h.elim
  | .bl _ :: _, _, _, h, _ => by unfold Shp at h; exact h.elim
  | .ref _ :: _, _, _, h, _ => by unfold Shp at h; exact h.elim
  | .ty _ :: _, _, _, h, _ => by unfold Shp at h; exact h.elim
  | .byt _ :: _, _, _, h, _ => by unfold Shp at h; exact h.elim
  | .flt _ :: _, _, _, h, _ => by unfold Shp at h; exact h.elim
theorem shp_first {shape : Nat → Bool} {ws : List V} {us : List Value} (h : Shp shape 0 ws) (ne : ws ≠ []) (r : Vals ws us) : ∃ f, us[0]? = some f ∧ (shape 0 = false → ∃ k t, f = .int k t) ∧ (shape 0 = true → ∃ x t, f = .str x t) := by
  cases r with
  | nil => exact absurd rfl ne
  | @cons w u ws us r1 r2 =>
    refine ⟨u, rfl, fun e => ?_, fun e => ?_⟩
    · cases w with
      | int k => obtain ⟨t, rfl⟩ := r1; exact ⟨k, t, rfl⟩
      | str x => have := h.1; rw [e] at this; cases this
      | _ => unfold Shp at h; exact h.elim
    · cases w with
      | str x => obtain ⟨t, rfl⟩ := r1; exact ⟨x, t, rfl⟩
      | int x => have := h.1; rw [e] at this; cases this
      | _ => unfold Shp at h; exact h.elim
section
variable {prog : Program} {w : World} {A : Around} {E : Value → Shared → Prop} {s : Shared}
theorem tups_of {h : Heap} {shape : Nat → Bool} : ∀ {vs : List Value}, (∀ v ∈ vs, TupAt h shape v) → ∃ fs, TupsOf h shape vs fs ∧ fs.length = vs.length
  | [], _ => ⟨[], .nil, rfl⟩
  | v :: vs, hp => by
    obtain ⟨fs, h1, h2⟩ := tups_of (vs := vs) fun y m => hp y (List.mem_cons_of_mem _ m)
    obtain ⟨a, o, us, n, as, e, g, c, d, _, f, hf, k1, k2⟩ := hp v (by simp)
    refine ⟨f :: fs, .cons ⟨a, o, us.toArray, n, e, g, c, d, ?_, k1, k2⟩ h1, by rw [List.length_cons, List.length_cons, h2]⟩
    simpa using hf
theorem tupkey {h : Heap} {shape : Nat → Bool} {v : Value} (p : TupAt h shape v) : ∃ as, (tupKind h shape).keyOf v = some as := by
  obtain ⟨a, o, us, n, as, rfl, g, c, d, i, _⟩ := p
  refine ⟨as, ?_⟩
  show tupKey h shape (.ref a) = some as
  unfold tupKey
  simp only [g, d]
  exact i
theorem sorted_tups {shape : Nat → Bool} {l : Addr} {vs : List Value} {Q : Value → Shared → Prop} (hl : s.heap.IsList l vs.toArray) (hz : vs.length ≤ sizeLine) (hp : ∀ v ∈ vs, TupAt s.heap shape v)
    (hq : ∀ out : List Value, out.Perm vs → Q (.ref (s.heap.objs.size + 1)) { s with heap := sortedAll s.heap vs out.toArray }) : wpAny (model prog w) A (call (.builtin "sorted") [.ref l]) Q E s := by
  refine Srt.sorted_any hl hz (fun two h1 a ha kp => ?_) hq
  intro h2 kp2
  have tup : ∀ v ∈ vs, TupAt h2 shape v := fun v m => ((hp v m).keep fun b o g _ => (kp b o g).2).keep fun b o g c => kp2 b o (fun z => by
    subst z
    have g' : h1.get? b = some o := g
    rw [ha] at g'
    cases g'
    exact absurd (Value.type.inj c) (by decide)) g
  obtain ⟨fs, t, fl⟩ := tups_of tup
  refine ⟨tuples' true, fun Q E q => tup_kind (shape := shape) (s := { s with heap := h2 }) (by omega) t q, fun p q mp mq => ?_⟩
  obtain ⟨as, ka⟩ := tupkey (tup _ mp)
  obtain ⟨bs, kb⟩ := tupkey (tup _ mq)
  exact ⟨_, tup_ltAt (s := { s with heap := h2 }) true _ _ _ _ as bs ka kb ⟨rfl, rfl⟩⟩
end
/-- sorted(xs), xs a list of tuples of one shape: a new list of the same tuples, in some order -/
def rSortedX (K : Frag) (shape : Nat → Bool) : List V → Hp → VK → Prop := fun vs H Q => ∃ (a : Addr) (ts : List Addr), vs = [V.ref a] ∧ SqL K H a (ts.map V.ref) ∧ (∀ t ∈ ts, ∃ ws, H t = some (.tup ws) ∧ Shp shape 0 ws ∧ ws ≠ []) ∧
  ∀ (ys : List Addr) (p : Addr), ys.Perm ts → H p = none → Q (.ref p) (upd H p (.lst (ys.map V.ref)))
theorem vals_refs : ∀ {ts : List Addr} {us : List Value}, Vals (ts.map V.ref) us → us = ts.map Value.ref
  | [], _, r => by cases r; rfl
  | t :: ts, _, r => by
    cases r with
    | cons r1 r2 => cases r1; rw [vals_refs r2]; rfl
theorem refs_vals : ∀ ts : List Addr, Vals (ts.map V.ref) (ts.map Value.ref)
  | [] => .nil
  | t :: ts => .cons rfl (refs_vals ts)
theorem perm_refs {ts : List Addr} {us : List Value} (h : us.Perm (ts.map Value.ref)) : ∃ ys : List Addr, us = ys.map Value.ref ∧ ys.Perm ts := by
  refine ⟨us.map fun u => match u with | .ref a => a | _ => 0, ?_, ?_⟩
  · rw [List.map_map]
    refine (List.map_id us).symm.trans (List.map_congr_left fun u m => ?_)
    obtain ⟨a, _, rfl⟩ := List.mem_map.mp (h.mem_iff.mp m)
    rfl
  · have := h.map fun u => match u with | Value.ref a => a | _ => 0
    rw [List.map_map] at this
    rwa [show ts.map ((fun u => match u with | Value.ref a => a | _ => 0) ∘ Value.ref) = ts from (List.map_congr_left fun _ _ => rfl).trans (List.map_id ts)] at this
section
variable {X : Cx}
theorem cr_sortedX {shape : Nat → Bool} : CallR X (.builtin "sorted") (rSortedX X.K shape) := by
  intro pins s σ H vs us Q I r h
  obtain ⟨a, ts, rfl, hs, ht, q⟩ := h
  obtain ⟨its, rv, hl, hz⟩ := I.list hs
  have e1 := vals_refs rv
  subst e1
  obtain ⟨u, rfl, ru⟩ := vals1 r
  obtain rfl : u = Value.ref a := ru
  rw [List.length_map] at hz
  refine sorted_tups (shape := shape) hl.isList (by rw [List.length_map]; exact hz) (fun v m => ?_) fun out po => ?_
  · obtain ⟨t, tm, rfl⟩ := List.mem_map.mp m
    obtain ⟨ws, hw, sh, ne⟩ := ht t tm
    have ok : ObjOk X.prog X.w H s.heap t (.tup ws) := I.hok t _ hw
    obtain ⟨_, xs, rx, o, g, c, n, d⟩ := ok
    obtain ⟨as, hi⟩ := shp_items sh rx
    exact ⟨t, o, xs, n, as, rfl, g, c, d, hi, shp_first sh ne rx⟩
  · obtain ⟨ys, rfl, py⟩ := perm_refs po
    have fr : H (s.heap.objs.size + 1) = none := I.hok.fresh (Nat.le_succ _)
    obtain ⟨n, hn⟩ := sortedAll_at s.heap (ts.map Value.ref) (ys.map Value.ref).toArray
    refine ⟨.ref _, upd H _ (.lst (ys.map V.ref)), I.laid (t' := s.toks) (fun b o g => sortedAll_old g) (Nat.le_succ _) ⟨?_, ys.map Value.ref, n, refs_vals ys, hn⟩, rfl, q ys _ py fr⟩
    rw [List.length_map, py.length_eq]; exact hz
end
section
variable {prog : Program} {w : World} {A : Around} {E : Value → Shared → Prop} {s : Shared}
theorem best1 (bt : Nat → Nat → Bool) : argBest bt 1 = 0 ∨ argBest bt 1 = 1 := by
  by_cases h : bt 1 (argBest bt 0) = true
  · exact .inr (if_pos h)
  · exact .inl (if_neg h)
/-- the larger one -/
theorem max_strs {x y : Str} {t u : Tok} {Q : Value → Shared → Prop} (calm : A.handled = none)
    (h : ∀ (k : Bool) (hp : Heap) (tk : Nat), (∀ b o, s.heap.get? b = some o → hp.get? b = some o) → Q (if k = true then .str y u else .str x t) { s with heap := hp, toks := tk }) : wpAny (model prog w) A (call (.builtin "max") [.str x t, .str y u]) Q E s := by
  have tp : (s.heap.push { cls := .type "tuple", data := .seq #[.str x t, .str y u] }).IsTuple s.heap.objs.size #[.str x t, .str y u] := ⟨_, Heap.get?_push_size _ rfl, rfl, 0, rfl⟩
  have z1 : (s.heap.push { cls := .type "tuple", data := .seq #[.str x t, .str y u] }).objs.size = s.heap.objs.size + 1 := Heap.size_push ..
  refine call_max_two (wpAny_pyIter_tuple tp ?_)
  refine ⟨_, [_, s.heap.objs.size], [_], _, _, _, fun i j => decide ((if j = 0 then x else y).cps.toList < (if i = 0 then x else y).cps.toList), rfl, Walks.tuple (A := A.in1) calm _ s.heap.objs.size (by rw [z1]; exact Nat.ne_of_lt (Nat.lt_succ_self _)) #[.str x t, .str y u], ⟨⟨_, Heap.get?_push_size _ rfl, rfl, rfl⟩, tp.push _⟩, fun b hb => ?_, by simp, fun i j vi vj s1 Q1 E1 gi gj q => ?_, fun v hp tk hv kp => ?_⟩
  · show b < ((s.heap.push _).push _).objs.size
    rw [Heap.size_push]
    simp only [List.mem_cons, List.not_mem_nil, or_false] at hb
    rcases hb with e | e <;> subst e
    · exact Nat.lt_succ_self _
    · rw [z1]; exact Nat.lt_succ_of_lt (Nat.lt_succ_self _)
  · have pick : ∀ {k : Nat} {v : Value}, (#[Value.str x t, Value.str y u])[k]? = some v → ∃ tt, v = .str (if k = 0 then x else y) tt := fun {k v} g => by
      match k, g with
      | 0, g => exact ⟨t, (Option.some.inj g).symm⟩
      | 1, g => exact ⟨u, (Option.some.inj g).symm⟩
      | k + 2, g => simp at g
    obtain ⟨ti, rfl⟩ := pick gi
    obtain ⟨tj, rfl⟩ := pick gj
    exact PySem.P.gt_str q
  · have old : ∀ b o, s.heap.get? b = some o → hp.get? b = some o := fun b o g => by
      refine kp b o (fun m => ?_) (Heap.get?_push_of_some _ (Heap.get?_push_of_some _ g))
      have lt := Heap.lt_size g
      rw [List.mem_singleton.mp m, z1] at lt
      exact absurd lt (Nat.not_lt_of_lt (Nat.lt_succ_self _))
    have cases2 : v = .str y u ∨ v = .str x t := by
      have hv' : (#[Value.str x t, Value.str y u])[argBest (fun i j => decide ((if j = 0 then x else y).cps.toList < (if i = 0 then x else y).cps.toList)) 1]? = some v := hv
      rcases best1 _ with e | e
      · rw [e] at hv'; exact .inr (Option.some.inj hv').symm
      · rw [e] at hv'; exact .inl (Option.some.inj hv').symm
    rcases cases2 with e | e
    · rw [e]; exact h true hp tk old
    · rw [e]; exact h false hp tk old
theorem min_strs {x y : Str} {t u : Tok} {Q : Value → Shared → Prop} (calm : A.handled = none)
    (h : ∀ (k : Bool) (hp : Heap) (tk : Nat), (∀ b o, s.heap.get? b = some o → hp.get? b = some o) → Q (if k = true then .str y u else .str x t) { s with heap := hp, toks := tk }) : wpAny (model prog w) A (call (.builtin "min") [.str x t, .str y u]) Q E s := by
  have tp : (s.heap.push { cls := .type "tuple", data := .seq #[.str x t, .str y u] }).IsTuple s.heap.objs.size #[.str x t, .str y u] := ⟨_, Heap.get?_push_size _ rfl, rfl, 0, rfl⟩
  have z1 : (s.heap.push { cls := .type "tuple", data := .seq #[.str x t, .str y u] }).objs.size = s.heap.objs.size + 1 := Heap.size_push ..
  refine call_min_two (wpAny_pyIter_tuple tp ?_)
  refine ⟨_, [_, s.heap.objs.size], [_], _, _, _, fun i j => decide ((if i = 0 then x else y).cps.toList < (if j = 0 then x else y).cps.toList), rfl, Walks.tuple (A := A.in1) calm _ s.heap.objs.size (by rw [z1]; exact Nat.ne_of_lt (Nat.lt_succ_self _)) #[.str x t, .str y u], ⟨⟨_, Heap.get?_push_size _ rfl, rfl, rfl⟩, tp.push _⟩, fun b hb => ?_, by simp, fun i j vi vj s1 Q1 E1 gi gj q => ?_, fun v hp tk hv kp => ?_⟩
  · show b < ((s.heap.push _).push _).objs.size
    rw [Heap.size_push]
    simp only [List.mem_cons, List.not_mem_nil, or_false] at hb
    rcases hb with e | e <;> subst e
    · exact Nat.lt_succ_self _
    · rw [z1]; exact Nat.lt_succ_of_lt (Nat.lt_succ_self _)
  · have pick : ∀ {k : Nat} {v : Value}, (#[Value.str x t, Value.str y u])[k]? = some v → ∃ tt, v = .str (if k = 0 then x else y) tt := fun {k v} g => by
      match k, g with
      | 0, g => exact ⟨t, (Option.some.inj g).symm⟩
      | 1, g => exact ⟨u, (Option.some.inj g).symm⟩
      | k + 2, g => simp at g
    obtain ⟨ti, rfl⟩ := pick gi
    obtain ⟨tj, rfl⟩ := pick gj
    exact PySem.P.lt_str q
  · have old : ∀ b o, s.heap.get? b = some o → hp.get? b = some o := fun b o g => by
      refine kp b o (fun m => ?_) (Heap.get?_push_of_some _ (Heap.get?_push_of_some _ g))
      have lt := Heap.lt_size g
      rw [List.mem_singleton.mp m, z1] at lt
      exact absurd lt (Nat.not_lt_of_lt (Nat.lt_succ_self _))
    have cases2 : v = .str y u ∨ v = .str x t := by
      have hv' : (#[Value.str x t, Value.str y u])[argBest (fun i j => decide ((if i = 0 then x else y).cps.toList < (if j = 0 then x else y).cps.toList)) 1]? = some v := hv
      rcases best1 _ with e | e
      · rw [e] at hv'; exact .inr (Option.some.inj hv').symm
      · rw [e] at hv'; exact .inl (Option.some.inj hv').symm
    rcases cases2 with e | e
    · rw [e]; exact h true hp tk old
    · rw [e]; exact h false hp tk old
end
section
variable {X : Cx}
/-- min, max of two texts: one of them -/
def rOne2 : List V → Hp → VK → Prop := fun xs H Q => ∃ x y : Str, xs = [.str x, .str y] ∧ Q (.str x) H ∧ Q (.str y) H
theorem call_maxS (hc : X.calm = true) : CallR X (.builtin "max") rOne2 := by
  intro pins s σ H xs us Q I r h
  obtain ⟨x, y, rfl, q1, q2⟩ := h
  obtain ⟨u, w', rfl, ⟨t, rfl⟩, ⟨t', rfl⟩⟩ := vals2 r
  refine max_strs (I.ok.hd hc) fun k hp tk old => ?_
  cases k with
  | true => exact ⟨.str y, H, I.kept old, ⟨t', rfl⟩, q2⟩
  | false => exact ⟨.str x, H, I.kept old, ⟨t, rfl⟩, q1⟩
theorem call_minS (hc : X.calm = true) : CallR X (.builtin "min") rOne2 := by
  intro pins s σ H xs us Q I r h
  obtain ⟨x, y, rfl, q1, q2⟩ := h
  obtain ⟨u, w', rfl, ⟨t, rfl⟩, ⟨t', rfl⟩⟩ := vals2 r
  refine min_strs (I.ok.hd hc) fun k hp tk old => ?_
  cases k with
  | true => exact ⟨.str y, H, I.kept old, ⟨t', rfl⟩, q2⟩
  | false => exact ⟨.str x, H, I.kept old, ⟨t, rfl⟩, q1⟩
end
end Z
namespace Z
open PySem PySem.Spec PyProof.Rows L2
theorem mulT1 (l : Addr) (its : Array Value) (n : Nat) (dd : Option Addr) (sl : Array (Option Value)) (u : Tok) : Meets (Builtin.«tuple.__mul__» ⟨[.ref l, .int 1 u], []⟩) (fun _ R s =>
    s.heap.get? l = some { cls := .type "tuple", dict := dd, data := .seq its n, slots := sl } ∧ R (.ok (.ret (.ref l))) s) := .of_wp fun prog w A R s h => by
  obtain ⟨hp, g, d, tk, os⟩ := s
  obtain ⟨at_, h⟩ := h
  have ix := AutoSeq1.idx_int
  have c1 : (its.isEmpty || (1 : Int) == 1) = true := by cases its.isEmpty <;> rfl
  wp_walk using wpAny_loadPart' at_
  repeat (first
    | (refine wpAny_ite_false (decide_eq_false (by decide)) ?_; wp_walk using wpAny_loadPart' at_)
    | (refine wpAny_ite_true (decide_eq_true (by first | decide | exact c1)) ?_; wp_walk using wpAny_loadPart' at_))
  exact ⟨_, rfl, h⟩
theorem mulT0 (l : Addr) (its : Array Value) (n : Nat) (dd : Option Addr) (sl : Array (Option Value)) (u : Tok) (ne : its.isEmpty = false) : Meets (Builtin.«tuple.__mul__» ⟨[.ref l, .int 0 u], []⟩) (fun _ R s =>
    s.heap.get? l = some { cls := .type "tuple", dict := dd, data := .seq its n, slots := sl } ∧ R (.ok (.ret (.ref s.heap.objs.size))) { s with heap := s.heap.push { cls := .type "tuple", data := .seq #[] }, toks := s.toks }) := .of_wp fun prog w A R s h => by
  obtain ⟨hp, g, d, tk, os⟩ := s
  obtain ⟨at_, h⟩ := h
  have ix := AutoSeq1.idx_int
  have c1 : (its.isEmpty || (0 : Int) == 1) = false := by rw [ne]; rfl
  wp_walk using wpAny_loadPart' at_
  repeat (first
    | (refine wpAny_ite_false (decide_eq_false (by first | decide | (rw [c1]; exact Bool.false_ne_true))) ?_; wp_walk using wpAny_loadPart' at_)
    | (refine wpAny_ite_true (decide_eq_true (by first | decide | rfl)) ?_; wp_walk using wpAny_loadPart' at_))
  exact ⟨_, rfl, h⟩
/-- t * k, of a tuple -/
def rMulT (K : PySem.W.Frag) : R2 := fun x y H Q => ∃ (l : Addr) (k : Nat) (xs : List V), x = .ref l ∧ y = .int (k : Int) ∧ SqT K H l xs ∧ xs ≠ [] ∧ k ≤ 1000 ∧ xs.length ≤ 1000 ∧ ∀ (p : Addr) (H' : Hp), Same H H' → SqT K H' p (List.replicate k xs).flatten → Q (.ref p) H'
section
variable {X : Cx}
theorem op_mulT : OpR X (binaryOp .Mult) (rMulT X.K) := by
  intro pins s σ H x y v u Q I rx ry h
  obtain ⟨l, k, xs, ex, ey, hT, ne, hk, hx, q⟩ := h
  by_cases h2 : 2 ≤ k
  · exact op_repT pins s σ H x y v u Q I rx ry ⟨l, _, xs, ex, ey, hT, ne, by omega, by omega, hx, fun p hp => q p _ (same_new hp) (SqT.of (by rw [upd_same]; rfl))⟩
  subst ex ey
  cases rx
  obtain ⟨t, rfl⟩ := ry
  obtain ⟨its, r, ⟨⟨cls, dd, data, sl⟩, at_, hc, n, hd⟩, hs⟩ := I.tuple hT
  simp only at hc hd
  subst hc hd
  have hi : its.toArray.isEmpty = false := by
    cases r with
    | nil => exact absurd rfl ne
    | cons _ _ => rfl
  have k01 : k = 0 ∨ k = 1 := by omega
  rcases k01 with e | e
  · subst e
    refine wpAny_binaryOp_repeat_ref (T := "tuple") (U := "int") (by decide) ⟨_, at_, rfl⟩ (fun s1 => typeIs_int s1 _ t) noFill_tuple_mul F.fills_int_mul F.slot_int_rmul repeat_tuple F.slot_int_index.lookup (call_meets F.slot_int_rmul (typeIs_int s _ t) F.entry_int_rmul (F.args_int_rmul_2 _ _) (int_rmul_tuple _ t l its.toArray n dd sl) ⟨at_, rfl, ⟨_, at_, rfl⟩, call_meets F.slot_tuple_mul ⟨_, at_, rfl⟩ F.entry_tuple_mul (F.args_tuple_mul_2 _ _) (mulT0 l its.toArray n dd sl t hi) ⟨at_, ?_⟩⟩)
    have fr : H s.heap.objs.size = none := I.hok.fresh (Nat.le_refl _)
    exact ⟨.ref _, upd H s.heap.objs.size (.tup []), I.laid (t' := s.toks) (fun b o g => Heap.get?_push_of_some _ g) (Nat.le_refl _) ⟨by show 0 ≤ sizeLine; decide, [], .nil, IsTup.new _ _⟩, rfl, q _ _ (same_new fr) (SqT.of upd_same)⟩
  · subst e
    refine wpAny_binaryOp_repeat_ref (T := "tuple") (U := "int") (by decide) ⟨_, at_, rfl⟩ (fun s1 => typeIs_int s1 _ t) noFill_tuple_mul F.fills_int_mul F.slot_int_rmul repeat_tuple F.slot_int_index.lookup (call_meets F.slot_int_rmul (typeIs_int s _ t) F.entry_int_rmul (F.args_int_rmul_2 _ _) (int_rmul_tuple _ t l its.toArray n dd sl) ⟨at_, rfl, ⟨_, at_, rfl⟩, call_meets F.slot_tuple_mul ⟨_, at_, rfl⟩ F.entry_tuple_mul (F.args_tuple_mul_2 _ _) (mulT1 l its.toArray n dd sl t) ⟨at_, ?_⟩⟩)
    exact ⟨.ref l, H, I, rfl, q l H (Same.refl _) (by show SqT X.K H l (xs ++ []); rw [List.append_nil]; exact hT)⟩
end
end Z
namespace Z
open PySem L2 SX
/-! ### data, by place -/
section
variable {K : PySem.W.Frag} {H : Hp}
theorem DV.any {ds : List D} {v : V} {i : Nat} {d : D} (h : DV K H (.tup ds) v) (e : ds[i]? = some d) : ∃ a us u, v = .ref a ∧ SqT K H a us ∧ us[i]? = some u ∧ DV K H d u := by
  obtain ⟨a, us, rfl, hS, hs⟩ := h
  obtain ⟨u, eu, du⟩ := hs.get e
  exact ⟨a, us, u, rfl, hS, eu, du⟩
theorem DV.sub {ds es : List D} {v : V} {i : Nat} (h : DV K H (.tup ds) v) (e : ds[i]? = some (.tup es)) : ∃ a us c ws, v = .ref a ∧ SqT K H a us ∧ us[i]? = some (V.ref c) ∧ SqT K H c ws ∧ DVs K H es ws := by
  obtain ⟨a, us, u, rfl, hS, eu, du⟩ := h.any e
  obtain ⟨c, ws, rfl, hc, hw⟩ := du
  exact ⟨a, us, c, ws, rfl, hS, eu, hc, hw⟩
theorem DV.leafS {ds : List D} {v : V} {i : Nat} {x : Str} (h : DV K H (.tup ds) v) (e : ds[i]? = some (.str x)) : ∃ a us, v = .ref a ∧ SqT K H a us ∧ us[i]? = some (V.str x) := by
  obtain ⟨a, us, u, rfl, hS, eu, du⟩ := h.any e
  unfold DV at du
  subst du
  exact ⟨a, us, rfl, hS, eu⟩
theorem DVs.map_get {α : Type} {f : α → D} : ∀ {l : List α} {us : List V} {i : Nat} {u : V}, DVs K H (l.map f) us → us[i]? = some u → ∃ x, l[i]? = some x ∧ DV K H (f x) u
  | [], _, i, u, h, e => by unfold DVs at h; subst h; simp at e
  | x :: l, us, i, u, h, e => by
    obtain ⟨v, r, rfl, q, t⟩ := h
    cases i with
    | zero =>
      have : v = u := Option.some.inj e
      subst this
      exact ⟨x, rfl, q⟩
    | succ i => exact DVs.map_get (i := i) t e
theorem DVs.map_len {α : Type} {f : α → D} {l : List α} {us : List V} (h : DVs K H (l.map f) us) : us.length = l.length := by rw [h.len, List.length_map]
/-- values that are data of some of these -/
theorem DVs.pick {α : Type} {f : α → D} {xs : List V} {l : List α} : ∀ {ys : List V}, DVs K H (l.map f) xs → (∀ y ∈ ys, y ∈ xs) → ∃ m : List α, DVs K H (m.map f) ys ∧ m.length = ys.length ∧ ∀ x ∈ m, x ∈ l
  | [], _, _ => ⟨[], by unfold List.map DVs; rfl, rfl, fun _ h => by cases h⟩
  | y :: ys, h, k => by
    obtain ⟨m, h1, h2, h3⟩ := DVs.pick h fun z hz => k z (List.mem_cons_of_mem _ hz)
    obtain ⟨i, hi⟩ := List.getElem?_of_mem (k y (by simp))
    obtain ⟨x, hx, dx⟩ := h.map_get hi
    refine ⟨x :: m, ?_, by rw [List.length_cons, List.length_cons, h2], fun z hz => ?_⟩
    · exact ⟨y, ys, rfl, dx, h1⟩
    · rcases List.mem_cons.mp hz with e | e
      · rw [e]; exact List.mem_of_getElem? hx
      · exact h3 z e
theorem DVs.snoc {α : Type} {f : α → D} {x : α} {u : V} : ∀ {l : List α} {us : List V}, DVs K H (l.map f) us → DV K H (f x) u → DVs K H ((l ++ [x]).map f) (us ++ [u])
  | [], _, h, d => by unfold List.map DVs at h; subst h; exact ⟨u, [], rfl, d, by unfold List.map DVs; rfl⟩
  | y :: l, us, h, d => by
    obtain ⟨v, r, rfl, q, t⟩ := h
    exact ⟨v, r ++ [u], rfl, q, DVs.snoc t d⟩
theorem DVs.tk {H' : Hp} (t : TK K H H') {ds : List D} {us : List V} (h : DVs K H ds us) : DVs K H' ds us := DVs.ext t h
theorem DV.tk {H' : Hp} (t : TK K H H') {d : D} {u : V} (h : DV K H d u) : DV K H' d u := DV.ext t h
end
theorem find_step {α : Type} {p : α → Bool} {l : List α} {i : Nat} {x : α} (h : (l.take i).find? p = none) (e : l[i]? = some x) (hx : p x = false) : (l.take (i + 1)).find? p = none := by
  rw [List.take_add_one, e, List.find?_append, h]
  show (none : Option α).or ([x].find? p) = none
  simp [hx]
theorem find_hit {α : Type} {p : α → Bool} {l : List α} {i : Nat} {x : α} (h : (l.take i).find? p = none) (e : l[i]? = some x) (hx : p x = true) : l.find? p = some x := by
  have el : l = l.take i ++ x :: l.drop (i + 1) := by
    obtain ⟨h1, h2⟩ := List.getElem?_eq_some_iff.mp e
    rw [← h2, List.getElem_cons_drop, List.take_append_drop]
  rw [el, List.find?_append, h]
  show (none : Option α).or ((x :: l.drop (i + 1)).find? p) = some x
  rw [List.find?_cons_of_pos hx]; rfl
/-! ### books -/
structure Si where
  n : Str
  o : Int
  m : Int
  r : Int
  p : Str
structure Fd where
  g : Str
  t : Str
  p : Str
  h : Int
  z : Int
structure Sw where
  p : Str
  a : Str
  y : D
structure Bk where
  w : Int
  x : Int
  y : Int
  si : List Si
  ln : List (Str × Str)
  fd : List Fd
  sw : List Sw
  li : List D
def siD (s : Si) : D := .tup [.str (Str.ofString "site"), .str s.n, .int s.o, .int s.m, .int s.r, .str s.p]
def lnD (l : Str × Str) : D := .tup [.str l.1, .str l.2]
def fdD (f : Fd) : D := .tup [.str (Str.ofString "feed"), .str f.g, .str f.t, .str f.p, .int f.h, .int f.z]
def swD (s : Sw) : D := .tup [.str (Str.ofString "steward"), .str s.p, .str s.a, s.y]
def bkD (b : Bk) : D := .tup [.str (Str.ofString "book"), .int b.w, .tup [.int b.x, .int b.y], .tup (b.si.map siD), .tup (b.ln.map lnD), .tup (b.fd.map fdD), .tup (b.sw.map swD), .tup b.li]
structure BkOk (b : Bk) : Prop where
  si : b.si.length ≤ 10
  ln : b.ln.length ≤ 30
  fd : b.fd.length ≤ 100
  sw : b.sw.length ≤ 10
  sp : ∀ s ∈ b.si, (tl s.p).length ≤ 3000
  wp : ∀ s ∈ b.sw, (tl s.p).length ≤ 3000
  sn : ∀ s ∈ b.si, Low (tl s.n) ∧ (tl s.n).length ≤ 8
  fn : ∀ f ∈ b.fd, Low (tl f.g) ∧ Low (tl f.t)
def siteOf (b : Bk) (n : Str) : Option Si := b.si.find? fun s => decide (s.n = n)
def feedOf (b : Bk) (g t : Str) : Option Fd := b.fd.find? fun f => decide (f.g = g) && decide (f.t = t)
noncomputable def stwOf (b : Bk) (d : List Nat) : Option Sw := b.sw.find? fun s => letsL (parts (tl s.p)) d
def polOf (b : Bk) (a : Str) : Option Sw := b.sw.find? fun s => decide (s.a = a)
def optD {α : Type} (f : α → D) : Option α → D
  | none => .non
  | some x => f x
def nearL (b : Bk) (n : Str) : List Str := ((b.ln.filter fun l => decide (l.1 = n)).map (·.2)) ++ ((b.ln.filter fun l => decide (l.2 = n)).map (·.1))
/-- the seals so far, and a board more -/
noncomputable def sealF (b : Bk) (acc : List Str) (d : Str) : List Str := match stwOf b (tl d) with
  | none => acc
  | some s => if s.a ∈ acc then acc else acc ++ [s.a]
noncomputable def sealsL (b : Bk) (bs : List Str) : List Str := bs.foldl (sealF b) []
def sp_site_of (K : PySem.W.Frag) : Sp := fun vs H Q _ => ∃ (b : Bk) (v : V) (n : Str), vs = [v, .str n] ∧ DV K H (bkD b) v ∧ ∀ u, DV K H (optD siD (siteOf b n)) u → Q u H
def sp_feed_of (K : PySem.W.Frag) : Sp := fun vs H Q _ => ∃ (b : Bk) (v : V) (g t : Str), vs = [v, .str g, .str t] ∧ DV K H (bkD b) v ∧ BkOk b ∧ Low (tl g) ∧ Low (tl t) ∧ ∀ u H', Same H H' → DV K H' (optD fdD (feedOf b g t)) u → Q u H'
def sp_neighbours (K : PySem.W.Frag) : Sp := fun vs H Q _ => ∃ (b : Bk) (v : V) (n : Str), vs = [v, .str n] ∧ DV K H (bkD b) v ∧ BkOk b ∧ ∀ (t : Addr) (ys : List Str) (H' : Hp), Same H H' → SqT K H' t (ys.map V.str) → ys.Perm (nearL b n) → PyProof.Rows.sortedS ys = true → Q (.ref t) H'
noncomputable def carriesB (b : Bk) (n : Str) (bs : List Str) : Bool := match siteOf b n with
  | none => false
  | some s => bs.any fun d => letsL (parts (tl s.p)) (tl d)
def sp_carries (K : PySem.W.Frag) : Sp := fun vs H Q _ => ∃ (b : Bk) (v : V) (n : Str) (a : Addr) (bs : List Str), vs = [v, .str n, .ref a] ∧ DV K H (bkD b) v ∧ BkOk b ∧ SqT K H a (bs.map V.str) ∧ bs.length ≤ 1000 ∧ (∀ d ∈ bs, Clean (tl d)) ∧ ∀ H', Same H H' → Q (.bl (carriesB b n bs)) H'
def swA (s : Sw) : D := .str s.a
def sp_steward_of (K : PySem.W.Frag) : Sp := fun vs H Q _ => ∃ (b : Bk) (v : V) (d : Str), vs = [v, .str d] ∧ DV K H (bkD b) v ∧ BkOk b ∧ Clean (tl d) ∧ ∀ u H', Same H H' → DV K H' (optD swA (stwOf b (tl d))) u → Q u H'
def sp_seals (K : PySem.W.Frag) : Sp := fun vs H Q _ => ∃ (b : Bk) (v : V) (a : Addr) (bs : List Str), vs = [v, .ref a] ∧ DV K H (bkD b) v ∧ BkOk b ∧ SqT K H a (bs.map V.str) ∧ bs.length ≤ 1000 ∧ (∀ d ∈ bs, Clean (tl d)) ∧ ∀ (t : Addr) H', Same H H' → SqT K H' t ((sealsL b bs).map V.str) → Q (.ref t) H'
def sp_policy_of (K : PySem.W.Frag) : Sp := fun vs H Q _ => ∃ (b : Bk) (v : V) (a : Str), vs = [v, .str a] ∧ DV K H (bkD b) v ∧ ∀ u, DV K H (optD Sw.y (polOf b a)) u → Q u H
/-! ### what the law draws -/
def sp3__law_pick (K : PySem.W.Frag) : Sp := fun vs H Q _ =>
  (∃ (s a r : Addr) (xs : List V) (c : Nat), vs = [.ref s, .ref r] ∧ SqL K H r xs ∧ r ≠ s ∧ xs ≠ [] ∧ xs.length ≤ 100000 ∧ Src H s a (c + 1) ∧ ∀ (v : V) (H' : Hp), v ∈ xs → Ext s H H' → Src H' s a c → Q v H') ∨
  (∃ (s a : Addr) (x : Str) (c : Nat), vs = [.ref s, .str x] ∧ tl x ≠ [] ∧ (tl x).length ≤ 100000 ∧ Src H s a (c + 1) ∧ ∀ (ch : Nat) (H' : Hp), ch ∈ tl x → Ext s H H' → Src H' s a c → Q (.str (S [ch])) H') ∨
  (∃ (s a r : Addr) (xs : List V) (c : Nat), vs = [.ref s, .ref r] ∧ SqT K H r xs ∧ xs ≠ [] ∧ xs.length ≤ 100000 ∧ Src H s a (c + 1) ∧ ∀ (v : V) (H' : Hp), v ∈ xs → Ext s H H' → Src H' s a c → Q v H')
def Nms (us : List Str) : Prop := us.Nodup ∧ ∀ x ∈ us, Nm (tl x) ∧ (tl x).length ≤ 8
def sp9__law_new_name (K : PySem.W.Frag) : Sp := fun vs H Q _ => ∃ (s a u : Addr) (us : List Str) (c : Nat), vs = [.ref s, .ref u] ∧ SqL K H u (us.map V.str) ∧ u ≠ s ∧ us.length ≤ 9 ∧ Src H s a (c + 8) ∧
  ∀ (x : Str) (H' : Hp), Nm (tl x) → (tl x).length ≤ 8 → x ∉ us → Ext s H H' → Src H' s a c → Q (.str x) H'
def sp9__law_names (K : PySem.W.Frag) : Sp := fun vs H Q _ => ∃ (s a : Addr) (m c : Nat), vs = [.ref s, .int m] ∧ m ≤ 9 ∧ Src H s a (c + 8 * m) ∧
  ∀ (u : Addr) (us : List Str) (H' : Hp), H u = none → H' u = some (.lst (us.map V.str)) → us.length = m → Nms us → Ext s H H' → Src H' s a c → Q (.ref u) H'
def sp_lines (K : PySem.W.Frag) : Sp := fun vs H Q _ => ∃ (s a u : Addr) (us : List Str) (c : Nat), vs = [.ref s, .ref u] ∧ SqL K H u (us.map V.str) ∧ u ≠ s ∧ 1 ≤ us.length ∧ us.length ≤ 9 ∧ (∀ x ∈ us, Low (tl x)) ∧ Src H s a (c + 100) ∧
  ∀ (L : Addr) (ws : List V) (ls : List (Str × Str)) (H' : Hp), H L = none → H' L = some (.lst ws) → DVs K H' (ls.map lnD) ws → ls.length ≤ 20 → (∀ l ∈ ls, Low (tl l.1) ∧ Low (tl l.2)) → Ext s H H' → Src H' s a c → Q (.ref L) H'
def sp_feeds (K : PySem.W.Frag) : Sp := fun vs H Q _ => ∃ (s a L w : Addr) (ws : List V) (ls : List (Str × Str)) (us : List Str) (k : Int) (c : Nat), vs = [.ref s, .ref L, .ref w, .int k] ∧ SqL K H L ws ∧ L ≠ s ∧ DVs K H (ls.map lnD) ws ∧ ls.length ≤ 20 ∧ (∀ l ∈ ls, Low (tl l.1) ∧ Low (tl l.2)) ∧ SqL K H w (us.map V.str) ∧ w ≠ s ∧ Wds us ∧ 0 < k ∧ k ≤ 100 ∧ Src H s a (c + 20000) ∧
  ∀ (u : V) (fs : List Fd) (H' : Hp), DV K H' (.tup (fs.map fdD)) u → fs.length ≤ 40 → (∀ f ∈ fs, Low (tl f.g) ∧ Low (tl f.t)) → Ext s H H' → Src H' s a c → Q u H'
def sp_sites (K : PySem.W.Frag) : Sp := fun vs H Q _ => ∃ (s a u w o : Addr) (us ws : List Str) (z : Int) (is : List Int) (c : Nat), vs = [.ref s, .ref u, .ref w, .int z, .ref o] ∧ SqL K H u (us.map V.str) ∧ u ≠ s ∧ us.length ≤ 9 ∧ SqL K H w (ws.map V.str) ∧ w ≠ s ∧ Wds ws ∧ H o = some (.lst (is.map V.int)) ∧ o ≠ s ∧ is.length = us.length ∧ Src H s a (c + 5000) ∧
  ∀ (v : V) (l : List Si) (H' : Hp), DV K H' (.tup (l.map siD)) v → l.map (·.n) = us → (∀ x ∈ l, (tl x.p).length ≤ 200) → Ext s H H' → Src H' s a c → Q v H'
def sp_book (K : PySem.W.Frag) : Sp := fun vs H Q _ => ∃ (s a w : Addr) (ws : List Str) (m : Nat) (c : Nat), vs = [.ref s, .int (m : Int), .ref w] ∧ 1 ≤ m ∧ m ≤ 9 ∧ SqL K H w (ws.map V.str) ∧ w ≠ s ∧ Wds ws ∧ Src H s a (c + 30000) ∧
  ∀ (v : V) (b : Bk) (H' : Hp), DV K H' (bkD b) v → BkOk b → b.sw = [] → b.si ≠ [] → (b.si.map (·.n)).Nodup → Ext s H H' → Src H' s a c → Q v H'
def sp_stewards (K : PySem.W.Frag) : Sp := fun vs H Q _ => ∃ (s a w : Addr) (v : V) (b : Bk) (ws : List Str) (c : Nat), vs = [.ref s, v, .ref w] ∧ DV K H (bkD b) v ∧ b.si ≠ [] ∧ BkOk b ∧ SqL K H w (ws.map V.str) ∧ w ≠ s ∧ Wds ws ∧ Src H s a (c + 5000) ∧
  ∀ (u : V) (l : List Sw) (H' : Hp), DV K H' (.tup (l.map swD)) u → l.length ≤ 3 → (∀ x ∈ l, (tl x.p).length ≤ 200 ∧ (tl x.a).length ≤ 20 ∧ DL 4 x.y) → (l.map (·.a)).Nodup → Ext s H H' → Src H' s a c → Q u H'
/-! ### sorted texts, told by what they are -/
open PyProof.Rows in
theorem eqv_pair (a b c d : Str) : PyData.eqv (.tuple [.str a, .str b]) (.tuple [.str c, .str d]) = (decide (a = c) && decide (b = d)) := by
  simp [PyData.eqv, PyData.eqvAll]
  by_cases h1 : a = c <;> by_cases h2 : b = d <;> simp [h1, h2]
theorem ok_low {x : Str} (h : Low (tl x)) : PyData.strOk x = true := by
  unfold PyData.strOk
  rw [← Array.all_toList, List.all_eq_true]
  intro c m
  have := h c m
  exact decide_eq_true (by omega)
theorem pair_shaped {x y : Str} (hx : Low (tl x)) (hy : Low (tl y)) : SeqAt.shaped (.tuple [.str x, .str y]) = true := by
  simp [SeqAt.shaped, PyData.canLay0, PyData.canLayAll0, PyData.depth, PyData.depthAll, ok_low hx, ok_low hy]
end Z
namespace Z
open PySem L2 SX
open PyProof.Rows PySem.Spec
theorem find_uniq {α : Type} {f : α → Str} : ∀ {l : List α} {i : Nat} {x : α}, (l.map f).Nodup → l[i]? = some x → l.find? (fun y => decide (f y = f x)) = some x
  | [], i, x, _, h => by simp at h
  | y :: r, i, x, nd, h => by
    rw [List.map_cons, List.nodup_cons] at nd
    cases i with
    | zero =>
      have : y = x := Option.some.inj h
      subst this
      rw [List.find?_cons_of_pos (by simp)]
    | succ i =>
      have hr : r[i]? = some x := h
      have ne : ¬ f y = f x := fun e => nd.1 (by rw [e]; exact List.mem_map_of_mem (List.mem_of_getElem? hr))
      rw [List.find?_cons_of_neg (by simpa using ne)]
      exact find_uniq nd.2 hr
theorem lt_anti : ∀ {a b : List Nat}, ltCps a b = false → ltCps b a = false → a = b
  | [], [], _, _ => rfl
  | [], _ :: _, h, _ => by simp [ltCps] at h
  | _ :: _, [], _, h => by simp [ltCps] at h
  | x :: a, y :: b, h, k => by
    simp only [ltCps, Bool.or_eq_false_iff, decide_eq_false_iff_not, Bool.and_eq_false_iff] at h k
    have e : x = y := by omega
    subst e
    have h2 := h.2.resolve_left (by simp)
    have k2 := k.2.resolve_left (by simp)
    rw [lt_anti h2 k2]
theorem lt_trans : ∀ {a b c : List Nat}, ltCps b a = false → ltCps c b = false → ltCps c a = false
  | [], _, [], _, _ => rfl
  | [], _, _ :: _, _, _ => by simp [ltCps]
  | _ :: _, [], _, h, _ => by simp [ltCps] at h
  | _ :: _, _ :: _, [], _, k => by simp [ltCps] at k
  | x :: a, y :: b, z :: c, h, k => by
    simp only [ltCps, Bool.or_eq_false_iff, decide_eq_false_iff_not, Bool.and_eq_false_iff] at h k ⊢
    refine ⟨by omega, ?_⟩
    by_cases e : z = x
    · have e1 : y = x := by omega
      have e2 : z = y := by omega
      subst e1
      subst e2
      exact .inr (lt_trans (h.2.resolve_left (by simp)) (k.2.resolve_left (by simp)))
    · exact .inl (by simpa using e)
theorem rising_pw : ∀ {l : List Str} {p : Str}, risingS p l = true → (∀ x ∈ l, ltCps x.cps.toList p.cps.toList = false) ∧ l.Pairwise (fun a b => ltCps b.cps.toList a.cps.toList = false)
  | [], _, _ => ⟨(fun _ h => by cases h), List.Pairwise.nil⟩
  | x :: r, p, h => by
    have h' : (!ltCps x.cps.toList p.cps.toList && risingS x r) = true := h
    obtain ⟨h1, h2⟩ := Bool.and_eq_true_iff.mp h'
    have h1' : ltCps x.cps.toList p.cps.toList = false := by simpa using h1
    obtain ⟨k1, k2⟩ := rising_pw h2
    refine ⟨fun y hy => ?_, List.pairwise_cons.mpr ⟨k1, k2⟩⟩
    rcases List.mem_cons.mp hy with e | e
    · rw [e]; exact h1'
    · exact lt_trans h1' (k1 y e)
theorem sorted_pw : ∀ {l : List Str}, sortedS l = true → l.Pairwise (fun a b => ltCps b.cps.toList a.cps.toList = false)
  | [], _ => List.Pairwise.nil
  | x :: r, h => List.pairwise_cons.mpr (rising_pw (show risingS x r = true from h))
theorem pw_uniq : ∀ {ys zs : List Str}, ys.Perm zs → ys.Pairwise (fun a b => ltCps b.cps.toList a.cps.toList = false) → zs.Pairwise (fun a b => ltCps b.cps.toList a.cps.toList = false) → ys = zs
  | [], zs, p, _, _ => p.nil_eq
  | y :: r, [], p, _, _ => absurd p.symm.nil_eq (by simp)
  | y :: r, z :: t, p, hy, hz => by
    obtain ⟨y1, y2⟩ := List.pairwise_cons.mp hy
    obtain ⟨z1, z2⟩ := List.pairwise_cons.mp hz
    have e : y = z := by
      have m1 : y ∈ z :: t := p.mem_iff.mp (by simp)
      have m2 : z ∈ y :: r := p.mem_iff.mpr (by simp)
      rcases List.mem_cons.mp m1 with e | e
      · exact e
      · rcases List.mem_cons.mp m2 with e2 | e2
        · exact e2.symm
        · exact tl_ext (lt_anti (z1 y e) (y1 z e2)) 
    subst e
    rw [pw_uniq ((List.perm_cons y).mp p) y2 z2]
theorem sorted_uniq {ys zs : List Str} (p : ys.Perm zs) (sy : sortedS ys = true) (sz : sortedS zs = true) : ys = zs := pw_uniq p (sorted_pw sy) (sorted_pw sz)
theorem seal_len (b : Bk) (acc : List Str) (d : Str) : (sealF b acc d).length ≤ acc.length + 1 := by
  unfold sealF
  split
  · omega
  · split
    · omega
    · rw [List.length_append]; exact Nat.le_refl _
theorem seals_len (b : Bk) : ∀ (bs acc : List Str), (bs.foldl (sealF b) acc).length ≤ acc.length + bs.length
  | [], _ => Nat.le_refl _
  | d :: r, acc => by
    have h1 := seals_len b r (sealF b acc d)
    have h2 := seal_len b acc d
    rw [List.foldl_cons, List.length_cons]; omega
end Z
namespace Z
open PySem L2 SX
/-! ### small helpers -/
theorem nodup_len : ∀ {l m : List Str}, l.Nodup → (∀ x ∈ l, x ∈ m) → l.length ≤ m.length
  | [], m, _, _ => Nat.zero_le _
  | x :: l, m, nd, h => by
    obtain ⟨n1, n2⟩ := List.nodup_cons.mp nd
    have hx := h x (by simp)
    have := nodup_len (l := l) (m := m.erase x) n2 fun y my => (List.mem_erase_of_ne (fun e => n1 (by rw [← e]; exact my))).mpr (h y (List.mem_cons_of_mem _ my))
    have e := List.length_erase_of_mem hx
    have p := List.length_pos_of_mem hx
    rw [List.length_cons]; omega
theorem sput {H H' : Hp} {a : Addr} {o : HO} (h : Same H H') (n : H a = none) : Same H (upd H' a o) := fun b u hb => by
  rw [upd_ne (ne_of_none hb n)]; exact h b u hb
theorem tk_upd {K : PySem.W.Frag} {H : Hp} {p : Addr} {u o : HO} (h : H p = some u) (n1 : ∀ xs, u ≠ .tup xs) (n2 : ∀ o w, u ≠ .frz o w) : TK K H (upd H p o) := fun a xs q => by
  rcases q with (q | ⟨o', q⟩) | q
  · exact .inl (.inl (by rw [upd_ne (fun e => by rw [e, h] at q; exact n1 _ (Option.some.inj q))]; exact q))
  · exact .inl (.inr ⟨o', by rw [upd_ne (fun e => by rw [e, h] at q; exact n2 _ _ (Option.some.inj q))]; exact q⟩)
  · exact .inr q
theorem map_get {α : Type} {f : α → V} {l : List α} {i : Nat} {x : V} (h : (l.map f)[i]? = some x) : ∃ y, l[i]? = some y ∧ x = f y := by
  rw [List.getElem?_map] at h
  cases e : l[i]? with
  | none => rw [e] at h; cases h
  | some y => rw [e] at h; exact ⟨y, rfl, (Option.some.inj h).symm⟩
theorem filt_step2 {α : Type} {p : α → Bool} {l : List α} {i : Nat} {x : α} (e : l[i]? = some x) : (l.take (i + 1)).filter p = (l.take i).filter p ++ (if p x = true then [x] else []) := by
  rw [List.take_add_one, e, List.filter_append]
  congr 1
  by_cases c : p x = true
  · rw [if_pos c]; exact List.filter_eq_self.mpr fun y hy => by rw [List.mem_singleton.mp hy]; exact c
  · rw [if_neg c]; exact List.filter_eq_nil_iff.mpr fun y hy => by rw [List.mem_singleton.mp hy]; exact c
theorem iG {c : Bool} {A B : Prop} (h : c = true) (a : A) : if c = true then A else B := by rw [if_pos h]; exact a
theorem iN {c : Bool} {A B : Prop} (h : c = false) (b : B) : if c = true then A else B := by rw [if_neg (by rw [h]; exact Bool.false_ne_true)]; exact b
theorem sorted_first {y : Str} {r : List Str} (h : (y :: r).Pairwise fun a b => PySem.Spec.ltCps b.cps.toList a.cps.toList = false) : ∀ z ∈ y :: r, ¬ tl z < tl y := fun z hz => by
  rcases List.mem_cons.mp hz with e | e
  · rw [e]; exact fun q => List.lt_irrefl _ q
  · have := (List.pairwise_cons.mp h).1 z e
    rw [PyProof.Rows.ltCps_eq] at this
    exact of_decide_eq_false this
def nms (b : Bk) : List Str := b.si.map (·.n)
theorem dls {K : PySem.W.Frag} {H : Hp} (x : Str) : DV K H (.str x) (.str x) := by unfold DV; rfl
theorem dli {K : PySem.W.Frag} {H : Hp} (x : Int) : DV K H (.int x) (.int x) := by unfold DV; rfl
theorem dln {K : PySem.W.Frag} {H : Hp} : DVs K H [] [] := by unfold DVs; rfl
theorem dlc {K : PySem.W.Frag} {H : Hp} {d : D} {ds : List D} {v : V} {vs : List V} (h : DV K H d v) (t : DVs K H ds vs) : DVs K H (d :: ds) (v :: vs) := ⟨v, vs, rfl, h, t⟩
theorem tk_put {K : PySem.W.Frag} {H : Hp} {M : Addr} {ys : List V} {o : HO} (h : H M = some (.lst ys)) : TK K H (upd H M o) := fun a xs q => Ext.seqT (s := M) (fun b o hb hh => by rw [upd_ne hb]; exact hh) h q
theorem tk_new {K : PySem.W.Frag} {H : Hp} {M : Addr} {o : HO} (h : H M = none) : TK K H (upd H M o) := TK.same (same_new h)
theorem small_le (n : Nat) (h : n ≤ 30000) : n ≤ sizeLine := Nat.le_trans h (by decide)
theorem small_lt (n : Nat) (h : n ≤ 30000) : n < sizeLine := Nat.lt_of_le_of_lt h (by decide)
theorem pw_get {α : Type} {r : α → α → Prop} : ∀ {l : List α} {i j : Nat} {a b : α}, l.Pairwise r → l[i]? = some a → l[j]? = some b → i < j → r a b
  | [], _, _, _, _, _, h, _, _ => by simp at h
  | x :: l, 0, j + 1, a, b, p, h, k, _ => by
    cases (show some _ = some _ from h)
    exact (List.pairwise_cons.mp p).1 b (List.mem_of_getElem? (by simpa using k))
  | x :: l, i + 1, j + 1, a, b, p, h, k, lt => pw_get (i := i) (j := j) (List.pairwise_cons.mp p).2 (by simpa using h) (by simpa using k) (by omega)
/-- the bookkeeping of one local list and the source -/
theorem ext_keep {s M : Addr} {H H1 : Hp} {o : HO} (n : H M = none) (x : Ext s H H1) : Ext s H (upd H1 M o) := fun b w hb hh => by
  rw [upd_ne (ne_of_none hh n)]; exact x b w hb hh
theorem DVs.of_all {K : PySem.W.Frag} {H : Hp} {α : Type} {f : α → D} {g : α → V} : ∀ {l : List α}, (∀ x ∈ l, DV K H (f x) (g x)) → DVs K H (l.map f) (l.map g)
  | [], _ => by unfold List.map DVs; rfl
  | x :: l, h => ⟨g x, l.map g, rfl, h x (by simp), DVs.of_all fun y m => h y (List.mem_cons_of_mem _ m)⟩
theorem DVs.all {K : PySem.W.Frag} {H : Hp} {α : Type} {f : α → D} {l : List α} {us : List V} (h : DVs K H (l.map f) us) {i : Nat} {x : α} (e : l[i]? = some x) : ∃ u, us[i]? = some u ∧ DV K H (f x) u :=
  h.get (by rw [List.getElem?_map, e]; rfl)
theorem ln_ok {ls : List (Str × Str)} (h : ∀ l ∈ ls, Low (tl l.1) ∧ Low (tl l.2)) : Okl (ls.map lnD) :=
  fines_ok (n := 1) (fines_map fun l m => fine_tup (fines_cons (fine_low fun c hc => by have := (h l m).1 c hc; omega) (fines_cons (fine_low fun c hc => by have := (h l m).2 c hc; omega) fines_nil)))
theorem pr_ok {x y : Str} (h : Low (tl x)) (k : Low (tl y)) : Okd (.tup [.str x, .str y]) :=
  fine_ok (n := 1) (fine_tup (fines_cons (fine_low fun c hc => by have := h c hc; omega) (fines_cons (fine_low fun c hc => by have := k c hc; omega) fines_nil)))
theorem alike_ln (b c : Str × Str) : PySem.W.alike (py (lnD b)) (py (lnD c)) = true := by simp [lnD, py, pys, PySem.W.alike, PySem.W.alikeAll]
theorem depth_ln (b : Str × Str) : (py (lnD b)).depth ≤ 60 := by simp [lnD, py, pys, PyData.depth, PyData.depthAll]
theorem lnD_inj {a b : Str × Str} (h : lnD a = lnD b) : a = b := by
  unfold lnD at h
  simp only [D.tup.injEq, List.cons.injEq, D.str.injEq, and_true] at h
  exact Prod.ext h.1 h.2
theorem erase_perm {α : Type} : ∀ (l : List α) (i : Nat) (h : i < l.length), (l[i] :: l.eraseIdx i).Perm l
  | x :: l, 0, _ => List.Perm.refl _
  | x :: l, i + 1, h => by
    have ih := erase_perm l i (by simpa using h)
    exact (List.Perm.swap x _ _).trans (ih.cons x)
theorem DVs.perm {K : PySem.W.Frag} {H : Hp} {α : Type} {f : α → D} {ys us : List V} (p : ys.Perm us) : ∀ {l : List α}, DVs K H (l.map f) us → ∃ m : List α, m.Perm l ∧ DVs K H (m.map f) ys := by
  induction p with
  | nil => intro l h; exact ⟨l, List.Perm.refl _, h⟩
  | cons x _ ih =>
    intro l h
    cases l with
    | nil => unfold List.map DVs at h; cases h
    | cons a l =>
      obtain ⟨v, r, e, q, t⟩ := h
      cases e
      obtain ⟨m, pm, d⟩ := ih t
      exact ⟨a :: m, pm.cons a, ⟨_, _, rfl, q, d⟩⟩
  | swap x y r0 =>
    intro l h
    match l, h with
    | [], h => unfold List.map DVs at h; cases h
    | [a], h =>
      obtain ⟨v, r, e, q, t⟩ := h
      cases e
      unfold List.map DVs at t; cases t
    | a :: b :: l, h =>
      obtain ⟨v, r, e, q, t⟩ := h
      cases e
      obtain ⟨v2, r2, e2, q2, t2⟩ := t
      cases e2
      exact ⟨b :: a :: l, List.Perm.swap a b l, ⟨_, _, rfl, q2, ⟨_, _, rfl, q, t2⟩⟩⟩
  | trans _ _ ih1 ih2 =>
    intro l h
    obtain ⟨m, pm, d⟩ := ih2 h
    obtain ⟨m2, pm2, d2⟩ := ih1 d
    exact ⟨m2, pm2.trans pm, d2⟩
theorem DVs.take {K : PySem.W.Frag} {H : Hp} {α : Type} {f : α → D} : ∀ {l : List α} {us : List V} (n : Nat), DVs K H (l.map f) us → DVs K H ((l.take n).map f) (us.take n)
  | _, _, 0, _ => by rw [List.take_zero, List.take_zero]; unfold List.map DVs; rfl
  | [], _, n + 1, h => by unfold List.map DVs at h; subst h; unfold List.take List.map DVs; rfl
  | x :: l, _, n + 1, h => by
    obtain ⟨v, r, rfl, q, t⟩ := h
    exact ⟨v, r.take n, rfl, q, DVs.take n t⟩
theorem DVs.drop {K : PySem.W.Frag} {H : Hp} {α : Type} {f : α → D} : ∀ {l : List α} {us : List V} (n : Nat), DVs K H (l.map f) us → DVs K H ((l.drop n).map f) (us.drop n)
  | _, _, 0, h => by rw [List.drop_zero, List.drop_zero]; exact h
  | [], _, n + 1, h => by unfold List.map DVs at h; subst h; unfold List.drop List.map DVs; rfl
  | x :: l, _, n + 1, h => by
    obtain ⟨v, r, rfl, q, t⟩ := h
    exact DVs.drop n t
end Z
namespace Z
open PySem L2 SX
theorem tkE {K : PySem.W.Frag} {H H' : Hp} {s a : Addr} {c : Nat} (x : Ext s H H') (S : Src H s a c) : TK K H H' := fun _ _ h => by
  obtain ⟨xs, e⟩ := S.lst
  exact x.seqT e h
theorem sl_listK {X : Cx} {K : PySem.W.Frag} (h : X.K = K) : SlR X (rSlL K) := by subst h; exact sl_list
/-! ### tuples stay, by their addresses too -/
def TT (K : PySem.W.Frag) (H H' : Hp) : Prop := TK K H H' ∧ ∀ a xs, H a = some (.tup xs) → H' a = some (.tup xs)
section
variable {K : PySem.W.Frag}
theorem TT.refl {H : Hp} : TT K H H := ⟨TK.same (Same.refl _), fun _ _ e => e⟩
theorem TT.same {H H' : Hp} (h : Same H H') : TT K H H' := ⟨TK.same h, fun _ _ e => h _ _ e⟩
theorem TT.trans {H H1 H2 : Hp} (x : TT K H H1) (y : TT K H1 H2) : TT K H H2 := ⟨x.1.trans y.1, fun a xs e => y.2 a xs (x.2 a xs e)⟩
theorem TT.ext {H H' : Hp} {s a : Addr} {c : Nat} (x : Ext s H H') (S : Src H s a c) : TT K H H' := ⟨tkE x S, fun b xs e => x _ _ (fun z => by
  obtain ⟨ys, e2⟩ := S.lst
  rw [z, e2] at e
  cases e) e⟩
theorem TT.over {H : Hp} {p : Addr} {u o : HO} (h : H p = some u) (n1 : ∀ xs, u ≠ .tup xs) (n2 : ∀ o w, u ≠ .frz o w) : TT K H (upd H p o) := ⟨tk_upd h n1 n2, fun b xs e => by
  rw [upd_ne (fun z => by rw [z, h] at e; exact n1 _ (Option.some.inj e))]; exact e⟩
theorem TT.put {H : Hp} {M : Addr} {ys : List V} {o : HO} (h : H M = some (.lst ys)) : TT K H (upd H M o) := TT.over h (fun _ e => by cases e) (fun _ _ e => by cases e)
end
theorem Src.extL {H H' : Hp} {s a : Addr} {c : Nat} {ms : List Addr} (h : Src H s a c) (x : ExtL ms H H') (n1 : s ∉ ms) (n2 : a ∉ ms) : Src H' s a c := by
  obtain ⟨ns, i, b, e, t, h1, h2, h3⟩ := h
  exact ⟨ns, i, b, e, t, x _ _ n1 h1, x _ _ n2 h2, h3⟩
/-! ### a list of values, told one by one -/
def RL {α : Type} (R : α → V → Prop) : List α → List V → Prop
  | [], us => us = []
  | x :: r, us => ∃ v t, us = v :: t ∧ R x v ∧ RL R r t
section
variable {α β : Type} {R R' : α → V → Prop}
theorem RL.len : ∀ {xs : List α} {us : List V}, RL R xs us → us.length = xs.length
  | [], _, h => by have : _ = [] := h; rw [this]; rfl
  | _ :: _, _, h => by
    obtain ⟨v, t, rfl, _, h2⟩ := h
    rw [List.length_cons, List.length_cons, h2.len]
theorem RL.get : ∀ {xs : List α} {us : List V} {i : Nat} {v : V}, RL R xs us → us[i]? = some v → ∃ x, xs[i]? = some x ∧ R x v
  | [], us, i, v, h, q => by have : us = [] := h; subst this; simp at q
  | x :: r, us, i, v, h, q => by
    obtain ⟨v', t, rfl, h1, h2⟩ := h
    cases i with
    | zero => exact ⟨x, rfl, by cases q; exact h1⟩
    | succ i => exact RL.get (i := i) h2 q
theorem RL.at {xs : List α} {us : List V} {i : Nat} {x : α} (h : RL R xs us) (q : xs[i]? = some x) : ∃ v, us[i]? = some v ∧ R x v := by
  have il := (List.getElem?_eq_some_iff.mp q).1
  obtain ⟨v, hv⟩ : ∃ v, us[i]? = some v := ⟨_, List.getElem?_eq_getElem (by rw [h.len]; exact il)⟩
  obtain ⟨x', hx, r⟩ := h.get hv
  rw [q] at hx
  cases hx
  exact ⟨v, hv, r⟩
theorem RL.mono (m : ∀ x v, R x v → R' x v) : ∀ {xs : List α} {us : List V}, RL R xs us → RL R' xs us
  | [], _, h => h
  | _ :: _, _, h => by
    obtain ⟨v, t, e, h1, h2⟩ := h
    exact ⟨v, t, e, m _ _ h1, RL.mono m h2⟩
theorem RL.snoc {x : α} {v : V} (q : R x v) : ∀ {xs : List α} {us : List V}, RL R xs us → RL R (xs ++ [x]) (us ++ [v])
  | [], us, h => by have : us = [] := h; subst this; exact ⟨v, [], rfl, q, rfl⟩
  | _ :: _, _, h => by
    obtain ⟨v', t, rfl, h1, h2⟩ := h
    exact ⟨v', t ++ [v], rfl, h1, h2.snoc q⟩
theorem RL.step {xs : List α} {us : List V} {x : α} {v : V} {j : Nat} (he : xs[j]? = some x) (h : RL R (xs.take j) us) (q : R x v) : RL R (xs.take (j + 1)) (us ++ [v]) := by
  rw [List.take_add_one, he]
  exact h.snoc q
theorem RL.take : ∀ {xs : List α} {us : List V} (j : Nat), RL R xs us → RL R (xs.take j) (us.take j)
  | _, _, 0, _ => rfl
  | [], us, j + 1, h => by have : us = [] := h; subst this; exact rfl
  | _ :: _, _, j + 1, h => by
    obtain ⟨v, t, rfl, h1, h2⟩ := h
    exact ⟨v, t.take j, rfl, h1, h2.take j⟩
theorem RL.erase : ∀ {xs : List α} {us : List V} (j : Nat), RL R xs us → RL R (xs.eraseIdx j) (us.eraseIdx j)
  | [], us, j, h => by have : us = [] := h; subst this; simp; exact rfl
  | _ :: _, _, 0, h => by
    obtain ⟨v, t, rfl, h1, h2⟩ := h
    exact h2
  | _ :: _, _, j + 1, h => by
    obtain ⟨v, t, rfl, h1, h2⟩ := h
    exact ⟨v, t.eraseIdx j, rfl, h1, h2.erase j⟩
theorem RL.pick {xs : List α} {us : List V} {v : V} (h : RL R xs us) (m : v ∈ us) : ∃ x, x ∈ xs ∧ R x v := by
  obtain ⟨i, hi⟩ := List.mem_iff_getElem?.mp m
  obtain ⟨x, hx, r⟩ := h.get hi
  exact ⟨x, List.mem_of_getElem? hx, r⟩
theorem RL.dvs {K : PySem.W.Frag} {H : Hp} {f : α → D} (m : ∀ x v, R x v → DV K H (f x) v) : ∀ {xs : List α} {us : List V}, RL R xs us → DVs K H (xs.map f) us
  | [], us, h => by have : us = [] := h; subst this; exact dln
  | _ :: _, _, h => by
    obtain ⟨v, t, rfl, h1, h2⟩ := h
    exact dlc (m _ _ h1) (RL.dvs m h2)
theorem RL.perm : ∀ {us vs : List V}, us.Perm vs → ∀ {xs : List α}, RL R xs us → ∃ ys : List α, xs.Perm ys ∧ RL R ys vs := by
  intro us vs p
  induction p with
  | nil => intro xs h; exact ⟨xs, List.Perm.refl _, h⟩
  | cons v p ih =>
    intro xs h
    cases xs with
    | nil => cases (show _ :: _ = [] from h)
    | cons x r =>
      obtain ⟨v', t, e, h1, h2⟩ := h
      cases e
      obtain ⟨ys, p2, h3⟩ := ih h2
      exact ⟨x :: ys, p2.cons x, v, _, rfl, h1, h3⟩
  | swap v w l =>
    intro xs h
    cases xs with
    | nil => cases (show _ :: _ = [] from h)
    | cons x r =>
      obtain ⟨v', t, e, h1, h2⟩ := h
      cases e
      cases r with
      | nil => cases (show _ :: _ = [] from h2)
      | cons y r =>
        obtain ⟨v2, t2, e2, h3, h4⟩ := h2
        cases e2
        exact ⟨y :: x :: r, List.Perm.swap y x r, _, _, rfl, h3, _, _, rfl, h1, h4⟩
  | trans _ _ ih1 ih2 =>
    intro xs h
    obtain ⟨ys, p1, h1⟩ := ih1 h
    obtain ⟨zs, p2, h2⟩ := ih2 h1
    exact ⟨zs, p1.trans p2, h2⟩
theorem RL.filter {f : α → Bool} : ∀ {xs : List α} {us : List V}, RL R xs us → ∃ ws, RL R (xs.filter f) ws
  | [], _, _ => ⟨[], rfl⟩
  | x :: r, _, h => by
    obtain ⟨v, t, _, h1, h2⟩ := h
    obtain ⟨ws, h3⟩ := RL.filter (f := f) h2
    by_cases c : f x = true
    · rw [List.filter_cons_of_pos c]; exact ⟨v :: ws, v, ws, rfl, h1, h3⟩
    · rw [List.filter_cons_of_neg c]; exact ⟨ws, h3⟩
end
/-! ### ids -/
abbrev Idn := Str × Int
def ik (x : Idn) : List L2.Key := [.inr x.1, .inl x.2]
def iD (x : Idn) : D := .tup [.str x.1, .int x.2]
theorem ik_inj {x y : Idn} (h : ik x = ik y) : x = y := by
  obtain ⟨a, b⟩ := x
  obtain ⟨c, d⟩ := y
  unfold ik at h
  injection h with h1 h2
  injection h2 with h2 _
  exact Prod.ext (Sum.inr.inj h1) (Sum.inl.inj h2)
theorem iD_inj {x y : Idn} (h : iD x = iD y) : x = y := by
  obtain ⟨a, b⟩ := x
  obtain ⟨c, d⟩ := y
  unfold iD at h
  injection h with h
  injection h with h1 h2
  injection h2 with h2 _
  injection h1 with h1
  injection h2 with h2
  exact Prod.ext h1 h2
def okI (x : Idn) : Prop := Low (tl x.1)
def IsId (H : Hp) (x : Idn) (v : V) : Prop := okI x ∧ ∃ a, v = .ref a ∧ H a = some (.tup [.str x.1, .int x.2])
section
variable {K : PySem.W.Frag}
theorem IsId.tt {H H' : Hp} (T : TT K H H') (x : Idn) (v : V) (h : IsId H x v) : IsId H' x v := by
  obtain ⟨h0, a, e, h1⟩ := h
  exact ⟨h0, a, e, T.2 _ _ h1⟩
theorem IsId.dv {H : Hp} (x : Idn) (v : V) (h : IsId H x v) : DV K H (iD x) v := by
  obtain ⟨h0, a, rfl, h1⟩ := h
  exact ⟨a, _, rfl, SqT.of h1, dlc (dls _) (dlc (dli _) dln)⟩
theorem id_okd {x : Idn} (h : okI x) : Okd (iD x) := fine_ok (n := 1) (fine_tup (fines_cons (fine_low fun c hc => by have := h c hc; omega) (fines_cons fine_int fines_nil)))
theorem id_okl {l : List Idn} (h : ∀ x ∈ l, okI x) : Okl (l.map iD) := fines_ok (n := 1) (fines_map fun x m => fine_tup (fines_cons (fine_low fun c hc => by have := h x m c hc; omega) (fines_cons fine_int fines_nil)))
theorem id_alike (x y : Idn) : PySem.W.alike (py (iD x)) (py (iD y)) = true := by simp [iD, py, pys, PySem.W.alike, PySem.W.alikeAll]
theorem id_eqD {x y : Idn} : eqD (iD x) (iD y) = true ↔ x = y := by
  rw [eqD_iff (id_alike x y)]
  exact ⟨iD_inj, fun h => by rw [h]⟩
theorem id_aa {l : List Idn} : PySem.W.AllAlike (l.map fun b => py (iD b)) := aa_of id_alike
theorem id_so {l : List Idn} : PySem.W.Sortable (l.map fun b => py (iD b)) := so_tup fun b => ⟨_, _, rfl⟩
theorem id_dp (b : Idn) : (py (iD b)).depth ≤ 60 := by simp [iD, py, pys, PyData.depth, PyData.depthAll]
end
/-- is it in? -/
def memB (l : List Idn) (x : Idn) : Bool := l.any fun y => decide (ik y = ik x)
theorem memB_iff {l : List Idn} {x : Idn} : memB l x = true ↔ x ∈ l := by
  unfold memB
  rw [List.any_eq_true]
  exact ⟨fun ⟨y, hy, h⟩ => by rw [← ik_inj (of_decide_eq_true h)]; exact hy, fun h => ⟨x, h, decide_eq_true rfl⟩⟩
theorem memB_any {l : List Idn} {x : Idn} : ((l.map iD).any fun z => eqD z (iD x)) = memB l x := by
  rw [List.any_map]
  refine congrArg (List.any l) (funext fun y => ?_)
  rw [Bool.eq_iff_iff, decide_eq_true_iff]
  exact id_eqD.trans ⟨fun h => by rw [h], ik_inj⟩
theorem memB_congr {l m : List Idn} {x : Idn} (h : ∀ y, y ∈ l ↔ y ∈ m) : memB l x = memB m x := by
  rw [Bool.eq_iff_iff, memB_iff, memB_iff]; exact h x
def add (l : List Idn) (x : Idn) : List Idn := if memB l x = true then l else l ++ [x]
theorem add_mem {l : List Idn} {x y : Idn} : y ∈ add l x ↔ y ∈ l ∨ y = x := by
  unfold add
  split
  · rename_i h
    exact ⟨.inl, fun k => k.elim id fun e => by rw [e]; exact memB_iff.mp h⟩
  · rw [List.mem_append, List.mem_singleton]
theorem add_nd {l : List Idn} {x : Idn} (h : l.Nodup) : (add l x).Nodup := by
  unfold add
  split
  · exact h
  · rename_i n
    rw [List.nodup_append]
    exact ⟨h, List.nodup_cons.mpr ⟨by simp, List.nodup_nil⟩, fun a ha b hb => by
      rw [List.mem_singleton.mp hb]
      exact fun z => n (memB_iff.mpr (by rw [← z]; exact ha))⟩
theorem add_len {l : List Idn} {x : Idn} : (add l x).length ≤ l.length + 1 := by
  unfold add
  split
  · omega
  · rw [List.length_append]; exact Nat.le_refl _
def uni (l m : List Idn) : List Idn := m.foldl add l
theorem uni_mem {y : Idn} : ∀ {m l : List Idn}, y ∈ uni l m ↔ y ∈ l ∨ y ∈ m
  | [], l => by simp [uni]
  | x :: m, l => by
    show y ∈ uni (add l x) m ↔ _
    rw [uni_mem, add_mem, List.mem_cons, or_assoc]
theorem uni_nd : ∀ {m l : List Idn}, l.Nodup → (uni l m).Nodup
  | [], _, h => h
  | x :: m, l, h => uni_nd (m := m) (l := add l x) (add_nd h)
theorem uni_len : ∀ {m l : List Idn}, (uni l m).length ≤ l.length + m.length
  | [], _ => Nat.le_refl _
  | x :: m, l => by
    have h1 := uni_len (m := m) (l := add l x)
    have h2 := add_len (l := l) (x := x)
    show (uni (add l x) m).length ≤ _
    rw [List.length_cons]
    omega
theorem uni_take {l m : List Idn} {j : Nat} {x : Idn} (h : m[j]? = some x) : add (uni l (m.take j)) x = uni l (m.take (j + 1)) := by
  unfold uni
  rw [List.take_add_one, h, show (some x).toList = [x] from rfl, List.foldl_append]
  rfl
/-! ### sorted ids -/
noncomputable def srt (l : List Idn) : List Idn := l.mergeSort (dle iD)
theorem srt_mem {l : List Idn} {x : Idn} : x ∈ srt l ↔ x ∈ l := (sort_perm iD l).mem_iff
theorem srt_len {l : List Idn} : (srt l).length = l.length := (sort_perm iD l).length_eq
theorem pw_eq9 {α : Type} {r : α → α → Prop} (an : ∀ a b, r a b → r b a → a = b) : ∀ {l m : List α}, l.Perm m → l.Pairwise r → m.Pairwise r → l = m
  | [], m, p, _, _ => p.nil_eq
  | y :: l, [], p, _, _ => absurd p.symm.nil_eq (by simp)
  | y :: l, z :: m, p, hy, hz => by
    obtain ⟨y1, y2⟩ := List.pairwise_cons.mp hy
    obtain ⟨z1, z2⟩ := List.pairwise_cons.mp hz
    have e : y = z := by
      rcases List.mem_cons.mp (p.mem_iff.mp (List.mem_cons_self (a := y))) with e | e
      · exact e
      · rcases List.mem_cons.mp (p.mem_iff.mpr (List.mem_cons_self (a := z))) with e2 | e2
        · exact e2.symm
        · exact an _ _ (y1 z e2) (z1 y e)
    subst e
    rw [pw_eq9 an ((List.perm_cons y).mp p) y2 z2]
open PySem.W in
theorem dle_anti {x y : Idn} (h : dle iD x y = true) (k : dle iD y x = true) : x = y := by
  obtain ⟨a, b⟩ := x
  obtain ⟨c, d⟩ := y
  have h : (!dataLt (py (iD (c, d))) (py (iD (a, b)))) = true := h
  have k : (!dataLt (py (iD (a, b))) (py (iD (c, d)))) = true := k
  unfold iD at h k
  simp only [py, pys] at h k
  rw [dataLt_pair (by simp [alike]) (by simp [alike])] at h k
  rw [Bool.not_eq_true'] at h k
  by_cases e : a = c
  · subst e
    have e1 : (PyData.str a).eqv (PyData.str a) = true := by simp [PyData.eqv]
    rw [if_pos e1] at h k
    by_cases f : b = d
    · rw [f]
    · exfalso
      have e2 : (PyData.int d).eqv (PyData.int b) = false := by simp only [PyData.eqv, beq_eq_false_iff_ne]; omega
      have e3 : (PyData.int b).eqv (PyData.int d) = false := by simp only [PyData.eqv, beq_eq_false_iff_ne]; omega
      rw [if_neg (by rw [e2]; exact Bool.false_ne_true), dataLt_int, decide_eq_false_iff_not] at h
      rw [if_neg (by rw [e3]; exact Bool.false_ne_true), dataLt_int, decide_eq_false_iff_not] at k
      omega
  · exfalso
    have e2 : (PyData.str c).eqv (PyData.str a) = false := by simp [PyData.eqv, Ne.symm e]
    have e3 : (PyData.str a).eqv (PyData.str c) = false := by simp [PyData.eqv, e]
    rw [if_neg (by rw [e2]; exact Bool.false_ne_true), dataLt_str, decide_eq_false_iff_not] at h
    rw [if_neg (by rw [e3]; exact Bool.false_ne_true), dataLt_str, decide_eq_false_iff_not] at k
    exact e (str_of_cps (List.le_antisymm (List.not_lt.mp h) (List.not_lt.mp k)))
theorem srt_perm {l m : List Idn} (p : l.Perm m) : srt l = srt m :=
  pw_eq9 (r := fun a b => dle iD a b = true) (fun _ _ => dle_anti) (((sort_perm iD l).trans p).trans (sort_perm iD m).symm) (sort_pw iD l) (sort_pw iD m)
/-! ### numbers and ids -/
def PrAt (K : PySem.W.Frag) (H : Hp) (p : Int × Idn) (v : V) : Prop := ∃ t w, v = .ref t ∧ SqT K H t [.int p.1, w] ∧ IsId H p.2 w
def nuD (p : Int × Idn) : D := .tup [.int p.1, iD p.2]
section
variable {K : PySem.W.Frag}
theorem PrAt.tt {H H' : Hp} (T : TT K H H') (p : Int × Idn) (v : V) (h : PrAt K H p v) : PrAt K H' p v := by
  obtain ⟨t, w, e, h1, h2⟩ := h
  exact ⟨t, w, e, T.1 _ _ h1, h2.tt T⟩
theorem PrAt.dv {H : Hp} (p : Int × Idn) (v : V) (h : PrAt K H p v) : DV K H (nuD p) v := by
  obtain ⟨t, w, rfl, h1, h2⟩ := h
  exact ⟨t, _, rfl, h1, dlc (dli _) (dlc (h2.dv) dln)⟩
end
def newD (ps : List (Int × Idn)) (rs : List Idn) : List (Int × Idn) := ps.filter fun p => !memB rs p.2
theorem newD_congr {ps : List (Int × Idn)} {l m : List Idn} (h : ∀ y, y ∈ l ↔ y ∈ m) : newD ps l = newD ps m := by
  unfold newD
  exact congrArg (fun f => List.filter f ps) (funext fun p => by rw [memB_congr h])
theorem newD_mem {ps : List (Int × Idn)} {rs : List Idn} {p : Int × Idn} : p ∈ newD ps rs ↔ p ∈ ps ∧ p.2 ∉ rs := by
  unfold newD
  rw [List.mem_filter, Bool.not_eq_true', Bool.eq_false_iff, Ne, memB_iff]
theorem newD_len {ps : List (Int × Idn)} {rs : List Idn} : (newD ps rs).length ≤ ps.length := List.length_filter_le _ _
theorem dl_prs {l : List (Int × Idn)} (h : l.length ≤ 1000) : DL 4 (.tup (l.map nuD)) := by
  refine ⟨by rw [List.length_map]; omega, fun x hx => ?_⟩
  obtain ⟨e, _, rfl⟩ := List.mem_map.mp hx
  refine ⟨by show 2 ≤ 1000000; decide, fun y hy => ?_⟩
  simp only [List.mem_cons, List.not_mem_nil, or_false] at hy
  rcases hy with rfl | rfl
  · trivial
  · refine ⟨by show 2 ≤ 1000000; decide, fun z hz => ?_⟩
    simp only [List.mem_cons, List.not_mem_nil, or_false] at hz
    rcases hz with rfl | rfl <;> trivial
theorem dl_ids {l : List Idn} (h : l.length ≤ 1000) : DL 4 (.tup (l.map iD)) := by
  refine ⟨by rw [List.length_map]; omega, fun x hx => ?_⟩
  obtain ⟨e, _, rfl⟩ := List.mem_map.mp hx
  refine ⟨by show 2 ≤ 1000000; decide, fun y hy => ?_⟩
  simp only [List.mem_cons, List.not_mem_nil, or_false] at hy
  rcases hy with rfl | rfl <;> trivial
/-! ### a reader -/
def RdAt (A : Addr) (H : Hp) (p d : Addr) (rs : List Idn) : Prop := ∃ (dx : Addr) (kvs : List (List L2.Key × V)) (ks : List Idn), H p = some (.ins A dx [("_read", .ref d)]) ∧ H d = some (.dT kvs) ∧ kvs.map (·.1) = ks.map ik ∧ ks.Perm rs
section
variable {A : Addr}
theorem RdAt.ext {H H' : Hp} {N : List Addr} {p d : Addr} {rs : List Idn} (h : RdAt A H p d rs) (x : ExtL N H H') (np : p ∉ N) (nd : d ∉ N) : RdAt A H' p d rs := by
  obtain ⟨dx, kvs, ks, h1, h2, h3⟩ := h
  exact ⟨dx, kvs, ks, x _ _ np h1, x _ _ nd h2, h3⟩
theorem RdAt.same {H H' : Hp} {p d : Addr} {rs : List Idn} (h : RdAt A H p d rs) (x : Same H H') : RdAt A H' p d rs := h.ext (N := []) (ExtL.of x) (by simp) (by simp)
theorem RdAt.perm {H : Hp} {p d : Addr} {rs rs' : List Idn} (h : RdAt A H p d rs) (q : rs.Perm rs') : RdAt A H p d rs' := by
  obtain ⟨dx, kvs, ks, h1, h2, h3, h4⟩ := h
  exact ⟨dx, kvs, ks, h1, h2, h3, h4.trans q⟩
theorem RdAt.mem {H : Hp} {p d : Addr} {rs rs' : List Idn} (h : RdAt A H p d rs) (n : rs.Nodup) (n' : rs'.Nodup) (q : ∀ y, y ∈ rs ↔ y ∈ rs') : RdAt A H p d rs' := h.perm ((List.perm_ext_iff_of_nodup n n').mpr q)
theorem RdAt.ne {H : Hp} {p d p' d' : Addr} {rs rs' : List Idn} (h : RdAt A H p d rs) (h' : RdAt A H p' d' rs') : p ≠ d' := fun z => by
  obtain ⟨dx, kvs, ks, h1, _⟩ := h
  obtain ⟨_, _, _, _, h2, _⟩ := h'
  rw [z, h2] at h1; cases h1
end
theorem val_mem {kvs : List (List L2.Key × V)} {ks : List Idn} (h : kvs.map (·.1) = ks.map ik) (x : Idn) : (valV kvs (ik x)).isSome = memB ks x := by
  rw [← valV_any]
  unfold memB
  have e1 : (kvs.any fun kv => decide (kv.1 = ik x)) = (kvs.map (·.1)).any fun k => decide (k = ik x) := by rw [List.any_map]; rfl
  rw [e1, h, List.any_map]; rfl
theorem put_keys {kvs : List (List L2.Key × V)} {ks : List Idn} {v : V} (h : kvs.map (·.1) = ks.map ik) (x : Idn) : (putK kvs (ik x) v).map (·.1) = (add ks x).map ik := by
  unfold putK add
  rw [valV_any, val_mem h]
  split
  · rw [List.map_map, ← h]
    refine List.map_congr_left fun kv _ => ?_
    show (if kv.1 = ik x then (kv.1, v) else kv).1 = kv.1
    split <;> rfl
  · rw [List.map_append, List.map_append, h]; rfl
theorem add_perm {l m : List Idn} (p : l.Perm m) (x : Idn) : (add l x).Perm (add m x) := by
  unfold add
  rw [memB_congr fun y => p.mem_iff]
  split
  · exact p
  · exact p.append_right _
/-! ### promises of a reader -/
def sp69_init (K : PySem.W.Frag) (A : Addr) : Sp := fun vs H Q _ => ∃ (p dx : Addr), vs = [.ref p] ∧ H p = some (.ins A dx []) ∧ ∀ (d : Addr) (H' : Hp), H d = none → ExtL [p] H H' → RdAt A H' p d [] → Q .non H'
def sp69_new (K : PySem.W.Frag) (A : Addr) : Sp := fun vs H Q _ => ∃ (p d t : Addr) (rs : List Idn) (us : List V) (ps : List (Int × Idn)), vs = [.ref p, .ref t] ∧ RdAt A H p d rs ∧ SqT K H t us ∧ RL (PrAt K H) ps us ∧ ps.length ≤ 1000 ∧
  ∀ (u : Addr) (ws : List V) (H' : Hp), Same H H' → SqT K H' u ws → RL (PrAt K H') (newD ps rs) ws → Q (.ref u) H'
def sp69_read (K : PySem.W.Frag) (A : Addr) : Sp := fun vs H Q _ => ∃ (p d : Addr) (rs : List Idn) (x : Idn) (v : V), vs = [.ref p, v] ∧ RdAt A H p d rs ∧ IsId H x v ∧ rs.length ≤ 1000 ∧
  ∀ (H' : Hp), ExtL [d] H H' → TT K H H' → RdAt A H' p d (add rs x) → Q .non H'
def sp69_ids (K : PySem.W.Frag) (A : Addr) : Sp := fun vs H Q _ => ∃ (p d : Addr) (rs : List Idn), vs = [.ref p] ∧ RdAt A H p d rs ∧ (∀ x ∈ rs, okI x) ∧ rs.length ≤ 1000 ∧
  ∀ (u : Addr) (ws : List V) (H' : Hp), Same H H' → SqT K H' u ws → RL (IsId H') (srt rs) ws → Q (.ref u) H'
def sp69_meet (K : PySem.W.Frag) (A : Addr) : Sp := fun vs H Q _ => ∃ (p d p2 d2 : Addr) (rs rs2 : List Idn), vs = [.ref p, .ref p2] ∧ RdAt A H p d rs ∧ RdAt A H p2 d2 rs2 ∧ (∀ x ∈ rs, okI x) ∧ (∀ x ∈ rs2, okI x) ∧ rs.length ≤ 100 ∧ rs2.length ≤ 100 ∧ rs.Nodup ∧ rs2.Nodup ∧ d ≠ d2 ∧
  ∀ (H' : Hp), ExtL [d, d2] H H' → TT K H H' → RdAt A H' p d (uni rs rs2) → RdAt A H' p2 d2 (uni rs rs2) → Q .non H'
theorem ks_is {H : Hp} : ∀ {l : List Idn} {us : List V}, (∀ x ∈ l, okI x) → KsAt H (l.map ik) us → RL (IsId H) l us
  | [], us, _, h => h
  | x :: r, us, ok, h => by
    obtain ⟨a, t, e, h1, h2⟩ := h
    exact ⟨.ref a, t, e, ⟨ok x (by simp), a, rfl, h1⟩, ks_is (fun y m => ok y (List.mem_cons_of_mem _ m)) h2⟩
end Z
namespace Z
open PySem L2
section
variable {P : Program} {w : World} {K : PySem.W.Frag} {mg : Str → Option Value} {base : Heap}
theorem ok__law_mix (D : Df K mg "_law_mix" s__law_mix ["seed", "turn"]) (T : Tx mg) : Cal P w K mg base "_law_mix" ["seed", "turn"] 1 sp__law_mix := by
  obtain ⟨f, fd, F, gf, bf⟩ := D
  refine ⟨f, fd, F.ok sc__law_mix (fun vs H Q E h => ?_) (fun cdv A outer s H vs Q E hr h => ?_), gf, F.kp, bf⟩
  · obtain ⟨x, y, rfl, _⟩ := h; rfl
  · obtain ⟨x, y, rfl, x0, x1, y0, y1, q⟩ := h
    refine ⟨_, (pss_cons (ps_set (i := 2) sc__law_mix.nd rfl (Or.inl rfl) (pe_op op_mod (pe_callTy call_int1 (by rfl) T.n_int (by decide +kernel) (pa_cons (pe_op op_add (pe_op op_add (pe_op op_mul (pv 0) pe_int) (pe_op op_mul (pv 1) pe_int)) pe_int) pa_nil)) pe_int))
      (pss_cons (ps_set (i := 2) sc__law_mix.nd rfl (Or.inl rfl) (pe_op op_mod (pe_callTy call_int1 (by rfl) T.n_int (by decide +kernel) (pa_cons (pe_op op_add (pe_op op_add (pe_op op_mul (pv 2) (pv 2)) (pe_op op_mul (pv 1) pe_int)) pe_int) pa_nil)) pe_int))
      (pss_cons (ps_set (i := 2) sc__law_mix.nd rfl (Or.inl rfl) (pe_op op_mod (pe_callTy call_int1 (by rfl) T.n_int (by decide +kernel) (pa_cons (pe_op op_add (pe_op op_add (pe_op op_mul (pv 2) pe_int) (pe_op op_mul (pe_op op_mul (pv 1) (pv 1)) pe_int)) pe_int) pa_nil)) pe_int))
      (pss_one (ps_ret (pv 2)))))), ?_⟩

    refine ⟨_, rfl, _, _, rfl, rfl, .inr (by decide), _, rfl, _, _, rfl, rfl, .inr (by decide), _, _, rfl, rfl, _, _, rfl, rfl, .inl ⟨_, rfl, _, _, rfl, rfl, (by show (0 : Int) < _; decide), ?_⟩⟩
    refine ⟨_, rfl, _, rfl, _, _, rfl, rfl, .inl ⟨by omega, by omega⟩, _, rfl, _, _, rfl, rfl, .inr (by decide), _, _, rfl, rfl, _, _, rfl, rfl, .inl ⟨_, rfl, _, _, rfl, rfl, (by show (0 : Int) < _; decide), ?_⟩⟩
    refine ⟨_, rfl, _, _, rfl, rfl, .inr (by decide), _, rfl, _, rfl, _, _, rfl, rfl, .inl ⟨by omega, by omega⟩, _, _, rfl, rfl, .inr (by decide), _, _, rfl, rfl, _, _, rfl, rfl, .inl ⟨_, rfl, _, _, rfl, rfl, (by show (0 : Int) < _; decide), ?_⟩⟩
    exact ⟨_, rfl, q _ (Int.emod_nonneg _ (by decide)) (by omega)⟩
end
end Z
namespace Z
open PySem L2
section
variable {P : Program} {w : World} {K : PySem.W.Frag} {mg : Str → Option Value} {base : Heap}
theorem ok__law_source (D : Df K mg "_law_source" s__law_source ["script"]) (T : Tx mg) (C__law_mix : Cal P w K mg base "_law_mix" ["seed", "turn"] 1 sp__law_mix) : Cal P w K mg base "_law_source" ["script"] 2 (sp__law_source K) := by
  obtain ⟨f__law_mix, fd__law_mix, G__law_mix, g__law_mix, k__law_mix, b__law_mix⟩ := C__law_mix
  obtain ⟨f, fd, F, gf, bf⟩ := D
  refine ⟨f, fd, F.ok sc__law_source (fun vs H Q E h => ?_) (fun cdv A outer s H vs Q E hr h => ?_), gf, F.kp, bf⟩
  · obtain ⟨a, ns, rfl, _⟩ := h; rfl
  · obtain ⟨a, ns, rfl, hS, hlen, q⟩ := h
    refine ⟨_, (pss_cons (ps_set (i := 1) sc__law_source.nd rfl (Or.inl rfl) pe_int)
      (pss_cons (ps_for PassesOwn.never rfl (pi_range1 (by rfl) T.n_range (pa_cons (pe_callB call_len_seq (by rfl) T.n_len PySem.boot_len (pa_cons (pv 0) pa_nil)) pa_nil)) (pg_name (i := 2) sc__law_source.nd rfl (Or.inl rfl))
      (pss_one (ps_set (i := 1) sc__law_source.nd rfl (Or.inl rfl) (pe_call G__law_mix (hr.mono (by decide)) (by rfl) g__law_mix k__law_mix b__law_mix .nil pass0 (pa_cons (pe_op op_add (pv 1) (pe_op op_mod (pe_callTy call_int1 (by rfl) T.n_int (by decide +kernel) (pa_cons (pe_ix ix_list (pv 0) (pv 2) (fun _ _ => rfl)) pa_nil)) pe_int)) (pa_cons (pv 2) pa_nil))))))
      (pss_one (ps_ret (pe_lst (pa_cons (pe_callTy call_list_of (by rfl) T.n_list (by decide +kernel) (pa_cons (pv 0) pa_nil)) (pa_cons pe_int (pa_cons pe_int (pa_cons (pv 1) (pa_cons pe_int pa_nil)))))))))), ?_⟩
    refine ⟨_, rfl, a, _, rfl, .inl hS, _, rfl, by rw [List.length_map]; omega, by rw [List.length_map]; omega, ?_⟩
    refine for_range (lo := 0) (n := (((ns.map V.int).length : Int)).toNat) (fun i σ H' => ∃ (e : Int) (v : Option V), σ = [some (.ref a), some (.int e), v] ∧ H' = H ∧ 0 ≤ e ∧ e < 2147483647) ⟨17, none, rfl, rfl, by decide, by decide⟩ ?_ ?_
    · rintro i σ H' hi ⟨e, v, rfl, rfl, e0, e1⟩
      rw [List.length_map] at hi
      have hi' : i < ns.length := by omega
      refine ⟨_, rfl, _, rfl, _, rfl, a, _, _, .int ns[i], rfl, rfl, hS, ?_, .inl ⟨_, rfl, _, _, rfl, rfl, (by show (0 : Int) < _; decide), _, _, rfl, rfl, _, rfl, ?_⟩⟩
      · rw [Int.zero_add]
        exact atI_nat (by rw [List.getElem?_map, List.getElem?_eq_getElem hi']; rfl)
      · refine ⟨_, _, rfl, ?_, ?_, ?_, ?_, fun v v0 v1 => ?_⟩
        · have := Int.emod_nonneg ns[i] (by decide : (2147483647 : Int) ≠ 0); omega
        · have := Int.emod_lt_of_pos ns[i] (by decide : (0 : Int) < 2147483647); omega
        · omega
        · omega
        · exact ⟨v, _, rfl, rfl, v0, v1⟩
    · rintro σ H' ⟨e, v, rfl, rfl, e0, e1⟩
      refine ⟨_, rfl, a, _, rfl, .inl hS, fun l hl => ?_⟩
      refine ⟨_, rfl, by show 5 ≤ sizeLine; decide, fun s hs => ?_⟩
      have hsl : s ≠ l := fun z => by rw [z, upd_same] at hs; cases hs
      have hs0 : H' s = none := by rw [upd_ne hsl] at hs; exact hs
      refine q s l _ hs0 ((same_new hl).trans (same_new hs)) ⟨ns, 0, 0, e, 0, upd_same, by rw [upd_ne hsl.symm, upd_same], hsl.symm, hlen, by decide, by decide, by decide, e0, e1, by decide, by decide⟩
end
end Z
namespace Z
open PySem L2
section
variable {P : Program} {w : World} {K : PySem.W.Frag} {mg : Str → Option Value} {base : Heap}
theorem ok__law_draw (D : Df K mg "_law_draw" s__law_draw ["source", "many"]) (T : Tx mg) (C__law_mix : Cal P w K mg base "_law_mix" ["seed", "turn"] 1 sp__law_mix) : Cal P w K mg base "_law_draw" ["source", "many"] 2 sp__law_draw := by
  obtain ⟨f__law_mix, fd__law_mix, G__law_mix, g__law_mix, k__law_mix, b__law_mix⟩ := C__law_mix
  obtain ⟨f, fd, F, gf, bf⟩ := D
  refine ⟨f, fd, F.ok sc__law_draw (fun vs H Q E h => ?_) (fun cdv A outer s H vs Q E hr h => ?_), gf, F.kp, bf⟩
  · obtain ⟨s, a, m, c, rfl, _⟩ := h; rfl
  · obtain ⟨s, a, m, c, rfl, m0, m1, hS, q⟩ := h
    refine ⟨_, (C8.pss_cut (ps_if (PW.pt (pw_and (pt_cmpR op_eq (pe_ix ix_list (pv 0) pe_int (fun _ _ => rfl)) pe_int (nomark _)) (pw_and (pt_cmpR op_lt (pe_ix ix_list (pv 0) pe_int (fun _ _ => rfl)) (pe_callB call_len_seq (by rfl) T.n_len PySem.boot_len (pa_cons (pe_ix ix_list (pv 0) pe_int (fun _ _ => rfl)) pa_nil)) (nomark _)) (pw_and1 (pt_cmpR op_eq (pe_op op_mod (pe_callTy call_int1 (by rfl) T.n_int (by decide +kernel) (pa_cons (pe_ix ix_list (pv 0) pe_int (fun _ _ => rfl)) pa_nil)) pe_int) pe_int (nomark _))))))
      (pss_cons (ps_set (i := 2) sc__law_draw.nd rfl (Or.inl rfl) (pe_ix ix_list (pe_ix ix_list (pv 0) pe_int (fun _ _ => rfl)) (pe_ix ix_list (pv 0) pe_int (fun _ _ => rfl)) (fun _ _ => rfl)))
        (pss_cons (ps_asg (pe_op op_add (pe_ix ix_list (pv 0) pe_int (fun _ _ => rfl)) pe_int) (pg_sub (pv 0) pe_int set_list))
        (pss_one (ps_if (pt_cmpR op_ge (pe_callB call_abs (by rfl) T.n_abs (by decide +kernel) (pa_cons (pv 2) pa_nil)) (pe_op op_pow pe_int pe_int) (nomark _))
        (pss_one (ps_asg (pe_op op_and (pe_callB call_abs (by rfl) T.n_abs (by decide +kernel) (pa_cons (pv 2) pa_nil)) (pe_op op_sub (pe_op op_shl pe_int pe_int) pe_int)) (pg_sub (pv 0) pe_int set_list)))
        (pss_one (ps_asg (pe_call G__law_mix (hr.mono (by decide)) (by rfl) g__law_mix k__law_mix b__law_mix .nil pass0 (pa_cons (pe_op op_add (pe_ix ix_list (pv 0) pe_int (fun _ _ => rfl)) (pe_op op_mod (pe_callTy call_int1 (by rfl) T.n_int (by decide +kernel) (pa_cons (pv 2) pa_nil)) pe_int)) (pa_cons (pe_ix ix_list (pv 0) pe_int (fun _ _ => rfl)) pa_nil))) (pg_sub (pv 0) pe_int set_list)))))))
      pss_nil)
      (pss_cons (ps_if (pt_cmpR op_gt (pe_ix ix_list (pv 0) pe_int (fun _ _ => rfl)) pe_int (nomark _))
      (pss_cons (ps_set (i := 3) sc__law_draw.nd rfl (Or.inl rfl) (pe_op op_mod (pe_callTy call_int1 (by rfl) T.n_int (by decide +kernel) (pa_cons (pe_ix ix_list (pv 0) pe_int (fun _ _ => rfl)) pa_nil)) (pv 1)))
        (pss_cons (ps_asg (pe_op op_fdivN (pe_callTy call_int1 (by rfl) T.n_int (by decide +kernel) (pa_cons (pe_ix ix_list (pv 0) pe_int (fun _ _ => rfl)) pa_nil)) (pv 1)) (pg_sub (pv 0) pe_int set_list))
        (pss_one (ps_ret (pv 3)))))
      pss_nil)
      (pss_cons (ps_asg (pe_op op_add (pe_ix ix_list (pv 0) pe_int (fun _ _ => rfl)) pe_int) (pg_sub (pv 0) pe_int set_list))
      (pss_one (ps_ret (pe_op op_mod (pe_callTy call_int1 (by rfl) T.n_int (by decide +kernel) (pa_cons (pe_op op_fdiv (pe_call G__law_mix (hr.mono (by decide)) (by rfl) g__law_mix k__law_mix b__law_mix .nil pass0 (pa_cons (pe_ix ix_list (pv 0) pe_int (fun _ _ => rfl)) (pa_cons (pe_ix ix_list (pv 0) pe_int (fun _ _ => rfl)) pa_nil))) pe_int) pa_nil)) (pv 1))))))), ?_⟩
    refine ⟨fun σ' H' => (∃ v2 v3, σ' = [some (.ref s), some (.int m), v2, v3]) ∧ Src H' s a (c + 1) ∧ Ext s H H', ?_, ?_⟩
    · obtain ⟨ns, i, b, e, t, h1, h2, as, h4, h5, h6, h7, h8, h9, h10, h11⟩ := id hS
      have hL : SqL K H s [.ref a, .int i, .int b, .int e, .int t] := SqL.of h1
      refine ⟨_, rfl, _, _, _, _, rfl, rfl, hL, rfl, rfl, _, rfl, ite2 (fun c1 => ?_) (fun c1 => iteF ⟨⟨_, _, rfl⟩, hS, Ext.refl _ _⟩)⟩
      refine ⟨_, rfl, _, _, _, _, rfl, rfl, hL, rfl, _, rfl, _, _, _, _, rfl, rfl, hL, rfl, a, _, rfl, .inl (SqL.of h2), _, _, rfl, rfl, _, rfl, ite2 (fun c2 => ?_) (fun c2 => iteF ⟨⟨_, _, rfl⟩, hS, Ext.refl _ _⟩)⟩
      refine ⟨_, rfl, _, _, _, _, rfl, rfl, hL, rfl, .inl ⟨_, rfl, _, _, rfl, rfl, (by show (0 : Int) < 6; decide), rfl, _, rfl, ite2 (fun c3 => ?_) (fun c3 => ⟨⟨_, _, rfl⟩, hS, Ext.refl _ _⟩)⟩⟩
      have hi : i < ns.length := by
        have := of_decide_eq_true c2
        rw [List.length_map] at this
        exact this
      have hi' : i.toNat < ns.length := by omega
      -- cell = source[0][source[1]]
      refine ⟨_, rfl, _, _, _, _, rfl, rfl, hL, rfl, _, rfl, _, _, _, _, rfl, rfl, hL, rfl, a, _, _, .int ns[i.toNat], rfl, rfl, SqL.of h2, at_of (j := i.toNat) (by omega) (by rw [List.getElem?_map, List.getElem?_eq_getElem hi']; rfl), ?_⟩
      -- source[1] = source[1] + 1
      refine ⟨_, rfl, _, _, _, _, rfl, rfl, hL, rfl, _, _, rfl, rfl, _, rfl, _, _, _, 1, rfl, rfl, h1, rfl, ?_⟩
      refine ⟨_, rfl, _, rfl, _, _, rfl, rfl, ⟨by decide, by decide, by decide⟩, _, _, rfl, rfl, _, rfl, ite2 (fun c4 => ?_) (fun c4 => ?_)⟩
      · refine ⟨_, rfl, _, rfl, _, _, rfl, rfl, ⟨by decide, by decide, by decide⟩, _, _, rfl, rfl, _, _, rfl, rfl, _, rfl, _, _, _, 2, rfl, rfl, upd_same, rfl, ?_⟩
        refine ⟨⟨_, _, rfl⟩, ?_, ?_⟩
        · refine ⟨ns, i + 1, _, e, t, upd_same, by rw [upd_ne as, upd_ne as]; exact h2, as, h4, by omega, by omega, ?_, h8, h9, h10, h11⟩
          exact and_nn (by split <;> omega) _
        · exact Ext.put.trans Ext.put
      · refine ⟨_, rfl, _, _, _, _, rfl, rfl, SqL.of upd_same, rfl, _, rfl, .inl ⟨_, rfl, _, _, rfl, rfl, (by show (0 : Int) < 2147483647; decide), _, _, rfl, rfl, _, rfl, _, _, _, _, rfl, rfl, SqL.of upd_same, rfl, _, _, rfl, ?_, ?_, ?_, ?_, fun v v0 v1 => ?_⟩⟩
        · have := Int.emod_nonneg ns[i.toNat] (by decide : (2147483647 : Int) ≠ 0); omega
        · have := Int.emod_lt_of_pos ns[i.toNat] (by decide : (0 : Int) < 2147483647); omega
        · omega
        · omega
        · refine ⟨_, rfl, _, _, _, 3, rfl, rfl, upd_same, rfl, ⟨_, _, rfl⟩, ?_, Ext.put.trans Ext.put⟩
          exact ⟨ns, i + 1, b, v, t, upd_same, by rw [upd_ne as, upd_ne as]; exact h2, as, h4, by omega, by omega, h7, v0, v1, h10, h11⟩
    · rintro σ' H' ⟨⟨v2, v3, rfl⟩, hS', hx⟩
      obtain ⟨ns, i, b, e, t, h1, h2, as, h4, h5, h6, h7, h8, h9, h10, h11⟩ := id hS'
      have hL : SqL K H' s [.ref a, .int i, .int b, .int e, .int t] := SqL.of h1
      refine ⟨_, rfl, _, _, _, _, rfl, rfl, hL, rfl, _, _, rfl, rfl, _, rfl, ite2 (fun c1 => ?_) (fun c1 => ?_)⟩
      · refine ⟨_, rfl, _, _, _, _, rfl, rfl, hL, rfl, .inl ⟨_, rfl, _, rfl, _, _, rfl, rfl, m0, ?_⟩⟩
        refine ⟨_, rfl, _, _, _, _, rfl, rfl, hL, rfl, .inl ⟨_, rfl, _, rfl, _, _, rfl, rfl, ⟨by omega, by omega⟩, _, rfl, _, _, _, 2, rfl, rfl, h1, rfl, ?_⟩⟩
        refine ⟨_, rfl, q _ _ (Int.emod_nonneg _ (by omega)) (Int.emod_lt_of_pos _ m0) (hx.trans Ext.put) ?_⟩
        refine ⟨ns, i, _, e, t, upd_same, by rw [upd_ne as]; exact h2, as, h4, h5, h6, ?_, h8, h9, h10, by omega⟩
        exact Int.fdiv_nonneg h7 (by omega)
      · refine ⟨_, rfl, _, _, _, _, rfl, rfl, hL, rfl, _, _, rfl, rfl, _, rfl, _, _, _, 4, rfl, rfl, h1, rfl, ?_⟩
        refine ⟨_, rfl, _, _, _, _, rfl, rfl, SqL.of upd_same, rfl, _, rfl, _, _, _, _, rfl, rfl, SqL.of upd_same, rfl, _, _, rfl, h8, by omega, by omega, by omega, fun v v0 v1 => ?_⟩
        refine ⟨_, _, rfl, rfl, ⟨by decide, by decide⟩, .inl ⟨_, rfl, _, rfl, _, _, rfl, rfl, m0, ?_⟩⟩
        refine q _ _ (Int.emod_nonneg _ (by omega)) (Int.emod_lt_of_pos _ m0) (hx.trans Ext.put) ?_
        exact ⟨ns, i, b, e, t + 1, upd_same, by rw [upd_ne as]; exact h2, as, h4, h5, h6, h7, h8, h9, by omega, by omega⟩
end
end Z
namespace Z
open PySem L2
section
variable {P : Program} {w : World} {K : PySem.W.Frag} {mg : Str → Option Value} {base : Heap}
theorem ok__law_is_int (D : Df K mg "_law_is_int" s__law_is_int ["value"]) (T : Tx mg)  : Cal P w K mg base "_law_is_int" ["value"] 1 (sp__law_is_int K) := by
  obtain ⟨f, fd, F, gf, bf⟩ := D
  refine ⟨f, fd, F.ok sc__law_is_int (fun vs H Q E h => ?_) (fun cdv A outer s H vs Q E hr h => ?_), gf, F.kp, bf⟩
  · obtain ⟨i, rfl, _⟩ := h; rfl
  · obtain ⟨i, rfl, q⟩ := h
    refine ⟨_, (pss_one (ps_ret (pe_and (pe_callB call_isi (by rfl) T.n_isinstance (by decide +kernel) (pa_cons (pv 0) (pa_cons (pe_bltn (v := .ty "int") (by rfl) T.n_int (by decide +kernel) rfl) pa_nil))) (pe_one (pe_not (pe_callB call_isi (by rfl) T.n_isinstance (by decide +kernel) (pa_cons (pv 0) (pa_cons (pe_bltn (v := .ty "bool") (by rfl) T.n_bool (by decide +kernel) rfl) pa_nil)))))))), ?_⟩
    refine ⟨_, rfl, _, _, _, _, true, rfl, .ty _, .base (.int i), kit_ty (by decide +kernel), _, rfl, ?_⟩
    refine iteT ⟨_, rfl, _, _, _, _, false, rfl, .ty _, .base (.int i), kit_ty (by decide +kernel), _, rfl, q⟩

theorem ok__law_same (D : Df K mg "_law_same" s__law_same ["actual", "due"]) (T : Tx mg) (C__law_is_int : Cal P w K mg base "_law_is_int" ["value"] 1 (sp__law_is_int K)) : ∀ n, Cal P w K mg base "_law_same" ["actual", "due"] (n + 1) (sp__law_same K n)
  | 0 => by
    obtain ⟨f, fd, F, gf, bf⟩ := D
    exact ⟨f, fd, ⟨fun vs H Q E h => by obtain ⟨_, _, _, _, _, _, h, _⟩ := h; exact h.elim, fun A outer s H args us vs Q E _ _ _ _ h => by obtain ⟨_, _, _, _, _, _, h, _⟩ := h; exact h.elim⟩, gf, F.kp, bf⟩
  | n + 1 => by
    obtain ⟨f__law_same, fd__law_same, G__law_same, g__law_same, k__law_same, b__law_same⟩ := ok__law_same D T C__law_is_int n
    obtain ⟨f__law_is_int, fd__law_is_int, G__law_is_int, g__law_is_int, k__law_is_int, b__law_is_int⟩ := C__law_is_int
    obtain ⟨f, fd, F, gf, bf⟩ := D
    refine ⟨f, fd, F.ok sc__law_same (fun vs H Q E h => ?_) (fun cdv A outer s H vs Q E hr h => ?_), gf, F.kp, bf⟩
    · obtain ⟨d, v, u, rfl, _⟩ := h; rfl
    · obtain ⟨d, v, u, rfl, hv, hu, hd, q⟩ := h
      refine ⟨_, (pss_cons (ps_if (pt_val (pe_callB call_isi (by rfl) T.n_isinstance (by decide +kernel) (pa_cons (pv 1) (pa_cons (pe_bltn (v := .ty "tuple") (by rfl) T.n_tuple (by decide +kernel) rfl) pa_nil))))
      (pss_cons (ps_if (PW.pt (pw_or (pt_not (pt_val (pe_callB call_isi (by rfl) T.n_isinstance (by decide +kernel) (pa_cons (pv 0) (pa_cons (pe_bltn (v := .ty "tuple") (by rfl) T.n_tuple (by decide +kernel) rfl) pa_nil))))) (pw_or1 (pt_cmpR op_ne (pe_callB call_len_seq (by rfl) T.n_len PySem.boot_len (pa_cons (pv 0) pa_nil)) (pe_callB call_len_seq (by rfl) T.n_len PySem.boot_len (pa_cons (pv 1) pa_nil)) (nomark _)))))
        (pss_one (ps_ret pe_bl))
        pss_nil)
        (pss_cons (ps_for PassesOwn.never rfl (pi_range1 (by rfl) T.n_range (pa_cons (pe_callB call_len_seq (by rfl) T.n_len PySem.boot_len (pa_cons (pv 1) pa_nil)) pa_nil)) (pg_name (i := 2) sc__law_same.nd rfl (Or.inl rfl))
        (pss_one (ps_if (pt_not (pt_val (pe_call G__law_same hr (by rfl) g__law_same k__law_same b__law_same .nil pass0 (pa_cons (pe_ix ix_tup (pv 0) (pv 2) (fun _ _ => rfl)) (pa_cons (pe_ix ix_tup (pv 1) (pv 2) (fun _ _ => rfl)) pa_nil)))))
          (pss_one (ps_ret pe_bl))
          pss_nil)))
        (pss_one (ps_ret pe_bl))))
      pss_nil)
      (pss_cons (ps_if (pt_cmpR op_isN (pv 1) pe_non (nomark _))
      (pss_one (ps_ret (pe_cmpR op_isN (pv 0) pe_non (nomark _))))
      pss_nil)
      (pss_cons (ps_if (pt_val (pe_callB call_isi (by rfl) T.n_isinstance (by decide +kernel) (pa_cons (pv 1) (pa_cons (pe_bltn (v := .ty "bool") (by rfl) T.n_bool (by decide +kernel) rfl) pa_nil))))
      (pss_one (ps_ret (pe_and (pe_callB call_isi (by rfl) T.n_isinstance (by decide +kernel) (pa_cons (pv 0) (pa_cons (pe_bltn (v := .ty "bool") (by rfl) T.n_bool (by decide +kernel) rfl) pa_nil))) (pe_one (pe_cmpR op_eq (pv 0) (pv 1) (nomark _))))))
      pss_nil)
      (pss_cons (ps_if (pt_val (pe_callB call_isi (by rfl) T.n_isinstance (by decide +kernel) (pa_cons (pv 1) (pa_cons (pe_bltn (v := .ty "int") (by rfl) T.n_int (by decide +kernel) rfl) pa_nil))))
      (pss_one (ps_ret (pe_and (pe_call G__law_is_int (hr.mono (by omega)) (by rfl) g__law_is_int k__law_is_int b__law_is_int .nil pass0 (pa_cons (pv 0) pa_nil)) (pe_one (pe_cmpR op_eq (pv 0) (pv 1) (nomark _))))))
      pss_nil)
      (pss_one (ps_ret (pe_and (pe_callB call_isi (by rfl) T.n_isinstance (by decide +kernel) (pa_cons (pv 0) (pa_cons (pe_bltn (v := .ty "str") (by rfl) T.n_str (by decide +kernel) rfl) pa_nil))) (pe_one (pe_cmpR op_eq (pv 0) (pv 1) (nomark _)))))))))), ?_⟩
      cases d with
      | non =>
        unfold DV at hv hu; subst hv hu
        refine ⟨_, rfl, _, _, _, _, false, rfl, .ty _, .base .non, kit_ty (by decide +kernel), _, rfl, iteF ?_⟩
        exact ⟨_, rfl, rfl, _, rfl, iteT ⟨_, rfl, rfl, q⟩⟩
      | bl b =>
        unfold DV at hv hu; subst hv hu
        refine ⟨_, rfl, _, _, _, _, false, rfl, .ty _, .base (.bl b), kit_ty (by decide +kernel), _, rfl, iteF ?_⟩
        refine ⟨_, rfl, rfl, _, rfl, iteF ?_⟩
        refine ⟨_, rfl, _, _, _, _, true, rfl, .ty _, .base (.bl b), kit_ty (by decide +kernel), _, rfl, iteT ?_⟩
        refine ⟨_, rfl, _, _, _, _, true, rfl, .ty _, .base (.bl b), kit_ty (by decide +kernel), _, rfl, iteT ?_⟩
        refine ⟨_, rfl, _, rfl, rfl, ?_⟩
        rw [decide_eq_true rfl]; exact q
      | int b =>
        unfold DV at hv hu; subst hv hu
        refine ⟨_, rfl, _, _, _, _, false, rfl, .ty _, .base (.int b), kit_ty (by decide +kernel), _, rfl, iteF ?_⟩
        refine ⟨_, rfl, rfl, _, rfl, iteF ?_⟩
        refine ⟨_, rfl, _, _, _, _, false, rfl, .ty _, .base (.int b), kit_ty (by decide +kernel), _, rfl, iteF ?_⟩
        refine ⟨_, rfl, _, _, _, _, true, rfl, .ty _, .base (.int b), kit_ty (by decide +kernel), _, rfl, iteT ?_⟩
        refine ⟨_, rfl, _, rfl, _, rfl, iteT ?_⟩
        refine ⟨_, rfl, _, rfl, rfl, ?_⟩
        rw [decide_eq_true rfl]; exact q
      | str b =>
        unfold DV at hv hu; subst hv hu
        refine ⟨_, rfl, _, _, _, _, false, rfl, .ty _, .base (.str b), kit_ty (by decide +kernel), _, rfl, iteF ?_⟩
        refine ⟨_, rfl, rfl, _, rfl, iteF ?_⟩
        refine ⟨_, rfl, _, _, _, _, false, rfl, .ty _, .base (.str b), kit_ty (by decide +kernel), _, rfl, iteF ?_⟩
        refine ⟨_, rfl, _, _, _, _, false, rfl, .ty _, .base (.str b), kit_ty (by decide +kernel), _, rfl, iteF ?_⟩
        refine ⟨_, rfl, _, _, _, _, true, rfl, .ty _, .base (.str b), kit_ty (by decide +kernel), _, rfl, iteT ?_⟩
        refine ⟨_, rfl, _, rfl, rfl, ?_⟩
        rw [decide_eq_true rfl]; exact q
      | tup ds =>
        unfold DV at hv hu
        obtain ⟨a, vs, rfl, ha, hvs⟩ := hv
        obtain ⟨b, us, rfl, hb, hus⟩ := hu
        have hl := hvs.len
        have hm := hus.len
        refine ⟨_, rfl, _, _, _, _, true, rfl, .ty _, TyX.ofT hb, kit_ty (by decide +kernel), _, rfl, iteT ?_⟩
        refine ⟨_, rfl, _, _, _, _, true, rfl, .ty _, TyX.ofT ha, kit_ty (by decide +kernel), _, rfl, iteF ?_⟩
        refine ⟨_, rfl, a, _, rfl, .inr ha, _, rfl, b, _, rfl, .inr hb, rfl, _, rfl, iteNS (by rw [hl, hm]) ?_⟩
        refine ⟨_, rfl, b, _, rfl, .inr hb, _, rfl, by omega, by have := hd.1; omega, ?_⟩
        refine for_range (lo := 0) (n := ((us.length : Int)).toNat) (fun i σ H' => ∃ (x : Option V), σ = [some (.ref a), some (.ref b), x] ∧ H' = H) ⟨none, rfl, rfl⟩ ?_ ?_
        · rintro i σ H' hi ⟨x, rfl, rfl⟩
          have hi' : i < us.length := by omega
          have hi2 : i < ds.length := by omega
          obtain ⟨v1, e1, q1⟩ := hvs.get (List.getElem?_eq_getElem hi2)
          obtain ⟨v2, e2, q2⟩ := hus.get (List.getElem?_eq_getElem hi2)
          refine ⟨_, rfl, _, rfl, a, _, _, v1, rfl, rfl, ha, at_of (j := i) (by omega) e1, _, rfl, _, rfl, b, _, _, v2, rfl, rfl, hb, at_of (j := i) (by omega) e2, ?_⟩
          refine ⟨ds[i], v1, v2, rfl, q1, q2, hd.2 _ (List.getElem_mem hi2), _, rfl, iteF ?_⟩
          exact ⟨_, rfl, rfl⟩
        · rintro σ H' ⟨x, rfl, rfl⟩
          exact q
end
end Z
namespace Z
open PySem L2 SX
theorem nodup_le : ∀ {l us : List (List Nat)}, l.Nodup → (∀ x ∈ l, x ∈ us) → l.length ≤ us.length
  | [], us, _, _ => Nat.zero_le _
  | x :: l, us, h, k => by
    have hh := List.nodup_cons.mp h
    have m := k x (by simp)
    have := nodup_le (us := us.erase x) hh.2 fun y hy => (List.mem_erase_of_ne (fun e : y = x => hh.1 (by rw [e] at hy; exact hy))).mpr (k y (List.mem_cons_of_mem _ hy))
    rw [List.length_erase_of_mem m] at this
    have p := List.length_pos_of_mem m
    rw [List.length_cons]; omega
def sfxL (j : Nat) : List Nat := if j = 0 then [] else [48 + j]
theorem sfx_nodup : ((List.range 10).map sfxL).Nodup := by decide +kernel
theorem tried_nodup (p : List Nat) {m : Nat} (h : m ≤ 10) : ((List.range m).map fun j => p ++ sfxL j).Nodup := by
  have h1 : ((List.range m).map sfxL).Nodup := by
    have e : List.range m = (List.range 10).take m := by rw [List.take_range, Nat.min_eq_left h]
    rw [e, List.map_take]
    exact sfx_nodup.sublist (List.take_sublist _ _)
  rw [List.nodup_iff_pairwise_ne, List.pairwise_map] at h1 ⊢
  exact h1.imp fun ne e => ne (List.append_cancel_left e)
section
variable {P : Program} {w : World} {K : PySem.W.Frag} {mg : Str → Option Value} {base : Heap}
theorem ok__law_pick (D : Df K mg "_law_pick" s__law_pick ["source", "row"]) (T : Tx mg)  (C__law_draw : Cal P w K mg base "_law_draw" ["source", "many"] 2 sp__law_draw) : Cal P w K mg base "_law_pick" ["source", "row"] 3 (sp3__law_pick K) := by
  obtain ⟨f__law_draw, fd__law_draw, G__law_draw, g__law_draw, k__law_draw, b__law_draw⟩ := C__law_draw
  obtain ⟨f, fd, F, gf, bf⟩ := D
  refine ⟨f, fd, F.ok sc__law_pick (fun vs H Q E h => ?_) (fun cdv A outer s₀ H vs Q E hr h => ?_), gf, F.kp, bf⟩
  · rcases h with ⟨s, a, r, xs, c, rfl, _⟩ | ⟨s, a, x, c, rfl, _⟩ | ⟨s, a, r, xs, c, rfl, _⟩ <;> rfl
  · refine ⟨_, (pss_one (ps_ret (pe_ix ix_seq (pv 1) (pe_call G__law_draw (hr.mono (by decide)) (by rfl) g__law_draw k__law_draw b__law_draw .nil pass0 (pa_cons (pv 0) (pa_cons (pe_callB call_len (by rfl) T.n_len PySem.boot_len (pa_cons (pv 1) pa_nil)) pa_nil))) (fun _ _ => rfl)))), ?_⟩
    rcases h with ⟨s, a, r, xs, c, rfl, hR, rs, ne, hl, hS, q⟩ | ⟨s, a, x, c, rfl, ne, hl, hS, q⟩ | ⟨s, a, r, xs, c, rfl, hR, ne, hl, hS, q⟩
    · have n0 : 0 < xs.length := List.length_pos_iff.mpr ne
      refine ⟨_, rfl, _, rfl, _, rfl, _, _, rfl, .inl ⟨xs, hR, rfl⟩, s, a, (xs.length : Int), c, rfl, by omega, by omega, hS, fun v H' v0 v1 hE hS' => ?_⟩
      have hv : v.toNat < xs.length := by omega
      exact .inl ⟨r, xs, v, xs[v.toNat], rfl, rfl, hE.seqL rs hR, atI_pos v0 (List.getElem?_eq_getElem hv), q _ _ (List.getElem_mem hv) hE hS'⟩
    · have n0 : 0 < (tl x).length := List.length_pos_iff.mpr ne
      have hx := tl_len x
      refine ⟨_, rfl, _, rfl, _, rfl, _, x.length, rfl, ⟨by rw [hx]; exact Nat.le_trans hl (by decide), rfl⟩, s, a, (x.length : Int), c, rfl, by omega, by omega, hS, fun v H' v0 v1 hE hS' => ?_⟩
      have hv : v.toNat < (tl x).length := by omega
      exact .inr (.inr ⟨x, v, (tl x)[v.toNat], rfl, rfl, by rw [hx]; exact Nat.le_trans hl (by decide), atI_pos v0 (List.getElem?_eq_getElem hv), q _ _ (List.getElem_mem hv) hE hS'⟩)
    · have n0 : 0 < xs.length := List.length_pos_iff.mpr ne
      refine ⟨_, rfl, _, rfl, _, rfl, _, _, rfl, .inr ⟨xs, hR, rfl⟩, s, a, (xs.length : Int), c, rfl, by omega, by omega, hS, fun v H' v0 v1 hE hS' => ?_⟩
      have hv : v.toNat < xs.length := by omega
      exact .inr (.inl ⟨r, xs, v, xs[v.toNat], rfl, rfl, TK.ext hE hS _ _ hR, atI_pos v0 (List.getElem?_eq_getElem hv), q _ _ (List.getElem_mem hv) hE hS'⟩)
end
section
variable {P : Program} {w : World} {K : PySem.W.Frag} {mg : Str → Option Value} {base : Heap}
theorem ok__law_new_name (D : Df K mg "_law_new_name" s__law_new_name ["source", "used"]) (T : Tx mg)  (C__law_draw : Cal P w K mg base "_law_draw" ["source", "many"] 2 sp__law_draw) : Cal P w K mg base "_law_new_name" ["source", "used"] 3 (sp9__law_new_name K) := by
  obtain ⟨f__law_draw, fd__law_draw, G__law_draw, g__law_draw, k__law_draw, b__law_draw⟩ := C__law_draw
  obtain ⟨f, fd, F, gf, bf⟩ := D
  refine ⟨f, fd, F.ok sc__law_new_name (fun vs H Q E h => ?_) (fun cdv A outer s₀ H vs Q E hr h => ?_), gf, F.kp, bf⟩
  · obtain ⟨s, a, u, us, c, rfl, _⟩ := h; rfl
  · obtain ⟨s, a, u, us, c, rfl, hU, hus, hul, hS, q⟩ := h
    refine ⟨_, (pss_cons (ps_set (i := 2) sc__law_new_name.nd rfl (Or.inl rfl) pe_str)
      (pss_cons (ps_set (i := 3) sc__law_new_name.nd rfl (Or.inl rfl) (pe_op op_add pe_int (pe_call G__law_draw (hr.mono (by decide)) (by rfl) g__law_draw k__law_draw b__law_draw .nil pass0 (pa_cons (pv 0) (pa_cons pe_int pa_nil)))))
      (pss_cons (ps_set (i := 4) sc__law_new_name.nd rfl (Or.inl rfl) (pe_item_str (pv 2) (pe_call G__law_draw (hr.mono (by decide)) (by rfl) g__law_draw k__law_draw b__law_draw .nil pass0 (pa_cons (pv 0) (pa_cons pe_int pa_nil))) (fun _ _ => rfl)))
      (pss_cons (ps_for PassesOwn.never rfl (pi_range1 (by rfl) T.n_range (pa_cons (pe_op op_sub (pv 3) pe_int) pa_nil)) (pg_name (i := 5) sc__law_new_name.nd rfl (Or.inl rfl))
      (pss_one (ps_set (i := 4) sc__law_new_name.nd rfl (Or.inl rfl) (pe_op op_add_str (pv 4) (pe_item_str (pe_op op_add_str (pv 2) pe_str) (pe_call G__law_draw (hr.mono (by decide)) (by rfl) g__law_draw k__law_draw b__law_draw .nil pass0 (pa_cons (pv 0) (pa_cons pe_int pa_nil))) (fun _ _ => rfl))))))
      (pss_cons (ps_for PassesOwn.never rfl (pi_range1 (by rfl) T.n_range (pa_cons (pe_op op_add (pe_callB call_len_seq (by rfl) T.n_len PySem.boot_len (pa_cons (pv 1) pa_nil)) pe_int) pa_nil)) (pg_name (i := 5) sc__law_new_name.nd rfl (Or.inl rfl))
      (pss_cons (ps_set (i := 6) sc__law_new_name.nd rfl (Or.inl rfl) (pe_op op_add_str (pv 4) (pe_ix ix_list (pe_lst (pa_cons pe_str (pa_cons (pe_callTy call_str_int (by rfl) T.n_str (by decide +kernel) (pa_cons (pv 5) pa_nil)) pa_nil))) (pe_callTy call_int1 (by rfl) T.n_int (by decide +kernel) (pa_cons (pe_cmpR op_gt (pv 5) pe_int (nomark _)) pa_nil)) (fun _ _ => rfl))))
        (pss_one (ps_if (pt_cmpR op_notIn_seq (pv 6) (pv 1) (by rfl))
        (pss_one (ps_ret (pv 6)))
        pss_nil))))
      (pss_one (ps_ret (pv 4)))))))), ?_⟩
    refine ⟨_, rfl, s, a, _, c + 7, rfl, by decide, by decide, hS, fun v1 H1 v10 v11 x1 S1 => ?_⟩
    refine ⟨_, _, rfl, rfl, ?_⟩
    refine ⟨_, rfl, _, rfl, s, a, _, c + 6, rfl, by decide, by decide, S1, fun v2 H2 v20 v21 x2 S2 => ?_⟩
    obtain ⟨ch, e1, _, e3⟩ := at_str (x := Str.ofString "abcdefghijklmnopqrstuvwxyz") v20 v21
    refine ⟨_, _, ch, rfl, rfl, v20, by omega, v21, e1, ?_⟩
    have hch : 97 ≤ ch ∧ ch ≤ 122 := alpha_mem e3
    refine ⟨_, rfl, _, _, rfl, rfl, _, rfl, by omega, by omega, ?_⟩
    refine for_range (lo := 0) (n := (1 + v1 - 1).toNat) (fun i σ H' => ∃ (x : Str) (v : Option V), σ = [some (.ref s), some (.ref u), some (.str "abcdefghijklmnopqrstuvwxyz"), some (.int (1 + v1)), some (.str x), v, none] ∧ Nm (tl x) ∧ (tl x).length = i + 1 ∧ Ext s H H' ∧ Src H' s a (c + (5 - i))) ?_ ?_ ?_
    · exact ⟨S [ch], none, rfl, ⟨⟨ch, [], rfl, hch⟩, fun y hy => by rw [List.mem_singleton.mp hy]; exact .inl hch⟩, rfl, x1.trans x2, S2.mono (by omega)⟩
    · rintro i σ H' hi ⟨x, v, rfl, hN, hl, hE, hS'⟩
      refine ⟨_, rfl, _, rfl, _, _, rfl, rfl, by decide +kernel, ?_⟩
      refine ⟨_, rfl, s, a, _, c + (5 - (i + 1)), rfl, by decide, by decide, hS'.mono (by omega), fun v3 H3 v30 v31 x3 S3 => ?_⟩
      obtain ⟨d, e1, _, e3⟩ := at_str (x := Str.ofString "abcdefghijklmnopqrstuvwxyz" ++ Str.ofString "0123456789") v30 v31
      refine ⟨_, _, d, rfl, rfl, v30, by omega, v31, e1, _, _, rfl, rfl, ?_, ?_⟩
      · rw [tl_len, hl]; exact Nat.le_trans (show i + 1 + 1 ≤ 10 by omega) (by decide)
      · exact ⟨_, _, rfl, by rw [tl_app]; exact hN.app (fun y hy => by rw [List.mem_singleton.mp hy]; exact low_mem e3), by rw [tl_app, List.length_append, hl]; rfl, hE.trans x3, S3⟩
    · rintro σ H3 ⟨x, v, rfl, hN, hl, hE, hS'⟩
      have hU3 : SqL K H3 u (us.map V.str) := hE.seqL hus hU
      refine ⟨_, rfl, u, _, rfl, .inl hU3, _, _, rfl, rfl, _, rfl, by rw [List.length_map]; omega, by rw [List.length_map]; omega, ?_⟩
      refine for_range (lo := 0) (n := ((((us.map V.str).length : Int)) + 1).toNat) (fun i σ H' => ∃ (v t : Option V), σ = [some (.ref s), some (.ref u), some (.str "abcdefghijklmnopqrstuvwxyz"), some (.int (1 + v1)), some (.str x), v, t] ∧ Same H3 H' ∧ ∀ j, j < i → tl x ++ sfxL j ∈ us.map tl) ⟨_, _, rfl, Same.refl _, fun j hj => by omega⟩ ?_ ?_
      · rintro i σ H' hi ⟨v', t', rfl, hM, hall⟩
        rw [List.length_map] at hi
        obtain ⟨y, hy, hyl, hya⟩ : ∃ y : Str, atI [V.str (Str.ofString ""), V.str (Str.ofString (toString (0 + (i : Int))))] (if decide ((0 : Int) < 0 + (i : Int)) = true then 1 else 0) = some (.str y) ∧ tl y = sfxL i ∧ Low (tl y) := by
          by_cases h0 : i = 0
          · subst h0
            exact ⟨Str.ofString "", rfl, rfl, Low.nil⟩
          · rw [if_pos (decide_eq_true (by omega))]
            refine ⟨_, rfl, ?_, ?_⟩
            · rw [Int.zero_add, num_S, tl_S, TL.numL_lt (by omega)]
              unfold sfxL; rw [if_neg h0]
            · rw [Int.zero_add, num_S, tl_S]
              exact low_num i
        have yl : (tl y).length ≤ 1 := by rw [hyl]; unfold sfxL; split <;> simp
        refine ⟨_, rfl, _, rfl, _, rfl, log_small (by omega), by show 2 ≤ sizeLine; decide, fun p hp => ?_⟩
        refine ⟨_, rfl, _, _, rfl, rfl, .inr ⟨_, rfl, p, _, _, _, rfl, rfl, SqL.of upd_same, hy, _, _, rfl, rfl, ?_, ?_⟩⟩
        · rw [tl_len, tl_len]; exact Nat.le_trans (show _ ≤ 70 by omega) (by decide)
        have hM' : Same H3 (upd H' p (HO.lst [V.str (Str.ofString ""), V.str (Str.ofString (toString (0 + (i : Int))))])) := hM.trans (same_new hp)
        have ein := inV_strs (x ++ y) us
        refine ⟨_, rfl, _, rfl, u, _, rfl, .inl (hM'.seq hU3), rfl, flat_strs us, _, rfl, ite2 (fun cc => ?_) (fun cc => ⟨_, _, rfl, hM', fun j hj => ?_⟩)⟩
        · refine ⟨_, rfl, q _ _ (by rw [tl_app]; exact hN.app hya) (by rw [tl_app, List.length_append]; omega) (fun m => ?_) (hE.trans (Ext.of hM')) ((hS'.ext hM').mono (by omega))⟩
          have cc' : (!inV (V.str (x ++ y)) (us.map V.str)) = true := cc
          rw [ein, decide_eq_true m] at cc'
          cases cc'
        · by_cases e : j < i
          · exact hall j e
          · have : j = i := by omega
            subst this
            have cc' : ¬ (!inV (V.str (x ++ y)) (us.map V.str)) = true := cc
            rw [ein] at cc'
            have m : x ++ y ∈ us := by simpa using cc'
            have := List.mem_map_of_mem (f := tl) m
            rw [tl_app, hyl] at this
            exact this
      · rintro σ H' ⟨v', t', rfl, hM, hall⟩
        rw [List.length_map] at hall
        have h1 := nodup_le (us := us.map tl) (tried_nodup (tl x) (m := us.length + 1) (by omega)) fun z hz => by
          obtain ⟨j, hj, rfl⟩ := List.mem_map.mp hz
          exact hall j (by have := List.mem_range.mp hj; omega)
        rw [List.length_map, List.length_map, List.length_range] at h1
        omega
end
section
variable {P : Program} {w : World} {K : PySem.W.Frag} {mg : Str → Option Value} {base : Heap}
theorem ok__law_names (D : Df K mg "_law_names" s__law_names ["source", "many"]) (T : Tx mg)  (C__law_new_name : Cal P w K mg base "_law_new_name" ["source", "used"] 3 (sp9__law_new_name K)) : Cal P w K mg base "_law_names" ["source", "many"] 4 (sp9__law_names K) := by
  obtain ⟨f__law_new_name, fd__law_new_name, G__law_new_name, g__law_new_name, k__law_new_name, b__law_new_name⟩ := C__law_new_name
  obtain ⟨f, fd, F, gf, bf⟩ := D
  refine ⟨f, fd, F.ok sc__law_names (fun vs H Q E h => ?_) (fun cdv A outer s₀ H vs Q E hr h => ?_), gf, F.kp, bf⟩
  · obtain ⟨s, a, m, c, rfl, _⟩ := h; rfl
  · obtain ⟨s, a, m, c, rfl, hm, hS, q⟩ := h
    refine ⟨_, (pss_cons (ps_set (i := 2) sc__law_names.nd rfl (Or.inl rfl) (pe_lst pa_nil))
      (pss_cons (ps_for PassesOwn.never rfl (pi_range1 (by rfl) T.n_range (pa_cons (pv 1) pa_nil)) (pg_name (i := 3) sc__law_names.nd rfl (Or.inl rfl))
      (pss_one (ps_expr (pe_bm PySem.F.plainAttrs_list PySem.F.slot_list_append PySem.F.type_list_append mt_append (pv 2) (pa_cons (pe_call G__law_new_name (hr.mono (by decide)) (by rfl) g__law_new_name k__law_new_name b__law_new_name .nil pass0 (pa_cons (pv 0) (pa_cons (pv 2) pa_nil))) pa_nil)))))
      (pss_one (ps_ret (pv 2))))), ?_⟩
    refine ⟨Nat.zero_le _, fun u hu => ?_⟩
    have us : u ≠ s := hS.ne hu
    have ua : u ≠ a := hS.nea hu
    refine ⟨_, rfl, _, rfl, by omega, by omega, ?_⟩
    refine for_range (lo := 0) (n := ((m : Int)).toNat) (fun i σ H' => ∃ (xs : List Str) (v : Option V), σ = [some (.ref s), some (.int m), some (.ref u), v] ∧ H' u = some (.lst (xs.map V.str)) ∧ xs.length = i ∧ Nms xs ∧ Ext s H H' ∧ Src H' s a (c + 8 * (m - i))) ?_ ?_ ?_
    · exact ⟨[], none, rfl, upd_same, rfl, ⟨List.nodup_nil, (fun _ h => by cases h)⟩, Ext.new hu, (hS.new hu).mono (by omega)⟩
    · rintro i σ H' hi ⟨xs, v, rfl, hx, hl, hA, hE, hS'⟩
      refine ⟨_, rfl, .inl ⟨rfl, _, SqL.of hx⟩, _, rfl, _, rfl, s, a, u, xs, c + 8 * (m - (i + 1)), rfl, SqL.of hx, us, by omega, by rw [show c + 8 * (m - (i + 1)) + 8 = c + 8 * (m - i) by omega]; exact hS', fun x H2 hN hl2 hnew hE2 hS2 => ?_⟩
      refine ⟨u, _, _, rfl, rfl, hE2 _ _ us hx, ?_, ?_⟩
      · rw [List.length_map]; exact small1000 (by omega)
      · refine ⟨xs ++ [x], _, rfl, by rw [upd_same, List.map_append]; rfl, by rw [List.length_append]; simp [hl], ⟨?_, fun y hy => ?_⟩, ?_, hS2.put us ua⟩
        · rw [List.nodup_append]
          exact ⟨hA.1, by simp, fun a ha b hb e => by rw [List.mem_singleton.mp hb] at e; exact hnew (e ▸ ha)⟩
        · rcases List.mem_append.mp hy with h | h
          · exact hA.2 y h
          · rw [List.mem_singleton.mp h]; exact ⟨hN, hl2⟩
        · intro b o hb hH
          rw [upd_ne (ne_of_none hH hu)]; exact hE2 _ _ hb (hE _ _ hb hH)
    · rintro σ H' ⟨xs, v, rfl, hx, hl, hA, hE, hS'⟩
      exact ⟨_, rfl, q u xs H' hu hx (by omega) hA hE (hS'.mono (by omega))⟩
end

end Z
namespace Z
open PySem L2 SX
section
variable {P : Program} {w : World} {K : PySem.W.Frag} {mg : Str → Option Value} {base : Heap}
theorem ok_Reader____init__ {A_Reader : Addr} (D : DfI K A_Reader "Reader.__init__" s_Reader____init__ ["self"]) (T : Tx mg) (O : To K mg A_Reader)   : CalI P w K mg base A_Reader ["self"] 1 (sp69_init K A_Reader) := by
  obtain ⟨f, fd, F, gf, bf⟩ := D
  refine ⟨f, fd, F.ok sc_Reader____init__ (fun vs H Q E h => ?_) (fun cdv A outer s₀ H vs Q E hr h => ?_), gf, bf⟩
  · obtain ⟨p, dx, rfl, _⟩ := h; rfl
  · obtain ⟨p, dx, rfl, hp, q⟩ := h
    refine ⟨_, (pss_one (ps_fld (pv 0) pe_dnewT rfl)), ?_⟩
    refine fun d hd => ⟨_, rfl, ?_⟩
    have pd : p ≠ d := ne_of_none hp hd
    refine ⟨p, A_Reader, dx, _, rfl, by rw [upd_ne pd]; exact hp, O.c_Reader, O.n_Reader_read, by decide, ?_⟩
    refine q d _ hd (fun b o nb hb => ?_) ⟨dx, [], [], upd_same, by rw [upd_ne pd.symm]; exact upd_same, rfl, List.Perm.refl _⟩
    have b1 : b ≠ p := fun e => nb (by rw [e]; simp)
    rw [upd_ne b1, upd_ne (ne_of_none hb hd)]; exact hb
end
section
variable {P : Program} {w : World} {K : PySem.W.Frag} {mg : Str → Option Value} {base : Heap}
theorem ok_Reader__read {A_Reader : Addr} (D : DfM K A_Reader "read" "Reader.read" s_Reader__read ["self", "id"]) (T : Tx mg) (O : To K mg A_Reader)   : CalM P w K mg base A_Reader "read" ["self", "id"] 1 (sp69_read K A_Reader) := by
  obtain ⟨f, fd, F, gf, bf⟩ := D
  refine ⟨f, fd, F.ok sc_Reader__read (fun vs H Q E h => ?_) (fun cdv A outer s₀ H vs Q E hr h => ?_), gf, bf⟩
  · obtain ⟨p, d, rs, x, v, rfl, _⟩ := h; rfl
  · obtain ⟨p, d, rs, x, v, rfl, rd, hx, rl, q⟩ := h
    refine ⟨_, (pss_one (ps_dput (hu_of hr) (pe_fld (pv 0) rfl) (pv 1) pe_bl rfl)), ?_⟩
    have small : ∀ n : Nat, n ≤ 30000 → n < sizeLine := fun n h => Nat.lt_of_le_of_lt h (by decide)
    obtain ⟨dx, kvs, ks, hp, hd, hk, pm⟩ := rd
    obtain ⟨_, t, rfl, ht⟩ := id hx
    have kl : kvs.length ≤ 1000 := by
      have h1 := congrArg List.length hk
      rw [List.length_map, List.length_map, pm.length_eq] at h1
      omega
    refine ⟨_, rfl, p, A_Reader, dx, _, _, rfl, hp, O.c_Reader, O.n_Reader_read, rfl, _, rfl, d, _, rfl, DPut.t (k := ik x) hd ht (small _ (by omega)), ?_⟩
    have T : TT K H (upd H d (.dT (putK kvs (ik x) (.bl true)))) := TT.over hd (fun _ e => by cases e) (fun _ _ e => by cases e)
    have pd : p ≠ d := fun z => by rw [z, hd] at hp; cases hp
    exact q _ (ExtL.put (by simp)) T ⟨dx, _, add ks x, by rw [upd_ne pd]; exact hp, upd_same, put_keys hk x, add_perm pm x⟩
end
section
variable {P : Program} {w : World} {K : PySem.W.Frag} {mg : Str → Option Value} {base : Heap}
theorem ok_Reader__ids {A_Reader : Addr} (D : DfM K A_Reader "ids" "Reader.ids" s_Reader__ids ["self"]) (T : Tx mg) (O : To K mg A_Reader)   : CalM P w K mg base A_Reader "ids" ["self"] 1 (sp69_ids K A_Reader) := by
  obtain ⟨f, fd, F, gf, bf⟩ := D
  refine ⟨f, fd, F.ok sc_Reader__ids (fun vs H Q E h => ?_) (fun cdv A outer s₀ H vs Q E hr h => ?_), gf, bf⟩
  · obtain ⟨p, d, rs, rfl, _⟩ := h; rfl
  · obtain ⟨p, d, rs, rfl, rd, ok, rl, q⟩ := h
    refine ⟨_, (pss_one (ps_ret (pe_callTy call_tuple_of (by rfl) T.n_tuple (by decide +kernel) (pa_cons (pe_callB (cr_sortKeysT (room65 hr) rfl) (by rfl) T.n_sorted (by decide +kernel) (pa_cons (pe_fld (pv 0) rfl) pa_nil)) pa_nil)))), ?_⟩
    obtain ⟨dx, kvs, ks, hp, hd, hk, pm⟩ := rd
    refine ⟨_, rfl, p, A_Reader, dx, _, _, rfl, hp, O.c_Reader, O.n_Reader_read, rfl, d, kvs, Idn, ks, ik, rfl, hd, hk, id_aa, id_so, fun b _ => id_dp b, fun ys S hS kS => ?_⟩
    have n1 := same_new (o := HO.lst ys) hS
    refine ⟨S, ys, rfl, .inl ⟨SqL.of upd_same, fun u hu => ?_⟩⟩
    have n2 := same_new (o := HO.tup ys) hu
    have hr : RL (IsId H) (srt ks) ys := ks_is (fun x m => ok x (pm.mem_iff.mp (srt_mem.mp m))) kS
    rw [srt_perm pm] at hr
    exact q u ys _ (n1.trans n2) (SqT.of upd_same) (hr.mono (IsId.tt (K := K) (TT.same (n1.trans n2))))
end
section
variable {P : Program} {w : World} {K : PySem.W.Frag} {mg : Str → Option Value} {base : Heap}
theorem ok_Reader__new {A_Reader : Addr} (D : DfM K A_Reader "new" "Reader.new" s_Reader__new ["self", "view"]) (T : Tx mg) (O : To K mg A_Reader)   : CalM P w K mg base A_Reader "new" ["self", "view"] 1 (sp69_new K A_Reader) := by
  obtain ⟨f, fd, F, gf, bf⟩ := D
  refine ⟨f, fd, F.ok sc_Reader__new (fun vs H Q E h => ?_) (fun cdv A outer s₀ H vs Q E hr h => ?_), gf, bf⟩
  · obtain ⟨p, d, t, rs, us, ps, rfl, _⟩ := h; rfl
  · obtain ⟨p, d, t, rs, us, ps, rfl, rd, ht, hps, pl, q⟩ := h
    refine ⟨_, (pss_one (ps_ret (pe_callTy call_tuple_of (by rfl) T.n_tuple (by decide +kernel) (pa_cons (pe_lc (own := [("number", 2), ("id", 3)]) (g := gTup K 2 (gCons (gName 2) (gCons (gName 3) gNil))) rfl sc_Reader__new.nd (pi_tup (pv 1)) (blkOk_by (own := [("number", 2), ("id", 3)]) (N := N_Reader__new) (sc := defScope s_Reader__new) (by decide +kernel)) (fun _ _ _ _ _ => (pg_tup rfl (pgs_cons (pg_name (i := 2) sc_Reader__new.nd rfl (Or.inl rfl)) (pgs_cons (pg_name (i := 3) sc_Reader__new.nd rfl (Or.inl rfl)) pgs_nil)))) (fun _ _ _ _ _ => pts_one (pt_cmp (pc_dnotin (hu_of hr) (pv 3) (pe_fldQ (K := K) rfl (pv 0) rfl)))) (fun _ _ _ _ _ => (pe_tup (pa_cons (pv 2) (pa_cons (pv 3) pa_nil))))) pa_nil)))), ?_⟩
    have small : ∀ n : Nat, n ≤ 30000 → n < sizeLine := fun n h => Nat.lt_of_le_of_lt h (by decide)
    have ul := hps.len
    obtain ⟨dx, kvs, ks, hp, hd, hk, pm⟩ := rd
    have hb : ∀ x, memB rs x = memB ks x := fun x => memB_congr fun y => pm.mem_iff.symm
    refine ⟨_, rfl, t, rfl, ⟨_, ht⟩, fun D hD => ?_⟩
    refine lc_tup (K := K) (a := t) (xs := us) (fun j H' => ∃ ws, H' D = some (.lst ws) ∧ RL (PrAt K H') (newD (ps.take j) rs) ws ∧ ws.length ≤ j ∧ Same H H') ⟨[], upd_same, rfl, Nat.le_refl _, same_new hD⟩ (fun j H' _ h => by obtain ⟨_, _, _, _, m⟩ := h; exact m.tup ht) ?_ ?_
    · rintro j v H3 hj ⟨ws, h3, r3, wl, m3⟩
      obtain ⟨x, hx, px⟩ := hps.get hj
      have il := (List.getElem?_eq_some_iff.mp hx).1
      obtain ⟨c, w, rfl, hc, hw⟩ := px
      have T3 := TT.same (K := K) m3
      obtain ⟨okx, tw, rfl, htw⟩ := id hw
      refine ⟨c, _, rfl, T3.1 _ _ hc, rfl, _, _, rfl, _, _, rfl, rfl, rfl, ?_⟩
      refine ⟨_, rfl, _, rfl, p, A_Reader, dx, _, _, rfl, m3 _ _ hp, O.c_Reader, O.n_Reader_read, rfl, d, _, rfl, DGet.t (k := ik x.2) (m3 _ _ hd) (T3.2 _ _ htw), _, rfl, ?_⟩
      rw [val_mem hk, ← hb]
      have e1 : newD (ps.take (j + 1)) rs = newD (ps.take j) rs ++ if memB rs x.2 = true then [] else [x] := by
        unfold newD
        rw [List.take_add_one, hx, show (some x).toList = [x] from rfl, List.filter_append, List.filter_cons, List.filter_nil]
        cases memB rs x.2 <;> rfl
      rw [e1]
      cases hm : memB rs x.2 with
      | true =>
        refine iteF ⟨ws, h3, ?_, by omega, m3⟩
        rw [if_pos rfl, List.append_nil]; exact r3
      | false =>
        refine iteT ⟨_, rfl, _, rfl, by show 2 ≤ sizeLine; decide, fun pr hpr => ?_⟩
        have n5 := same_new (o := HO.tup [V.int x.1, V.ref tw]) hpr
        refine ⟨ws, n5 _ _ h3, small _ (by omega), ws ++ [V.ref pr], upd_same, ?_, by rw [List.length_append]; show _ + 1 ≤ _; omega, sput (m3.trans n5) hD⟩
        have T5 := TT.same (K := K) n5
        have T6 := TT.put (K := K) (o := HO.lst (ws ++ [V.ref pr])) (n5 _ _ h3)
        rw [if_neg Bool.false_ne_true]
        exact ((r3.mono (PrAt.tt T5)).mono (PrAt.tt T6)).snoc (PrAt.tt T6 _ _ ⟨pr, _, rfl, SqT.of upd_same, ((hw.tt T3).tt T5)⟩)
    rintro H3 ⟨ws, h3, r3, wl, m3⟩
    rw [ul, List.take_length] at r3
    refine ⟨D, ws, rfl, .inl ⟨SqL.of h3, fun u hu => ?_⟩⟩
    have n6 := same_new (o := HO.tup ws) hu
    exact q u ws _ (m3.trans n6) (SqT.of upd_same) (r3.mono (PrAt.tt (TT.same n6)))
end
section
variable {P : Program} {w : World} {K : PySem.W.Frag} {mg : Str → Option Value} {base : Heap}
theorem ok_Reader__meet {A_Reader : Addr} (D : DfM K A_Reader "meet" "Reader.meet" s_Reader__meet ["self", "other"]) (T : Tx mg) (O : To K mg A_Reader)  (C_Reader__ids : CalM P w K mg base A_Reader "ids" ["self"] 1 (sp69_ids K A_Reader)) (C_Reader__read : CalM P w K mg base A_Reader "read" ["self", "id"] 1 (sp69_read K A_Reader)) : CalM P w K mg base A_Reader "meet" ["self", "other"] 2 (sp69_meet K A_Reader) := by
  obtain ⟨f_Reader__ids, fd_Reader__ids, G_Reader__ids, h_Reader__ids, b_Reader__ids⟩ := C_Reader__ids
  obtain ⟨f_Reader__read, fd_Reader__read, G_Reader__read, h_Reader__read, b_Reader__read⟩ := C_Reader__read
  obtain ⟨f, fd, F, gf, bf⟩ := D
  refine ⟨f, fd, F.ok sc_Reader__meet (fun vs H Q E h => ?_) (fun cdv A outer s₀ H vs Q E hr h => ?_), gf, bf⟩
  · obtain ⟨p, d, p2, d2, rs, rs2, rfl, _⟩ := h; rfl
  · obtain ⟨p, d, p2, d2, rs, rs2, rfl, rd, rd2, ok, ok2, rl, rl2, nd, nd2, dd, q⟩ := h
    refine ⟨_, (pss_cons (ps_for PassesOwn.never rfl (pi_tup (pe_meth0 (pv 1) O.c_Reader h_Reader__ids G_Reader__ids (hr.mono (by decide)) b_Reader__ids .nil pass0)) (pg_name (i := 2) sc_Reader__meet.nd rfl (Or.inl rfl))
      (pss_one (ps_expr (pe_meth (pv 0) O.c_Reader h_Reader__read G_Reader__read (hr.mono (by decide)) b_Reader__read .nil pass0 (pa_cons (pv 2) pa_nil)))))
      (pss_one (ps_for PassesOwn.never rfl (pi_tup (pe_meth0 (pv 0) O.c_Reader h_Reader__ids G_Reader__ids (hr.mono (by decide)) b_Reader__ids .nil pass0)) (pg_name (i := 2) sc_Reader__meet.nd rfl (Or.inl rfl))
      (pss_one (ps_expr (pe_meth (pv 1) O.c_Reader h_Reader__read G_Reader__read (hr.mono (by decide)) b_Reader__read .nil pass0 (pa_cons (pv 2) pa_nil))))))), ?_⟩
    obtain ⟨dx2, kvs2, ks2, hp2, _⟩ := id rd2
    refine ⟨_, rfl, p2, dx2, _, rfl, hp2, rfl, p2, d2, rs2, rfl, rd2, ok2, by omega, fun u ws H1 m1 hu r1 => ?_⟩
    have nd3 := uni_nd (m := srt rs2) nd
    have u3 : ∀ y, y ∈ uni rs (srt rs2) ↔ y ∈ rs ∨ y ∈ rs2 := fun y => by rw [uni_mem, srt_mem]
    have pd := rd.ne rd
    have pd2 := rd.ne rd2
    have p2d := rd2.ne rd
    have p2d2 := rd2.ne rd2
    have l2 := srt_len (l := rs2)
    have wl := r1.len
    refine ⟨u, rfl, ⟨_, hu⟩, ?_⟩
    refine for_tup (K := K) (a := u) (xs := ws) (fun j σ H' => ∃ v2 : Option V, σ = [some (.ref p), some (.ref p2), v2] ∧ ExtL [d] H1 H' ∧ TT K H1 H' ∧ RdAt A_Reader H' p d (uni rs ((srt rs2).take j))) ⟨_, rfl, ExtL.refl _ _, TT.refl, rd.same m1⟩ (fun j σ H' _ h => by obtain ⟨_, _, _, T, _⟩ := h; exact T.1 _ _ hu) ?_ ?_
    · rintro j v σ H2 hj ⟨v2, rfl, x2, T2, rd'⟩
      obtain ⟨x, hx, ix⟩ := r1.get hj
      obtain ⟨dx', _, _, hp', _⟩ := id rd'
      have ul := uni_len (l := rs) (m := (srt rs2).take j)
      have tl : ((srt rs2).take j).length ≤ (srt rs2).length := by rw [List.length_take]; omega
      refine ⟨_, rfl, p, dx', _, rfl, hp', rfl, _, rfl, p, d, _, x, v, rfl, rd', ix.tt T2, by omega, fun H3 x3 T3 rd3 => ?_⟩
      rw [uni_take hx] at rd3
      exact ⟨_, rfl, x2.trans x3, T2.trans T3, rd3⟩
    rintro σ H2 ⟨v2, rfl, x2, T2, rd'⟩
    rw [wl, List.take_length] at rd'
    obtain ⟨dx', _, _, hp', _⟩ := id rd'
    have ul := uni_len (l := rs) (m := srt rs2)
    have ok3 : ∀ x ∈ uni rs (srt rs2), okI x := fun x h => ((u3 x).mp h).elim (ok x) (ok2 x)
    have rd22 : RdAt A_Reader H2 p2 d2 rs2 := (rd2.same m1).ext x2 (by simpa using p2d) (by simpa using dd.symm)
    refine ⟨_, rfl, p, dx', _, rfl, hp', rfl, p, d, _, rfl, rd', ok3, by omega, fun u4 ws4 H4 m4 hu4 r4 => ?_⟩
    have wl4 := r4.len
    have l4 := srt_len (l := uni rs (srt rs2))
    refine ⟨u4, rfl, ⟨_, hu4⟩, ?_⟩
    refine for_tup (K := K) (a := u4) (xs := ws4) (fun j σ H' => ∃ v2 : Option V, σ = [some (.ref p), some (.ref p2), v2] ∧ ExtL [d2] H4 H' ∧ TT K H4 H' ∧ RdAt A_Reader H' p2 d2 (uni rs2 ((srt (uni rs (srt rs2))).take j))) ⟨_, rfl, ExtL.refl _ _, TT.refl, rd22.same m4⟩ (fun j σ H' _ h => by obtain ⟨_, _, _, T, _⟩ := h; exact T.1 _ _ hu4) ?_ ?_
    · rintro j v σ H5 hj ⟨v2, rfl, x5, T5, rd5⟩
      obtain ⟨x, hx, ix⟩ := r4.get hj
      obtain ⟨dx5, _, _, hp5, _⟩ := id rd5
      have ul5 := uni_len (l := rs2) (m := (srt (uni rs (srt rs2))).take j)
      have tl : ((srt (uni rs (srt rs2))).take j).length ≤ (srt (uni rs (srt rs2))).length := by rw [List.length_take]; omega
      refine ⟨_, rfl, p2, dx5, _, rfl, hp5, rfl, _, rfl, p2, d2, _, x, v, rfl, rd5, ix.tt T5, by omega, fun H6 x6 T6 rd6 => ?_⟩
      rw [uni_take hx] at rd6
      exact ⟨_, rfl, x5.trans x6, T5.trans T6, rd6⟩
    rintro σ H5 ⟨v2, rfl, x5, T5, rd5⟩
    rw [wl4, List.take_length] at rd5
    have rdp : RdAt A_Reader H5 p d (uni rs (srt rs2)) := (rd'.same m4).ext x5 (by simpa using pd2) (by simpa using dd)
    have un := uni_nd (m := rs2) nd
    refine q H5 ((ExtL.of m1).trans ((x2.mono (by simp)).trans ((ExtL.of m4).trans (x5.mono (by simp))))) ((TT.same m1).trans (T2.trans ((TT.same m4).trans T5))) (rdp.mem nd3 un fun y => by rw [u3, uni_mem]) (rd5.mem (uni_nd nd2) un fun y => ?_)
    rw [uni_mem, srt_mem, u3, uni_mem]
    exact ⟨fun h => h.elim .inr id, .inr⟩
end

end Z
namespace Z
open PySem L2 SX
theorem ints_at (zs : List Int) {v : Int} (h0 : 0 ≤ v) (h1 : v < (zs.length : Int)) : ∃ z, z ∈ zs ∧ atI (zs.map V.int) v = some (.int z) := by
  have h : v.toNat < zs.length := by omega
  exact ⟨zs[v.toNat], List.getElem_mem h, at_of (j := v.toNat) (by omega) (by rw [List.getElem?_map, List.getElem?_eq_getElem h]; rfl)⟩
def sp69_shuffled (K : PySem.W.Frag) : Sp := fun vs H Q _ => ∃ (s a r : Addr) (xs : List V) (c : Nat), vs = [.ref s, .ref r] ∧ (SqL K H r xs ∨ SqT K H r xs) ∧ xs.length ≤ 1000 ∧ Src H s a (c + xs.length) ∧
  ∀ (d : Addr) (ys : List V) (H' : Hp), H d = none → H' d = some (.lst ys) → ys.Perm xs → Ext s H H' → Src H' s a c → Q (.ref d) H'
section
variable {P : Program} {w : World} {K : PySem.W.Frag} {mg : Str → Option Value} {base : Heap}
theorem ok__law_shuffled (D : Df K mg "_law_shuffled" s__law_shuffled ["source", "row"]) (T : Tx mg)  (C__law_draw : Cal P w K mg base "_law_draw" ["source", "many"] 2 sp__law_draw) : Cal P w K mg base "_law_shuffled" ["source", "row"] 3 (sp69_shuffled K) := by
  obtain ⟨f__law_draw, fd__law_draw, G__law_draw, g__law_draw, k__law_draw, b__law_draw⟩ := C__law_draw
  obtain ⟨f, fd, F, gf, bf⟩ := D
  refine ⟨f, fd, F.ok sc__law_shuffled (fun vs H Q E h => ?_) (fun cdv A outer s₀ H vs Q E hr h => ?_), gf, F.kp, bf⟩
  · obtain ⟨s, a, r, xs, c, rfl, _⟩ := h; rfl
  · obtain ⟨s, a, r, xs, c, rfl, hR, xl, hS, q⟩ := h
    refine ⟨_, (pss_cons (ps_set (i := 2) sc__law_shuffled.nd rfl (Or.inl rfl) (pe_callTy call_list_of (by rfl) T.n_list (by decide +kernel) (pa_cons (pv 1) pa_nil)))
      (pss_cons (ps_set (i := 3) sc__law_shuffled.nd rfl (Or.inl rfl) (pe_lst pa_nil))
      (pss_cons (ps_for PassesOwn.never rfl (pi_range1 (by rfl) T.n_range (pa_cons (pe_callB call_len_seq (by rfl) T.n_len PySem.boot_len (pa_cons (pv 1) pa_nil)) pa_nil)) (pg_name (i := 4) sc__law_shuffled.nd rfl (Or.inl rfl))
      (pss_one (ps_expr (pe_bm PySem.F.plainAttrs_list PySem.F.slot_list_append PySem.F.type_list_append mt_append (pv 3) (pa_cons (pe_bm PySem.F.plainAttrs_list PySem.F.slot_list_pop PySem.F.type_list_pop mt_popAt (pv 2) (pa_cons (pe_call G__law_draw (hr.mono (by decide)) (by rfl) g__law_draw k__law_draw b__law_draw .nil pass0 (pa_cons (pv 0) (pa_cons (pe_callB call_len_seq (by rfl) T.n_len PySem.boot_len (pa_cons (pv 2) pa_nil)) pa_nil))) pa_nil)) pa_nil)))))
      (pss_one (ps_ret (pv 3)))))), ?_⟩
    have small1000 : ∀ {n : Nat}, n ≤ 1000 → n < sizeLine := fun h => Nat.lt_of_le_of_lt h (by decide)
    refine ⟨_, rfl, r, xs, rfl, hR, fun L hL => ?_⟩
    have n1 := same_new (o := HO.lst xs) hL
    refine ⟨Nat.zero_le _, fun D hD => ?_⟩
    have n2 := same_new (o := HO.lst []) hD
    have S1 := (hS.ext n1).ext n2
    have Ls := hS.ne hL
    have La := hS.nea hL
    have HD : H D = none := Same.free n1 hD
    have Ds := hS.ne HD
    have Da := hS.nea HD
    have LD : L ≠ D := ne_of_none upd_same hD
    refine ⟨_, rfl, r, xs, rfl, hR.imp (fun h => (n1.trans n2).seq h) (fun h => (n1.trans n2).tup h), _, rfl, by omega, by omega, ?_⟩
    refine for_range (lo := 0) (n := ((xs.length : Int)).toNat) (fun i σ H' => ∃ (ls ys : List V) (v4 : Option V), σ = [some (.ref s), some (.ref r), some (.ref L), some (.ref D), v4] ∧ H' L = some (.lst ls) ∧ H' D = some (.lst ys) ∧ ls.length + i = xs.length ∧ ys.length = i ∧ (ls ++ ys).Perm xs ∧ Ext s H H' ∧ Src H' s a (c + (xs.length - i))) ?_ ?_ ?_
    · exact ⟨xs, [], _, rfl, n2 _ _ upd_same, upd_same, by simp, rfl, (by rw [List.append_nil]), Ext.of (n1.trans n2), S1.mono (by omega)⟩
    · rintro i σ H' hi ⟨ls, ys, v4, rfl, hl, hy, l1, l2, pm, hE, hS'⟩
      refine ⟨_, rfl, .inl ⟨rfl, _, SqL.of hy⟩, _, rfl, .inl ⟨rfl, _, SqL.of hl⟩, _, rfl, _, rfl, L, _, rfl, .inl (SqL.of hl), s, a, (ls.length : Int), c + (xs.length - (i + 1)), rfl, by omega, by omega, hS'.mono (by omega), fun v H2 v0 v1 x2 S2 => ?_⟩
      have hv : v.toNat < ls.length := by omega
      have hl2 := x2 _ _ Ls hl
      have hy2 := x2 _ _ Ds hy
      refine ⟨L, ls, v, v.toNat, ls[v.toNat], rfl, rfl, hl2, by omega, by omega, ?_, List.getElem?_eq_getElem hv, ?_⟩
      · exact seqIndex_of v0 v1
      refine ⟨D, ys, _, rfl, rfl, by rw [upd_ne LD.symm]; exact hy2, small1000 (by omega), ?_⟩
      refine ⟨ls.eraseIdx v.toNat, ys ++ [ls[v.toNat]], _, rfl, by rw [upd_ne LD, upd_same], upd_same, ?_, by rw [List.length_append]; simp [l2], ?_, fun b o hb hh => ?_, (S2.put Ls La).put Ds Da⟩
      · rw [List.length_eraseIdx, if_pos hv]; omega
      · have e1 : (ls.eraseIdx v.toNat ++ (ys ++ [ls[v.toNat]])).Perm (ls[v.toNat] :: (ls.eraseIdx v.toNat ++ ys)) := by
          rw [← List.append_assoc]
          exact List.perm_append_singleton _ _
        have e2 : (ls[v.toNat] :: (ls.eraseIdx v.toNat ++ ys)).Perm (ls ++ ys) := by
          rw [← List.cons_append]
          exact (erase_perm _ _ hv).append_right ys
        exact (e1.trans e2).trans pm
      · rw [upd_ne (ne_of_none hh HD), upd_ne (ne_of_none hh hL)]; exact x2 _ _ hb (hE _ _ hb hh)
    · rintro σ H' ⟨ls, ys, v4, rfl, hl, hy, l1, l2, pm, hE, hS'⟩
      have e0 : ls = [] := List.length_eq_zero_iff.mp (by omega)
      subst e0
      exact ⟨_, rfl, q D ys H' HD hy pm hE (hS'.mono (by omega))⟩
end
def sp69_idents (K : PySem.W.Frag) : Sp := fun vs H Q _ => ∃ (s a : Addr) (c : Nat), vs = [.ref s] ∧ Src H s a (c + 200) ∧
  ∀ (I : Addr) (U : List Idn) (us : List V) (H' : Hp), H I = none → H' I = some (.lst us) → RL (IsId H') U us → U.Nodup → U ≠ [] → U.length ≤ 8 → Ext s H H' → Src H' s a c → Q (.ref I) H'
section
variable {P : Program} {w : World} {K : PySem.W.Frag} {mg : Str → Option Value} {base : Heap}
theorem ok__law_idents (D : Df K mg "_law_idents" s__law_idents ["source"]) (T : Tx mg)  (C__law_draw : Cal P w K mg base "_law_draw" ["source", "many"] 2 sp__law_draw) (C__law_names : Cal P w K mg base "_law_names" ["source", "many"] 4 (sp9__law_names K)) (C__law_pick : Cal P w K mg base "_law_pick" ["source", "row"] 3 (sp3__law_pick K)) : Cal P w K mg base "_law_idents" ["source"] 5 (sp69_idents K) := by
  obtain ⟨f__law_draw, fd__law_draw, G__law_draw, g__law_draw, k__law_draw, b__law_draw⟩ := C__law_draw
  obtain ⟨f__law_names, fd__law_names, G__law_names, g__law_names, k__law_names, b__law_names⟩ := C__law_names
  obtain ⟨f__law_pick, fd__law_pick, G__law_pick, g__law_pick, k__law_pick, b__law_pick⟩ := C__law_pick
  obtain ⟨f, fd, F, gf, bf⟩ := D
  refine ⟨f, fd, F.ok sc__law_idents (fun vs H Q E h => ?_) (fun cdv A outer s₀ H vs Q E hr h => ?_), gf, F.kp, bf⟩
  · obtain ⟨s, a, c, rfl, _⟩ := h; rfl
  · obtain ⟨s, a, c, rfl, hS, q⟩ := h
    refine ⟨_, (pss_cons (ps_set (i := 1) sc__law_idents.nd rfl (Or.inl rfl) (pe_call G__law_names (hr.mono (by decide)) (by rfl) g__law_names k__law_names b__law_names .nil pass0 (pa_cons (pv 0) (pa_cons pe_int pa_nil))))
      (pss_cons (ps_set (i := 2) sc__law_idents.nd rfl (Or.inl rfl) (pe_lst pa_nil))
      (pss_cons (ps_for PassesOwn.never rfl (pi_range1 (by rfl) T.n_range (pa_cons (pe_op op_add pe_int (pe_call G__law_draw (hr.mono (by decide)) (by rfl) g__law_draw k__law_draw b__law_draw .nil pass0 (pa_cons (pv 0) (pa_cons pe_int pa_nil)))) pa_nil)) (pg_name (i := 3) sc__law_idents.nd rfl (Or.inl rfl))
      (pss_cons (ps_set (i := 4) sc__law_idents.nd rfl (Or.inl rfl) (pe_ix ix_list (pe_lst (pa_cons (pe_op op_add (pv 3) pe_int) (pa_cons pe_int (pa_cons pe_int (pa_cons (pe_op op_add pe_int (pv 3)) (pa_cons (pe_op op_add pe_int (pe_call G__law_draw (hr.mono (by decide)) (by rfl) g__law_draw k__law_draw b__law_draw .nil pass0 (pa_cons (pv 0) (pa_cons pe_int pa_nil)))) pa_nil)))))) (pe_call G__law_draw (hr.mono (by decide)) (by rfl) g__law_draw k__law_draw b__law_draw .nil pass0 (pa_cons (pv 0) (pa_cons pe_int pa_nil))) (fun _ _ => rfl)))
        (pss_cons (ps_set (i := 5) sc__law_idents.nd rfl (Or.inl rfl) (pe_tup (pa_cons (pe_call G__law_pick (hr.mono (by decide)) (by rfl) g__law_pick k__law_pick b__law_pick .nil pass0 (pa_cons (pv 0) (pa_cons (pv 1) pa_nil))) (pa_cons (pv 4) pa_nil))))
        (pss_one (ps_if (pt_cmpR (op_notInDDQ (K := K) rfl (room65 hr)) (pv 5) (pv 2) (by rfl))
        (pss_one (ps_expr (pe_bm PySem.F.plainAttrs_list PySem.F.slot_list_append PySem.F.type_list_append mt_append (pv 2) (pa_cons (pv 5) pa_nil))))
        pss_nil)))))
      (pss_one (ps_ret (pv 2)))))), ?_⟩
    have small : ∀ n : Nat, n ≤ 30000 → n < sizeLine := fun n h => Nat.lt_of_le_of_lt h (by decide)
    refine ⟨_, rfl, s, a, 2, c + 150, rfl, by decide, hS.mono (by omega), fun n ns H1 hn hN nl nms x1 S1 => ?_⟩
    have Ns : n ≠ s := hS.ne hn
    have nne : ns ≠ [] := fun e => by rw [e] at nl; simp at nl
    refine ⟨Nat.zero_le _, fun D hD => ?_⟩
    have n2 := same_new (o := HO.lst []) hD
    have Ds := S1.ne hD
    have Da := S1.nea hD
    have hD0 : H D = none := ext_free x1 S1 hD
    have S2 := S1.ext n2
    refine ⟨_, rfl, s, a, _, c + 140, rfl, by decide, by decide, S2.mono (by omega), fun m H3 m0 m1 x3 S3 => ?_⟩
    refine ⟨_, _, rfl, rfl, _, rfl, by omega, by omega, ?_⟩
    refine for_range (lo := 0) (n := (1 + m).toNat) (fun i σ H' => ∃ (v3 v4 v5 : Option V) (U : List Idn) (us : List V), σ = [some (.ref s), some (.ref n), some (.ref D), v3, v4, v5] ∧ H' D = some (.lst us) ∧ RL (IsId H') U us ∧ U.Nodup ∧ (i ≠ 0 → U ≠ []) ∧ U.length ≤ i ∧ i ≤ 8 ∧ Ext s H1 H' ∧ Src H' s a (c + 140 - 5 * i)) ⟨none, none, none, [], [], rfl, x3 _ _ Ds upd_same, rfl, List.nodup_nil, (fun h => absurd rfl h), Nat.le_refl _, by omega, (Ext.of n2).trans x3, S3⟩ ?_ ?_
    · rintro i σ H4 hi ⟨v3, v4, v5, U, us, rfl, h4, r4, nd, _, Ul, i8, x4, S4⟩
      have i7 : i ≤ 7 := by omega
      obtain ⟨b, hb⟩ : ∃ b, b = c + 140 - 5 * (i + 1) := ⟨_, rfl⟩
      have S4 := S4.mono (d := b + 5) (by omega)
      refine ⟨_, rfl, _, _, rfl, rfl, _, rfl, _, _, rfl, rfl, _, rfl, s, a, _, b + 4, rfl, by decide, by decide, S4, fun z H5 z0 z1 x5 S5 => ?_⟩
      refine ⟨_, _, rfl, rfl, by show 5 ≤ sizeLine; decide, fun l hl => ?_⟩
      have n6 := same_new (o := HO.lst ([0 + ((i : Nat) : Int) + 1, 9, 10, 100 + (0 + ((i : Nat) : Int)), 1 + z].map V.int)) hl
      have S6 := S5.ext n6
      refine ⟨_, rfl, s, a, _, b + 3, rfl, by decide, by decide, S6, fun w H7 w0 w1 x7 S7 => ?_⟩
      obtain ⟨num, _, enum⟩ := ints_at [0 + ((i : Nat) : Int) + 1, 9, 10, 100 + (0 + ((i : Nat) : Int)), 1 + z] w0 w1
      refine ⟨l, _, _, _, rfl, rfl, SqL.of (x7 _ _ (S5.ne hl) upd_same), enum, ?_⟩
      have xE7 := ((x4.trans x5).trans (Ext.of n6)).trans x7
      have y7 := (x5.trans (Ext.of n6)).trans x7
      refine ⟨_, rfl, _, rfl, .inl ⟨s, a, n, ns.map V.str, b + 2, rfl, SqL.of (xE7 _ _ Ns hN), Ns, by simpa using nne, by rw [List.length_map]; omega, S7, fun v8 H8 vm x8 S8 => ?_⟩⟩
      obtain ⟨pl, plm, rfl⟩ := List.mem_map.mp vm
      have plk := nms.2 pl plm
      refine ⟨_, rfl, by show 2 ≤ sizeLine; decide, fun t ht => ?_⟩
      have n9 := same_new (o := HO.tup [V.str pl, V.int num]) ht
      have y9 := (y7.trans x8).trans (Ext.of n9)
      have T9 : TT K H4 _ := (TT.ext x5 S4).trans ((TT.same n6).trans ((TT.ext x7 S6).trans ((TT.ext x8 S7).trans (TT.same n9))))
      have h9 := y9 _ _ Ds h4
      have is9 : IsId (upd H8 t (HO.tup [V.str pl, V.int num])) (pl, num) (.ref t) := ⟨plk.1.2, t, rfl, upd_same⟩
      have S9 := S8.ext n9
      have xE9 := x4.trans y9
      generalize upd H8 t (HO.tup [V.str pl, V.int num]) = H9 at is9 T9 h9 S9 xE9
      have r9 := r4.mono (IsId.tt T9)
      refine ⟨_, rfl, _, rfl, iD (pl, num), D, us, U.map iD, IsId.dv _ _ is9, rfl, SqL.of h9, r9.dvs IsId.dv, id_okd is9.1, id_okl (fun x m => by
        obtain ⟨j, hj⟩ := List.mem_iff_getElem?.mp m
        obtain ⟨v, _, hv⟩ := r9.at hj
        exact hv.1), ?_⟩
      rw [if_pos rfl, memB_any]
      refine ⟨_, rfl, ?_⟩
      cases hm : memB U (pl, num) with
      | true => exact iteF ⟨_, _, _, U, us, rfl, h9, r9, nd, (fun _ e => by rw [e] at hm; cases hm), by omega, by omega, xE9, S9.mono (by omega)⟩
      | false =>
        have ul := r9.len
        refine iteT ⟨_, rfl, .inl ⟨rfl, _, SqL.of h9⟩, _, rfl, D, _, _, rfl, rfl, h9, small _ (by omega), ?_⟩
        have T10 := TT.put (K := K) (o := HO.lst (us ++ [V.ref t])) h9
        have nin : (pl, num) ∉ U := fun m => by rw [memB_iff.mpr m] at hm; cases hm
        refine ⟨_, _, _, U ++ [(pl, num)], _, rfl, upd_same, (r9.mono (IsId.tt T10)).snoc (is9.tt T10), ?_, by simp, by rw [List.length_append]; show _ + 1 ≤ _; omega, by omega, ext_keep ?_ xE9, ?_⟩
        · have := add_nd (x := (pl, num)) nd
          unfold add at this
          rwa [if_neg (by rw [hm]; exact Bool.false_ne_true)] at this
        · exact hD
        · exact (S9.put Ds Da).mono (by omega)
    rintro σ H4 ⟨v3, v4, v5, U, us, rfl, h4, r4, nd, ne, Ul, i8, x4, S4⟩
    exact ⟨_, rfl, q D U us H4 hD0 h4 r4 nd (ne (by omega)) (by omega) (x1.trans x4) (S4.mono (by omega))⟩
end

end Z
namespace Z
open PySem L2 SX
def VwAt (K : PySem.W.Frag) (H : Hp) (v : Addr) (ps : List (Int × Idn)) : Prop := ∃ us, H v = some (.lst us) ∧ RL (PrAt K H) ps us
def VwOk (U : List Idn) (ps : List (Int × Idn)) : Prop := (ps.map (·.2)).Nodup ∧ ∀ p ∈ ps, p.2 ∈ U
theorem VwOk.len {U : List Idn} {ps : List (Int × Idn)} (h : VwOk U ps) : ps.length ≤ U.length := by
  have := h.1.length_le_of_subset (l₂ := U) fun x m => by
    obtain ⟨p, hp, rfl⟩ := List.mem_map.mp m
    exact h.2 p hp
  rwa [List.length_map] at this
theorem IdsOk {H : Hp} {U : List Idn} {us : List V} (h : RL (IsId H) U us) : ∀ x ∈ U, okI x := fun x m => by
  obtain ⟨j, hj⟩ := List.mem_iff_getElem?.mp m
  obtain ⟨v, _, hv⟩ := h.at hj
  exact hv.1
def sp69_view (K : PySem.W.Frag) : Sp := fun vs H Q _ => ∃ (s a I : Addr) (U : List Idn) (us : List V) (c : Nat), vs = [.ref s, .ref I] ∧ H I = some (.lst us) ∧ I ≠ s ∧ RL (IsId H) U us ∧ U.Nodup ∧ U.length ≤ 8 ∧ Src H s a (c + 100) ∧
  ∀ (v : Addr) (ps : List (Int × Idn)) (H' : Hp), H v = none → VwAt K H' v ps → VwOk U ps → Ext s H H' → Src H' s a c → Q (.ref v) H'
section
variable {P : Program} {w : World} {K : PySem.W.Frag} {mg : Str → Option Value} {base : Heap}
theorem ok__law_view (D : Df K mg "_law_view" s__law_view ["source", "idents"]) (T : Tx mg)  (C__law_draw : Cal P w K mg base "_law_draw" ["source", "many"] 2 sp__law_draw) (C__law_shuffled : Cal P w K mg base "_law_shuffled" ["source", "row"] 3 (sp69_shuffled K)) : Cal P w K mg base "_law_view" ["source", "idents"] 4 (sp69_view K) := by
  obtain ⟨f__law_draw, fd__law_draw, G__law_draw, g__law_draw, k__law_draw, b__law_draw⟩ := C__law_draw
  obtain ⟨f__law_shuffled, fd__law_shuffled, G__law_shuffled, g__law_shuffled, k__law_shuffled, b__law_shuffled⟩ := C__law_shuffled
  obtain ⟨f, fd, F, gf, bf⟩ := D
  refine ⟨f, fd, F.ok sc__law_view (fun vs H Q E h => ?_) (fun cdv A outer s₀ H vs Q E hr h => ?_), gf, F.kp, bf⟩
  · obtain ⟨s, a, I, U, us, c, rfl, _⟩ := h; rfl
  · obtain ⟨s, a, I, U, us, c, rfl, hI, Is, rU, nd, Ul, hS, q⟩ := h
    refine ⟨_, (pss_cons (ps_set (i := 2) sc__law_view.nd rfl (Or.inl rfl) (pe_call G__law_shuffled (hr.mono (by decide)) (by rfl) g__law_shuffled k__law_shuffled b__law_shuffled .nil pass0 (pa_cons (pv 0) (pa_cons (pv 1) pa_nil))))
      (pss_cons (ps_set (i := 3) sc__law_view.nd rfl (Or.inl rfl) pe_int)
      (pss_cons (ps_set (i := 4) sc__law_view.nd rfl (Or.inl rfl) (pe_lst pa_nil))
      (pss_cons (ps_for PassesOwn.never rfl (pi_list (pe_slice sl_list (pv 2) po_none (po_some (pe_call G__law_draw (hr.mono (by decide)) (by rfl) g__law_draw k__law_draw b__law_draw .nil pass0 (pa_cons (pv 0) (pa_cons (pe_op op_add (pe_callB call_len_seq (by rfl) T.n_len PySem.boot_len (pa_cons (pv 2) pa_nil)) pe_int) pa_nil)))))) (pg_name (i := 5) sc__law_view.nd rfl (Or.inl rfl))
      (pss_cons (ps_set (i := 3) sc__law_view.nd rfl (Or.inl rfl) (pe_op op_add (pe_op op_add (pv 3) pe_int) (pe_call G__law_draw (hr.mono (by decide)) (by rfl) g__law_draw k__law_draw b__law_draw .nil pass0 (pa_cons (pv 0) (pa_cons pe_int pa_nil)))))
        (pss_one (ps_expr (pe_bm PySem.F.plainAttrs_list PySem.F.slot_list_append PySem.F.type_list_append mt_append (pv 4) (pa_cons (pe_tup (pa_cons (pv 3) (pa_cons (pv 5) pa_nil))) pa_nil))))))
      (pss_one (ps_ret (pv 4))))))), ?_⟩
    have small : ∀ n : Nat, n ≤ 30000 → n < sizeLine := fun n h => Nat.lt_of_le_of_lt h (by decide)
    have ul := rU.len
    refine ⟨_, rfl, _, rfl, s, a, I, us, c + 90, rfl, .inl (SqL.of hI), by omega, hS.mono (by omega), fun d ys H1 hd h1 pm x1 S1 => ?_⟩
    obtain ⟨xs, pxs, rx⟩ := RL.perm pm.symm rU
    have rx1 := rx.mono (IsId.tt (TT.ext (K := K) x1 hS))
    have yl := rx.len
    have xl : xs.length ≤ 8 := by rw [← pxs.length_eq]; exact Ul
    have ds := S1.lst
    have d_s : d ≠ s := hS.ne hd
    refine ⟨Nat.zero_le _, fun D hD => ?_⟩
    have n2 := same_new (o := HO.lst []) hD
    have dD : d ≠ D := ne_of_none h1 hD
    have Ds := S1.ne hD
    have Da := S1.nea hD
    have hD0 : H D = none := ext_free x1 S1 hD
    have S2 := S1.ext n2
    have h2 := n2 _ _ h1
    refine ⟨_, rfl, _, rfl, _, rfl, d, _, rfl, .inl (SqL.of h2), _, _, rfl, rfl, s, a, _, c + 80, rfl, by omega, by omega, S2.mono (by omega), fun m H3 m0 m1 x3 S3 => ?_⟩
    refine ⟨m, rfl, d, _, rfl, SqL.of (x3 _ _ d_s h2), fun Z hZ => ?_⟩
    rw [cutV_to m0]
    have n4 := same_new (o := HO.lst (ys.take m.toNat)) hZ
    have S4 := S3.ext n4
    have Zs := S3.ne hZ
    have hD3 := x3 _ _ Ds (upd_same (H := H1) (a := D) (o := HO.lst []))
    have DZ : D ≠ Z := ne_of_none hD3 hZ
    have xE4 : Ext s H1 _ := (Ext.of n2).trans (x3.trans (Ext.of n4))
    have rz := (rx1.mono (IsId.tt (TT.ext (K := K) xE4 S1))).take m.toNat
    have hZ4 : (upd H3 Z (HO.lst (ys.take m.toNat))) Z = some (.lst (ys.take m.toNat)) := upd_same
    have hD4 := n4 _ _ hD3
    have zn : (xs.take m.toNat).Nodup := (pxs.nodup_iff.mp nd).sublist (List.take_sublist _ _)
    have zm : ∀ x ∈ xs.take m.toNat, x ∈ U := fun x h => pxs.mem_iff.mpr (List.mem_of_mem_take h)
    have zl : (xs.take m.toNat).length ≤ 8 := by rw [List.length_take]; omega
    generalize upd H3 Z (HO.lst (ys.take m.toNat)) = H4 at xE4 rz hZ4 hD4 S4
    generalize xs.take m.toNat = zs at rz zn zm zl
    generalize ys.take m.toNat = zv at rz hZ4
    have zvl := rz.len
    refine ⟨Z, rfl, ⟨_, SqL.of hZ4⟩, ?_⟩
    refine for_list (K := K) (a := Z) (xs := zv) (fun j σ H' => ∃ (k : Int) (v5 : Option V) (ps : List (Int × Idn)), σ = [some (.ref s), some (.ref I), some (.ref d), some (.int k), some (.ref D), v5] ∧ VwAt K H' D ps ∧ ps.map (·.2) = zs.take j ∧ H' Z = some (.lst zv) ∧ RL (IsId H') zs zv ∧ Ext s H1 H' ∧ Src H' s a (c + 80 - 2 * j)) ⟨0, none, [], rfl, ⟨[], hD4, rfl⟩, rfl, hZ4, rz, xE4, S4⟩ (fun j σ H' _ h => by obtain ⟨_, _, _, _, _, _, h, _⟩ := h; exact SqL.of h) ?_ ?_
    · rintro j v σ H5 hj ⟨k, v5, ps, rfl, ⟨ws, h5, r5⟩, ep, hZ5, rz5, x5, S5⟩
      obtain ⟨x, hx, ix⟩ := rz5.get hj
      have il := (List.getElem?_eq_some_iff.mp hx).1
      have pl : ps.length ≤ 8 := by
        have h1 := congrArg List.length ep
        rw [List.length_map, List.length_take] at h1
        omega
      have wl := r5.len
      refine ⟨_, rfl, _, _, rfl, rfl, _, rfl, s, a, _, c + 80 - 2 * j - 1, rfl, by decide, by decide, S5.mono (by omega), fun z H6 _ _ x6 S6 => ?_⟩
      refine ⟨_, _, rfl, rfl, _, rfl, .inl ⟨rfl, _, SqL.of (x6 _ _ Ds h5)⟩, _, rfl, _, rfl, by show 2 ≤ sizeLine; decide, fun t ht => ?_⟩
      have n7 := same_new (o := HO.tup [V.int (k + 1 + z), v]) ht
      have T7 : TT K H5 _ := (TT.ext x6 S5).trans (TT.same n7)
      have h7 := n7 _ _ (x6 _ _ Ds h5)
      have T8 := TT.put (K := K) (o := HO.lst (ws ++ [V.ref t])) h7
      have T78 := T7.trans T8
      refine ⟨D, _, _, rfl, rfl, h7, small _ (by omega), ?_⟩
      refine ⟨_, _, ps ++ [(k + 1 + z, x)], rfl, ⟨_, upd_same, (r5.mono (PrAt.tt T78)).snoc ⟨t, v, rfl, T8.1 _ _ (SqT.of upd_same), ix.tt T78⟩⟩, by rw [List.map_append, ep, List.take_add_one, hx]; rfl, by rw [upd_ne DZ.symm]; exact n7 _ _ (x6 _ _ Zs hZ5), rz5.mono (IsId.tt T78), ext_keep hD ((x5.trans x6).trans (Ext.of n7)), ((S6.ext n7).put Ds Da).mono (by omega)⟩
    rintro σ H5 ⟨k, v5, ps, rfl, vw, ep, _, _, x5, S5⟩
    rw [zvl, List.take_length] at ep
    refine ⟨_, rfl, q D ps H5 hD0 vw ⟨by rw [ep]; exact zn, fun p hp => zm _ (by rw [← ep]; exact List.mem_map_of_mem hp)⟩ (x1.trans x5) (S5.mono (by omega))⟩
end
def sp69_due (K : PySem.W.Frag) : Sp := fun vs H Q _ => ∃ (v w : Addr) (us rv : List V) (ps : List (Int × Idn)) (rs : List Idn), vs = [.ref v, .ref w] ∧ SqL K H v us ∧ RL (PrAt K H) ps us ∧ SqL K H w rv ∧ RL (IsId H) rs rv ∧ ps.length ≤ 1000 ∧
  ∀ (u : Addr) (ws : List V) (H' : Hp), Same H H' → SqT K H' u ws → RL (PrAt K H') (newD ps rs) ws → Q (.ref u) H'
section
variable {P : Program} {w : World} {K : PySem.W.Frag} {mg : Str → Option Value} {base : Heap}
theorem ok__law_new_due (D : Df K mg "_law_new_due" s__law_new_due ["view", "ids"]) (T : Tx mg)   : Cal P w K mg base "_law_new_due" ["view", "ids"] 1 (sp69_due K) := by
  obtain ⟨f, fd, F, gf, bf⟩ := D
  refine ⟨f, fd, F.ok sc__law_new_due (fun vs H Q E h => ?_) (fun cdv A outer s₀ H vs Q E hr h => ?_), gf, F.kp, bf⟩
  · obtain ⟨v, w, us, rv, ps, rs, rfl, _⟩ := h; rfl
  · obtain ⟨v, w, us, rv, ps, rs, rfl, hv, rp, hw, ri, pl, q⟩ := h
    refine ⟨_, (pss_one (ps_ret (pe_callTy call_tuple_of (by rfl) T.n_tuple (by decide +kernel) (pa_cons (pe_lc (own := [("pair", 2)]) (g := gName 2) rfl sc__law_new_due.nd (pi_list (pv 0)) (blkOk_by (own := [("pair", 2)]) (N := N__law_new_due) (sc := defScope s__law_new_due) (by decide +kernel)) (fun _ _ _ _ _ => pg_name (i := 2) sc__law_new_due.nd rfl (Or.inl rfl)) (fun _ _ _ _ _ => pts_one (pt_cmpR (op_notInDDQ (K := K) rfl (room65 hr)) (pe_ix (ix_tupQ (K := K) rfl) (pv 2) pe_int (fun _ _ => rfl)) (pv 1) (by rfl))) (fun _ _ _ _ _ => (pv 2))) pa_nil)))), ?_⟩
    have small : ∀ n : Nat, n ≤ 30000 → n < sizeLine := fun n h => Nat.lt_of_le_of_lt h (by decide)
    have ul := rp.len
    refine ⟨_, rfl, v, rfl, ⟨_, hv⟩, fun D hD => ?_⟩
    refine lc_list (K := K) (a := v) (xs := us) (fun j H' => ∃ ws, H' D = some (.lst ws) ∧ RL (PrAt K H') (newD (ps.take j) rs) ws ∧ ws.length ≤ j ∧ Same H H') ⟨[], upd_same, rfl, Nat.le_refl _, same_new hD⟩ (fun j H' _ h => by obtain ⟨_, _, _, _, m⟩ := h; exact m.seq hv) ?_ ?_
    · rintro j y H3 hj ⟨ws, h3, r3, wl, m3⟩
      obtain ⟨x, hx, px⟩ := rp.get hj
      have il := (List.getElem?_eq_some_iff.mp hx).1
      have T3 := TT.same (K := K) m3
      obtain ⟨t, w2, rfl, ht, hi⟩ := PrAt.tt T3 _ _ px
      have px3 : PrAt K H3 x (.ref t) := ⟨t, w2, rfl, ht, hi⟩
      refine ⟨rfl, _, rfl, t, _, _, _, rfl, rfl, ht, rfl, _, rfl, iD x.2, w, rv, rs.map iD, IsId.dv _ _ hi, rfl, m3.seq hw, (ri.mono (IsId.tt T3)).dvs IsId.dv, id_okd hi.1, id_okl (IdsOk ri), ?_⟩
      rw [if_pos rfl, memB_any]
      have e1 : newD (ps.take (j + 1)) rs = newD (ps.take j) rs ++ if memB rs x.2 = true then [] else [x] := by
        unfold newD
        rw [List.take_add_one, hx, show (some x).toList = [x] from rfl, List.filter_append, List.filter_cons, List.filter_nil]
        cases memB rs x.2 <;> rfl
      rw [e1]
      refine ⟨_, rfl, ?_⟩
      cases hm : memB rs x.2 with
      | true =>
        refine iteF ⟨ws, h3, ?_, by omega, m3⟩
        rw [if_pos rfl, List.append_nil]; exact r3
      | false =>
        refine iteT ⟨_, rfl, ws, h3, small _ (by omega), ws ++ [V.ref t], upd_same, ?_, by rw [List.length_append]; show _ + 1 ≤ _; omega, sput m3 hD⟩
        have T6 := TT.put (K := K) (o := HO.lst (ws ++ [V.ref t])) h3
        rw [if_neg Bool.false_ne_true]
        exact (r3.mono (PrAt.tt T6)).snoc (PrAt.tt T6 _ _ px3)
    rintro H3 ⟨ws, h3, r3, wl, m3⟩
    rw [ul, List.take_length] at r3
    refine ⟨D, ws, rfl, .inl ⟨SqL.of h3, fun u hu => ?_⟩⟩
    have n6 := same_new (o := HO.tup ws) hu
    exact q u ws _ (m3.trans n6) (SqT.of upd_same) (r3.mono (PrAt.tt (TT.same n6)))
end

end Z
namespace Z
open PySem L2 SX
def sp69_change (K : PySem.W.Frag) : Sp := fun vs H Q _ => ∃ (s a v I : Addr) (ps : List (Int × Idn)) (U : List Idn) (us : List V) (c : Nat), vs = [.ref s, .ref v, .ref I] ∧ VwAt K H v ps ∧ VwOk U ps ∧ v ≠ s ∧ v ≠ a ∧ H I = some (.lst us) ∧ I ≠ s ∧ I ≠ v ∧ RL (IsId H) U us ∧ U.length ≤ 8 ∧ Src H s a (c + 20) ∧
  ∀ (ps' : List (Int × Idn)) (H' : Hp), ExtL [s, v] H H' → TT K H H' → VwAt K H' v ps' → VwOk U ps' → Src H' s a c → Q .non H'
section
variable {P : Program} {w : World} {K : PySem.W.Frag} {mg : Str → Option Value} {base : Heap}
theorem ok__law_change (D : Df K mg "_law_change" s__law_change ["source", "view", "idents"]) (T : Tx mg)  (C__law_draw : Cal P w K mg base "_law_draw" ["source", "many"] 2 sp__law_draw) (C__law_pick : Cal P w K mg base "_law_pick" ["source", "row"] 3 (sp3__law_pick K)) : Cal P w K mg base "_law_change" ["source", "view", "idents"] 4 (sp69_change K) := by
  obtain ⟨f__law_draw, fd__law_draw, G__law_draw, g__law_draw, k__law_draw, b__law_draw⟩ := C__law_draw
  obtain ⟨f__law_pick, fd__law_pick, G__law_pick, g__law_pick, k__law_pick, b__law_pick⟩ := C__law_pick
  obtain ⟨f, fd, F, gf, bf⟩ := D
  refine ⟨f, fd, F.ok sc__law_change (fun vs H Q E h => ?_) (fun cdv A outer s₀ H vs Q E hr h => ?_), gf, F.kp, bf⟩
  · obtain ⟨s, a, v, I, ps, U, us, c, rfl, _⟩ := h; rfl
  · obtain ⟨s, a, v, I, ps, U, us, c, rfl, vw, vo, vs, va, hI, Is, Iv, rU, Ul, hS, q⟩ := h
    refine ⟨_, (pss_cons (ps_if (PW.pt (pw_and (pt_cmpR op_gt (pe_callB call_len_seq (by rfl) T.n_len PySem.boot_len (pa_cons (pv 1) pa_nil)) pe_int (nomark _)) (pw_and1 (pt_cmpR op_eq (pe_call G__law_draw (hr.mono (by decide)) (by rfl) g__law_draw k__law_draw b__law_draw .nil pass0 (pa_cons (pv 0) (pa_cons pe_int pa_nil))) pe_int (nomark _)))))
      (pss_cons (ps_expr (pe_bm PySem.F.plainAttrs_list PySem.F.slot_list_pop PySem.F.type_list_pop mt_popAt (pv 1) (pa_cons (pe_call G__law_draw (hr.mono (by decide)) (by rfl) g__law_draw k__law_draw b__law_draw .nil pass0 (pa_cons (pv 0) (pa_cons (pe_callB call_len_seq (by rfl) T.n_len PySem.boot_len (pa_cons (pv 1) pa_nil)) pa_nil))) pa_nil)))
        (pss_one ps_retN))
      pss_nil)
      (pss_cons (ps_set (i := 3) sc__law_change.nd rfl (Or.inr rfl) (pe_lc (own := [("pair", 6)]) (g := gName 6) (tt := tYes) rfl sc__law_change.nd (pi_list (pv 1)) (blkOk_by (own := [("pair", 6)]) (N := N__law_change) (sc := defScope s__law_change) (by decide +kernel)) (fun _ _ _ _ _ => pg_name (i := 6) sc__law_change.nd rfl (Or.inl rfl)) (fun _ _ _ _ _ => pts_nil) (fun _ _ _ _ _ => (pe_ix (ix_tupQ (K := K) rfl) (pv 6) pe_int (fun _ _ => rfl)))))
      (pss_cons (ps_setLc (i := 4) (own := [("ident", 7)]) (g := gName 7) rfl sc__law_change.nd rfl rfl (sw_true rfl rfl rfl (by decide +kernel)) (pi_list (pv 2)) (blkOk_by (own := [("ident", 7)]) (N := N__law_change) (sc := defScope s__law_change) (by decide +kernel)) (fun _ _ _ _ _ => pg_name (i := 7) sc__law_change.nd rfl (Or.inl rfl)) (fun _ _ _ _ _ => pts_one (pt_cmpR (op_notInDDQ (K := K) rfl (room65 hr)) (pv 7) (pv 3) (by rfl))) (fun _ _ _ _ _ => (pv 7)))
      (pss_one (ps_if (pt_cmpR op_gt (pe_callB call_len_seq (by rfl) T.n_len PySem.boot_len (pa_cons (pv 4) pa_nil)) pe_int (nomark _))
      (pss_cons (ps_set (i := 5) sc__law_change.nd rfl (Or.inl rfl) (pe_callB (cr_max rfl) (by rfl) T.n_max (by decide +kernel) (pa_cons (pe_op L2.op_cat (pe_lst (pa_cons pe_int pa_nil)) (pe_lc (own := [("pair", 6)]) (g := gName 6) (tt := tYes) rfl sc__law_change.nd (pi_list (pv 1)) (blkOk_by (own := [("pair", 6)]) (N := N__law_change) (sc := defScope s__law_change) (by decide +kernel)) (fun _ _ _ _ _ => pg_name (i := 6) sc__law_change.nd rfl (Or.inl rfl)) (fun _ _ _ _ _ => pts_nil) (fun _ _ _ _ _ => (pe_ix (ix_tupQ (K := K) rfl) (pv 6) pe_int (fun _ _ => rfl))))) pa_nil)))
        (pss_one (ps_expr (pe_bm PySem.F.plainAttrs_list PySem.F.slot_list_append PySem.F.type_list_append mt_append (pv 1) (pa_cons (pe_tup (pa_cons (pe_op op_add (pe_op op_add (pv 5) pe_int) (pe_call G__law_draw (hr.mono (by decide)) (by rfl) g__law_draw k__law_draw b__law_draw .nil pass0 (pa_cons (pv 0) (pa_cons pe_int pa_nil)))) (pa_cons (pe_call G__law_pick (hr.mono (by decide)) (by rfl) g__law_pick k__law_pick b__law_pick .nil pass0 (pa_cons (pv 0) (pa_cons (pv 4) pa_nil))) pa_nil))) pa_nil)))))
      pss_nil))))), ?_⟩
    have small : ∀ n : Nat, n ≤ 30000 → n < sizeLine := fun n h => Nat.lt_of_le_of_lt h (by decide)
    obtain ⟨ws, hv, rp⟩ := id vw
    have pl := vo.len
    have wl := rp.len
    have ul := rU.len
    obtain ⟨ws0, hws0⟩ : ∃ z, z = ws := ⟨_, rfl⟩
    refine ⟨_, rfl, v, _, rfl, .inl (SqL.of hv), _, _, rfl, rfl, _, rfl, ite2 (fun c1 => ?_) (fun c1 => iteF ?_)⟩
    · refine ⟨_, rfl, s, a, _, c + 18, rfl, by decide, by decide, hS.mono (by omega), fun k1 Hc _ _ xc Sc => ⟨rfl, _, rfl, ite2 (fun _ => ?_) (fun _ => ?_)⟩⟩
      · have l0 : 0 < ws.length := by
          have := of_decide_eq_true c1
          omega
        refine ⟨_, rfl, .inl ⟨rfl, _, SqL.of (xc _ _ vs hv)⟩, _, rfl, _, rfl, v, _, rfl, .inl (SqL.of (xc _ _ vs hv)), s, a, _, c + 10, rfl, by omega, by omega, Sc.mono (by omega), fun z H2 z0 z1 x2 S2 => ?_⟩
        have h2 := x2 _ _ vs (xc _ _ vs hv)
        have zw : z.toNat < ws.length := by omega
        refine ⟨v, ws, z, z.toNat, ws[z.toNat], rfl, rfl, h2, by omega, by omega, seqIndex_of z0 z1, List.getElem?_eq_getElem zw, ?_⟩
        have T2 := (TT.ext (K := K) xc hS).trans ((TT.ext x2 Sc).trans (TT.put (o := HO.lst (ws.eraseIdx z.toNat)) h2))
        refine q (ps.eraseIdx z.toNat) _ ((ExtL.ofExt (xc.trans x2) (by simp)).trans (ExtL.put (by simp))) T2 ⟨_, upd_same, (rp.mono (PrAt.tt T2)).erase _⟩ ⟨vo.1.sublist ((List.eraseIdx_sublist ps _).map _), fun p hp => vo.2 p (List.mem_of_mem_eraseIdx hp)⟩ ((S2.put vs va).mono (by omega))
      · have vwc : VwAt K Hc v ps := ⟨ws, xc _ _ vs hv, rp.mono (PrAt.tt (TT.ext xc hS))⟩
        have hvc := xc _ _ vs hv
        have hIc := xc _ _ Is hI
        have rpc := rp.mono (PrAt.tt (TT.ext (K := K) xc hS))
        have rUc := rU.mono (IsId.tt (TT.ext (K := K) xc hS))
        refine ⟨_, rfl, v, rfl, ⟨_, SqL.of hvc⟩, fun D hD => ?_⟩
        refine lc_list (K := K) (a := v) (xs := ws) (fun j H' => ∃ zs, H' D = some (.lst zs) ∧ RL (IsId H') ((ps.take j).map (·.2)) zs ∧ Same Hc H') ⟨[], upd_same, rfl, same_new hD⟩ (fun j H' _ h => by obtain ⟨_, _, _, m⟩ := h; exact m.seq (SqL.of hvc)) ?_ ?_
        · rintro j y H3 hj ⟨zs, h3, r3, m3⟩
          obtain ⟨x, hx, px⟩ := rpc.get hj
          have il := (List.getElem?_eq_some_iff.mp hx).1
          have zl := r3.len
          rw [List.length_map, List.length_take] at zl
          obtain ⟨t, w2, rfl, ht, hi⟩ := PrAt.tt (TT.same (K := K) m3) _ _ px
          refine ⟨rfl, _, rfl, t, _, _, _, rfl, rfl, ht, rfl, zs, h3, small _ (by omega), zs ++ [w2], upd_same, ?_, sput m3 hD⟩
          have T6 := TT.put (K := K) (o := HO.lst (zs ++ [w2])) h3
          rw [List.take_add_one, hx, List.map_append]
          exact (r3.mono (IsId.tt T6)).snoc (hi.tt T6)
        rintro H3 ⟨zs, h3, r3, m3⟩
        rw [wl, List.take_length] at r3
        have zl := r3.len
        rw [List.length_map] at zl
        have S3 := Sc.ext m3
        have hI3 := m3 _ _ hIc
        have rU3 := rUc.mono (IsId.tt (TT.same (K := K) m3))
        have Dv : v ≠ D := ne_of_none hvc hD
        refine ⟨_, rfl, I, rfl, ⟨_, SqL.of hI3⟩, fun E hE => ?_⟩
        refine lc_list (K := K) (a := I) (xs := us) (fun j H' => ∃ ys xs, H' E = some (.lst ys) ∧ RL (IsId H') xs ys ∧ (∀ x ∈ xs, x ∈ U ∧ x ∉ ps.map (·.2)) ∧ xs.length ≤ j ∧ Same H3 H') ⟨[], [], upd_same, rfl, (fun _ h => by cases h), Nat.le_refl _, same_new hE⟩ (fun j H' _ h => by obtain ⟨_, _, _, _, _, _, m⟩ := h; exact m.seq (SqL.of hI3)) ?_ ?_
        · rintro j y H4 hj ⟨ys, xs, h4, r4, x4, l4, m4⟩
          obtain ⟨x, hx, ix⟩ := rU3.get hj
          have il := (List.getElem?_eq_some_iff.mp hx).1
          have T4 := TT.same (K := K) m4
          have ix4 := ix.tt T4
          have yl := r4.len
          refine ⟨rfl, _, rfl, _, rfl, iD x, D, zs, _, IsId.dv _ _ ix4, rfl, m4.seq (SqL.of h3), (r3.mono (IsId.tt T4)).dvs IsId.dv, id_okd ix.1, id_okl (IdsOk r3), ?_⟩
          rw [if_pos rfl, memB_any]
          refine ⟨_, rfl, ?_⟩
          cases hm : memB (ps.map (·.2)) x with
          | true => exact iteF ⟨ys, xs, h4, r4, x4, by omega, m4⟩
          | false =>
            have T6 := TT.put (K := K) (o := HO.lst (ys ++ [y])) h4
            refine iteT ⟨_, rfl, ys, h4, small _ (by omega), ys ++ [y], xs ++ [x], upd_same, (r4.mono (IsId.tt T6)).snoc (ix4.tt T6), fun z hz => ?_, by rw [List.length_append]; show _ + 1 ≤ _; omega, sput m4 hE⟩
            rcases List.mem_append.mp hz with h | h
            · exact x4 z h
            · rw [List.mem_singleton.mp h]
              exact ⟨List.mem_of_getElem? hx, fun k => by rw [memB_iff.mpr k] at hm; cases hm⟩
        rintro H4 ⟨ys, xs, h4, r4, x4, l4, m4⟩
        have yl := r4.len
        have S4 := S3.ext m4
        have m34 := m3.trans m4
        refine ⟨_, rfl, E, _, rfl, .inl (SqL.of h4), _, _, rfl, rfl, _, rfl, ite2 (fun cc => ?_) (fun _ => ?_)⟩
        · have yne : ys ≠ [] := fun e => by rw [e] at cc; exact absurd (of_decide_eq_true cc) (by decide)
          refine ⟨by show 1 ≤ sizeLine; decide, fun l hl => ?_⟩
          have n5 := same_new (o := HO.lst [V.int 0]) hl
          have m35 := m34.trans n5
          have hl5 : (upd H4 l (HO.lst [V.int 0])) l = some (.lst [V.int 0]) := upd_same
          generalize upd H4 l (HO.lst [V.int 0]) = H5 at n5 m35 hl5
          refine ⟨_, rfl, v, rfl, ⟨_, m35.seq (SqL.of hvc)⟩, fun F hF => ?_⟩
          refine lc_list (K := K) (a := v) (xs := ws) (fun j H' => ∃ zs : List Int, H' F = some (.lst (zs.map V.int)) ∧ zs.length = j ∧ Same H5 H') ⟨[], upd_same, rfl, same_new hF⟩ (fun j H' _ h => by obtain ⟨_, _, _, m⟩ := h; exact (m35.trans m).seq (SqL.of hvc)) ?_ ?_
          · rintro j y H6 hj ⟨qs, h6, ql, m6⟩
            obtain ⟨x, hx, px⟩ := rpc.get hj
            have il := (List.getElem?_eq_some_iff.mp hx).1
            obtain ⟨t, w2, rfl, ht, hi⟩ := PrAt.tt (TT.same (K := K) (m35.trans m6)) _ _ px
            exact ⟨rfl, _, rfl, t, _, _, _, rfl, rfl, ht, rfl, qs.map V.int, h6, small _ (by rw [List.length_map]; omega), qs ++ [x.1], by rw [upd_same, List.map_append]; rfl, by rw [List.length_append, ql]; rfl, sput m6 hF⟩
          rintro H6 ⟨qs, h6, ql, m6⟩
          refine ⟨l, F, _, _, rfl, rfl, m6 _ _ hl5, h6, Nat.le_of_lt (small _ (by rw [List.length_map]; show 1 + _ ≤ _; omega)), fun p hp => ?_⟩
          have e7 : [V.int 0] ++ qs.map V.int = ((0 : Int) :: qs).map V.int := rfl
          rw [e7]
          have hp7 : (upd H6 p (HO.lst (((0 : Int) :: qs).map V.int))) p = some (.lst (((0 : Int) :: qs).map V.int)) := upd_same
          have n7 := same_new (o := HO.lst (((0 : Int) :: qs).map V.int)) hp
          have m37 := (m35.trans m6).trans n7
          have S7 := (S4.ext (n5.trans m6)).ext n7
          have h47 := (n5.trans (m6.trans n7)) _ _ h4
          have r47 := r4.mono (IsId.tt (TT.same (K := K) (n5.trans (m6.trans n7))))
          generalize upd H6 p (HO.lst (((0 : Int) :: qs).map V.int)) = H7 at hp7 n7 m37 S7 h47 r47
          refine ⟨p, (0 : Int) :: qs, rfl, SqL.of hp7, by simp, fun mx _ _ => ?_⟩
          have Es : E ≠ s := S3.ne hE
          have hv7 := m37 _ _ hvc
          refine ⟨_, rfl, .inl ⟨rfl, _, SqL.of hv7⟩, _, rfl, _, _, rfl, rfl, _, rfl, s, a, _, c + 8, rfl, by decide, by decide, S7.mono (by omega), fun z H8 _ _ x8 S8 => ?_⟩
          have T8 := TT.ext (K := K) x8 S7
          refine ⟨_, _, rfl, rfl, _, rfl, _, rfl, .inl ⟨s, a, E, ys, c + 7, rfl, SqL.of (x8 _ _ Es h47), Es, yne, by omega, S8, fun w H9 wm x9 S9 => ?_⟩⟩
          have T9 := TT.ext (K := K) x9 S8
          obtain ⟨x, xm, ix⟩ := (r47.mono (IsId.tt (T8.trans T9))).pick wm
          refine ⟨by show 2 ≤ sizeLine; decide, fun t ht => ?_⟩
          have n10 := same_new (o := HO.tup [V.int (mx + 1 + z), w]) ht
          have hv10 := n10 _ _ (x9 _ _ vs (x8 _ _ vs hv7))
          have T10 : TT K Hc _ := (TT.same m37).trans ((T8.trans T9).trans (TT.same n10))
          have T11 := TT.put (K := K) (o := HO.lst (ws ++ [V.ref t])) hv10
          have T1 := (TT.ext xc hS).trans (T10.trans T11)
          refine ⟨v, _, _, rfl, rfl, hv10, small _ (by omega), ?_⟩
          refine q (ps ++ [(mx + 1 + z, x)]) _ ((ExtL.ofExt (xc.trans ((Ext.of m37).trans (x8.trans (x9.trans (Ext.of n10))))) (by simp)).trans (ExtL.put (by simp))) T1 ⟨_, upd_same, (rp.mono (PrAt.tt T1)).snoc ⟨t, w, rfl, T11.1 _ _ (SqT.of upd_same), ix.tt ((TT.same n10).trans T11)⟩⟩ ⟨?_, fun p hp => ?_⟩ (((S9.ext n10).put vs va).mono (by omega))
          · rw [List.map_append, List.nodup_append]
            exact ⟨vo.1, List.nodup_cons.mpr ⟨by simp, List.nodup_nil⟩, fun b hb b' hb' => by
              have e : b' = x := List.mem_singleton.mp hb'
              rw [e]
              exact fun k => (x4 x xm).2 (by rw [← k]; exact hb)⟩
          · rcases List.mem_append.mp hp with h | h
            · exact vo.2 p h
            · rw [List.mem_singleton.mp h]; exact (x4 x xm).1
        · exact q ps H4 ((ExtL.ofExt xc (by simp)).trans (ExtL.of m34)) ((TT.ext xc hS).trans (TT.same m34)) ⟨ws, m34 _ _ hvc, rpc.mono (PrAt.tt (TT.same m34))⟩ vo (S4.mono (by omega))
    · have Hc0 := 0
      obtain ⟨Hc, hHc⟩ : ∃ Hc, Hc = H := ⟨_, rfl⟩
      have xc : Ext s H Hc := by rw [hHc]; exact Ext.refl _ _
      have Sc : Src Hc s a (c + 18) := by rw [hHc]; exact hS.mono (by omega)
      rw [← hHc]
      have vwc : VwAt K Hc v ps := ⟨ws, xc _ _ vs hv, rp.mono (PrAt.tt (TT.ext xc hS))⟩
      have hvc := xc _ _ vs hv
      have hIc := xc _ _ Is hI
      have rpc := rp.mono (PrAt.tt (TT.ext (K := K) xc hS))
      have rUc := rU.mono (IsId.tt (TT.ext (K := K) xc hS))
      refine ⟨_, rfl, v, rfl, ⟨_, SqL.of hvc⟩, fun D hD => ?_⟩
      refine lc_list (K := K) (a := v) (xs := ws) (fun j H' => ∃ zs, H' D = some (.lst zs) ∧ RL (IsId H') ((ps.take j).map (·.2)) zs ∧ Same Hc H') ⟨[], upd_same, rfl, same_new hD⟩ (fun j H' _ h => by obtain ⟨_, _, _, m⟩ := h; exact m.seq (SqL.of hvc)) ?_ ?_
      · rintro j y H3 hj ⟨zs, h3, r3, m3⟩
        obtain ⟨x, hx, px⟩ := rpc.get hj
        have il := (List.getElem?_eq_some_iff.mp hx).1
        have zl := r3.len
        rw [List.length_map, List.length_take] at zl
        obtain ⟨t, w2, rfl, ht, hi⟩ := PrAt.tt (TT.same (K := K) m3) _ _ px
        refine ⟨rfl, _, rfl, t, _, _, _, rfl, rfl, ht, rfl, zs, h3, small _ (by omega), zs ++ [w2], upd_same, ?_, sput m3 hD⟩
        have T6 := TT.put (K := K) (o := HO.lst (zs ++ [w2])) h3
        rw [List.take_add_one, hx, List.map_append]
        exact (r3.mono (IsId.tt T6)).snoc (hi.tt T6)
      rintro H3 ⟨zs, h3, r3, m3⟩
      rw [wl, List.take_length] at r3
      have zl := r3.len
      rw [List.length_map] at zl
      have S3 := Sc.ext m3
      have hI3 := m3 _ _ hIc
      have rU3 := rUc.mono (IsId.tt (TT.same (K := K) m3))
      have Dv : v ≠ D := ne_of_none hvc hD
      refine ⟨_, rfl, I, rfl, ⟨_, SqL.of hI3⟩, fun E hE => ?_⟩
      refine lc_list (K := K) (a := I) (xs := us) (fun j H' => ∃ ys xs, H' E = some (.lst ys) ∧ RL (IsId H') xs ys ∧ (∀ x ∈ xs, x ∈ U ∧ x ∉ ps.map (·.2)) ∧ xs.length ≤ j ∧ Same H3 H') ⟨[], [], upd_same, rfl, (fun _ h => by cases h), Nat.le_refl _, same_new hE⟩ (fun j H' _ h => by obtain ⟨_, _, _, _, _, _, m⟩ := h; exact m.seq (SqL.of hI3)) ?_ ?_
      · rintro j y H4 hj ⟨ys, xs, h4, r4, x4, l4, m4⟩
        obtain ⟨x, hx, ix⟩ := rU3.get hj
        have il := (List.getElem?_eq_some_iff.mp hx).1
        have T4 := TT.same (K := K) m4
        have ix4 := ix.tt T4
        have yl := r4.len
        refine ⟨rfl, _, rfl, _, rfl, iD x, D, zs, _, IsId.dv _ _ ix4, rfl, m4.seq (SqL.of h3), (r3.mono (IsId.tt T4)).dvs IsId.dv, id_okd ix.1, id_okl (IdsOk r3), ?_⟩
        rw [if_pos rfl, memB_any]
        refine ⟨_, rfl, ?_⟩
        cases hm : memB (ps.map (·.2)) x with
        | true => exact iteF ⟨ys, xs, h4, r4, x4, by omega, m4⟩
        | false =>
          have T6 := TT.put (K := K) (o := HO.lst (ys ++ [y])) h4
          refine iteT ⟨_, rfl, ys, h4, small _ (by omega), ys ++ [y], xs ++ [x], upd_same, (r4.mono (IsId.tt T6)).snoc (ix4.tt T6), fun z hz => ?_, by rw [List.length_append]; show _ + 1 ≤ _; omega, sput m4 hE⟩
          rcases List.mem_append.mp hz with h | h
          · exact x4 z h
          · rw [List.mem_singleton.mp h]
            exact ⟨List.mem_of_getElem? hx, fun k => by rw [memB_iff.mpr k] at hm; cases hm⟩
      rintro H4 ⟨ys, xs, h4, r4, x4, l4, m4⟩
      have yl := r4.len
      have S4 := S3.ext m4
      have m34 := m3.trans m4
      refine ⟨_, rfl, E, _, rfl, .inl (SqL.of h4), _, _, rfl, rfl, _, rfl, ite2 (fun cc => ?_) (fun _ => ?_)⟩
      · have yne : ys ≠ [] := fun e => by rw [e] at cc; exact absurd (of_decide_eq_true cc) (by decide)
        refine ⟨by show 1 ≤ sizeLine; decide, fun l hl => ?_⟩
        have n5 := same_new (o := HO.lst [V.int 0]) hl
        have m35 := m34.trans n5
        have hl5 : (upd H4 l (HO.lst [V.int 0])) l = some (.lst [V.int 0]) := upd_same
        generalize upd H4 l (HO.lst [V.int 0]) = H5 at n5 m35 hl5
        refine ⟨_, rfl, v, rfl, ⟨_, m35.seq (SqL.of hvc)⟩, fun F hF => ?_⟩
        refine lc_list (K := K) (a := v) (xs := ws) (fun j H' => ∃ zs : List Int, H' F = some (.lst (zs.map V.int)) ∧ zs.length = j ∧ Same H5 H') ⟨[], upd_same, rfl, same_new hF⟩ (fun j H' _ h => by obtain ⟨_, _, _, m⟩ := h; exact (m35.trans m).seq (SqL.of hvc)) ?_ ?_
        · rintro j y H6 hj ⟨qs, h6, ql, m6⟩
          obtain ⟨x, hx, px⟩ := rpc.get hj
          have il := (List.getElem?_eq_some_iff.mp hx).1
          obtain ⟨t, w2, rfl, ht, hi⟩ := PrAt.tt (TT.same (K := K) (m35.trans m6)) _ _ px
          exact ⟨rfl, _, rfl, t, _, _, _, rfl, rfl, ht, rfl, qs.map V.int, h6, small _ (by rw [List.length_map]; omega), qs ++ [x.1], by rw [upd_same, List.map_append]; rfl, by rw [List.length_append, ql]; rfl, sput m6 hF⟩
        rintro H6 ⟨qs, h6, ql, m6⟩
        refine ⟨l, F, _, _, rfl, rfl, m6 _ _ hl5, h6, Nat.le_of_lt (small _ (by rw [List.length_map]; show 1 + _ ≤ _; omega)), fun p hp => ?_⟩
        have e7 : [V.int 0] ++ qs.map V.int = ((0 : Int) :: qs).map V.int := rfl
        rw [e7]
        have hp7 : (upd H6 p (HO.lst (((0 : Int) :: qs).map V.int))) p = some (.lst (((0 : Int) :: qs).map V.int)) := upd_same
        have n7 := same_new (o := HO.lst (((0 : Int) :: qs).map V.int)) hp
        have m37 := (m35.trans m6).trans n7
        have S7 := (S4.ext (n5.trans m6)).ext n7
        have h47 := (n5.trans (m6.trans n7)) _ _ h4
        have r47 := r4.mono (IsId.tt (TT.same (K := K) (n5.trans (m6.trans n7))))
        generalize upd H6 p (HO.lst (((0 : Int) :: qs).map V.int)) = H7 at hp7 n7 m37 S7 h47 r47
        refine ⟨p, (0 : Int) :: qs, rfl, SqL.of hp7, by simp, fun mx _ _ => ?_⟩
        have Es : E ≠ s := S3.ne hE
        have hv7 := m37 _ _ hvc
        refine ⟨_, rfl, .inl ⟨rfl, _, SqL.of hv7⟩, _, rfl, _, _, rfl, rfl, _, rfl, s, a, _, c + 8, rfl, by decide, by decide, S7.mono (by omega), fun z H8 _ _ x8 S8 => ?_⟩
        have T8 := TT.ext (K := K) x8 S7
        refine ⟨_, _, rfl, rfl, _, rfl, _, rfl, .inl ⟨s, a, E, ys, c + 7, rfl, SqL.of (x8 _ _ Es h47), Es, yne, by omega, S8, fun w H9 wm x9 S9 => ?_⟩⟩
        have T9 := TT.ext (K := K) x9 S8
        obtain ⟨x, xm, ix⟩ := (r47.mono (IsId.tt (T8.trans T9))).pick wm
        refine ⟨by show 2 ≤ sizeLine; decide, fun t ht => ?_⟩
        have n10 := same_new (o := HO.tup [V.int (mx + 1 + z), w]) ht
        have hv10 := n10 _ _ (x9 _ _ vs (x8 _ _ vs hv7))
        have T10 : TT K Hc _ := (TT.same m37).trans ((T8.trans T9).trans (TT.same n10))
        have T11 := TT.put (K := K) (o := HO.lst (ws ++ [V.ref t])) hv10
        have T1 := (TT.ext xc hS).trans (T10.trans T11)
        refine ⟨v, _, _, rfl, rfl, hv10, small _ (by omega), ?_⟩
        refine q (ps ++ [(mx + 1 + z, x)]) _ ((ExtL.ofExt (xc.trans ((Ext.of m37).trans (x8.trans (x9.trans (Ext.of n10))))) (by simp)).trans (ExtL.put (by simp))) T1 ⟨_, upd_same, (rp.mono (PrAt.tt T1)).snoc ⟨t, w, rfl, T11.1 _ _ (SqT.of upd_same), ix.tt ((TT.same n10).trans T11)⟩⟩ ⟨?_, fun p hp => ?_⟩ (((S9.ext n10).put vs va).mono (by omega))
        · rw [List.map_append, List.nodup_append]
          exact ⟨vo.1, List.nodup_cons.mpr ⟨by simp, List.nodup_nil⟩, fun b hb b' hb' => by
            have e : b' = x := List.mem_singleton.mp hb'
            rw [e]
            exact fun k => (x4 x xm).2 (by rw [← k]; exact hb)⟩
        · rcases List.mem_append.mp hp with h | h
          · exact vo.2 p h
          · rw [List.mem_singleton.mp h]; exact (x4 x xm).1
      · exact q ps H4 ((ExtL.ofExt xc (by simp)).trans (ExtL.of m34)) ((TT.ext xc hS).trans (TT.same m34)) ⟨ws, m34 _ _ hvc, rpc.mono (PrAt.tt (TT.same m34))⟩ vo (S4.mono (by omega))
end

end Z
namespace Z
open PySem L2 SX
def RcAt (A : Addr) (H : Hp) (p d w : Addr) (rs : List Idn) : Prop := RdAt A H p d rs ∧ rs.Nodup ∧ ∃ rv, H w = some (.lst rv) ∧ RL (IsId H) rs rv
theorem RcAt.keep {K : PySem.W.Frag} {A : Addr} {H H' : Hp} {N : List Addr} {p d w : Addr} {rs : List Idn} (h : RcAt A H p d w rs) (x : ExtL N H H') (T : TT K H H') (np : p ∉ N) (nd : d ∉ N) (nw : w ∉ N) : RcAt A H' p d w rs := by
  obtain ⟨h1, h2, rv, h3, h4⟩ := h
  exact ⟨h1.ext x np nd, h2, rv, x _ _ nw h3, h4.mono (IsId.tt T)⟩
theorem RcAt.same {A : Addr} {H H' : Hp} {p d w : Addr} {rs : List Idn} (h : RcAt A H p d w rs) (x : Same H H') : RcAt A H' p d w rs := h.keep (K := []) (N := []) (ExtL.of x) (TT.same x) (by simp) (by simp) (by simp)
theorem RcAt.pw {A : Addr} {H : Hp} {p d w : Addr} {rs : List Idn} (h : RcAt A H p d w rs) {o : Addr} {xs : List V} (ho : H o = some (.lst xs)) : p ≠ o ∧ d ≠ o := by
  obtain ⟨⟨dx, kvs, ks, h1, h2, _⟩, _⟩ := h
  exact ⟨(fun z => by rw [z, ho] at h1; cases h1), (fun z => by rw [z, ho] at h2; cases h2)⟩
theorem tupDV {K : PySem.W.Frag} {H : Hp} {u : Addr} {ws : List V} {l : List (Int × Idn)} (h : SqT K H u ws) (r : RL (PrAt K H) l ws) : DV K H (.tup (l.map nuD)) (.ref u) := ⟨u, ws, rfl, h, r.dvs PrAt.dv⟩
def sp69_look (K : PySem.W.Frag) (A : Addr) : Sp := fun vs H Q _ => ∃ (s a p d w v : Addr) (rs : List Idn) (ps : List (Int × Idn)) (share : Int) (c : Nat), vs = [.ref s, .ref p, .ref w, .ref v, .int share] ∧ RcAt A H p d w rs ∧ VwAt K H v ps ∧ (ps.map (·.2)).Nodup ∧ ps.length ≤ 8 ∧ rs.length ≤ 100 ∧ w ≠ s ∧ w ≠ a ∧ a ≠ d ∧ v ≠ s ∧ v ≠ w ∧ Src H s a (c + 40) ∧
  ∀ (rs' : List Idn) (H' : Hp), ExtL [s, d, w] H H' → TT K H H' → RcAt A H' p d w rs' → (∀ y ∈ rs, y ∈ rs') → (∀ y ∈ rs', y ∈ rs ∨ y ∈ ps.map (·.2)) → (2 ≤ share → ∀ y ∈ ps.map (·.2), y ∈ rs') → Src H' s a c → Q (.bl true) H'
section
variable {P : Program} {w : World} {K : PySem.W.Frag} {mg : Str → Option Value} {base : Heap}
theorem ok__law_look (D : Df K mg "_law_look" s__law_look ["source", "reader", "ids", "view", "share"]) (T : Tx mg) {A_Reader : Addr} (O : To K mg A_Reader)  (C_Reader__new : CalM P w K mg base A_Reader "new" ["self", "view"] 1 (sp69_new K A_Reader)) (C_Reader__read : CalM P w K mg base A_Reader "read" ["self", "id"] 1 (sp69_read K A_Reader)) (C__law_draw : Cal P w K mg base "_law_draw" ["source", "many"] 2 sp__law_draw) (C__law_new_due : Cal P w K mg base "_law_new_due" ["view", "ids"] 1 (sp69_due K)) (C__law_same : Cal P w K mg base "_law_same" ["actual", "due"] 5 (sp__law_same K 4)) (C__law_shuffled : Cal P w K mg base "_law_shuffled" ["source", "row"] 3 (sp69_shuffled K)) : Cal P w K mg base "_law_look" ["source", "reader", "ids", "view", "share"] 6 (sp69_look K A_Reader) := by
  obtain ⟨f_Reader__new, fd_Reader__new, G_Reader__new, h_Reader__new, b_Reader__new⟩ := C_Reader__new
  obtain ⟨f_Reader__read, fd_Reader__read, G_Reader__read, h_Reader__read, b_Reader__read⟩ := C_Reader__read
  obtain ⟨f__law_draw, fd__law_draw, G__law_draw, g__law_draw, k__law_draw, b__law_draw⟩ := C__law_draw
  obtain ⟨f__law_new_due, fd__law_new_due, G__law_new_due, g__law_new_due, k__law_new_due, b__law_new_due⟩ := C__law_new_due
  obtain ⟨f__law_same, fd__law_same, G__law_same, g__law_same, k__law_same, b__law_same⟩ := C__law_same
  obtain ⟨f__law_shuffled, fd__law_shuffled, G__law_shuffled, g__law_shuffled, k__law_shuffled, b__law_shuffled⟩ := C__law_shuffled
  obtain ⟨f, fd, F, gf, bf⟩ := D
  refine ⟨f, fd, F.ok sc__law_look (fun vs H Q E h => ?_) (fun cdv A outer s₀ H vs Q E hr h => ?_), gf, F.kp, bf⟩
  · obtain ⟨s, a, p, d, w, v, rs, ps, share, c, rfl, _⟩ := h; rfl
  · obtain ⟨s, a, p, d, w, v, rs, ps, share, c, rfl, rc, vw, pnd, pl, rl, ws_, wa, ad, vs_, vw_, hS, q⟩ := h
    refine ⟨_, (pss_cons (ps_set (i := 5) sc__law_look.nd rfl (Or.inl rfl) (pe_call G__law_new_due (hr.mono (by decide)) (by rfl) g__law_new_due k__law_new_due b__law_new_due .nil pass0 (pa_cons (pv 3) (pa_cons (pv 2) pa_nil))))
      (pss_cons (ps_if (pt_not (pt_val (pe_call G__law_same (hr.mono (by decide)) (by rfl) g__law_same k__law_same b__law_same .nil pass0 (pa_cons (pe_meth (pv 1) O.c_Reader h_Reader__new G_Reader__new (hr.mono (by decide)) b_Reader__new .nil pass0 (pa_cons (pe_callTy call_tuple_of (by rfl) T.n_tuple (by decide +kernel) (pa_cons (pv 3) pa_nil)) pa_nil)) (pa_cons (pv 5) pa_nil)))))
      (pss_one (ps_ret pe_bl))
      pss_nil)
      (pss_cons (ps_for PassesOwn.never rfl (pi_list (pe_call G__law_shuffled (hr.mono (by decide)) (by rfl) g__law_shuffled k__law_shuffled b__law_shuffled .nil pass0 (pa_cons (pv 0) (pa_cons (pv 5) pa_nil)))) (pg_name (i := 6) sc__law_look.nd rfl (Or.inl rfl))
      (pss_one (ps_if (pt_cmpR op_lt (pe_call G__law_draw (hr.mono (by decide)) (by rfl) g__law_draw k__law_draw b__law_draw .nil pass0 (pa_cons (pv 0) (pa_cons pe_int pa_nil))) (pv 4) (nomark _))
        (pss_cons (ps_if (pt_cmpR op_notN (pe_meth (pv 1) O.c_Reader h_Reader__read G_Reader__read (hr.mono (by decide)) b_Reader__read .nil pass0 (pa_cons (pe_ix ix_tup (pv 6) pe_int (fun _ _ => rfl)) pa_nil)) pe_non (nomark _))
          (pss_one (ps_ret pe_bl))
          pss_nil)
          (pss_one (ps_expr (pe_bm PySem.F.plainAttrs_list PySem.F.slot_list_append PySem.F.type_list_append mt_append (pv 2) (pa_cons (pe_ix ix_tup (pv 6) pe_int (fun _ _ => rfl)) pa_nil)))))
        pss_nil)))
      (pss_one (ps_ret (pe_call G__law_same (hr.mono (by decide)) (by rfl) g__law_same k__law_same b__law_same .nil pass0 (pa_cons (pe_meth (pv 1) O.c_Reader h_Reader__new G_Reader__new (hr.mono (by decide)) b_Reader__new .nil pass0 (pa_cons (pe_callTy call_tuple_of (by rfl) T.n_tuple (by decide +kernel) (pa_cons (pv 3) pa_nil)) pa_nil)) (pa_cons (pe_call G__law_new_due (hr.mono (by decide)) (by rfl) g__law_new_due k__law_new_due b__law_new_due .nil pass0 (pa_cons (pv 3) (pa_cons (pv 2) pa_nil))) pa_nil)))))))), ?_⟩
    have small : ∀ n : Nat, n ≤ 30000 → n < sizeLine := fun n h => Nat.lt_of_le_of_lt h (by decide)
    obtain ⟨us, hv, rp⟩ := id vw
    obtain ⟨rd, nd, rv, hw, ri⟩ := id rc
    have ul := rp.len
    have sl := hS.lst.choose_spec
    have ps_ := rc.pw sl
    have pw_ := rc.pw hw
    have pv_ := rc.pw hv
    refine ⟨_, rfl, _, rfl, v, w, us, rv, ps, rs, rfl, SqL.of hv, rp, SqL.of hw, ri, by omega, fun u ws H1 m1 hu r1 => ?_⟩
    obtain ⟨dx, _, _, hp, _⟩ := id rd
    have hv1 := m1 _ _ hv
    refine ⟨_, rfl, p, dx, _, rfl, m1 _ _ hp, rfl, _, rfl, v, us, rfl, .inl ⟨SqL.of hv1, fun t ht => ?_⟩⟩
    have n2 := same_new (o := HO.tup us) ht
    have m2 := m1.trans n2
    refine ⟨p, d, t, rs, us, ps, rfl, rd.same m2, SqT.of upd_same, rp.mono (PrAt.tt (TT.same m2)), by omega, fun u2 ws2 H3 m3 hu2 r2 => ?_⟩
    have m13 := n2.trans m3
    have nl := newD_len (ps := ps) (rs := rs)
    refine ⟨_, rfl, .tup ((newD ps rs).map nuD), .ref u2, .ref u, rfl, tupDV hu2 r2, tupDV (m13.tup hu) (r1.mono (PrAt.tt (TT.same m13))), dl_prs (by omega), _, rfl, iteF ?_⟩
    have m03 := m1.trans m13
    have S3 := hS.ext m03
    have wl := r1.len
    refine ⟨_, rfl, _, rfl, s, a, u, ws, c + 31, rfl, .inr (m13.tup hu), by omega, S3.mono (by omega), fun Z ys H4 hZ h4 pm x4 S4 => ?_⟩
    have r3 := r1.mono (PrAt.tt (TT.same (K := K) m13))
    obtain ⟨xs, pxs, rx⟩ := RL.perm pm.symm r3
    have T4 := TT.ext (K := K) x4 S3
    have rx4 := rx.mono (PrAt.tt T4)
    have xl := pxs.length_eq
    have xnd : (xs.map (·.2)).Nodup := by
      refine ((pxs.map (·.2)).nodup_iff).mp (pnd.sublist ?_)
      exact List.Sublist.map _ List.filter_sublist
    have xm : ∀ x ∈ xs, x ∈ ps ∧ x.2 ∉ rs := fun x h => newD_mem.mp (pxs.mem_iff.mpr h)
    have yl := rx4.len
    have Zs := S3.ne hZ
    have Zw : Z ≠ w := (ne_of_none (m03 _ _ hw) hZ).symm
    have Zd : Z ≠ d := by
      obtain ⟨_, _, _, _, hd, _⟩ := id rd
      exact (ne_of_none (m03 _ _ hd) hZ).symm
    have y4 : ExtL [s, d, w] H H4 := (ExtL.of m03).trans (ExtL.ofExt x4 (by simp))
    have T04 := (TT.same (K := K) m03).trans T4
    have rc4 : RcAt A_Reader H4 p d w rs := (rc.same m03).keep (N := [s]) (ExtL.ofExt x4 (by simp)) T4 (by simpa using ps_.1) (by simpa using ps_.2) (by simpa using ws_)
    refine ⟨Z, rfl, ⟨_, SqL.of h4⟩, ?_⟩
    refine for_list (K := K) (a := Z) (xs := ys) (fun j σ H' => ∃ (v6 : Option V) (r : List Idn), σ = [some (.ref s), some (.ref p), some (.ref w), some (.ref v), some (.int share), some (.ref u), v6] ∧ RcAt A_Reader H' p d w r ∧ r.length ≤ rs.length + j ∧ (∀ y ∈ rs, y ∈ r) ∧ (∀ y ∈ r, y ∈ rs ∨ y ∈ (xs.take j).map (·.2)) ∧ (2 ≤ share → ∀ y ∈ (xs.take j).map (·.2), y ∈ r) ∧ H' Z = some (.lst ys) ∧ ExtL [s, d, w] H H' ∧ TT K H H' ∧ TT K H4 H' ∧ Src H' s a (c + 31 - 2 * j)) ⟨_, rs, rfl, rc4, by omega, fun _ h => h, fun _ h => .inl h, (fun _ _ h => by simp at h), h4, y4, T04, TT.refl, S4⟩ (fun j σ H' _ h => by obtain ⟨_, _, _, _, _, _, _, _, h, _⟩ := h; exact SqL.of h) ?_ ?_
    · rintro j y σ H5 hj ⟨v6, r, rfl, rc5, l5, k1, k2, k3, h5, y5, T5, T45, S5⟩
      obtain ⟨x, hx, px⟩ := rx4.get hj
      have il := (List.getElem?_eq_some_iff.mp hx).1
      have xmem := List.mem_of_getElem? hx
      have xj : (xs.take (j + 1)).map (·.2) = (xs.take j).map (·.2) ++ [x.2] := by rw [List.take_add_one, hx, List.map_append]; rfl
      obtain ⟨t5, w5, rfl, ht5, hi5⟩ := PrAt.tt T45 _ _ px
      refine ⟨_, rfl, s, a, _, c + 31 - 2 * j - 1, rfl, by decide, by decide, S5.mono (by omega), fun z H6 z0 z1 x6 S6 => ?_⟩
      have T6 := TT.ext (K := K) x6 S5
      have rc6 : RcAt A_Reader H6 p d w r := rc5.keep (N := [s]) (ExtL.ofExt x6 (by simp)) T6 (by simpa using ps_.1) (by simpa using ps_.2) (by simpa using ws_)
      have y6 : ExtL [s, d, w] H H6 := y5.trans (ExtL.ofExt x6 (by simp))
      refine ⟨_, rfl, _, _, rfl, rfl, _, rfl, ite2 (fun cc => ?_) (fun cc => ?_)⟩
      · obtain ⟨rd6, nd6, rv6, hw6, ri6⟩ := id rc6
        obtain ⟨dx6, _, _, hp6, _⟩ := id rd6
        have rl6 := ri6.len
        refine ⟨_, rfl, p, dx6, _, rfl, hp6, rfl, _, rfl, t5, _, _, _, rfl, rfl, T6.1 _ _ ht5, rfl, p, d, r, x.2, w5, rfl, rd6, hi5.tt T6, by omega, fun H7 x7 T7 rd7 => ⟨rfl, _, rfl, ?_⟩⟩
        rw [show (!decide ((V.non : V) = V.non)) = false by rw [decide_eq_true rfl]; rfl]
        have nin : x.2 ∉ r := fun h => by
          rcases k2 _ h with h | h
          · exact (xm x xmem).2 h
          · obtain ⟨i, hi⟩ := List.mem_iff_getElem?.mp h
            rw [List.getElem?_map] at hi
            have il2 : i < j := by
              have h1 : i < ((xs.take j).map (·.2)).length := (List.getElem?_eq_some_iff.mp (by rw [List.getElem?_map]; exact hi)).1
              rw [List.length_map, List.length_take] at h1
              omega
            have e1 : (xs.map (·.2))[i]? = (xs.map (·.2))[j]? := by
              rw [List.getElem?_map, List.getElem?_map, hx]
              rw [List.getElem?_take_of_lt il2] at hi
              rw [hi]; rfl
            have := (List.getElem?_inj (by rw [List.length_map]; omega) xnd).mp e1
            omega
        have ea : add r x.2 = r ++ [x.2] := by
          unfold add
          rw [if_neg fun h => nin (memB_iff.mp h)]
        rw [ea] at rd7
        have hw7 := x7 _ _ (by simpa using pw_.2.symm) hw6
        refine iteF ⟨_, rfl, .inl ⟨rfl, _, SqL.of hw7⟩, _, rfl, t5, _, _, _, rfl, rfl, T7.1 _ _ (T6.1 _ _ ht5), rfl, w, _, _, rfl, rfl, hw7, small _ (by omega), ?_⟩
        have T8 := TT.put (K := K) (o := HO.lst (rv6 ++ [w5])) hw7
        have T68 := T6.trans (T7.trans T8)
        have T78 := T7.trans T8
        have nd7 := add_nd (x := x.2) nd6
        rw [ea] at nd7
        refine ⟨_, r ++ [x.2], rfl, ⟨rd7.ext (N := [w]) (ExtL.put (by simp)) (by simpa using pw_.1) (by simpa using pw_.2), nd7, _, upd_same, (ri6.mono (IsId.tt T78)).snoc (hi5.tt T68)⟩, by rw [List.length_append]; show _ + 1 ≤ _; omega, fun y h => List.mem_append_left _ (k1 y h), fun y h => ?_, fun hs y h => ?_, ?_, y6.trans ((x7.mono (by simp)).trans (ExtL.put (by simp))), T5.trans T68, T45.trans T68, ?_⟩
        · rw [xj]
          rcases List.mem_append.mp h with h | h
          · exact (k2 y h).imp id fun h => List.mem_append_left _ h
          · exact .inr (List.mem_append_right _ h)
        · rw [xj] at h
          rcases List.mem_append.mp h with h | h
          · exact List.mem_append_left _ (k3 hs y h)
          · exact List.mem_append_right _ h
        · rw [upd_ne Zw]; exact x7 _ _ (by simpa using Zd) (x6 _ _ Zs h5)
        · exact ((S6.extL x7 (by simpa using ps_.2.symm) (by simpa using ad)).put ws_ wa).mono (by omega)
      · have cc : ¬ z < share := fun h => cc (decide_eq_true h)
        refine ⟨_, r, rfl, rc6, by omega, k1, fun y h => ?_, fun hs => absurd (show z < share by omega) cc, x6 _ _ Zs h5, y6, T5.trans T6, T45.trans T6, S6.mono (by omega)⟩
        rw [xj]
        exact (k2 y h).imp id fun h => List.mem_append_left _ h
    rintro σ H5 ⟨v6, r, rfl, rc5, l5, k1, k2, k3, h5, y5, T5, T45, S5⟩
    rw [yl, List.take_length] at k2 k3
    obtain ⟨rd5, nd5, rv5, hw5, ri5⟩ := id rc5
    obtain ⟨dx5, _, _, hp5, _⟩ := id rd5
    have hv5 := y5 _ _ (by simp [vs_, pv_.2.symm, vw_]) hv
    have rp5 := rp.mono (PrAt.tt T5)
    refine ⟨_, rfl, p, dx5, _, rfl, hp5, rfl, _, rfl, v, us, rfl, .inl ⟨SqL.of hv5, fun t6 ht6 => ?_⟩⟩
    have n6 := same_new (o := HO.tup us) ht6
    refine ⟨p, d, t6, r, us, ps, rfl, rd5.same n6, SqT.of upd_same, rp5.mono (PrAt.tt (TT.same n6)), by omega, fun u7 ws7 H7 m7 hu7 r7 => ?_⟩
    have m67 := n6.trans m7
    refine ⟨_, rfl, _, rfl, v, w, us, rv5, ps, r, rfl, SqL.of (m67 _ _ hv5), rp5.mono (PrAt.tt (TT.same m67)), SqL.of (m67 _ _ hw5), ri5.mono (IsId.tt (K := K) (TT.same m67)), by omega, fun u8 ws8 H8 m8 hu8 r8 => ?_⟩
    have nl2 := newD_len (ps := ps) (rs := r)
    have m58 := m67.trans m8
    refine ⟨.tup ((newD ps r).map nuD), .ref u7, .ref u8, rfl, tupDV (m8.tup hu7) (r7.mono (PrAt.tt (TT.same m8))), tupDV hu8 r8, dl_prs (by omega), ?_⟩
    refine q r H8 (y5.trans (ExtL.of m58)) (T5.trans (TT.same m58)) (rc5.same m58) k1 (fun y h => (k2 y h).imp id fun h => ?_) (fun hs y h => ?_) ((S5.ext m58).mono (by omega))
    · obtain ⟨x, hx, rfl⟩ := List.mem_map.mp h
      exact List.mem_map_of_mem (xm x hx).1
    · obtain ⟨x, hx, rfl⟩ := List.mem_map.mp h
      by_cases hin : x.2 ∈ rs
      · exact k1 _ hin
      · exact k3 hs _ (List.mem_map_of_mem (pxs.mem_iff.mp (newD_mem.mpr ⟨hx, hin⟩)))
end
def sp69_join (K : PySem.W.Frag) (A : Addr) : Sp := fun vs H Q _ => ∃ (R Wl : Addr) (Rv Wv : List V) (i j : Nat) (p1 d1 w1 p2 d2 w2 : Addr) (rs1 rs2 : List Idn), vs = [.ref R, .ref Wl, .int (i : Nat), .int (j : Nat)] ∧ H R = some (.lst Rv) ∧ H Wl = some (.lst Wv) ∧ Rv[i]? = some (.ref p1) ∧ Rv[j]? = some (.ref p2) ∧ Wv[i]? = some (.ref w1) ∧ Wv[j]? = some (.ref w2) ∧
  RcAt A H p1 d1 w1 rs1 ∧ RcAt A H p2 d2 w2 rs2 ∧ rs1.length ≤ 100 ∧ rs2.length ≤ 100 ∧ d1 ≠ d2 ∧ w1 ≠ w2 ∧ Wl ≠ w1 ∧ Wl ≠ w2 ∧
  ∀ (ra rb : List Idn) (H' : Hp), (∀ y, y ∈ ra ↔ y ∈ rs1 ∨ y ∈ rs2) → (∀ y, y ∈ rb ↔ y ∈ rs1 ∨ y ∈ rs2) → ExtL [d1, d2, w1, w2] H H' → TT K H H' → RcAt A H' p1 d1 w1 ra → RcAt A H' p2 d2 w2 rb → Q (.bl true) H'
section
variable {P : Program} {w : World} {K : PySem.W.Frag} {mg : Str → Option Value} {base : Heap}
theorem ok__law_join (D : Df K mg "_law_join" s__law_join ["readers", "rows", "one", "two"]) (T : Tx mg) {A_Reader : Addr} (O : To K mg A_Reader)  (C_Reader__meet : CalM P w K mg base A_Reader "meet" ["self", "other"] 2 (sp69_meet K A_Reader)) : Cal P w K mg base "_law_join" ["readers", "rows", "one", "two"] 3 (sp69_join K A_Reader) := by
  obtain ⟨f_Reader__meet, fd_Reader__meet, G_Reader__meet, h_Reader__meet, b_Reader__meet⟩ := C_Reader__meet
  obtain ⟨f, fd, F, gf, bf⟩ := D
  refine ⟨f, fd, F.ok sc__law_join (fun vs H Q E h => ?_) (fun cdv A outer s₀ H vs Q E hr h => ?_), gf, F.kp, bf⟩
  · obtain ⟨R, Wl, Rv, Wv, i, j, p1, d1, w1, p2, d2, w2, rs1, rs2, rfl, _⟩ := h; rfl
  · obtain ⟨R, Wl, Rv, Wv, i, j, p1, d1, w1, p2, d2, w2, rs1, rs2, rfl, hR, hW, ri1, ri2, wi1, wi2, rc1, rc2, l1, l2, dd, ww, Ww1, Ww2, q⟩ := h
    refine ⟨_, (pss_cons (ps_if (pt_cmpR op_notN (pe_meth (pe_ix ix_list (pv 0) (pv 2) (fun _ _ => rfl)) O.c_Reader h_Reader__meet G_Reader__meet (hr.mono (by decide)) b_Reader__meet .nil pass0 (pa_cons (pe_ix ix_list (pv 0) (pv 3) (fun _ _ => rfl)) pa_nil)) pe_non (nomark _))
      (pss_one (ps_ret pe_bl))
      pss_nil)
      (pss_cons (ps_for PassesOwn.never rfl (pi_list (pe_callTy call_list_of (by rfl) T.n_list (by decide +kernel) (pa_cons (pe_ix ix_list (pv 1) (pv 2) (fun _ _ => rfl)) pa_nil))) (pg_name (i := 4) sc__law_join.nd rfl (Or.inl rfl))
      (pss_one (ps_if (pt_cmpR (op_notInDDQ (K := K) rfl (room65 hr)) (pv 4) (pe_ix ix_list (pv 1) (pv 3) (fun _ _ => rfl)) (by rfl))
        (pss_one (ps_expr (pe_bm PySem.F.plainAttrs_list PySem.F.slot_list_append PySem.F.type_list_append mt_append (pe_ix ix_list (pv 1) (pv 3) (fun _ _ => rfl)) (pa_cons (pv 4) pa_nil))))
        pss_nil)))
      (pss_cons (ps_for PassesOwn.never rfl (pi_list (pe_callTy call_list_of (by rfl) T.n_list (by decide +kernel) (pa_cons (pe_ix ix_list (pv 1) (pv 3) (fun _ _ => rfl)) pa_nil))) (pg_name (i := 4) sc__law_join.nd rfl (Or.inl rfl))
      (pss_one (ps_if (pt_cmpR (op_notInDDQ (K := K) rfl (room65 hr)) (pv 4) (pe_ix ix_list (pv 1) (pv 2) (fun _ _ => rfl)) (by rfl))
        (pss_one (ps_expr (pe_bm PySem.F.plainAttrs_list PySem.F.slot_list_append PySem.F.type_list_append mt_append (pe_ix ix_list (pv 1) (pv 2) (fun _ _ => rfl)) (pa_cons (pv 4) pa_nil))))
        pss_nil)))
      (pss_one (ps_ret pe_bl))))), ?_⟩
    have small : ∀ n : Nat, n ≤ 30000 → n < sizeLine := fun n h => Nat.lt_of_le_of_lt h (by decide)
    obtain ⟨rd1, nd1, rv1, hw1, is1⟩ := id rc1
    obtain ⟨rd2, nd2, rv2, hw2, is2⟩ := id rc2
    obtain ⟨dx1, _, _, hp1, _⟩ := id rd1
    have a1 := rc1.pw hw1
    have a2 := rc1.pw hw2
    have b1 := rc2.pw hw1
    have b2 := rc2.pw hw2
    have cR := rc1.pw hR
    have cR2 := rc2.pw hR
    have cW := rc1.pw hW
    have cW2 := rc2.pw hW
    refine ⟨_, rfl, _, rfl, R, _, _, _, rfl, rfl, SqL.of hR, atI_nat ri1, p1, dx1, _, rfl, hp1, rfl, _, rfl, _, rfl, R, _, _, _, rfl, rfl, SqL.of hR, atI_nat ri2, p1, d1, p2, d2, rs1, rs2, rfl, rd1, rd2, IdsOk is1, IdsOk is2, l1, l2, nd1, nd2, dd, fun H1 x1 T1 rA rB => ⟨rfl, _, rfl, ?_⟩⟩
    rw [show (!decide ((V.non : V) = V.non)) = false by rw [decide_eq_true rfl]; rfl]
    have nW : Wl ∉ [d1, d2] := by simp [cW.2.symm, cW2.2.symm]
    have n1 : w1 ∉ [d1, d2] := by simp [a1.2.symm, b1.2.symm]
    have n2 : w2 ∉ [d1, d2] := by simp [a2.2.symm, b2.2.symm]
    have hW1 := x1 _ _ nW hW
    have hw11 := x1 _ _ n1 hw1
    have hw21 := x1 _ _ n2 hw2
    have is11 := is1.mono (IsId.tt T1)
    have is21 := is2.mono (IsId.tt T1)
    have rl1 := is1.len
    have rl2 := is2.len
    -- the first to the second
    refine iteF ⟨_, rfl, _, rfl, Wl, _, _, _, rfl, rfl, SqL.of hW1, atI_nat wi1, w1, rv1, rfl, .inl (SqL.of hw11), fun Z hZ => ?_⟩
    have n3 := same_new (o := HO.lst rv1) hZ
    have Zw1 : Z ≠ w1 := (ne_of_none hw11 hZ).symm
    have Zw2 : Z ≠ w2 := (ne_of_none hw21 hZ).symm
    refine ⟨Z, rfl, ⟨_, SqL.of upd_same⟩, ?_⟩
    refine for_list (K := K) (a := Z) (xs := rv1) (fun k σ H' => ∃ (v4 : Option V) (rv : List V), σ = [some (.ref R), some (.ref Wl), some (.int (i : Nat)), some (.int (j : Nat)), v4] ∧ ExtL [w2] (upd H1 Z (HO.lst rv1)) H' ∧ TT K (upd H1 Z (HO.lst rv1)) H' ∧ H' w2 = some (.lst rv) ∧ RL (IsId H') (uni rs2 (rs1.take k)) rv) ⟨_, rv2, rfl, ExtL.refl _ _, TT.refl, n3 _ _ hw21, is21.mono (IsId.tt (K := K) (TT.same n3))⟩ (fun k σ H' _ h => by obtain ⟨_, _, _, x, _⟩ := h; exact SqL.of (x _ _ (by simpa using Zw2) upd_same)) ?_ ?_
    · rintro k v σ H2 hk ⟨v4, rv, rfl, x2, T2, h2, r2⟩
      obtain ⟨x, hx, ix⟩ := is11.get hk
      have T12 := (TT.same (K := K) n3).trans T2
      have ix2 := ix.tt T12
      have hW2 := x2 _ _ (by simpa using Ww2) (n3 _ _ hW1)
      have ul := uni_len (l := rs2) (m := rs1.take k)
      have tl : (rs1.take k).length ≤ rs1.length := by rw [List.length_take]; omega
      have rl := r2.len
      refine ⟨_, rfl, _, rfl, _, rfl, Wl, _, _, _, rfl, rfl, SqL.of hW2, atI_nat wi2, iD x, w2, rv, _, IsId.dv _ _ ix2, rfl, SqL.of h2, r2.dvs IsId.dv, id_okd ix.1, id_okl (IdsOk r2), ?_⟩
      rw [if_pos rfl, memB_any, ← uni_take hx]
      refine ⟨_, rfl, ?_⟩
      unfold add
      cases hm : memB (uni rs2 (rs1.take k)) x with
      | true =>
        rw [if_pos rfl]
        exact iteF ⟨_, rv, rfl, x2, T2, h2, r2⟩
      | false =>
        rw [if_neg Bool.false_ne_true]
        have T3 := TT.put (K := K) (o := HO.lst (rv ++ [v])) h2
        refine iteT ⟨_, rfl, _, rfl, Wl, _, _, _, rfl, rfl, SqL.of hW2, atI_nat wi2, .inl ⟨rfl, _, SqL.of h2⟩, _, rfl, w2, _, _, rfl, rfl, h2, small _ (by omega), _, _, rfl, x2.trans (ExtL.put (by simp)), T2.trans T3, upd_same, (r2.mono (IsId.tt T3)).snoc (ix2.tt T3)⟩
    rintro σ H2 ⟨v4, rv, rfl, x2, T2, h2, r2⟩
    rw [rl1, List.take_length] at r2
    have T12 := (TT.same (K := K) n3).trans T2
    have x12 : ExtL [w2] H1 H2 := (ExtL.of n3).trans x2
    have hW2 := x12 _ _ (by simpa using Ww2) hW1
    have hw12 := x12 _ _ (by simpa using ww) hw11
    have is12 := is11.mono (IsId.tt T12)
    have ul2 := uni_len (l := rs2) (m := rs1)
    have rl3 := r2.len
    -- the second to the first
    refine ⟨_, rfl, _, rfl, Wl, _, _, _, rfl, rfl, SqL.of hW2, atI_nat wi2, w2, rv, rfl, .inl (SqL.of h2), fun Z2 hZ2 => ?_⟩
    have n4 := same_new (o := HO.lst rv) hZ2
    have Zw12 : Z2 ≠ w1 := (ne_of_none hw12 hZ2).symm
    refine ⟨Z2, rfl, ⟨_, SqL.of upd_same⟩, ?_⟩
    refine for_list (K := K) (a := Z2) (xs := rv) (fun k σ H' => ∃ (v4 : Option V) (rw_ : List V), σ = [some (.ref R), some (.ref Wl), some (.int (i : Nat)), some (.int (j : Nat)), v4] ∧ ExtL [w1] (upd H2 Z2 (HO.lst rv)) H' ∧ TT K (upd H2 Z2 (HO.lst rv)) H' ∧ H' w1 = some (.lst rw_) ∧ RL (IsId H') (uni rs1 ((uni rs2 rs1).take k)) rw_) ⟨_, rv1, rfl, ExtL.refl _ _, TT.refl, n4 _ _ hw12, is12.mono (IsId.tt (K := K) (TT.same n4))⟩ (fun k σ H' _ h => by obtain ⟨_, _, _, x, _⟩ := h; exact SqL.of (x _ _ (by simpa using Zw12) upd_same)) ?_ ?_
    · rintro k v σ H3 hk ⟨v4, rw_, rfl, x3, T3, h3, r3⟩
      obtain ⟨x, hx, ix⟩ := r2.get hk
      have T23 := (TT.same (K := K) n4).trans T3
      have ix3 := ix.tt T23
      have hW3 := x3 _ _ (by simpa using Ww1) (n4 _ _ hW2)
      have ul := uni_len (l := rs1) (m := (uni rs2 rs1).take k)
      have tl : ((uni rs2 rs1).take k).length ≤ (uni rs2 rs1).length := by rw [List.length_take]; omega
      have rl := r3.len
      refine ⟨_, rfl, _, rfl, _, rfl, Wl, _, _, _, rfl, rfl, SqL.of hW3, atI_nat wi1, iD x, w1, rw_, _, IsId.dv _ _ ix3, rfl, SqL.of h3, r3.dvs IsId.dv, id_okd ix.1, id_okl (IdsOk r3), ?_⟩
      rw [if_pos rfl, memB_any, ← uni_take hx]
      refine ⟨_, rfl, ?_⟩
      unfold add
      cases hm : memB (uni rs1 ((uni rs2 rs1).take k)) x with
      | true =>
        rw [if_pos rfl]
        exact iteF ⟨_, rw_, rfl, x3, T3, h3, r3⟩
      | false =>
        rw [if_neg Bool.false_ne_true]
        have T4 := TT.put (K := K) (o := HO.lst (rw_ ++ [v])) h3
        refine iteT ⟨_, rfl, _, rfl, Wl, _, _, _, rfl, rfl, SqL.of hW3, atI_nat wi1, .inl ⟨rfl, _, SqL.of h3⟩, _, rfl, w1, _, _, rfl, rfl, h3, small _ (by omega), _, _, rfl, x3.trans (ExtL.put (by simp)), T3.trans T4, upd_same, (r3.mono (IsId.tt T4)).snoc (ix3.tt T4)⟩
    rintro σ H3 ⟨v4, rw_, rfl, x3, T3, h3, r3⟩
    rw [rl3, List.take_length] at r3
    have T23 := (TT.same (K := K) n4).trans T3
    have x23 : ExtL [w1] H2 H3 := (ExtL.of n4).trans x3
    have x13 : ExtL [w1, w2] H1 H3 := (x12.mono (by simp)).trans (x23.mono (by simp))
    have T13 := T12.trans T23
    have ma : ∀ y, y ∈ uni rs1 (uni rs2 rs1) ↔ y ∈ rs1 ∨ y ∈ rs2 := fun y => by
      rw [uni_mem, uni_mem]
      exact ⟨fun h => h.elim .inl fun h => h.elim .inr .inl, fun h => h.elim .inl fun h => .inr (.inl h)⟩
    have mb : ∀ y, y ∈ uni rs2 rs1 ↔ y ∈ rs1 ∨ y ∈ rs2 := fun y => by rw [uni_mem]; exact or_comm
    have un := uni_nd (m := rs2) nd1
    have una := uni_nd (m := uni rs2 rs1) nd1
    have unb := uni_nd (m := rs1) nd2
    refine q _ _ H3 ma mb ((x1.mono (by simp)).trans (x13.mono (by simp))) (T1.trans T13) ⟨(rA.ext x13 (by simp [a1.1, a2.1]) (by simp [a1.2, a2.2])).mem un una fun y => by rw [ma, uni_mem], una, _, h3, r3⟩ ⟨(rB.ext x13 (by simp [b1.1, b2.1]) (by simp [b1.2, b2.2])).mem un unb fun y => by rw [mb, uni_mem], unb, _, x23 _ _ (by simpa using ww.symm) h2, r2.mono (IsId.tt T23)⟩
end

end Z
namespace Z
open PySem L2 SX
structure AdOk (n : Nat) (R Wl s a : Addr) (D W : Nat → Addr) : Prop where
  dj : ∀ i j, i < n → j < n → i ≠ j → D i ≠ D j
  wj : ∀ i j, i < n → j < n → i ≠ j → W i ≠ W j
  ne : ∀ i, i < n → R ≠ W i ∧ Wl ≠ W i ∧ s ≠ W i ∧ a ≠ W i ∧ s ≠ D i ∧ a ≠ D i
  Rs : R ≠ s ∧ Wl ≠ s
/-- the cells that change -/
def CL (n : Nat) (s : Addr) (D W : Nat → Addr) : List Addr := s :: ((List.range n).map D ++ (List.range n).map W)
theorem cl_mem {n k : Nat} {s : Addr} {D W : Nat → Addr} (h : k < n) : s ∈ CL n s D W ∧ D k ∈ CL n s D W ∧ W k ∈ CL n s D W := by
  unfold CL
  refine ⟨by simp, ?_, ?_⟩
  · exact List.mem_cons_of_mem _ (List.mem_append_left _ (List.mem_map_of_mem (List.mem_range.mpr h)))
  · exact List.mem_cons_of_mem _ (List.mem_append_right _ (List.mem_map_of_mem (List.mem_range.mpr h)))
structure StA (A : Addr) (H : Hp) (n : Nat) (R Wl : Addr) (P D W : Nat → Addr) (U : List Idn) (rf : Nat → List Idn) : Prop where
  hR : H R = some (.lst ((List.range n).map fun k => V.ref (P k)))
  hW : H Wl = some (.lst ((List.range n).map fun k => V.ref (W k)))
  rc : ∀ k, k < n → RcAt A H (P k) (D k) (W k) (rf k)
  un : ∀ k, k < n → ∀ x ∈ rf k, x ∈ U
def put (f : Nat → List Idn) (k : Nat) (r : List Idn) : Nat → List Idn := fun j => if j = k then r else f j
theorem put_same {f : Nat → List Idn} {k : Nat} {r : List Idn} : put f k r k = r := if_pos rfl
theorem put_ne {f : Nat → List Idn} {k j : Nat} {r : List Idn} (h : j ≠ k) : put f k r j = f j := if_neg h
theorem rg_at {n k : Nat} {f : Nat → V} (h : k < n) : ((List.range n).map f)[k]? = some (f k) := by
  rw [List.getElem?_map, List.getElem?_range h]; rfl
section
variable {K : PySem.W.Frag} {A : Addr} {n : Nat} {R Wl s a : Addr} {P D W : Nat → Addr} {U : List Idn} {rf : Nat → List Idn} {H H' : Hp}
theorem StA.len (h : StA A H n R Wl P D W U rf) {k : Nat} (hk : k < n) : (rf k).length ≤ U.length := (h.rc k hk).2.1.length_le_of_subset (h.un k hk)
theorem StA.neP (h : StA A H n R Wl P D W U rf) {j k : Nat} (hj : j < n) (hk : k < n) : P j ≠ D k ∧ P j ≠ W k ∧ D j ≠ W k := by
  obtain ⟨rd, _, rv, hw, _⟩ := h.rc k hk
  exact ⟨(h.rc j hj).1.ne rd, ((h.rc j hj).pw hw).1, ((h.rc j hj).pw hw).2⟩
/-- all but what a step at k may change stays -/
theorem StA.keep (h : StA A H n R Wl P D W U rf) (ad : AdOk n R Wl s a D W) {N : List Addr} (x : ExtL N H H') (T : TT K H H') (ks : List Nat) (sub : ∀ b ∈ N, b = s ∨ ∃ k ∈ ks, k < n ∧ (b = D k ∨ b = W k)) {ls : List V} (hs : H s = some (.lst ls)) {rf' : Nat → List Idn} (new : ∀ k ∈ ks, k < n → RcAt A H' (P k) (D k) (W k) (rf' k) ∧ ∀ x ∈ rf' k, x ∈ U) (old : ∀ k, k ∉ ks → rf' k = rf k) : StA A H' n R Wl P D W U rf' := by
  have nR : R ∉ N := fun m => by
    rcases sub _ m with e | ⟨k, _, hk, e | e⟩
    · exact ad.Rs.1 e
    · obtain ⟨⟨_, _, _, _, hd, _⟩, _⟩ := h.rc k hk
      rw [← e, h.hR] at hd; cases hd
    · exact (ad.ne k hk).1 e
  have nW : Wl ∉ N := fun m => by
    rcases sub _ m with e | ⟨k, _, hk, e | e⟩
    · exact ad.Rs.2 e
    · obtain ⟨⟨_, _, _, _, hd, _⟩, _⟩ := h.rc k hk
      rw [← e, h.hW] at hd; cases hd
    · exact (ad.ne k hk).2.1 e
  have one : ∀ k, k < n → RcAt A H' (P k) (D k) (W k) (rf' k) ∧ ∀ x ∈ rf' k, x ∈ U := fun k hk => by
    by_cases m : k ∈ ks
    · exact new k m hk
    · rw [old k m]
      have ps := (h.rc k hk).pw hs
      refine ⟨(h.rc k hk).keep x T (fun q => ?_) (fun q => ?_) (fun q => ?_), h.un k hk⟩
      · rcases sub _ q with e | ⟨j, _, hj, e | e⟩
        · exact ps.1 e
        · exact (h.neP hk hj).1 e
        · exact (h.neP hk hj).2.1 e
      · rcases sub _ q with e | ⟨j, hjs, hj, e | e⟩
        · exact ps.2 e
        · exact ad.dj k j hk hj (fun z => m (by rw [z]; exact hjs)) e
        · exact (h.neP hk hj).2.2 e
      · rcases sub _ q with e | ⟨j, hjs, hj, e | e⟩
        · exact (ad.ne k hk).2.2.1 e.symm
        · exact (h.neP hj hk).2.2 e.symm
        · exact ad.wj k j hk hj (fun z => m (by rw [z]; exact hjs)) e
  exact ⟨x _ _ nR h.hR, x _ _ nW h.hW, fun k hk => (one k hk).1, fun k hk => (one k hk).2⟩
theorem StA.same (h : StA A H n R Wl P D W U rf) (x : Same H H') : StA A H' n R Wl P D W U rf := ⟨x _ _ h.hR, x _ _ h.hW, fun k hk => (h.rc k hk).same x, h.un⟩
theorem StA.ext {c : Nat} (h : StA A H n R Wl P D W U rf) (ad : AdOk n R Wl s a D W) (x : Ext s H H') (S : Src H s a c) : StA A H' n R Wl P D W U rf := h.keep (K := []) (N := [s]) ad (ExtL.ofExt x (by simp)) (TT.ext x S) [] (fun b m => .inl (by simpa using m)) S.lst.choose_spec (fun k m => by cases m) (fun _ _ => rfl)
end
def sp69_allright (K : PySem.W.Frag) (A : Addr) : Sp := fun vs H Q _ => ∃ (n : Nat) (R Wl : Addr) (P D W : Nat → Addr) (U : List Idn) (rf : Nat → List Idn), vs = [.ref R, .ref Wl] ∧ StA A H n R Wl P D W U rf ∧ U.length ≤ 8 ∧ n ≤ 8 ∧ ∀ (H' : Hp), Same H H' → Q (.bl true) H'
theorem idsDV {K : PySem.W.Frag} {H : Hp} {u : Addr} {ws : List V} {l : List Idn} (h : SqT K H u ws) (r : RL (IsId H) l ws) : DV K H (.tup (l.map iD)) (.ref u) := ⟨u, ws, rfl, h, r.dvs IsId.dv⟩
section
variable {P : Program} {w : World} {K : PySem.W.Frag} {mg : Str → Option Value} {base : Heap}
theorem ok__law_all_right (D : Df K mg "_law_all_right" s__law_all_right ["readers", "rows"]) (T : Tx mg) {A_Reader : Addr} (O : To K mg A_Reader)  (C_Reader__ids : CalM P w K mg base A_Reader "ids" ["self"] 1 (sp69_ids K A_Reader)) (C__law_same : Cal P w K mg base "_law_same" ["actual", "due"] 5 (sp__law_same K 4)) : Cal P w K mg base "_law_all_right" ["readers", "rows"] 6 (sp69_allright K A_Reader) := by
  obtain ⟨f_Reader__ids, fd_Reader__ids, G_Reader__ids, h_Reader__ids, b_Reader__ids⟩ := C_Reader__ids
  obtain ⟨f__law_same, fd__law_same, G__law_same, g__law_same, k__law_same, b__law_same⟩ := C__law_same
  obtain ⟨f, fd, F, gf, bf⟩ := D
  refine ⟨f, fd, F.ok sc__law_all_right (fun vs H Q E h => ?_) (fun cdv A outer s₀ H vs Q E hr h => ?_), gf, F.kp, bf⟩
  · obtain ⟨n, R, Wl, P, D, W, U, rf, rfl, _⟩ := h; rfl
  · obtain ⟨n, R, Wl, P, D, W, U, rf, rfl, st, Ul, n8, q⟩ := h
    refine ⟨_, (pss_cons (ps_for PassesOwn.never rfl (pi_range1 (by rfl) T.n_range (pa_cons (pe_callB call_len_seq (by rfl) T.n_len PySem.boot_len (pa_cons (pv 0) pa_nil)) pa_nil)) (pg_name (i := 2) sc__law_all_right.nd rfl (Or.inl rfl))
      (pss_one (ps_if (pt_not (pt_val (pe_call G__law_same (hr.mono (by decide)) (by rfl) g__law_same k__law_same b__law_same .nil pass0 (pa_cons (pe_meth0 (pe_ix ix_list (pv 0) (pv 2) (fun _ _ => rfl)) O.c_Reader h_Reader__ids G_Reader__ids (hr.mono (by decide)) b_Reader__ids .nil pass0) (pa_cons (pe_callTy call_tuple_of (by rfl) T.n_tuple (by decide +kernel) (pa_cons (pe_callB (cr_sortDDQ (K := K) rfl (room65 hr)) (by rfl) T.n_sorted (by decide +kernel) (pa_cons (pe_ix ix_list (pv 1) (pv 2) (fun _ _ => rfl)) pa_nil)) pa_nil)) pa_nil)))))
        (pss_one (ps_ret pe_bl))
        pss_nil)))
      (pss_one (ps_ret pe_bl))), ?_⟩
    have rl : ((List.range n).map fun k => V.ref (P k)).length = n := by rw [List.length_map, List.length_range]
    refine ⟨_, rfl, R, _, rfl, .inl (SqL.of st.hR), _, rfl, by rw [rl]; omega, by rw [rl]; omega, ?_⟩
    refine for_range (lo := 0) (n := ((((List.range n).map fun k => V.ref (P k)).length : Nat) : Int).toNat) (fun j σ H' => (∃ v2 : Option V, σ = [some (.ref R), some (.ref Wl), v2]) ∧ Same H H') ⟨⟨_, rfl⟩, Same.refl _⟩ ?_ ?_
    · rintro k σ H1 hk ⟨⟨v2, rfl⟩, m1⟩
      rw [rl, Int.toNat_natCast] at hk
      have st1 := st.same m1
      obtain ⟨rd, nd, rv, hw, ri⟩ := st1.rc k hk
      obtain ⟨dx, _, _, hp, _⟩ := id rd
      have kl := st1.len hk
      have ak : ∀ (f : Nat → V), atI ((List.range n).map f) (0 + ((k : Nat) : Int)) = some (f k) := fun f => atI_pos (by omega) (by rw [show ((0 : Int) + ((k : Nat) : Int)).toNat = k by omega]; exact rg_at hk)
      refine ⟨_, rfl, _, rfl, R, _, _, _, rfl, rfl, SqL.of st1.hR, ak _, P k, dx, _, rfl, hp, rfl, P k, D k, rf k, rfl, rd, IdsOk ri, by omega, fun u ws H2 m2 hu r2 => ?_⟩
      have st2 := st1.same m2
      refine ⟨_, rfl, _, rfl, Wl, _, _, _, rfl, rfl, SqL.of st2.hW, ak _, W k, rv, Idn, rf k, iD, rfl, SqL.of (m2 _ _ hw), (ri.mono (IsId.tt (K := K) (TT.same m2))).dvs IsId.dv, id_aa, id_so, fun b _ => id_dp b, fun ys S hS dS => ?_⟩
      have n3 := same_new (o := HO.lst ys) hS
      refine ⟨S, ys, rfl, .inl ⟨SqL.of upd_same, fun t ht => ?_⟩⟩
      have n4 := same_new (o := HO.tup ys) ht
      have n34 := n3.trans n4
      have sl := srt_len (l := rf k)
      refine ⟨.tup ((srt (rf k)).map iD), .ref u, .ref t, rfl, (idsDV hu r2).tk (TK.same n34), ⟨t, ys, rfl, SqT.of upd_same, DVs.tk (TK.same n34) dS⟩, dl_ids (by omega), _, rfl, iteF ?_⟩
      exact ⟨⟨_, rfl⟩, m1.trans (m2.trans n34)⟩
    rintro σ H1 ⟨⟨v2, rfl⟩, m1⟩
    exact q H1 m1
end

end Z
namespace Z
open PySem L2 SX
theorem join_sp {K : PySem.W.Frag} {A : Addr} {n i j : Nat} {R Wl s a : Addr} {P D W : Nat → Addr} {U : List Idn} {rf : Nat → List Idn} {H : Hp} {Q : VK} {E : XK} {ls : List V} {z1 z2 : Int} (hz1 : z1 = ((i : Nat) : Int)) (hz2 : z2 = ((j : Nat) : Int)) (st : StA A H n R Wl P D W U rf) (ad : AdOk n R Wl s a D W) (ij : i ≠ j) (hi : i < n) (hj : j < n) (Ul : U.length ≤ 8) (hs : H s = some (.lst ls))
    (q : ∀ (rf' : Nat → List Idn) (H' : Hp), (∀ k, k ≠ i → k ≠ j → rf' k = rf k) → (∀ y, y ∈ rf' i ↔ y ∈ rf i ∨ y ∈ rf j) → (∀ y, y ∈ rf' j ↔ y ∈ rf i ∨ y ∈ rf j) → ExtL [D i, D j, W i, W j] H H' → TT K H H' → StA A H' n R Wl P D W U rf' → Q (.bl true) H') : sp69_join K A [.ref R, .ref Wl, .int z1, .int z2] H Q E := by
  subst hz1 hz2
  have l1 := st.len hi
  have l2 := st.len hj
  refine ⟨R, Wl, _, _, i, j, P i, D i, W i, P j, D j, W j, rf i, rf j, rfl, st.hR, st.hW, rg_at hi, rg_at hj, rg_at hi, rg_at hj, st.rc i hi, st.rc j hj, by omega, by omega, ad.dj i j hi hj ij, ad.wj i j hi hj ij, (ad.ne i hi).2.1, (ad.ne j hj).2.1, fun ra rb H' ma mb x T ca cb => ?_⟩
  have e1 : put (put rf i ra) j rb i = ra := by rw [put_ne ij, put_same]
  have e2 : put (put rf i ra) j rb j = rb := put_same
  have inU : ∀ y, y ∈ rf i ∨ y ∈ rf j → y ∈ U := fun y h => h.elim (st.un i hi y) (st.un j hj y)
  refine q (put (put rf i ra) j rb) H' (fun k h1 h2 => by rw [put_ne h2, put_ne h1]) (fun y => by rw [e1]; exact ma y) (fun y => by rw [e2]; exact mb y) x T (st.keep ad x T [i, j] (fun b m => ?_) hs (fun k m hk => ?_) (fun k m => ?_))
  · simp only [List.mem_cons, List.not_mem_nil, or_false] at m
    rcases m with rfl | rfl | rfl | rfl
    · exact .inr ⟨i, by simp, hi, .inl rfl⟩
    · exact .inr ⟨j, by simp, hj, .inl rfl⟩
    · exact .inr ⟨i, by simp, hi, .inr rfl⟩
    · exact .inr ⟨j, by simp, hj, .inr rfl⟩
  · simp only [List.mem_cons, List.not_mem_nil, or_false] at m
    rcases m with rfl | rfl
    · rw [e1]; exact ⟨ca, fun x hx => inU x ((ma x).mp hx)⟩
    · rw [e2]; exact ⟨cb, fun x hx => inU x ((mb x).mp hx)⟩
  · have : k ≠ i ∧ k ≠ j := by simpa using m
    rw [put_ne this.2, put_ne this.1]
theorem cl4 {n i j : Nat} {s : Addr} {D W : Nat → Addr} (hi : i < n) (hj : j < n) : ∀ x ∈ [D i, D j, W i, W j], x ∈ CL n s D W := by
  intro x m
  simp only [List.mem_cons, List.not_mem_nil, or_false] at m
  rcases m with rfl | rfl | rfl | rfl
  · exact (cl_mem hi).2.1
  · exact (cl_mem hj).2.1
  · exact (cl_mem hi).2.2
  · exact (cl_mem hj).2.2
theorem src4 {n i j : Nat} {R Wl s a : Addr} {D W : Nat → Addr} {H H' : Hp} {c : Nat} (ad : AdOk n R Wl s a D W) (hi : i < n) (hj : j < n) (S : Src H s a c) (x : ExtL [D i, D j, W i, W j] H H') : Src H' s a c := by
  obtain ⟨_, _, a1, a2, a3, a4⟩ := ad.ne i hi
  obtain ⟨_, _, b1, b2, b3, b4⟩ := ad.ne j hj
  exact S.extL x (by simp [a1, a3, b1, b3]) (by simp [a2, a4, b2, b4])
def sp69_chain (K : PySem.W.Frag) (A : Addr) : Sp := fun vs H Q _ => ∃ (n m : Nat) (R Wl s a : Addr) (P D W : Nat → Addr) (U : List Idn) (rf : Nat → List Idn) (c : Nat), vs = [.ref R, .ref Wl, .int (m : Nat)] ∧ StA A H n R Wl P D W U rf ∧ AdOk n R Wl s a D W ∧ U.length ≤ 8 ∧ 2 ≤ m ∧ m ≤ n ∧ n ≤ 8 ∧ Src H s a c ∧
  ∀ (rf' : Nat → List Idn) (H' : Hp), (∀ i, i < m → ∀ y, y ∈ rf' i ↔ y ∈ rf' 0) → ExtL (CL n s D W) H H' → TT K H H' → StA A H' n R Wl P D W U rf' → Src H' s a c → Q (.bl true) H'
section
variable {P : Program} {w : World} {K : PySem.W.Frag} {mg : Str → Option Value} {base : Heap}
theorem ok__law_chain (D : Df K mg "_law_chain" s__law_chain ["readers", "rows", "many"]) (T : Tx mg)  (C__law_join : Cal P w K mg base "_law_join" ["readers", "rows", "one", "two"] 3 (sp69_join K A_Reader)) : Cal P w K mg base "_law_chain" ["readers", "rows", "many"] 4 (sp69_chain K A_Reader) := by
  obtain ⟨f__law_join, fd__law_join, G__law_join, g__law_join, k__law_join, b__law_join⟩ := C__law_join
  obtain ⟨f, fd, F, gf, bf⟩ := D
  refine ⟨f, fd, F.ok sc__law_chain (fun vs H Q E h => ?_) (fun cdv A outer s₀ H vs Q E hr h => ?_), gf, F.kp, bf⟩
  · obtain ⟨n, m, R, Wl, s, a, P, D, W, U, rf, c, rfl, _⟩ := h; rfl
  · obtain ⟨n, m, R, Wl, s, a, P, D, W, U, rf, c, rfl, st, ad, Ul, m2, mn, n8, hS, q⟩ := h
    refine ⟨_, (pss_cons (ps_for PassesOwn.never rfl (pi_range2 (by rfl) T.n_range (pa_cons pe_int (pa_cons (pv 2) pa_nil))) (pg_name (i := 3) sc__law_chain.nd rfl (Or.inl rfl))
      (pss_one (ps_if (pt_not (pt_val (pe_call G__law_join (hr.mono (by decide)) (by rfl) g__law_join k__law_join b__law_join .nil pass0 (pa_cons (pv 0) (pa_cons (pv 1) (pa_cons (pe_op op_sub (pv 3) pe_int) (pa_cons (pv 3) pa_nil)))))))
        (pss_one (ps_ret pe_bl))
        pss_nil)))
      (pss_cons (ps_for PassesOwn.never rfl (pi_range2 (by rfl) T.n_range (pa_cons pe_int (pa_cons (pv 2) pa_nil))) (pg_name (i := 3) sc__law_chain.nd rfl (Or.inl rfl))
      (pss_one (ps_if (pt_not (pt_val (pe_call G__law_join (hr.mono (by decide)) (by rfl) g__law_join k__law_join b__law_join .nil pass0 (pa_cons (pv 0) (pa_cons (pv 1) (pa_cons (pe_op op_sub (pv 2) (pv 3)) (pa_cons (pe_op op_sub (pe_op op_sub (pv 2) (pv 3)) pe_int) pa_nil)))))))
        (pss_one (ps_ret pe_bl))
        pss_nil)))
      (pss_one (ps_ret pe_bl)))), ?_⟩
    refine ⟨_, rfl, 1, ((m : Nat) : Int), rfl, ⟨by omega, by omega, by omega, by omega⟩, ?_⟩
    have top : ((((m : Nat) : Int)) - 1).toNat = m - 1 := by omega
    refine for_range (lo := 1) (n := (((m : Nat) : Int) - 1).toNat) (fun i σ H' => ∃ (v3 : Option V) (r : Nat → List Idn), σ = [some (.ref R), some (.ref Wl), some (.int (m : Nat)), v3] ∧ StA A_Reader H' n R Wl P D W U r ∧ (∀ j, j ≤ i → ∀ y, y ∈ r j → y ∈ r i) ∧ ExtL (CL n s D W) H H' ∧ TT K H H' ∧ Src H' s a c) ⟨_, rf, rfl, st, (fun j hj y h => by rw [show j = 0 by omega] at h; exact h), ExtL.refl _ _, TT.refl, hS⟩ ?_ ?_
    · rintro i σ H1 hi ⟨v3, r, rfl, st1, k1, x1, T1, S1⟩
      rw [top] at hi
      have e1 : (1 + ((i : Nat) : Int)) - 1 = ((i : Nat) : Int) := by omega
      have e2 : 1 + ((i : Nat) : Int) = ((i + 1 : Nat) : Int) := by omega
      refine ⟨_, rfl, _, rfl, _, rfl, _, _, rfl, rfl, _, rfl, ?_⟩
      dsimp only [tNil]
      refine join_sp e1 e2 st1 ad (by omega) (by omega) (by omega) Ul S1.lst.choose_spec fun r2 H2 o2 m2a m2b x2 T2 st2 => ⟨_, rfl, iteF ?_⟩
      refine ⟨_, r2, rfl, st2, fun j hj y h => ?_, x1.trans (x2.mono (cl4 (by omega) (by omega))), T1.trans T2, src4 ad (by omega) (by omega) S1 x2⟩
      rw [m2b]
      by_cases c1 : j = i + 1
      · rw [c1, m2b] at h; exact h
      · by_cases c2 : j = i
        · rw [c2, m2a] at h; exact h
        · rw [o2 j c2 c1] at h
          exact .inl (k1 j (by omega) y h)
    rintro σ H1 ⟨v3, r1, rfl, st1, k1, x1, T1, S1⟩
    rw [top] at k1
    refine ⟨_, rfl, 1, ((m : Nat) : Int), rfl, ⟨by omega, by omega, by omega, by omega⟩, ?_⟩
    refine for_range (lo := 1) (n := (((m : Nat) : Int) - 1).toNat) (fun i σ H' => ∃ (v3 : Option V) (r : Nat → List Idn), σ = [some (.ref R), some (.ref Wl), some (.int (m : Nat)), v3] ∧ StA A_Reader H' n R Wl P D W U r ∧ (∀ j, j < m → ∀ y, y ∈ r j → y ∈ r (m - 1)) ∧ (∀ j, m - 1 - i ≤ j → j < m → ∀ y, y ∈ r (m - 1) → y ∈ r j) ∧ ExtL (CL n s D W) H H' ∧ TT K H H' ∧ Src H' s a c) ⟨_, r1, rfl, st1, (fun j hj => k1 j (by omega)), (fun j h1 h2 y h => by rw [show j = m - 1 by omega]; exact h), x1, T1, S1⟩ ?_ ?_
    · rintro i σ H2 hi ⟨v3, r, rfl, st2, k2, k3, x2, T2, S2⟩
      rw [top] at hi
      have e1 : ((m : Nat) : Int) - (1 + ((i : Nat) : Int)) = ((m - 1 - i : Nat) : Int) := by omega
      have e2 : ((m : Nat) : Int) - (1 + ((i : Nat) : Int)) - 1 = ((m - 2 - i : Nat) : Int) := by omega
      refine ⟨_, rfl, _, rfl, _, rfl, _, rfl, _, _, rfl, rfl, _, rfl, _, rfl, _, _, rfl, rfl, _, _, rfl, rfl, ?_⟩
      dsimp only [tNil]
      refine join_sp e1 e2 st2 ad (by omega) (by omega) (by omega) Ul S2.lst.choose_spec fun r2 H3 o3 m3a m3b x3 T3 st3 => ⟨_, rfl, iteF ?_⟩
      have both : ∀ y, y ∈ r (m - 1 - i) ∨ y ∈ r (m - 2 - i) ↔ y ∈ r (m - 1) := fun y => ⟨fun h => h.elim (k2 _ (by omega) y) (k2 _ (by omega) y), fun h => .inl (k3 _ (by omega) (by omega) y h)⟩
      have tp : ∀ y, y ∈ r2 (m - 1) ↔ y ∈ r (m - 1) := fun y => by
        by_cases c1 : m - 1 = m - 1 - i
        · have := m3a y
          rw [← c1] at this
          rw [this, c1]
          exact (both y).trans (by rw [← c1])
        · rw [o3 (m - 1) c1 (by omega)]
      have on : ∀ j, j < m → ∀ y, y ∈ r2 j → y ∈ r (m - 1) := fun j hj y h => by
        by_cases c1 : j = m - 1 - i
        · rw [c1, m3a] at h; exact (both y).mp h
        · by_cases c2 : j = m - 2 - i
          · rw [c2, m3b] at h; exact (both y).mp h
          · rw [o3 j c1 c2] at h; exact k2 j hj y h
      refine ⟨_, r2, rfl, st3, fun j hj y h => (tp y).mpr (on j hj y h), fun j h1 h2 y h => ?_, x2.trans (x3.mono (cl4 (by omega) (by omega))), T2.trans T3, src4 ad (by omega) (by omega) S2 x3⟩
      rw [tp] at h
      by_cases c1 : j = m - 1 - i
      · rw [c1, m3a]; exact (both y).mpr h
      · by_cases c2 : j = m - 2 - i
        · rw [c2, m3b]; exact (both y).mpr h
        · rw [o3 j c1 c2]; exact k3 j (by omega) h2 y h
    rintro σ H2 ⟨v3, r, rfl, st2, k2, k3, x2, T2, S2⟩
    refine q r H2 (fun i hi y => ?_) x2 T2 st2 S2
    rw [top] at k3
    exact ⟨fun h => k3 0 (by omega) (by omega) y (k2 i hi y h), fun h => k3 i (by omega) hi y (k2 0 (by omega) y h)⟩
end

end Z
namespace Z
open PySem L2 SX
structure VsA (K : PySem.W.Frag) (H : Hp) (vn : Nat) (VL : Addr) (X : Nat → Addr) (U : List Idn) (vf : Nat → List (Int × Idn)) : Prop where
  hV : H VL = some (.lst ((List.range vn).map fun k => V.ref (X k)))
  vw : ∀ k, k < vn → VwAt K H (X k) (vf k) ∧ VwOk U (vf k)
structure VdOk (n vn : Nat) (VL s a : Addr) (D W X : Nat → Addr) : Prop where
  l : VL ∉ CL n s D W
  x : ∀ k, k < vn → X k ∉ CL n s D W ∧ X k ≠ VL ∧ X k ≠ a
  inj : ∀ j k, j < vn → k < vn → j ≠ k → X j ≠ X k
def CV (n vn : Nat) (s : Addr) (D W X : Nat → Addr) : List Addr := CL n s D W ++ (List.range vn).map X
theorem cv_l {n vn : Nat} {s : Addr} {D W X : Nat → Addr} : ∀ b ∈ CL n s D W, b ∈ CV n vn s D W X := fun b h => List.mem_append_left _ h
theorem cv_x {n vn k : Nat} {s : Addr} {D W X : Nat → Addr} (h : k < vn) : X k ∈ CV n vn s D W X := List.mem_append_right _ (List.mem_map_of_mem (List.mem_range.mpr h))
def putV (f : Nat → List (Int × Idn)) (k : Nat) (r : List (Int × Idn)) : Nat → List (Int × Idn) := fun j => if j = k then r else f j
theorem VsA.keep {K : PySem.W.Frag} {H H' : Hp} {n vn : Nat} {VL s a : Addr} {D W X : Nat → Addr} {U : List Idn} {vf : Nat → List (Int × Idn)} {N : List Addr} (h : VsA K H vn VL X U vf) (vd : VdOk n vn VL s a D W X) (x : ExtL N H H') (T : TT K H H') (sub : ∀ b ∈ N, b ∈ CL n s D W) : VsA K H' vn VL X U vf := by
  refine ⟨x _ _ (fun m => vd.l (sub _ m)) h.hV, fun k hk => ?_⟩
  obtain ⟨⟨us, h1, h2⟩, ok⟩ := h.vw k hk
  exact ⟨⟨us, x _ _ (fun m => (vd.x k hk).1 (sub _ m)) h1, h2.mono (PrAt.tt T)⟩, ok⟩
theorem VsA.put {K : PySem.W.Frag} {H H' : Hp} {n vn k : Nat} {VL s a : Addr} {D W X : Nat → Addr} {U : List Idn} {vf : Nat → List (Int × Idn)} {ps : List (Int × Idn)} (h : VsA K H vn VL X U vf) (vd : VdOk n vn VL s a D W X) (hk : k < vn) (x : ExtL [s, X k] H H') (T : TT K H H') (sm : s ∈ CL n s D W) (w : VwAt K H' (X k) ps) (ok : VwOk U ps) : VsA K H' vn VL X U (putV vf k ps) := by
  refine ⟨x _ _ (fun m => ?_) h.hV, fun j hj => ?_⟩
  · simp only [List.mem_cons, List.not_mem_nil, or_false] at m
    rcases m with e | e
    · exact vd.l (by rw [e]; exact sm)
    · exact (vd.x k hk).2.1 e.symm
  · unfold putV
    by_cases c : j = k
    · rw [if_pos c, c]; exact ⟨w, ok⟩
    · rw [if_neg c]
      obtain ⟨⟨us, h1, h2⟩, ok'⟩ := h.vw j hj
      refine ⟨⟨us, x _ _ (fun m => ?_) h1, h2.mono (PrAt.tt T)⟩, ok'⟩
      simp only [List.mem_cons, List.not_mem_nil, or_false] at m
      rcases m with e | e
      · exact (vd.x j hj).1 (by rw [e]; exact sm)
      · exact vd.inj j k hj hk c e
theorem StA.keepX {K : PySem.W.Frag} {A : Addr} {H H' : Hp} {n : Nat} {R Wl : Addr} {P D W : Nat → Addr} {U : List Idn} {rf : Nat → List Idn} {N : List Addr} (h : StA A H n R Wl P D W U rf) (x : ExtL N H H') (T : TT K H H') (nR : R ∉ N) (nW : Wl ∉ N) (nk : ∀ k, k < n → P k ∉ N ∧ D k ∉ N ∧ W k ∉ N) : StA A H' n R Wl P D W U rf := ⟨x _ _ nR h.hR, x _ _ nW h.hW, fun k hk => (h.rc k hk).keep x T (nk k hk).1 (nk k hk).2.1 (nk k hk).2.2, h.un⟩
def sp69_step (K : PySem.W.Frag) (A : Addr) : Sp := fun vs H Q _ => ∃ (n m vn : Nat) (R Wl s a VL I : Addr) (P D W X : Nat → Addr) (U : List Idn) (us : List V) (rf : Nat → List Idn) (vf : Nat → List (Int × Idn)) (c : Nat), vs = [.ref s, .ref R, .ref Wl, .int (m : Nat), .ref VL, .ref I] ∧ StA A H n R Wl P D W U rf ∧ AdOk n R Wl s a D W ∧ VsA K H vn VL X U vf ∧ VdOk n vn VL s a D W X ∧ (∀ k, k < vn → X k ≠ R ∧ X k ≠ Wl) ∧ H I = some (.lst us) ∧ RL (IsId H) U us ∧ I ∉ CV n vn s D W X ∧ U ≠ [] ∧ U.length ≤ 8 ∧ 2 ≤ m ∧ m ≤ 4 ∧ m < n ∧ n ≤ 8 ∧ 1 ≤ vn ∧ vn ≤ 8 ∧ Src H s a (c + 100) ∧
  ∀ (rf' : Nat → List Idn) (vf' : Nat → List (Int × Idn)) (H' : Hp), ExtL (CV n vn s D W X) H H' → TT K H H' → StA A H' n R Wl P D W U rf' → VsA K H' vn VL X U vf' → Src H' s a c → Q (.bl true) H'
section
variable {P : Program} {w : World} {K : PySem.W.Frag} {mg : Str → Option Value} {base : Heap}
theorem ok__law_step (D : Df K mg "_law_step" s__law_step ["source", "readers", "rows", "many", "views", "idents"]) (T : Tx mg) {A_Reader : Addr} (O : To K mg A_Reader)  (C_Reader__read : CalM P w K mg base A_Reader "read" ["self", "id"] 1 (sp69_read K A_Reader)) (C__law_change : Cal P w K mg base "_law_change" ["source", "view", "idents"] 4 (sp69_change K)) (C__law_draw : Cal P w K mg base "_law_draw" ["source", "many"] 2 sp__law_draw) (C__law_join : Cal P w K mg base "_law_join" ["readers", "rows", "one", "two"] 3 (sp69_join K A_Reader)) (C__law_look : Cal P w K mg base "_law_look" ["source", "reader", "ids", "view", "share"] 6 (sp69_look K A_Reader)) (C__law_pick : Cal P w K mg base "_law_pick" ["source", "row"] 3 (sp3__law_pick K)) : Cal P w K mg base "_law_step" ["source", "readers", "rows", "many", "views", "idents"] 7 (sp69_step K A_Reader) := by
  obtain ⟨f_Reader__read, fd_Reader__read, G_Reader__read, h_Reader__read, b_Reader__read⟩ := C_Reader__read
  obtain ⟨f__law_change, fd__law_change, G__law_change, g__law_change, k__law_change, b__law_change⟩ := C__law_change
  obtain ⟨f__law_draw, fd__law_draw, G__law_draw, g__law_draw, k__law_draw, b__law_draw⟩ := C__law_draw
  obtain ⟨f__law_join, fd__law_join, G__law_join, g__law_join, k__law_join, b__law_join⟩ := C__law_join
  obtain ⟨f__law_look, fd__law_look, G__law_look, g__law_look, k__law_look, b__law_look⟩ := C__law_look
  obtain ⟨f__law_pick, fd__law_pick, G__law_pick, g__law_pick, k__law_pick, b__law_pick⟩ := C__law_pick
  obtain ⟨f, fd, F, gf, bf⟩ := D
  refine ⟨f, fd, F.ok sc__law_step (fun vs H Q E h => ?_) (fun cdv A outer s₀ H vs Q E hr h => ?_), gf, F.kp, bf⟩
  · obtain ⟨n, m, vn, R, Wl, s, a, VL, I, P, D, W, X, U, us, rf, vf, c, rfl, _⟩ := h; rfl
  · obtain ⟨n, m, vn, R, Wl, s, a, VL, I, P, D, W, X, U, us, rf, vf, c, rfl, st, ad, vs, vd, xr, hI, rU, In, Une, Ul, m2, m4, mn, n8, v1, v8, hS, q⟩ := h
    refine ⟨_, (pss_cons (ps_set (i := 6) sc__law_step.nd rfl (Or.inl rfl) (pe_call G__law_draw (hr.mono (by decide)) (by rfl) g__law_draw k__law_draw b__law_draw .nil pass0 (pa_cons (pv 0) (pa_cons pe_int pa_nil))))
      (pss_cons (ps_set (i := 7) sc__law_step.nd rfl (Or.inl rfl) (pe_call G__law_draw (hr.mono (by decide)) (by rfl) g__law_draw k__law_draw b__law_draw .nil pass0 (pa_cons (pv 0) (pa_cons (pe_callB call_len_seq (by rfl) T.n_len PySem.boot_len (pa_cons (pv 1) pa_nil)) pa_nil))))
      (pss_cons (ps_set (i := 8) sc__law_step.nd rfl (Or.inl rfl) (pe_call G__law_pick (hr.mono (by decide)) (by rfl) g__law_pick k__law_pick b__law_pick .nil pass0 (pa_cons (pv 0) (pa_cons (pv 4) pa_nil))))
      (pss_cons (ps_if (pt_cmpR op_lt (pv 6) pe_int (nomark _))
      (pss_one (ps_ret (pe_call G__law_look (hr.mono (by decide)) (by rfl) g__law_look k__law_look b__law_look .nil pass0 (pa_cons (pv 0) (pa_cons (pe_ix ix_list (pv 1) (pv 7) (fun _ _ => rfl)) (pa_cons (pe_ix ix_list (pv 2) (pv 7) (fun _ _ => rfl)) (pa_cons (pv 8) (pa_cons (pe_call G__law_draw (hr.mono (by decide)) (by rfl) g__law_draw k__law_draw b__law_draw .nil pass0 (pa_cons (pv 0) (pa_cons pe_int pa_nil))) pa_nil))))))))
      pss_nil)
      (pss_cons (ps_if (pt_cmpR op_eq (pv 6) pe_int (nomark _))
      (pss_cons (ps_set (i := 9) sc__law_step.nd rfl (Or.inl rfl) (pe_call G__law_pick (hr.mono (by decide)) (by rfl) g__law_pick k__law_pick b__law_pick .nil pass0 (pa_cons (pv 0) (pa_cons (pv 5) pa_nil))))
        (C8.pss_cut (ps_if (pt_cmpR (op_notInDDQ (K := K) rfl (room65 hr)) (pv 9) (pe_ix ix_list (pv 2) (pv 7) (fun _ _ => rfl)) (by rfl))
        (pss_one (ps_expr (pe_bm PySem.F.plainAttrs_list PySem.F.slot_list_append PySem.F.type_list_append mt_append (pe_ix ix_list (pv 2) (pv 7) (fun _ _ => rfl)) (pa_cons (pv 9) pa_nil))))
        pss_nil)
        (pss_one (ps_ret (pe_cmpR op_isN (pe_meth (pe_ix ix_list (pv 1) (pv 7) (fun _ _ => rfl)) O.c_Reader h_Reader__read G_Reader__read (hr.mono (by decide)) b_Reader__read .nil pass0 (pa_cons (pv 9) pa_nil)) pe_non (nomark _))))))
      pss_nil)
      (pss_cons (ps_if (pt_cmpR op_eq (pv 6) pe_int (nomark _))
      (pss_cons (ps_expr (pe_call G__law_change (hr.mono (by decide)) (by rfl) g__law_change k__law_change b__law_change .nil pass0 (pa_cons (pv 0) (pa_cons (pv 8) (pa_cons (pv 5) pa_nil)))))
        (pss_one (ps_ret pe_bl)))
      pss_nil)
      (pss_cons (ps_if (PW.pt (pw_and (pt_cmpR op_eq (pe_call G__law_draw (hr.mono (by decide)) (by rfl) g__law_draw k__law_draw b__law_draw .nil pass0 (pa_cons (pv 0) (pa_cons pe_int pa_nil))) pe_int (nomark _)) (pw_and1 (pt_cmpR op_gt (pe_op op_sub (pe_callB call_len_seq (by rfl) T.n_len PySem.boot_len (pa_cons (pv 1) pa_nil)) (pv 3)) pe_int (nomark _)))))
      (pss_one (ps_ret (pe_call G__law_join (hr.mono (by decide)) (by rfl) g__law_join k__law_join b__law_join .nil pass0 (pa_cons (pv 1) (pa_cons (pv 2) (pa_cons (pv 3) (pa_cons (pe_op op_add (pv 3) pe_int) pa_nil)))))))
      pss_nil)
      (pss_cons (ps_set (i := 10) sc__law_step.nd rfl (Or.inl rfl) (pe_call G__law_draw (hr.mono (by decide)) (by rfl) g__law_draw k__law_draw b__law_draw .nil pass0 (pa_cons (pv 0) (pa_cons (pv 3) pa_nil))))
      (pss_cons (ps_set (i := 11) sc__law_step.nd rfl (Or.inl rfl) (pe_op op_mod (pe_callTy call_int1 (by rfl) T.n_int (by decide +kernel) (pa_cons (pe_op op_add (pe_op op_add (pv 10) pe_int) (pe_call G__law_draw (hr.mono (by decide)) (by rfl) g__law_draw k__law_draw b__law_draw .nil pass0 (pa_cons (pv 0) (pa_cons (pe_op op_sub (pv 3) pe_int) pa_nil)))) pa_nil)) (pv 3)))
      (pss_one (ps_ret (pe_call G__law_join (hr.mono (by decide)) (by rfl) g__law_join k__law_join b__law_join .nil pass0 (pa_cons (pv 1) (pa_cons (pv 2) (pa_cons (pv 10) (pa_cons (pv 11) pa_nil)))))))))))))))), ?_⟩
    have small : ∀ n : Nat, n ≤ 30000 → n < sizeLine := fun n h => Nat.lt_of_le_of_lt h (by decide)
    have n0 : 0 < n := by omega
    have sm := (cl_mem (s := s) (D := D) (W := W) n0).1
    have VLs : VL ≠ s := fun e => vd.l (by rw [e]; exact sm)
    have Is : I ≠ s := fun e => In (cv_l _ (by rw [e]; exact sm))
    have ss : ∀ b ∈ [s], b ∈ CL n s D W := by simpa using sm
    have e1s : ∀ {H H' : Hp}, Ext s H H' → ExtL (CV n vn s D W X) H H' := fun x => ExtL.ofExt x (cv_l _ sm)
    have rl : ((List.range n).map fun k => V.ref (P k)).length = n := by rw [List.length_map, List.length_range]
    have vl : ((List.range vn).map fun k => V.ref (X k)).length = vn := by rw [List.length_map, List.length_range]
    have ul := rU.len
    refine ⟨_, rfl, s, a, _, c + 99, rfl, by decide, by decide, hS, fun way H1 z0 z1 x1 S1 => ?_⟩
    have st1 := st.ext ad x1 hS
    refine ⟨_, rfl, _, rfl, R, _, rfl, .inl (SqL.of st1.hR), s, a, _, c + 98, rfl, by omega, by omega, S1, fun who H2 w0 w1 x2 S2 => ?_⟩
    have st2 := st1.ext ad x2 S1
    have x02 := x1.trans x2
    have T02 := (TT.ext (K := K) x1 hS).trans (TT.ext x2 S1)
    have vs2 := vs.keep vd (ExtL.ofExt (ms := [s]) x02 (by simp)) T02 ss
    obtain ⟨k, rfl⟩ := Int.eq_ofNat_of_zero_le w0
    have hk : k < n := by omega
    refine ⟨_, rfl, _, rfl, .inl ⟨s, a, VL, _, c + 97, rfl, SqL.of vs2.hV, VLs, fun e => by rw [e] at vl; simp at vl; omega, by omega, S2, fun v H3 vm x3 S3 => ?_⟩⟩
    obtain ⟨e, em, rfl⟩ := List.mem_map.mp vm
    have he := List.mem_range.mp em
    have x03 := x02.trans x3
    have T03 := T02.trans (TT.ext x3 S2)
    have st3 := st2.ext ad x3 S2
    have vs3 := vs2.keep vd (ExtL.ofExt (ms := [s]) x3 (by simp)) (TT.ext x3 S2) ss
    have hI3 := x03 _ _ Is hI
    have rU3 := rU.mono (IsId.tt T03)
    have y3 := e1s x03
    have ak : ∀ (f : Nat → V), atI ((List.range n).map f) ((k : Nat) : Int) = some (f k) := fun f => atI_nat (rg_at hk)
    have nk := ad.ne k hk
    have kl := st3.len hk
    obtain ⟨vwe, voe⟩ := vs3.vw e he
    have vel := voe.len
    have xe := vd.x e he
    have xs_ : X e ≠ s := fun z => xe.1 (by rw [z]; exact sm)
    have xw_ : X e ≠ W k := fun z => xe.1 (by rw [z]; exact (cl_mem hk).2.2)
    have sub3 : ∀ b ∈ [s, D k, W k], b ∈ CL n s D W := by simp [sm, (cl_mem (s := s) (D := D) (W := W) hk).2.1, (cl_mem (s := s) (D := D) (W := W) hk).2.2]
    have subk : ∀ b ∈ [s, D k, W k], b = s ∨ ∃ j ∈ [k], j < n ∧ (b = D j ∨ b = W j) := fun b hb => by
      simp only [List.mem_cons, List.not_mem_nil, or_false] at hb
      rcases hb with h | h | h
      · exact .inl h
      · exact .inr ⟨k, by simp, hk, .inl h⟩
      · exact .inr ⟨k, by simp, hk, .inr h⟩
    -- what a change at k makes of the state
    have fin : ∀ {H4 H5 : Hp} {r : List Idn} {c' : Nat}, Ext s H3 H4 → Src H4 s a c' → ExtL [s, D k, W k] H4 H5 → TT K H4 H5 → RcAt A_Reader H5 (P k) (D k) (W k) r → (∀ x ∈ r, x ∈ U) → Src H5 s a c → Q (.bl true) H5 := fun {H4 H5 r c'} x4 S4 y5 T5 rc5 ru S5 => by
      have st4 := st3.ext ad x4 S3
      have vs4 := vs3.keep vd (ExtL.ofExt (ms := [s]) x4 (by simp)) (TT.ext x4 S3) ss
      have st5 := st4.keep ad y5 T5 [k] subk S4.lst.choose_spec (rf' := put rf k r) (fun j m hj => by
        have : j = k := by simpa using m
        subst this
        rw [put_same]; exact ⟨rc5, ru⟩) (fun j m => put_ne (by simpa using m))
      exact q _ vf H5 (y3.trans ((e1s x4).trans (y5.mono fun b hb => cv_l _ (sub3 b hb)))) (T03.trans ((TT.ext x4 S3).trans T5)) st5 (vs4.keep vd y5 T5 sub3) S5
    refine ⟨_, rfl, _, _, rfl, rfl, _, rfl, ite2 (fun _ => ?_) (fun _ => ?_)⟩
    · refine ⟨_, rfl, _, rfl, _, rfl, R, _, _, _, rfl, rfl, SqL.of st3.hR, ak _, _, rfl, _, rfl, Wl, _, _, _, rfl, rfl, SqL.of st3.hW, ak _, _, rfl, _, rfl, s, a, _, c + 96, rfl, by decide, by decide, S3, fun sh H4 _ _ x4 S4 => ?_⟩
      have T4 := TT.ext (K := K) x4 S3
      have st4 := st3.ext ad x4 S3
      have vs4 := vs3.keep vd (ExtL.ofExt (ms := [s]) x4 (by simp)) T4 ss
      refine ⟨s, a, P k, D k, W k, X e, rf k, vf e, sh, c, rfl, st4.rc k hk, (vs4.vw e he).1, voe.1, by omega, by omega, nk.2.2.1.symm, nk.2.2.2.1.symm, nk.2.2.2.2.2, xs_, xw_, S4.mono (by omega), fun rs' H5 y5 T5 rc5 k1 k2 k3 S5 => ?_⟩
      refine fin x4 S4 y5 T5 rc5 (fun y h => ?_) S5
      rcases k2 y h with h | h
      · exact st.un k hk y h
      · obtain ⟨p, hp, rfl⟩ := List.mem_map.mp h
        exact voe.2 p hp
    refine ⟨_, rfl, rfl, _, rfl, ite2 (fun _ => ?_) (fun _ => ?_)⟩
    · refine ⟨_, rfl, _, rfl, .inl ⟨s, a, I, us, c + 96, rfl, SqL.of hI3, Is, fun z => by rw [z] at ul; exact Une (List.length_eq_zero_iff.mp ul.symm), by omega, S3, fun iv H4 im x4 S4 => ?_⟩⟩
      have T4 := TT.ext (K := K) x4 S3
      obtain ⟨x, xm, ix⟩ := (rU3.mono (IsId.tt T4)).pick im
      have st4 := st3.ext ad x4 S3
      obtain ⟨rd4, nd4, rv, hw4, ri4⟩ := st4.rc k hk
      have rvl := ri4.len
      obtain ⟨dx4, _, _, hp4, hd4, _⟩ := id rd4
      have pw4 := (st4.rc k hk).pw hw4
      refine ⟨fun σ2 H5 => (∃ v10 v11, σ2 = [some (.ref s), some (.ref R), some (.ref Wl), some (.int (m : Nat)), some (.ref VL), some (.ref I), some (.int way), some (.int (k : Nat)), some (.ref (X e)), some iv, v10, v11]) ∧ ExtL [W k] H4 H5 ∧ TT K H4 H5 ∧ ∃ rv', H5 (W k) = some (.lst rv') ∧ RL (IsId H5) (add (rf k) x) rv', ?_, ?_⟩
      · refine ⟨_, rfl, _, rfl, _, rfl, Wl, _, _, _, rfl, rfl, SqL.of st4.hW, ak _, iD x, W k, rv, _, IsId.dv _ _ ix, rfl, SqL.of hw4, ri4.dvs IsId.dv, id_okd ix.1, id_okl (IdsOk ri4), ?_⟩
        rw [if_pos rfl, memB_any]
        refine ⟨_, rfl, ?_⟩
        unfold add
        cases hm : memB (rf k) x with
        | true =>
          rw [if_pos rfl]
          exact iteF ⟨⟨_, _, rfl⟩, ExtL.refl _ _, TT.refl, rv, hw4, ri4⟩
        | false =>
          rw [if_neg Bool.false_ne_true]
          have T5 := TT.put (K := K) (o := HO.lst (rv ++ [iv])) hw4
          exact iteT ⟨_, rfl, _, rfl, Wl, _, _, _, rfl, rfl, SqL.of st4.hW, ak _, .inl ⟨rfl, _, SqL.of hw4⟩, _, rfl, W k, _, _, rfl, rfl, hw4, small _ (by omega), ⟨_, _, rfl⟩, ExtL.put (by simp), T5, _, upd_same, (ri4.mono (IsId.tt T5)).snoc (ix.tt T5)⟩
      rintro σ2 H5 ⟨⟨v10, v11, rfl⟩, x5, T5, rv', hw5, ri5⟩
      have nR : R ∉ [W k] := by simpa using nk.1
      have rd5 := rd4.ext x5 (by simpa using pw4.1) (by simpa using pw4.2)
      refine ⟨_, rfl, _, rfl, R, _, _, _, rfl, rfl, SqL.of (x5 _ _ nR st4.hR), ak _, P k, dx4, _, rfl, x5 _ _ (by simpa using pw4.1) hp4, rfl, _, rfl, P k, D k, rf k, x, iv, rfl, rd5, ix.tt T5, by omega, fun H6 x6 T6 rd6 => ⟨rfl, ?_⟩⟩
      rw [show decide ((V.non : V) = V.non) = true from decide_eq_true rfl]
      have y46 : ExtL [s, D k, W k] H4 H6 := (x5.mono (by simp)).trans (x6.mono (by simp))
      have y46b : ExtL [D k, W k] H4 H6 := (x5.mono (by simp)).trans (x6.mono (by simp))
      have T46 := T5.trans T6
      refine fin x4 S4 y46 T46 ⟨rd6, add_nd nd4, rv', x6 _ _ (by simpa using pw4.2.symm) hw5, ri5.mono (IsId.tt T6)⟩ (fun y h => ?_) ((S4.extL y46b (by simp [nk.2.2.1, nk.2.2.2.2.1]) (by simp [nk.2.2.2.1, nk.2.2.2.2.2])).mono (by omega))
      rcases add_mem.mp h with h | h
      · exact st.un k hk y h
      · rw [h]; exact xm
    refine ⟨_, rfl, rfl, _, rfl, ite2 (fun _ => ?_) (fun _ => ?_)⟩
    · refine ⟨_, rfl, _, rfl, _, rfl, s, a, X e, I, vf e, U, us, c + 50, rfl, vwe, voe, xs_, xe.2.2, hI3, Is, fun z => In (by rw [z]; exact cv_x he), rU3, Ul, S3.mono (by omega), fun ps' H4 x4 T4 vw4 vo4 S4 => ?_⟩
      have xk_ : ∀ j, j < n → X e ≠ D j ∧ X e ≠ W j := fun j hj => ⟨fun z => xe.1 (by rw [z]; exact (cl_mem hj).2.1), fun z => xe.1 (by rw [z]; exact (cl_mem hj).2.2)⟩
      have hX3 := vwe.choose_spec.1
      have hs3 := S3.lst.choose_spec
      have st4 : StA A_Reader H4 n R Wl P D W U rf := st3.keepX x4 T4 (by simp [ad.Rs.1, (xr e he).1.symm]) (by simp [ad.Rs.2, (xr e he).2.symm]) fun j hj => by
        have p1 := (st3.rc j hj).pw hX3
        have p2 := (st3.rc j hj).pw hs3
        have p3 := ad.ne j hj
        exact ⟨by simp [p1.1, p2.1], by simp [p1.2, p2.2], by simp [p3.2.2.1.symm, (xk_ j hj).2.symm]⟩
      exact q rf _ H4 (y3.trans (x4.mono fun b hb => by
        simp only [List.mem_cons, List.not_mem_nil, or_false] at hb
        rcases hb with rfl | rfl
        · exact cv_l _ sm
        · exact cv_x he)) (T03.trans T4) st4 (vs3.put vd he x4 T4 sm vw4 vo4) (S4.mono (by omega))
    refine ⟨_, rfl, s, a, _, c + 90, rfl, by decide, by decide, S3.mono (by omega), fun k4 Hc _ _ xc Sc => ⟨rfl, _, rfl, ite2 (fun _ => ?_) (fun _ => iteF ?_)⟩⟩
    · have stc := st3.ext ad xc S3
      refine ⟨_, rfl, R, _, rfl, .inl (SqL.of stc.hR), _, rfl, _, _, rfl, rfl, _, _, rfl, rfl, _, rfl, ite2 (fun cc => ?_) (fun _ => ?_)⟩
      · have mn2 : m + 1 < n := by
          have h := of_decide_eq_true cc
          rw [rl] at h
          omega
        have Tc := TT.ext (K := K) xc S3
        have vsc := vs3.keep vd (ExtL.ofExt (ms := [s]) xc (by simp)) Tc ss
        refine ⟨_, rfl, _, rfl, _, rfl, _, rfl, _, _, rfl, rfl, ?_⟩
        dsimp only [tNil]
        refine join_sp rfl (by omega) stc ad (i := m) (j := m + 1) (by omega) (by omega) (by omega) Ul Sc.lst.choose_spec fun r2 H8 o8 m8a m8b x8 T8 st8 => ?_
        exact q r2 vf H8 (y3.trans ((e1s xc).trans (x8.mono fun b hb => cv_l _ (cl4 (by omega) (by omega) b hb)))) (T03.trans (Tc.trans T8)) st8 (vsc.keep vd x8 T8 (cl4 (by omega) (by omega))) ((src4 ad (by omega) (by omega) Sc x8).mono (by omega))
      · clear stc
        have stc := st3.ext ad xc S3
        have Tc := TT.ext (K := K) xc S3
        have vsc := vs3.keep vd (ExtL.ofExt (ms := [s]) xc (by simp)) Tc ss
        refine ⟨_, rfl, _, rfl, s, a, _, c + 60, rfl, by omega, by omega, Sc.mono (by omega), fun o1 H6 o10 o11 x6 S6 => ?_⟩
        obtain ⟨o, rfl⟩ := Int.eq_ofNat_of_zero_le o10
        refine ⟨_, rfl, _, _, rfl, rfl, _, rfl, _, rfl, _, _, rfl, rfl, s, a, _, c + 59, rfl, by omega, by omega, S6.mono (by omega), fun d1 H7 d10 d11 x7 S7 => ?_⟩
        obtain ⟨d, rfl⟩ := Int.eq_ofNat_of_zero_le d10
        refine ⟨_, _, rfl, rfl, .inl ⟨_, rfl, _, rfl, _, _, rfl, rfl, by show (0 : Int) < ((m : Nat) : Int); omega, ?_⟩⟩
        have st7 := (stc.ext ad x6 Sc).ext ad x7 S6
        have y7 := xc.trans (x6.trans x7)
        have T7 := Tc.trans ((TT.ext (K := K) x6 Sc).trans (TT.ext x7 S6))
        have vs7 := vs3.keep vd (ExtL.ofExt (ms := [s]) y7 (by simp)) T7 ss
        obtain ⟨t, ht, tm, ot⟩ : ∃ t : Nat, (((o : Nat) : Int) + 1 + ((d : Nat) : Int)) % ((m : Nat) : Int) = ((t : Nat) : Int) ∧ t < m ∧ o ≠ t := by
          refine ⟨(o + 1 + d) % m, by rw [show ((o : Nat) : Int) + 1 + ((d : Nat) : Int) = ((o + 1 + d : Nat) : Int) by omega]; rfl, Nat.mod_lt _ (by omega), ?_⟩
          rcases (show m = 2 ∨ m = 3 ∨ m = 4 by omega) with rfl | rfl | rfl <;> omega
        refine ⟨_, rfl, _, rfl, _, rfl, _, rfl, ?_⟩
        dsimp only [tNil]
        refine join_sp rfl ht st7 ad ot (by omega) (by omega) Ul S7.lst.choose_spec fun r2 H8 o8 m8a m8b x8 T8 st8 => ?_
        exact q r2 vf H8 (y3.trans ((e1s y7).trans (x8.mono fun b hb => cv_l _ (cl4 (by omega) (by omega) b hb)))) (T03.trans (T7.trans T8)) st8 (vs7.keep vd x8 T8 (cl4 (by omega) (by omega))) ((src4 ad (by omega) (by omega) S7 x8).mono (by omega))
    · have stc := st3.ext ad xc S3
      have Tc := TT.ext (K := K) xc S3
      have vsc := vs3.keep vd (ExtL.ofExt (ms := [s]) xc (by simp)) Tc ss
      refine ⟨_, rfl, _, rfl, s, a, _, c + 60, rfl, by omega, by omega, Sc.mono (by omega), fun o1 H6 o10 o11 x6 S6 => ?_⟩
      obtain ⟨o, rfl⟩ := Int.eq_ofNat_of_zero_le o10
      refine ⟨_, rfl, _, _, rfl, rfl, _, rfl, _, rfl, _, _, rfl, rfl, s, a, _, c + 59, rfl, by omega, by omega, S6.mono (by omega), fun d1 H7 d10 d11 x7 S7 => ?_⟩
      obtain ⟨d, rfl⟩ := Int.eq_ofNat_of_zero_le d10
      refine ⟨_, _, rfl, rfl, .inl ⟨_, rfl, _, rfl, _, _, rfl, rfl, by show (0 : Int) < ((m : Nat) : Int); omega, ?_⟩⟩
      have st7 := (stc.ext ad x6 Sc).ext ad x7 S6
      have y7 := xc.trans (x6.trans x7)
      have T7 := Tc.trans ((TT.ext (K := K) x6 Sc).trans (TT.ext x7 S6))
      have vs7 := vs3.keep vd (ExtL.ofExt (ms := [s]) y7 (by simp)) T7 ss
      obtain ⟨t, ht, tm, ot⟩ : ∃ t : Nat, (((o : Nat) : Int) + 1 + ((d : Nat) : Int)) % ((m : Nat) : Int) = ((t : Nat) : Int) ∧ t < m ∧ o ≠ t := by
        refine ⟨(o + 1 + d) % m, by rw [show ((o : Nat) : Int) + 1 + ((d : Nat) : Int) = ((o + 1 + d : Nat) : Int) by omega]; rfl, Nat.mod_lt _ (by omega), ?_⟩
        rcases (show m = 2 ∨ m = 3 ∨ m = 4 by omega) with rfl | rfl | rfl <;> omega
      refine ⟨_, rfl, _, rfl, _, rfl, _, rfl, ?_⟩
      dsimp only [tNil]
      refine join_sp rfl ht st7 ad ot (by omega) (by omega) Ul S7.lst.choose_spec fun r2 H8 o8 m8a m8b x8 T8 st8 => ?_
      exact q r2 vf H8 (y3.trans ((e1s y7).trans (x8.mono fun b hb => cv_l _ (cl4 (by omega) (by omega) b hb)))) (T03.trans (T7.trans T8)) st8 (vs7.keep vd x8 T8 (cl4 (by omega) (by omega))) ((src4 ad (by omega) (by omega) S7 x8).mono (by omega))
end

end Z
namespace Z
open PySem L2 SX
theorem RL.append {α : Type} {R : α → V → Prop} {ys : List α} {vs : List V} (k : RL R ys vs) : ∀ {xs : List α} {us : List V}, RL R xs us → RL R (xs ++ ys) (us ++ vs)
  | [], us, h => by have : us = [] := h; subst this; exact k
  | _ :: _, _, h => by
    obtain ⟨v', t, rfl, h1, h2⟩ := h
    exact ⟨v', t ++ vs, rfl, h1, RL.append k h2⟩
theorem cnt_nd {x : Idn} : ∀ {l : List Idn}, l.Nodup → (l.map iD).countP (fun z => eqD z (iD x)) = if memB l x = true then 1 else 0
  | [], _ => rfl
  | y :: l, h => by
    obtain ⟨n1, n2⟩ := List.nodup_cons.mp h
    rw [List.map_cons, List.countP_cons, cnt_nd n2]
    by_cases e : y = x
    · subst e
      rw [if_neg fun z => n1 (memB_iff.mp z), if_pos (id_eqD.mpr rfl), if_pos (memB_iff.mpr (by simp))]
    · rw [if_neg (c := eqD (iD y) (iD x) = true) fun z => e (id_eqD.mp z), Nat.add_zero]
      have : memB (y :: l) x = memB l x := by
        rw [Bool.eq_iff_iff, memB_iff, memB_iff, List.mem_cons]
        exact ⟨fun h => h.resolve_left fun z => e z.symm, .inr⟩
      rw [this]
theorem rl_map {α : Type} {f : α → V} : ∀ xs : List α, RL (fun x v => v = f x) xs (xs.map f)
  | [] => rfl
  | x :: r => ⟨f x, _, rfl, rfl, rl_map r⟩
theorem cl_ex {A : Addr} {H : Hp} {n : Nat} {R Wl s : Addr} {P D W : Nat → Addr} {U : List Idn} {rf : Nat → List Idn} {ls : List V} (st : StA A H n R Wl P D W U rf) (hs : H s = some (.lst ls)) : ∀ b ∈ CL n s D W, ∃ o, H b = some o := fun b hb => by
  unfold CL at hb
  rcases List.mem_cons.mp hb with e | hb
  · rw [e]; exact ⟨_, hs⟩
  · rcases List.mem_append.mp hb with h | h
    · obtain ⟨k, hk, rfl⟩ := List.mem_map.mp h
      obtain ⟨⟨_, _, _, _, hd, _⟩, _⟩ := st.rc k (List.mem_range.mp hk)
      exact ⟨_, hd⟩
    · obtain ⟨k, hk, rfl⟩ := List.mem_map.mp h
      obtain ⟨_, _, rv, hw, _⟩ := st.rc k (List.mem_range.mp hk)
      exact ⟨_, hw⟩
theorem fresh_cl {A : Addr} {H : Hp} {n : Nat} {R Wl s : Addr} {P D W : Nat → Addr} {U : List Idn} {rf : Nat → List Idn} {ls : List V} (st : StA A H n R Wl P D W U rf) (hs : H s = some (.lst ls)) {b : Addr} (hb : H b = none) : b ∉ CL n s D W := fun m => by
  obtain ⟨o, h⟩ := cl_ex st hs b m
  rw [hb] at h; cases h
/-- a cell that is none of these is written -/
theorem StA.aside {K : PySem.W.Frag} {A : Addr} {H H' : Hp} {n : Nat} {R Wl t : Addr} {P D W : Nat → Addr} {U : List Idn} {rf : Nat → List Idn} (h : StA A H n R Wl P D W U rf) (x : ExtL [t] H H') (T : TT K H H') (f : ∀ b ∈ R :: Wl :: ((List.range n).map P ++ ((List.range n).map D ++ (List.range n).map W)), b ≠ t) : StA A H' n R Wl P D W U rf := by
  have mk : ∀ k, k < n → k ∈ List.range n := fun k h => List.mem_range.mpr h
  refine h.keepX x T (by simpa using (f R (by simp))) (by simpa using (f Wl (by simp))) fun k hk => ⟨?_, ?_, ?_⟩
  · simpa using f (P k) (List.mem_cons_of_mem _ (List.mem_cons_of_mem _ (List.mem_append_left _ (List.mem_map_of_mem (mk k hk)))))
  · simpa using f (D k) (List.mem_cons_of_mem _ (List.mem_cons_of_mem _ (List.mem_append_right _ (List.mem_append_left _ (List.mem_map_of_mem (mk k hk))))))
  · simpa using f (W k) (List.mem_cons_of_mem _ (List.mem_cons_of_mem _ (List.mem_append_right _ (List.mem_append_right _ (List.mem_map_of_mem (mk k hk))))))
theorem st_ex {A : Addr} {H : Hp} {n : Nat} {R Wl : Addr} {P D W : Nat → Addr} {U : List Idn} {rf : Nat → List Idn} (st : StA A H n R Wl P D W U rf) : ∀ b ∈ R :: Wl :: ((List.range n).map P ++ ((List.range n).map D ++ (List.range n).map W)), ∃ o, H b = some o := fun b hb => by
  rcases List.mem_cons.mp hb with e | hb
  · rw [e]; exact ⟨_, st.hR⟩
  rcases List.mem_cons.mp hb with e | hb
  · rw [e]; exact ⟨_, st.hW⟩
  rcases List.mem_append.mp hb with h | h
  · obtain ⟨k, hk, rfl⟩ := List.mem_map.mp h
    obtain ⟨⟨_, _, _, hp, _⟩, _⟩ := st.rc k (List.mem_range.mp hk)
    exact ⟨_, hp⟩
  rcases List.mem_append.mp h with h | h
  · obtain ⟨k, hk, rfl⟩ := List.mem_map.mp h
    obtain ⟨⟨_, _, _, _, hd, _⟩, _⟩ := st.rc k (List.mem_range.mp hk)
    exact ⟨_, hd⟩
  · obtain ⟨k, hk, rfl⟩ := List.mem_map.mp h
    obtain ⟨_, _, rv, hw, _⟩ := st.rc k (List.mem_range.mp hk)
    exact ⟨_, hw⟩
theorem VsA.aside {K : PySem.W.Frag} {H H' : Hp} {vn : Nat} {VL t : Addr} {X : Nat → Addr} {U : List Idn} {vf : Nat → List (Int × Idn)} (h : VsA K H vn VL X U vf) (x : ExtL [t] H H') (T : TT K H H') (nV : VL ≠ t) (nX : ∀ k, k < vn → X k ≠ t) : VsA K H' vn VL X U vf := by
  refine ⟨x _ _ (by simpa using nV) h.hV, fun k hk => ?_⟩
  obtain ⟨⟨us, h1, h2⟩, ok⟩ := h.vw k hk
  exact ⟨⟨us, x _ _ (by simpa using nX k hk) h1, h2.mono (PrAt.tt T)⟩, ok⟩
theorem VsA.same {K : PySem.W.Frag} {H H' : Hp} {vn : Nat} {VL : Addr} {X : Nat → Addr} {U : List Idn} {vf : Nat → List (Int × Idn)} (h : VsA K H vn VL X U vf) (m : Same H H') : VsA K H' vn VL X U vf := by
  refine ⟨m _ _ h.hV, fun k hk => ?_⟩
  obtain ⟨⟨us, h1, h2⟩, ok⟩ := h.vw k hk
  exact ⟨⟨us, m _ _ h1, h2.mono (PrAt.tt (TT.same m))⟩, ok⟩
def sp69_tour (K : PySem.W.Frag) (A : Addr) : Sp := fun vs H Q _ => ∃ (n m vn : Nat) (R Wl s a VL : Addr) (P D W X : Nat → Addr) (U : List Idn) (rf : Nat → List Idn) (vf : Nat → List (Int × Idn)) (c : Nat), vs = [.ref s, .ref R, .ref Wl, .int (m : Nat), .ref VL] ∧ StA A H n R Wl P D W U rf ∧ AdOk n R Wl s a D W ∧ VsA K H vn VL X U vf ∧ VdOk n vn VL s a D W X ∧ (∀ i, i < m → ∀ y, y ∈ rf i ↔ y ∈ rf 0) ∧ U.length ≤ 8 ∧ 2 ≤ m ∧ m ≤ n ∧ n ≤ 8 ∧ vn ≤ 8 ∧ Src H s a (c + 1000) ∧
  ∀ (rf' : Nat → List Idn) (H' : Hp), StA A H' n R Wl P D W U rf' → Q (.bl true) H'
section
variable {P : Program} {w : World} {K : PySem.W.Frag} {mg : Str → Option Value} {base : Heap}
theorem ok__law_tour (D : Df K mg "_law_tour" s__law_tour ["source", "readers", "rows", "many", "views"]) (T : Tx mg) {A_Reader : Addr} (O : To K mg A_Reader)  (C_Reader__new : CalM P w K mg base A_Reader "new" ["self", "view"] 1 (sp69_new K A_Reader)) (C__law_draw : Cal P w K mg base "_law_draw" ["source", "many"] 2 sp__law_draw) (C__law_join : Cal P w K mg base "_law_join" ["readers", "rows", "one", "two"] 3 (sp69_join K A_Reader)) (C__law_look : Cal P w K mg base "_law_look" ["source", "reader", "ids", "view", "share"] 6 (sp69_look K A_Reader)) (C__law_new_due : Cal P w K mg base "_law_new_due" ["view", "ids"] 1 (sp69_due K)) (C__law_same : Cal P w K mg base "_law_same" ["actual", "due"] 5 (sp__law_same K 4)) (C__law_shuffled : Cal P w K mg base "_law_shuffled" ["source", "row"] 3 (sp69_shuffled K)) : Cal P w K mg base "_law_tour" ["source", "readers", "rows", "many", "views"] 7 (sp69_tour K A_Reader) := by
  obtain ⟨f_Reader__new, fd_Reader__new, G_Reader__new, h_Reader__new, b_Reader__new⟩ := C_Reader__new
  obtain ⟨f__law_draw, fd__law_draw, G__law_draw, g__law_draw, k__law_draw, b__law_draw⟩ := C__law_draw
  obtain ⟨f__law_join, fd__law_join, G__law_join, g__law_join, k__law_join, b__law_join⟩ := C__law_join
  obtain ⟨f__law_look, fd__law_look, G__law_look, g__law_look, k__law_look, b__law_look⟩ := C__law_look
  obtain ⟨f__law_new_due, fd__law_new_due, G__law_new_due, g__law_new_due, k__law_new_due, b__law_new_due⟩ := C__law_new_due
  obtain ⟨f__law_same, fd__law_same, G__law_same, g__law_same, k__law_same, b__law_same⟩ := C__law_same
  obtain ⟨f__law_shuffled, fd__law_shuffled, G__law_shuffled, g__law_shuffled, k__law_shuffled, b__law_shuffled⟩ := C__law_shuffled
  obtain ⟨f, fd, F, gf, bf⟩ := D
  refine ⟨f, fd, F.ok sc__law_tour (fun vs H Q E h => ?_) (fun cdv A outer s₀ H vs Q E hr h => ?_), gf, F.kp, bf⟩
  · obtain ⟨n, m, vn, R, Wl, s, a, VL, P, D, W, X, U, rf, vf, c, rfl, _⟩ := h; rfl
  · obtain ⟨n, m, vn, R, Wl, s, a, VL, P, D, W, X, U, rf, vf, c, rfl, st, ad, vs, vd, eqs, Ul, m2, mn, n8, v8, hS, q⟩ := h
    refine ⟨_, (pss_cons (ps_set (i := 5) sc__law_tour.nd rfl (Or.inr rfl) (pe_callTy call_list_of (by rfl) T.n_list (by decide +kernel) (pa_cons (pe_ix ix_list (pv 2) pe_int (fun _ _ => rfl)) pa_nil)))
      (pss_cons (ps_set (i := 6) sc__law_tour.nd rfl (Or.inr rfl) (pe_lst pa_nil))
      (pss_cons (ps_set (i := 7) sc__law_tour.nd rfl (Or.inl rfl) pe_int)
      (pss_cons (ps_for PassesOwn.never rfl (pi_list (pe_call G__law_shuffled (hr.mono (by decide)) (by rfl) g__law_shuffled k__law_shuffled b__law_shuffled .nil pass0 (pa_cons (pv 0) (pa_cons (pv 4) pa_nil)))) (pg_name (i := 8) sc__law_tour.nd rfl (Or.inl rfl))
      (pss_cons (ps_set (i := 9) sc__law_tour.nd rfl (Or.inl rfl) (pe_call G__law_draw (hr.mono (by decide)) (by rfl) g__law_draw k__law_draw b__law_draw .nil pass0 (pa_cons (pv 0) (pa_cons (pv 3) pa_nil))))
        (C8.pss_cut (ps_if (PW.pt (pw_and (pt_cmpR op_ne (pv 9) (pv 7) (nomark _)) (pw_and1 (pt_not (pt_val (pe_call G__law_join (hr.mono (by decide)) (by rfl) g__law_join k__law_join b__law_join .nil pass0 (pa_cons (pv 1) (pa_cons (pv 2) (pa_cons (pv 7) (pa_cons (pv 9) pa_nil))))))))))
        (pss_one (ps_ret pe_bl))
        pss_nil)
        (pss_cons (ps_set (i := 10) sc__law_tour.nd rfl (Or.inl rfl) (pe_meth (pe_ix ix_list (pv 1) (pv 9) (fun _ _ => rfl)) O.c_Reader h_Reader__new G_Reader__new (hr.mono (by decide)) b_Reader__new .nil pass0 (pa_cons (pe_callTy call_tuple_of (by rfl) T.n_tuple (by decide +kernel) (pa_cons (pv 8) pa_nil)) pa_nil)))
        (pss_cons (ps_if (pt_not (pt_val (pe_call G__law_same (hr.mono (by decide)) (by rfl) g__law_same k__law_same b__law_same .nil pass0 (pa_cons (pv 10) (pa_cons (pe_call G__law_new_due (hr.mono (by decide)) (by rfl) g__law_new_due k__law_new_due b__law_new_due .nil pass0 (pa_cons (pv 8) (pa_cons (pe_ix ix_list (pv 2) (pv 9) (fun _ _ => rfl)) pa_nil))) pa_nil)))))
        (pss_one (ps_ret pe_bl))
        pss_nil)
        (pss_cons (ps_expr (pe_bm PySem.F.plainAttrs_list PySem.F.slot_list_extend PySem.F.type_list_extend mt_extend (pv 6) (pa_cons (pe_lc (own := [("pair", 11)]) (g := gName 11) (tt := tYes) rfl sc__law_tour.nd (pi_tup (pv 10)) (blkOk_by (own := [("pair", 11)]) (N := N__law_tour) (sc := defScope s__law_tour) (by decide +kernel)) (fun _ _ _ _ _ => pg_name (i := 11) sc__law_tour.nd rfl (Or.inl rfl)) (fun _ _ _ _ _ => pts_nil) (fun _ _ _ _ _ => (pe_ix (ix_tupQ (K := K) rfl) (pv 11) pe_int (fun _ _ => rfl)))) pa_nil)))
        (pss_cons (ps_if (pt_not (pt_val (pe_call G__law_look (hr.mono (by decide)) (by rfl) g__law_look k__law_look b__law_look .nil pass0 (pa_cons (pv 0) (pa_cons (pe_ix ix_list (pv 1) (pv 9) (fun _ _ => rfl)) (pa_cons (pe_ix ix_list (pv 2) (pv 9) (fun _ _ => rfl)) (pa_cons (pv 8) (pa_cons pe_int pa_nil))))))))
        (pss_one (ps_ret pe_bl))
        pss_nil)
        (pss_one (ps_set (i := 7) sc__law_tour.nd rfl (Or.inl rfl) (pv 9))))))))))
      (pss_cons (ps_for PassesOwn.never rfl (pi_list (pv 4)) (pg_name (i := 8) sc__law_tour.nd rfl (Or.inl rfl))
      (pss_one (ps_for PassesOwn.never rfl (pi_list (pv 8)) (pg_name (i := 11) sc__law_tour.nd rfl (Or.inl rfl))
        (pss_one (ps_if (pt_cmpR op_ne (pe_bm PySem.F.plainAttrs_list PySem.F.slot_list_count PySem.F.type_list_count (mt_countDD (room65 hr)) (pv 6) (pa_cons (pe_ix ix_tup (pv 11) pe_int (fun _ _ => rfl)) pa_nil)) (pe_callTy call_int1 (by rfl) T.n_int (by decide +kernel) (pa_cons (pe_cmpR (op_notInDDQ (K := K) rfl (room65 hr)) (pe_ix ix_tup (pv 11) pe_int (fun _ _ => rfl)) (pv 5) (by rfl)) pa_nil)) (nomark _))
          (pss_one (ps_ret pe_bl))
          pss_nil)))))
      (pss_one (ps_ret (pe_cmpR op_eq (pe_callB call_len_seq (by rfl) T.n_len PySem.boot_len (pa_cons (pv 6) pa_nil)) (pe_callB call_len_seq (by rfl) T.n_len PySem.boot_len (pa_cons (pe_lc (own := [("k", 12)]) (g := gName 12) rfl sc__law_tour.nd (pi_range1 (by rfl) T.n_range (pa_cons (pe_callB call_len_seq (by rfl) T.n_len PySem.boot_len (pa_cons (pv 6) pa_nil)) pa_nil)) (blkOk_by (own := [("k", 12)]) (N := N__law_tour) (sc := defScope s__law_tour) (by decide +kernel)) (fun _ _ _ _ _ => pg_name (i := 12) sc__law_tour.nd rfl (Or.inl rfl)) (fun _ _ _ _ _ => pts_one (pt_cmpR (op_notInDDQ (K := K) rfl (room65 hr)) (pe_ix (ix_listQ (K := K) rfl) (pv 6) (pv 12) (fun _ _ => rfl)) (pe_op L2.op_cat (pv 5) (pe_slice (sl_listK (K := K) rfl) (pv 6) po_none (po_some (pv 12)))) (by rfl))) (fun _ _ _ _ _ => (pv 12))) pa_nil)) (nomark _))))))))), ?_⟩
    have small : ∀ n : Nat, n ≤ 30000 → n < sizeLine := fun n h => Nat.lt_of_le_of_lt h (by decide)
    have n0 : 0 < n := by omega
    have sm := (cl_mem (s := s) (D := D) (W := W) n0).1
    have ss : ∀ b ∈ [s], b ∈ CL n s D W := by simpa using sm
    have vl : ((List.range vn).map fun k => V.ref (X k)).length = vn := by rw [List.length_map, List.length_range]
    obtain ⟨_, nd0, rv0, hw0, ri0⟩ := st.rc 0 n0
    refine ⟨_, rfl, Wl, _, _, _, rfl, rfl, SqL.of st.hW, atI_nat (j := 0) (rg_at n0), W 0, rv0, rfl, .inl (SqL.of hw0), fun KN hKN => ?_⟩
    have n1 := same_new (o := HO.lst rv0) hKN
    refine ⟨Nat.zero_le _, fun TL hTL => ?_⟩
    have n2 := same_new (o := HO.lst []) hTL
    have n12 := n1.trans n2
    have st1 := st.same n1
    have st2 := st.same n12
    have vs2 := vs.same n12
    have S2 := hS.ext n12
    have KNc := fresh_cl st hS.lst.choose_spec hKN
    have TLc := fresh_cl st1 (hS.ext n1).lst.choose_spec hTL
    have TLf : ∀ b ∈ R :: Wl :: ((List.range n).map P ++ ((List.range n).map D ++ (List.range n).map W)), b ≠ TL := fun b hb => by
      obtain ⟨o, h⟩ := st_ex st1 b hb
      exact ne_of_none h hTL
    have TLV : VL ≠ TL := ne_of_none (n1 _ _ vs.hV) hTL
    have TLX : ∀ k, k < vn → X k ≠ TL := fun k hk => by
      obtain ⟨⟨us, h1, _⟩, _⟩ := vs.vw k hk
      exact ne_of_none (n1 _ _ h1) hTL
    have KT : KN ≠ TL := ne_of_none upd_same hTL
    have Ts := S2.ne (p := TL)
    have TLs : TL ≠ s := fun e => TLc (by rw [e]; exact sm)
    have TLa : TL ≠ a := (hS.ext n1).nea hTL
    have hKN2 : (upd (upd H KN (HO.lst rv0)) TL (HO.lst [])) KN = some (.lst rv0) := n2 _ _ upd_same
    have hTL2 : (upd (upd H KN (HO.lst rv0)) TL (HO.lst [])) TL = some (.lst []) := upd_same
    have ri2 := ri0.mono (IsId.tt (TT.same (K := K) n12))
    generalize (upd (upd H KN (HO.lst rv0)) TL (HO.lst [])) = H2 at st2 vs2 S2 hKN2 hTL2 ri2
    refine ⟨_, rfl, _, rfl, s, a, VL, _, c + 900, rfl, .inl (SqL.of vs2.hV), by omega, S2.mono (by omega), fun Z ys H3 hZ h3 pm x3 S3 => ?_⟩
    have T3 := TT.ext (K := K) x3 S2
    have st3 := st2.ext ad x3 S2
    have vs3 := vs2.keep vd (ExtL.ofExt (ms := [s]) x3 (by simp)) T3 ss
    obtain ⟨π, pπ, rπ⟩ := RL.perm pm.symm (rl_map (f := fun k => V.ref (X k)) (List.range vn))
    have Zc := fresh_cl st2 S2.lst.choose_spec hZ
    have ZT : Z ≠ TL := (ne_of_none hTL2 hZ).symm
    have yl := rπ.len
    have πl := pπ.length_eq
    rw [List.length_range] at πl
    have KNs : KN ≠ s := fun e => KNc (by rw [e]; exact sm)
    refine ⟨Z, rfl, ⟨_, SqL.of h3⟩, ?_⟩
    refine for_list (K := K) (a := Z) (xs := ys) (fun j σ H' => ∃ (v8 v9 v10 : Option V) (last : Nat) (r : Nat → List Idn) (told : List Idn) (tv : List V), σ = [some (.ref s), some (.ref R), some (.ref Wl), some (.int (m : Nat)), some (.ref VL), some (.ref KN), some (.ref TL), some (.int (last : Nat)), v8, v9, v10, none, none] ∧ last < m ∧ StA A_Reader H' n R Wl P D W U r ∧ VsA K H' vn VL X U vf ∧ H' KN = some (.lst rv0) ∧ RL (IsId H') (rf 0) rv0 ∧ H' TL = some (.lst tv) ∧ RL (IsId H') told tv ∧ told.Nodup ∧ (∀ y ∈ told, y ∉ rf 0 ∧ y ∈ U) ∧ (∀ y, y ∈ r last ↔ y ∈ rf 0 ∨ y ∈ told) ∧ (∀ k, k < m → ∀ y ∈ r k, y ∈ rf 0 ∨ y ∈ told) ∧ (∀ e ∈ π.take j, ∀ p ∈ vf e, p.2 ∈ rf 0 ∨ p.2 ∈ told) ∧ H' Z = some (.lst ys) ∧ Src H' s a (c + 900 - 60 * j)) ⟨none, none, none, 0, rf, [], [], rfl, by omega, st3, vs3, x3 _ _ KNs hKN2, ri2.mono (IsId.tt T3), x3 _ _ TLs hTL2, rfl, List.nodup_nil, (fun _ h => by cases h), (fun y => ⟨.inl, fun h => h.elim id fun h => by cases h⟩), (fun k hk y h => .inl ((eqs k hk y).mp h)), (fun _ h => by simp at h), h3, S3⟩ (fun j σ H' _ h => by obtain ⟨_, _, _, _, _, _, _, _, _, _, _, _, _, _, _, _, _, _, _, _, h, _⟩ := h; exact SqL.of h) ?_ ?_
    · rintro j y σ H4 hj ⟨v8, v9, v10, last, r, told, tv, rfl, lm, st4, vs4, hK4, rk4, hT4, rt4, tnd, tin, rlast, rall, vis, hZ4, S4⟩
      obtain ⟨e, he, rfl⟩ := rπ.get hj
      have em : e < vn := List.mem_range.mp (pπ.mem_iff.mpr (List.mem_of_getElem? he))
      have j8 : j < vn := by have := (List.getElem?_eq_some_iff.mp he).1; omega
      obtain ⟨b, hb⟩ : ∃ b, b = c + 900 - 60 * (j + 1) := ⟨_, rfl⟩
      have S4 := S4.mono (d := b + 60) (by omega)
      refine ⟨_, rfl, _, rfl, s, a, _, b + 55, rfl, by omega, by omega, S4.mono (by omega), fun w H5 w0 w1 x5 S5 => ?_⟩
      obtain ⟨k, rfl⟩ := Int.eq_ofNat_of_zero_le w0
      have hk : k < m := by omega
      have hkn : k < n := by omega
      have T5 := TT.ext (K := K) x5 S4
      have st5 := st4.ext ad x5 S4
      have vs5 := vs4.keep vd (ExtL.ofExt (ms := [s]) x5 (by simp)) T5 ss
      refine ⟨fun σ2 H6 => σ2 = [some (.ref s), some (.ref R), some (.ref Wl), some (.int (m : Nat)), some (.ref VL), some (.ref KN), some (.ref TL), some (.int (last : Nat)), some (.ref (X e)), some (.int (k : Nat)), v10, none, none] ∧ ∃ r2, StA A_Reader H6 n R Wl P D W U r2 ∧ (∀ y, y ∈ r2 k ↔ y ∈ rf 0 ∨ y ∈ told) ∧ (∀ k', k' < m → ∀ y ∈ r2 k', y ∈ rf 0 ∨ y ∈ told) ∧ ExtL (CL n s D W) H5 H6 ∧ TT K H5 H6 ∧ Src H6 s a (b + 55), ?_, ?_⟩
      · refine ⟨_, rfl, _, rfl, rfl, _, rfl, ite2 (fun cc => ?_) (fun cc => ?_)⟩
        · have kl : last ≠ k := fun z => by
            subst z
            simp at cc
          refine ⟨_, rfl, _, rfl, _, rfl, _, rfl, ?_⟩
          dsimp only [tNil]
          refine join_sp rfl rfl st5 ad kl (by omega) hkn Ul S5.lst.choose_spec fun r2 H6 o6 ma mb x6 T6 st6 => ⟨_, rfl, iteF ?_⟩
          have all : ∀ y, y ∈ r last ∨ y ∈ r k ↔ y ∈ rf 0 ∨ y ∈ told := fun y => ⟨fun h => h.elim (rlast y).mp (rall k hk y), fun h => .inl ((rlast y).mpr h)⟩
          refine ⟨rfl, r2, st6, fun y => (mb y).trans (all y), fun k' hk' y h => ?_, x6.mono (cl4 (by omega) hkn), T6, src4 ad (by omega) hkn S5 x6⟩
          by_cases c1 : k' = last
          · rw [c1, ma] at h; exact (all y).mp h
          · by_cases c2 : k' = k
            · rw [c2, mb] at h; exact (all y).mp h
            · rw [o6 k' c1 c2] at h; exact rall k' hk' y h
        · have kl : k = last := by
            by_cases z : k = last
            · exact z
            · exact absurd (show (!decide (V.int ((k : Nat) : Int) = V.int ((last : Nat) : Int))) = true by
                rw [decide_eq_false fun h => z (by have := V.int.inj h; omega)]; rfl) cc
          subst kl
          exact iteF ⟨rfl, r, st5, rlast, rall, ExtL.refl _ _, TT.refl, S5⟩
      rintro σ2 H6 ⟨rfl, r2, st6, rk, ra, x6, T6, S6⟩
      have vs6 := vs5.keep vd x6 T6 (fun _ h => h)
      have T46 := T5.trans T6
      have hK6 := x6 _ _ KNc (x5 _ _ KNs hK4)
      have hT6 := x6 _ _ TLc (x5 _ _ TLs hT4)
      have hZ6 := x6 _ _ Zc (x5 _ _ (fun h => Zc (by rw [h]; exact sm)) hZ4)
      obtain ⟨rd6, nd6, rv6, hw6, ri6⟩ := st6.rc k hkn
      obtain ⟨dx6, _, _, hp6, _⟩ := id rd6
      obtain ⟨⟨us, hX6, rp6⟩, vo⟩ := vs6.vw e em
      have vel := vo.len
      have rkl := st6.len hkn
      have ak : ∀ (f : Nat → V), atI ((List.range n).map f) ((k : Nat) : Int) = some (f k) := fun f => atI_nat (rg_at hkn)
      refine ⟨_, rfl, _, rfl, R, _, _, _, rfl, rfl, SqL.of st6.hR, ak _, P k, dx6, _, rfl, hp6, rfl, _, rfl, X e, us, rfl, .inl ⟨SqL.of hX6, fun t ht => ?_⟩⟩
      have n7 := same_new (o := HO.tup us) ht
      refine ⟨P k, D k, t, r2 k, us, vf e, rfl, rd6.same n7, SqT.of upd_same, rp6.mono (PrAt.tt (TT.same n7)), by omega, fun u8 ws8 H8 m8 hu8 r8 => ?_⟩
      have m68 := n7.trans m8
      refine ⟨_, rfl, _, rfl, _, rfl, _, rfl, Wl, _, _, _, rfl, rfl, SqL.of (m68 _ _ st6.hW), ak _, X e, W k, us, rv6, vf e, r2 k, rfl, SqL.of (m68 _ _ hX6), rp6.mono (PrAt.tt (TT.same m68)), SqL.of (m68 _ _ hw6), ri6.mono (IsId.tt (K := K) (TT.same m68)), by omega, fun u9 ws9 H9 m9 hu9 r9 => ?_⟩
      have nl := newD_len (ps := vf e) (rs := r2 k)
      refine ⟨.tup ((newD (vf e) (r2 k)).map nuD), .ref u8, .ref u9, rfl, tupDV (m9.tup hu8) (r8.mono (PrAt.tt (TT.same m9))), tupDV hu9 r9, dl_prs (by omega), _, rfl, iteF ?_⟩
      have m69 := m68.trans m9
      have hu89 := m9.tup hu8
      have r89 := r8.mono (PrAt.tt (TT.same (K := K) m9))
      have w8l := r89.len
      have told8 : told.length ≤ 8 := by
        have := tnd.length_le_of_subset (l₂ := U) fun y h => (tin y h).2
        omega
      have tvl := rt4.len
      refine ⟨_, rfl, .inl ⟨rfl, _, SqL.of (m69 _ _ hT6)⟩, _, rfl, u8, rfl, ⟨_, hu89⟩, fun F hF => ?_⟩
      refine lc_tup (K := K) (a := u8) (xs := ws8) (fun i H' => ∃ zs, H' F = some (.lst zs) ∧ RL (IsId H') (((newD (vf e) (r2 k)).take i).map (·.2)) zs ∧ Same H9 H') ⟨[], upd_same, rfl, same_new hF⟩ (fun i H' _ h => by obtain ⟨_, _, _, m⟩ := h; exact m.tup hu89) ?_ ?_
      · rintro i y H10 hi ⟨zs, h10, r10, m10⟩
        obtain ⟨x, hx, px⟩ := r89.get hi
        have il := (List.getElem?_eq_some_iff.mp hx).1
        have zl := r10.len
        rw [List.length_map, List.length_take] at zl
        obtain ⟨t2, w2, rfl, ht2, hi2⟩ := PrAt.tt (TT.same (K := K) m10) _ _ px
        refine ⟨rfl, _, rfl, t2, _, _, _, rfl, rfl, ht2, rfl, zs, h10, small _ (by omega), zs ++ [w2], upd_same, ?_, sput m10 hF⟩
        have T11 := TT.put (K := K) (o := HO.lst (zs ++ [w2])) h10
        rw [List.take_add_one, hx, List.map_append]
        exact (r10.mono (IsId.tt T11)).snoc (hi2.tt T11)
      rintro H10 ⟨zs, h10, r10, m10⟩
      rw [w8l, List.take_length] at r10
      have zl := r10.len
      rw [List.length_map] at zl
      have m610 := m69.trans m10
      have hT10 := m610 _ _ hT6
      refine ⟨TL, F, tv, zs, rfl, rfl, hT10, h10, Nat.le_of_lt (small _ (by omega)), ?_⟩
      have T11 := TT.put (K := K) (o := HO.lst (tv ++ zs)) hT10
      have T6_11 := (TT.same m610).trans T11
      have st11 := (st6.same m610).aside (t := TL) (ExtL.put (by simp)) T11 TLf
      have vs11 := (vs6.same m610).aside (t := TL) (ExtL.put (by simp)) T11 TLV TLX
      have S11 := ((S6.ext m610).put (o := HO.lst (tv ++ zs)) TLs TLa)
      have hT11 : (upd H10 TL (HO.lst (tv ++ zs))) TL = some (.lst (tv ++ zs)) := upd_same
      have hK11 : (upd H10 TL (HO.lst (tv ++ zs))) KN = some (.lst rv0) := by rw [upd_ne KT]; exact m610 _ _ hK6
      have hZ11 : (upd H10 TL (HO.lst (tv ++ zs))) Z = some (.lst ys) := by rw [upd_ne ZT]; exact m610 _ _ hZ6
      have rk11 := rk4.mono (IsId.tt (T46.trans T6_11))
      have rt11 : RL (IsId (upd H10 TL (HO.lst (tv ++ zs)))) (told ++ (newD (vf e) (r2 k)).map (·.2)) (tv ++ zs) := RL.append (r10.mono (IsId.tt T11)) (rt4.mono (IsId.tt (T46.trans T6_11)))
      generalize upd H10 TL (HO.lst (tv ++ zs)) = H11 at st11 vs11 S11 hT11 hK11 hZ11 rk11 rt11 T11 T6_11
      have nw : ∀ p, p ∈ newD (vf e) (r2 k) ↔ p ∈ vf e ∧ ¬ (p.2 ∈ rf 0 ∨ p.2 ∈ told) := fun p => by rw [newD_mem, rk]
      have tnd' : (told ++ (newD (vf e) (r2 k)).map (·.2)).Nodup := by
        rw [List.nodup_append]
        refine ⟨tnd, vo.1.sublist (List.Sublist.map _ List.filter_sublist), fun y hy z hz q => ?_⟩
        obtain ⟨p, hp, rfl⟩ := List.mem_map.mp hz
        exact ((nw p).mp hp).2 (.inr (by rw [← q]; exact hy))
      have tin' : ∀ y ∈ told ++ (newD (vf e) (r2 k)).map (·.2), y ∉ rf 0 ∧ y ∈ U := fun y hy => by
        rcases List.mem_append.mp hy with h | h
        · exact tin y h
        · obtain ⟨p, hp, rfl⟩ := List.mem_map.mp h
          exact ⟨fun q => ((nw p).mp hp).2 (.inl q), vo.2 p ((nw p).mp hp).1⟩
      have cov : ∀ p ∈ vf e, p.2 ∈ rf 0 ∨ p.2 ∈ told ++ (newD (vf e) (r2 k)).map (·.2) := fun p hp => by
        by_cases q : p.2 ∈ rf 0 ∨ p.2 ∈ told
        · exact q.imp id fun h => List.mem_append_left _ h
        · exact .inr (List.mem_append_right _ (List.mem_map_of_mem ((nw p).mpr ⟨hp, q⟩)))
      have grow : ∀ {y}, y ∈ rf 0 ∨ y ∈ told → y ∈ rf 0 ∨ y ∈ told ++ (newD (vf e) (r2 k)).map (·.2) := fun h => h.imp id fun h => List.mem_append_left _ h
      have nk := ad.ne k hkn
      have xe := vd.x e em
      have rk2l := st11.len hkn
      refine ⟨_, rfl, _, rfl, _, rfl, R, _, _, _, rfl, rfl, SqL.of st11.hR, ak _, _, rfl, _, rfl, Wl, _, _, _, rfl, rfl, SqL.of st11.hW, ak _, _, rfl, s, a, P k, D k, W k, X e, r2 k, vf e, 2, b + 10, rfl, st11.rc k hkn, (vs11.vw e em).1, vo.1, by omega, by omega, nk.2.2.1.symm, nk.2.2.2.1.symm, nk.2.2.2.2.2, (fun z => xe.1 (by rw [z]; exact sm)), (fun z => xe.1 (by rw [z]; exact (cl_mem hkn).2.2)), S11.mono (by omega), fun rs' H12 y12 T12 rc12 k1 k2 k3 S12 => ⟨_, rfl, iteF ?_⟩⟩
      have subk : ∀ b ∈ [s, D k, W k], b = s ∨ ∃ j ∈ [k], j < n ∧ (b = D j ∨ b = W j) := fun b hb => by
        simp only [List.mem_cons, List.not_mem_nil, or_false] at hb
        rcases hb with h | h | h
        · exact .inl h
        · exact .inr ⟨k, by simp, hkn, .inl h⟩
        · exact .inr ⟨k, by simp, hkn, .inr h⟩
      have sub3 : ∀ b ∈ [s, D k, W k], b ∈ CL n s D W := by simp [sm, (cl_mem (s := s) (D := D) (W := W) hkn).2.1, (cl_mem (s := s) (D := D) (W := W) hkn).2.2]
      have both : ∀ y, y ∈ rs' ↔ y ∈ rf 0 ∨ y ∈ told ++ (newD (vf e) (r2 k)).map (·.2) := fun y => by
        constructor
        · intro h
          rcases k2 y h with h | h
          · exact grow ((rk y).mp h)
          · obtain ⟨p, hp, rfl⟩ := List.mem_map.mp h
            exact cov p hp
        · intro h
          rcases h with h | h
          · exact k1 y ((rk y).mpr (.inl h))
          · rcases List.mem_append.mp h with h | h
            · exact k1 y ((rk y).mpr (.inr h))
            · obtain ⟨p, hp, rfl⟩ := List.mem_map.mp h
              exact k3 (by decide) _ (List.mem_map_of_mem ((nw p).mp hp).1)
      have st12 := st11.keep ad y12 T12 [k] subk S11.lst.choose_spec (rf' := put r2 k rs') (fun j m hj => by
        have : j = k := by simpa using m
        subst this
        rw [put_same]
        exact ⟨rc12, fun y h => ((both y).mp h).elim (st.un 0 n0 y) fun h => (tin' y h).2⟩) (fun j m => put_ne (by simpa using m))
      refine ⟨_, rfl, _, _, _, k, put r2 k rs', _, _, rfl, hk, st12, vs11.keep vd y12 T12 sub3, y12 _ _ (fun h => KNc (sub3 _ h)) hK11, rk11.mono (IsId.tt T12), y12 _ _ (fun h => TLc (sub3 _ h)) hT11, rt11.mono (IsId.tt T12), tnd', tin', fun y => by rw [put_same]; exact both y, fun k' hk' y h => ?_, fun e' he' p hp => ?_, y12 _ _ (fun h => Zc (sub3 _ h)) hZ11, S12.mono (by omega)⟩
      · by_cases c1 : k' = k
        · rw [c1, put_same] at h; exact (both y).mp h
        · rw [put_ne c1] at h; exact grow (ra k' hk' y h)
      · rw [List.take_add_one, he] at he'
        rcases List.mem_append.mp he' with h | h
        · exact grow (vis e' h p hp)
        · have : e' = e := by simpa using h
          subst this
          exact cov p hp
    rintro σ H4 ⟨v8', v9, v10, last, r, told, tv, rfl, lm, st4, vs4, hK4, rk4, hT4, rt4, tnd, tin, rlast, rall, vis, hZ4, S4⟩
    rw [yl, List.take_length] at vis
    have vis : ∀ e, e < vn → ∀ p ∈ vf e, p.2 ∈ rf 0 ∨ p.2 ∈ told := fun e he => vis e (pπ.mem_iff.mp (List.mem_range.mpr he))
    have tvl := rt4.len
    have told8 : told.length ≤ 8 := by
      have := tnd.length_le_of_subset (l₂ := U) fun y h => (tin y h).2
      omega
    -- what was told
    refine ⟨_, rfl, VL, rfl, ⟨_, SqL.of vs4.hV⟩, ?_⟩
    refine for_list (K := K) (a := VL) (xs := (List.range vn).map fun k => V.ref (X k)) (fun j σ H' => (∃ v8 v11 : Option V, σ = [some (.ref s), some (.ref R), some (.ref Wl), some (.int (m : Nat)), some (.ref VL), some (.ref KN), some (.ref TL), some (.int (last : Nat)), v8, v9, v10, v11, none]) ∧ Same H4 H') ⟨⟨_, _, rfl⟩, Same.refl _⟩ (fun j σ H' _ h => h.2.seq (SqL.of vs4.hV)) ?_ ?_
    · rintro j y σ H5 hj ⟨⟨w8, w11, rfl⟩, m5⟩
      obtain ⟨e, he, rfl⟩ := map_get hj
      have em := List.mem_range.mp (List.mem_of_getElem? he)
      obtain ⟨⟨us, hX, rp⟩, vo⟩ := (vs4.same m5).vw e em
      refine ⟨_, rfl, X e, rfl, ⟨_, SqL.of hX⟩, ?_⟩
      refine for_list (K := K) (a := X e) (xs := us) (fun i σ H' => (∃ v11 : Option V, σ = [some (.ref s), some (.ref R), some (.ref Wl), some (.int (m : Nat)), some (.ref VL), some (.ref KN), some (.ref TL), some (.int (last : Nat)), some (.ref (X e)), v9, v10, v11, none]) ∧ Same H5 H') ⟨⟨_, rfl⟩, Same.refl _⟩ (fun i σ H' _ h => h.2.seq (SqL.of hX)) ?_ ?_
      · rintro i z σ H6 hi ⟨⟨v11, rfl⟩, m6⟩
        obtain ⟨p, hp, px⟩ := rp.get hi
        have m46 := m5.trans m6
        have T46 := TT.same (K := K) m46
        obtain ⟨t, w, rfl, ht, iw⟩ := PrAt.tt (TT.same (K := K) m6) _ _ px
        have rt6 := rt4.mono (IsId.tt T46)
        have rk6 := rk4.mono (IsId.tt T46)
        have dw := IsId.dv (K := K) _ _ iw
        refine ⟨_, rfl, .inl ⟨rfl, _, SqL.of (m46 _ _ hT4)⟩, _, rfl, t, _, _, _, rfl, rfl, ht, rfl, TL, w, tv, iD p.2, told.map iD, rfl, rfl, SqL.of (m46 _ _ hT4), rt6.dvs IsId.dv, dw, id_okd iw.1, id_okl (IdsOk rt6), ?_⟩
        refine ⟨_, rfl, t, _, _, _, rfl, rfl, ht, rfl, _, rfl, iD p.2, KN, rv0, (rf 0).map iD, dw, rfl, SqL.of (m46 _ _ hK4), rk6.dvs IsId.dv, id_okd iw.1, id_okl (IdsOk rk6), ?_⟩
        rw [if_pos rfl, memB_any]
        refine .inr ⟨_, rfl, ?_⟩
        have eq : ((((told.map iD).countP fun z => eqD z (iD p.2)) : Nat) : Int) = if (!memB (rf 0) p.2) = true then (1 : Int) else 0 := by
          rw [cnt_nd tnd]
          have h1 := vis e em p (List.mem_of_getElem? hp)
          by_cases c1 : p.2 ∈ rf 0
          · have c2 : p.2 ∉ told := fun h => (tin _ h).1 c1
            rw [if_neg fun h => c2 (memB_iff.mp h), memB_iff.mpr c1]; rfl
          · have c2 : p.2 ∈ told := h1.resolve_left c1
            have c3 : memB (rf 0) p.2 = false := Bool.eq_false_iff.mpr fun h => c1 (memB_iff.mp h)
            rw [if_pos (memB_iff.mpr c2), c3]; rfl
        refine ⟨rfl, _, rfl, ?_⟩
        rw [eq, show (!decide (V.int (if (!memB (rf 0) p.2) = true then (1 : Int) else 0) = V.int (if (!memB (rf 0) p.2) = true then (1 : Int) else 0))) = false by rw [decide_eq_true rfl]; rfl]
        exact iteF ⟨⟨_, rfl⟩, m6.trans (Same.refl _)⟩
      rintro σ H6 ⟨⟨v11, rfl⟩, m6⟩
      exact ⟨⟨_, _, rfl⟩, m5.trans m6⟩
    rintro σ H5 ⟨⟨w8, w11, rfl⟩, m5⟩
    have hT5 := m5 _ _ hT4
    have hK5 := m5 _ _ hK4
    have rt5 := rt4.mono (IsId.tt (TT.same (K := K) m5))
    have rk5 := rk4.mono (IsId.tt (TT.same (K := K) m5))
    have rkl := rk5.len
    have r08 := st.len n0
    refine ⟨_, rfl, TL, _, rfl, .inl (SqL.of hT5), _, rfl, TL, _, rfl, .inl (SqL.of hT5), _, rfl, by omega, by omega, fun D' hD' => ?_⟩
    refine lc_range (lo := 0) (n := ((tv.length : Nat) : Int).toNat) (fun j H' => ∃ zs : List V, H' D' = some (.lst zs) ∧ zs.length = j ∧ Same H5 H') ⟨[], upd_same, rfl, same_new hD'⟩ ?_ ?_
    · rintro j H6 hj ⟨zs, h6, zl, m6⟩
      rw [Int.toNat_natCast] at hj
      obtain ⟨x, hx⟩ : ∃ x, told[j]? = some x := ⟨_, List.getElem?_eq_getElem (by omega)⟩
      obtain ⟨v, hv, iv⟩ := rt5.at hx
      have T6 := TT.same (K := K) m6
      have av : atI tv (0 + ((j : Nat) : Int)) = some v := atI_pos (by omega) (by rw [show ((0 : Int) + ((j : Nat) : Int)).toNat = j by omega]; exact hv)
      refine ⟨rfl, _, rfl, _, rfl, TL, _, _, _, rfl, rfl, SqL.of (m6 _ _ hT5), av, _, rfl, _, rfl, _, rfl, _, rfl, TL, _, rfl, SqL.of (m6 _ _ hT5), fun Z2 hZ2 => ?_⟩
      rw [cutV_to (by omega), show ((0 : Int) + ((j : Nat) : Int)).toNat = j by omega]
      have n7 := same_new (o := HO.lst (tv.take j)) hZ2
      have tl : (tv.take j).length ≤ 8 := by rw [List.length_take]; omega
      refine ⟨KN, Z2, _, _, rfl, rfl, n7 _ _ (m6 _ _ hK5), upd_same, Nat.le_of_lt (small _ (by omega)), fun p hp => ?_⟩
      have n8 := same_new (o := HO.lst (rv0 ++ tv.take j)) hp
      have m58 := (m6.trans n7).trans n8
      have T8 := TT.same (K := K) m58
      have rr : RL (IsId (upd (upd H6 Z2 (HO.lst (tv.take j))) p (HO.lst (rv0 ++ tv.take j)))) (rf 0 ++ told.take j) (rv0 ++ tv.take j) := RL.append ((rt5.take j).mono (IsId.tt T8)) (rk5.mono (IsId.tt T8))
      refine ⟨iD x, p, _, _, IsId.dv _ _ (iv.tt T8), rfl, SqL.of upd_same, rr.dvs IsId.dv, id_okd iv.1, id_okl (IdsOk rr), ?_⟩
      rw [if_pos rfl, memB_any]
      have nin : memB (rf 0 ++ told.take j) x = false := Bool.eq_false_iff.mpr fun h => by
        rcases List.mem_append.mp (memB_iff.mp h) with h | h
        · exact (tin x (List.mem_of_getElem? hx)).1 h
        · obtain ⟨i, hi⟩ := List.mem_iff_getElem?.mp h
          have il : i < j := by
            have h1 : i < (told.take j).length := (List.getElem?_eq_some_iff.mp hi).1
            rw [List.length_take] at h1
            omega
          rw [List.getElem?_take_of_lt il] at hi
          have := (List.getElem?_inj (List.getElem?_eq_some_iff.mp hi).1 tnd).mp (hi.trans hx.symm)
          omega
      rw [nin]
      refine ⟨_, rfl, iteT ⟨_, rfl, zs, n8 _ _ (n7 _ _ h6), small _ (by omega), zs ++ [_], upd_same, by rw [List.length_append, zl]; rfl, sput (m6.trans (n7.trans n8)) hD'⟩⟩
    rintro H6 ⟨zs, h6, zl, m6⟩
    rw [Int.toNat_natCast] at zl
    refine ⟨D', _, rfl, .inl (SqL.of h6), rfl, ?_⟩
    rw [zl, decide_eq_true rfl]
    exact q r H6 ((st4.same m5).same m6)
end

end Z
namespace Z
open PySem L2 SX
theorem gN_eq9 {i : Nat} {v u : V} {σ : L2.St} {H : Hp} {Q : L2.St → Hp → Prop} (e : v = u) (h : gName i u σ H Q) : gName i v σ H Q := by rw [e]; exact h
theorem rg_getD {α : Type} {l : List α} {n : Nat} {d : α} {f : α → V} (h : l.length = n) : ((List.range n).map fun k => f (l.getD k d)) = l.map f := by
  subst h
  refine List.ext_getElem? fun i => ?_
  rw [List.getElem?_map, List.getElem?_map]
  by_cases c : i < l.length
  · rw [List.getElem?_range c, List.getElem?_eq_getElem c]
    show some (f (l.getD i d)) = some (f l[i])
    rw [List.getD_eq_getElem?_getD, List.getElem?_eq_getElem c]; rfl
  · rw [List.getElem?_eq_none (by rw [List.length_range]; omega), List.getElem?_eq_none (by omega)]; rfl
theorem getD_at {α : Type} {l : List α} {k : Nat} {d : α} (h : k < l.length) : l[k]? = some (l.getD k d) := by
  rw [List.getD_eq_getElem?_getD, List.getElem?_eq_getElem h]; rfl
theorem getD_ne {l : List Addr} {i j : Nat} (nd : l.Nodup) (hi : i < l.length) (hj : j < l.length) (ij : i ≠ j) : l.getD i 0 ≠ l.getD j 0 := fun e => by
  have h1 := getD_at (d := 0) hi
  have h2 := getD_at (d := 0) hj
  rw [e, ← h2] at h1
  exact ij ((List.getElem?_inj hi nd).mp h1)
theorem getD_mem {l : List Addr} {i : Nat} (hi : i < l.length) : l.getD i 0 ∈ l := List.mem_of_getElem? (getD_at hi)
theorem VwAt.keep {K : PySem.W.Frag} {H H' : Hp} {N : List Addr} {v : Addr} {ps : List (Int × Idn)} (h : VwAt K H v ps) (x : ExtL N H H') (T : TT K H H') (n : v ∉ N) : VwAt K H' v ps := by
  obtain ⟨us, h1, h2⟩ := h
  exact ⟨us, x _ _ n h1, h2.mono (PrAt.tt T)⟩
section
variable {P : Program} {w : World} {K : PySem.W.Frag} {mg : Str → Option Value} {base : Heap}
theorem ok_law {f : Addr} {fd : FuncData} (F : Fun K "law" "law" s_law f fd) (T : Tx mg) {A_Reader : Addr} (O : To K mg A_Reader)  (C_Reader____init__ : CalI P w K mg base A_Reader ["self"] 1 (sp69_init K A_Reader)) (C__law_all_right : Cal P w K mg base "_law_all_right" ["readers", "rows"] 6 (sp69_allright K A_Reader)) (C__law_chain : Cal P w K mg base "_law_chain" ["readers", "rows", "many"] 4 (sp69_chain K A_Reader)) (C__law_draw : Cal P w K mg base "_law_draw" ["source", "many"] 2 sp__law_draw) (C__law_idents : Cal P w K mg base "_law_idents" ["source"] 5 (sp69_idents K)) (C__law_source : Cal P w K mg base "_law_source" ["script"] 2 (sp__law_source K)) (C__law_step : Cal P w K mg base "_law_step" ["source", "readers", "rows", "many", "views", "idents"] 7 (sp69_step K A_Reader)) (C__law_tour : Cal P w K mg base "_law_tour" ["source", "readers", "rows", "many", "views"] 7 (sp69_tour K A_Reader)) (C__law_view : Cal P w K mg base "_law_view" ["source", "idents"] 4 (sp69_view K)) : FnOk P w K mg base CX0 8 f fd ["script"] (sp_law K) := by
  obtain ⟨f_Reader____init__, fd_Reader____init__, G_Reader____init__, h_Reader____init__, b_Reader____init__⟩ := C_Reader____init__
  obtain ⟨f__law_all_right, fd__law_all_right, G__law_all_right, g__law_all_right, k__law_all_right, b__law_all_right⟩ := C__law_all_right
  obtain ⟨f__law_chain, fd__law_chain, G__law_chain, g__law_chain, k__law_chain, b__law_chain⟩ := C__law_chain
  obtain ⟨f__law_draw, fd__law_draw, G__law_draw, g__law_draw, k__law_draw, b__law_draw⟩ := C__law_draw
  obtain ⟨f__law_idents, fd__law_idents, G__law_idents, g__law_idents, k__law_idents, b__law_idents⟩ := C__law_idents
  obtain ⟨f__law_source, fd__law_source, G__law_source, g__law_source, k__law_source, b__law_source⟩ := C__law_source
  obtain ⟨f__law_step, fd__law_step, G__law_step, g__law_step, k__law_step, b__law_step⟩ := C__law_step
  obtain ⟨f__law_tour, fd__law_tour, G__law_tour, g__law_tour, k__law_tour, b__law_tour⟩ := C__law_tour
  obtain ⟨f__law_view, fd__law_view, G__law_view, g__law_view, k__law_view, b__law_view⟩ := C__law_view
  refine F.ok sc_law (fun vs H Q E h => ?_) (fun cdv A outer s₀ H vs Q E hr h => ?_)
  · obtain ⟨A0, sc, rfl, _⟩ := h; rfl
  · obtain ⟨A0, sc, rfl, hA, hlen, q⟩ := h
    refine ⟨_, (pss_cons (ps_set (i := 1) sc_law.nd rfl (Or.inr rfl) (pe_call G__law_source (hr.mono (by decide)) (by rfl) g__law_source k__law_source b__law_source .nil pass0 (pa_cons (pv 0) pa_nil)))
      (pss_cons (ps_set (i := 2) sc_law.nd rfl (Or.inr rfl) (pe_call G__law_idents (hr.mono (by decide)) (by rfl) g__law_idents k__law_idents b__law_idents .nil pass0 (pa_cons (pv 1) pa_nil)))
      (pss_cons (ps_setLc (i := 3) (own := [("k", 8)]) (g := gName 8) (tt := tYes) rfl sc_law.nd rfl rfl (sw_true rfl rfl rfl (by decide +kernel)) (pi_range1 (by rfl) T.n_range (pa_cons (pe_op op_add pe_int (pe_call G__law_draw (hr.mono (by decide)) (by rfl) g__law_draw k__law_draw b__law_draw .nil pass0 (pa_cons (pv 1) (pa_cons pe_int pa_nil)))) pa_nil)) (blkOk_by (own := [("k", 8)]) (N := N_law) (sc := defScope s_law) (by decide +kernel)) (fun _ _ _ _ _ => pg_name (i := 8) sc_law.nd rfl (Or.inl rfl)) (fun _ _ _ _ _ => pts_nil) (fun _ _ _ _ _ => (pe_call G__law_view (hr.mono (by decide)) (by rfl) g__law_view k__law_view b__law_view .nil pass0 (pa_cons (pv 1) (pa_cons (pv 2) pa_nil)))))
      (pss_cons (ps_set (i := 4) sc_law.nd rfl (Or.inl rfl) (pe_op op_add pe_int (pe_call G__law_draw (hr.mono (by decide)) (by rfl) g__law_draw k__law_draw b__law_draw .nil pass0 (pa_cons (pv 1) (pa_cons pe_int pa_nil)))))
      (pss_cons (ps_setLc (i := 5) (own := [("k", 8)]) (g := gName 8) (tt := tYes) rfl sc_law.nd rfl rfl (sw_true rfl rfl rfl (by decide +kernel)) (pi_range1 (by rfl) T.n_range (pa_cons (pe_op op_add (pe_op op_add (pv 4) pe_int) (pe_call G__law_draw (hr.mono (by decide)) (by rfl) g__law_draw k__law_draw b__law_draw .nil pass0 (pa_cons (pv 1) (pa_cons pe_int pa_nil)))) pa_nil)) (blkOk_by (own := [("k", 8)]) (N := N_law) (sc := defScope s_law) (by decide +kernel)) (fun _ _ _ _ _ => pg_name (i := 8) sc_law.nd rfl (Or.inl rfl)) (fun _ _ _ _ _ => pts_nil) (fun _ _ _ _ _ => (pe_make0 h_Reader____init__ G_Reader____init__ (hr.mono (by decide)) (by rfl) O.g_Reader b_Reader____init__ .nil pass0)))
      (pss_cons (ps_setLc (i := 6) (own := [("reader", 9)]) (g := gName 9) (tt := tYes) rfl sc_law.nd rfl rfl (sw_true rfl rfl rfl (by decide +kernel)) (pi_list (pv 5)) (blkOk_by (own := [("reader", 9)]) (N := N_law) (sc := defScope s_law) (by decide +kernel)) (fun _ _ _ _ _ => pg_name (i := 9) sc_law.nd rfl (Or.inl rfl)) (fun _ _ _ _ _ => pts_nil) (fun _ _ _ _ _ => (pe_lst pa_nil)))
      (pss_cons (ps_for PassesOwn.never rfl (pi_range1 (by rfl) T.n_range (pa_cons (pe_call G__law_draw (hr.mono (by decide)) (by rfl) g__law_draw k__law_draw b__law_draw .nil pass0 (pa_cons (pv 1) (pa_cons pe_int pa_nil))) pa_nil)) (pg_name (i := 7) sc_law.nd rfl (Or.inl rfl))
      (pss_one (ps_if (PW.pt (pw_or (pt_not (pt_val (pe_call G__law_step (hr.mono (by decide)) (by rfl) g__law_step k__law_step b__law_step .nil pass0 (pa_cons (pv 1) (pa_cons (pv 5) (pa_cons (pv 6) (pa_cons (pv 4) (pa_cons (pv 3) (pa_cons (pv 2) pa_nil))))))))) (pw_or1 (pt_not (pt_val (pe_call G__law_all_right (hr.mono (by decide)) (by rfl) g__law_all_right k__law_all_right b__law_all_right .nil pass0 (pa_cons (pv 5) (pa_cons (pv 6) pa_nil))))))))
        (pss_one (ps_ret pe_bl))
        pss_nil)))
      (pss_cons (ps_if (PW.pt (pw_or (pt_not (pt_val (pe_call G__law_chain (hr.mono (by decide)) (by rfl) g__law_chain k__law_chain b__law_chain .nil pass0 (pa_cons (pv 5) (pa_cons (pv 6) (pa_cons (pv 4) pa_nil)))))) (pw_or1 (pt_not (pt_val (pe_call G__law_all_right (hr.mono (by decide)) (by rfl) g__law_all_right k__law_all_right b__law_all_right .nil pass0 (pa_cons (pv 5) (pa_cons (pv 6) pa_nil))))))))
      (pss_one (ps_ret pe_bl))
      pss_nil)
      (pss_one (ps_ret (pe_and (pe_call G__law_tour (hr.mono (by decide)) (by rfl) g__law_tour k__law_tour b__law_tour .nil pass0 (pa_cons (pv 1) (pa_cons (pv 5) (pa_cons (pv 6) (pa_cons (pv 4) (pa_cons (pv 3) pa_nil)))))) (pe_one (pe_call G__law_all_right (hr.mono (by decide)) (by rfl) g__law_all_right k__law_all_right b__law_all_right .nil pass0 (pa_cons (pv 5) (pa_cons (pv 6) pa_nil))))))))))))))), ?_⟩
    have small : ∀ n : Nat, n ≤ 30000 → n < sizeLine := fun n h => Nat.lt_of_le_of_lt h (by decide)
    refine ⟨_, rfl, A0, sc, rfl, hA, hlen, fun s b H1 hs m1 S1 => ?_⟩
    refine ⟨_, rfl, s, b, 1000000, rfl, S1.mono (by decide), fun I U us H2 hI0 hI rU nd Une Ul x2 S2 => ?_⟩
    have Is : I ≠ s := S1.ne hI0
    refine ⟨_, rfl, s, b, _, 900000, rfl, by decide, by decide, S2.mono (by decide), fun dv H3 d0 d1 x3 S3 => ?_⟩
    have hI3 := x3 _ _ Is hI
    have rU3 := rU.mono (IsId.tt (TT.ext (K := K) x3 S2))
    refine ⟨_, _, rfl, rfl, _, rfl, by omega, by omega, fun VL hVL => ?_⟩
    have VLs := S3.ne hVL
    have VLb := S3.nea hVL
    have VLI : I ≠ VL := ne_of_none hI3 hVL
    refine lc_range (lo := 0) (n := (1 + dv).toNat) (fun j H' => ∃ (xa : List Addr) (pl : List (List (Int × Idn))), H' VL = some (.lst (xa.map V.ref)) ∧ xa.length = j ∧ pl.length = j ∧ (∀ (i : Nat) (x : Addr) (ps : List (Int × Idn)), xa[i]? = some x → pl[i]? = some ps → VwAt K H' x ps ∧ VwOk U ps) ∧ xa.Nodup ∧ (∀ x ∈ xa, (x ≠ VL ∧ x ≠ s ∧ x ≠ b ∧ x ≠ I) ∧ ∃ o, H' x = some o) ∧ H' I = some (.lst us) ∧ RL (IsId H') U us ∧ Src H' s b (900000 - 200 * j) ∧ j ≤ 4) ⟨[], [], upd_same, rfl, rfl, (fun i x ps h _ => by simp at h), List.nodup_nil, (fun _ h => by cases h), (same_new hVL) _ _ hI3, rU3.mono (IsId.tt (K := K) (TT.same (same_new hVL))), S3.new hVL, by omega⟩ ?_ ?_
    · rintro j H4 hj ⟨xa, pl, h4, xl, ql, vw4, xnd, xne, hI4, rU4, S4, j4⟩
      refine ⟨rfl, _, rfl, _, rfl, s, b, I, U, us, 900000 - 200 * j - 150, rfl, hI4, Is, rU4, nd, Ul, S4.mono (by omega), fun v ps H5 hv vw vo x5 S5 => ?_⟩
      have T5 := TT.ext (K := K) x5 S4
      have h5 := x5 _ _ VLs h4
      have T6 := TT.put (K := K) (o := HO.lst (xa.map V.ref ++ [V.ref v])) h5
      have vVL : v ≠ VL := (ne_of_none h4 hv).symm
      have y6 : ExtL [VL] H5 (upd H5 VL (HO.lst (xa.map V.ref ++ [V.ref v]))) := ExtL.put (by simp)
      refine ⟨xa.map V.ref, h5, small _ (by rw [List.length_map]; omega), xa ++ [v], pl ++ [ps], by rw [upd_same, List.map_append]; rfl, by rw [List.length_append, xl]; rfl, by rw [List.length_append, ql]; rfl, fun i x ps' hx hp => ?_, ?_, fun x hx => ?_, y6 _ _ (by simpa using VLI) (x5 _ _ Is hI4), rU4.mono (IsId.tt (T5.trans T6)), (S5.put VLs VLb).mono (by omega), by omega⟩
      · by_cases c : i < xa.length
        · rw [List.getElem?_append_left c] at hx
          rw [List.getElem?_append_left (by omega)] at hp
          obtain ⟨w, o⟩ := vw4 i x ps' hx hp
          have xm := xne x (List.mem_of_getElem? hx)
          exact ⟨(w.keep (ExtL.ofExt (ms := [s]) x5 (by simp)) T5 (by simpa using xm.1.2.1)).keep y6 T6 (by simpa using xm.1.1), o⟩
        · rw [List.getElem?_append_right (by omega)] at hx hp
          have e0 : i - xa.length = 0 := by
            have := (List.getElem?_eq_some_iff.mp hx).1
            simp at this; omega
          rw [e0] at hx
          rw [show i - pl.length = 0 by omega] at hp
          cases hx
          cases hp
          exact ⟨vw.keep y6 T6 (by simpa using vVL), vo⟩
      · rw [List.nodup_append]
        refine ⟨xnd, List.nodup_cons.mpr ⟨by simp, List.nodup_nil⟩, fun a ha c hc z => ?_⟩
        rw [List.mem_singleton.mp hc] at z
        obtain ⟨_, o, ho⟩ := xne a ha
        rw [z, hv] at ho; cases ho
      · rcases List.mem_append.mp hx with h | h
        · obtain ⟨n1, o, ho⟩ := xne x h
          exact ⟨n1, o, y6 _ _ (by simpa using n1.1) (x5 _ _ n1.2.1 ho)⟩
        · rw [List.mem_singleton.mp h]
          exact ⟨⟨vVL, S4.ne hv, S4.nea hv, (ne_of_none hI4 hv).symm⟩, _, y6 _ _ (by simpa using vVL) vw.choose_spec.1⟩
    rintro H4 ⟨xa, pl, h4, xl, ql, vw4, xnd, xne, hI4, rU4, S4, v4⟩
    have v1 : 1 ≤ (1 + dv).toNat := by omega
    generalize (1 + dv).toNat = vn at xl ql S4 v4 v1
    -- how many
    refine ⟨_, rfl, s, b, _, 800000, rfl, by decide, by decide, S4.mono (by omega), fun mv H5 mv0 mv1 x5 S5 => ?_⟩
    obtain ⟨mv, rfl⟩ := Int.eq_ofNat_of_zero_le mv0
    refine ⟨_, _, rfl, rfl, gN_eq9 (congrArg V.int (show (2 : Int) + ((mv : Nat) : Int) = ((mv + 2 : Nat) : Int) by omega)) ?_⟩
    have mm : mv + 2 ≤ 4 ∧ 2 ≤ mv + 2 := by omega
    generalize mv + 2 = m at mm
    refine ⟨_, rfl, _, _, rfl, rfl, _, rfl, s, b, _, 790000, rfl, by decide, by decide, S5.mono (by decide), fun ev H6 ev0 ev1 x6 S6 => ?_⟩
    refine ⟨_, _, rfl, rfl, _, rfl, by omega, by omega, fun R hR => ?_⟩
    have x56 := x5.trans x6
    have T56 := (TT.ext (K := K) x5 S4).trans (TT.ext x6 S5)
    have nE : m < (((m : Nat) : Int) + 1 + ev).toNat ∧ (((m : Nat) : Int) + 1 + ev).toNat ≤ 6 := by omega
    generalize (((m : Nat) : Int) + 1 + ev).toNat = n at nE
    have hV6 := x56 _ _ VLs h4
    have hI6 := x56 _ _ Is hI4
    have rU6 := rU4.mono (IsId.tt T56)
    have vw6 : ∀ (i : Nat) (x : Addr) (ps : List (Int × Idn)), xa[i]? = some x → pl[i]? = some ps → VwAt K H6 x ps ∧ VwOk U ps := fun i x ps hx hp => by
      obtain ⟨w, o⟩ := vw4 i x ps hx hp
      exact ⟨w.keep (ExtL.ofExt (ms := [s]) x56 (by simp)) T56 (by simpa using (xne x (List.mem_of_getElem? hx)).1.2.1), o⟩
    have xo6 : ∀ x ∈ xa, ∃ o, H6 x = some o := fun x hx => by
      obtain ⟨n1, o, ho⟩ := xne x hx
      exact ⟨o, x56 _ _ n1.2.1 ho⟩
    have Rs := S6.ne hR
    -- the readers
    refine lc_range (lo := 0) (n := n) (fun j H' => ∃ (pa da : List Addr), H' R = some (.lst (pa.map V.ref)) ∧ pa.length = j ∧ da.length = j ∧ (∀ (i : Nat) (p d : Addr), pa[i]? = some p → da[i]? = some d → RdAt A_Reader H' p d []) ∧ da.Nodup ∧ (∀ d ∈ da, H6 d = none ∧ ∃ o, H' d = some o) ∧ (∀ p ∈ pa, H6 p = none ∧ p ≠ R ∧ ∃ o, H' p = some o) ∧ Same H6 H') ⟨[], [], upd_same, rfl, rfl, (fun i x ps h _ => by simp at h), List.nodup_nil, (fun _ h => by cases h), (fun _ h => by cases h), same_new hR⟩ ?_ ?_
    · rintro j H7 hj ⟨pa, da, h7, pl7, dl7, rd7, dnd, dfr, pfr, m7⟩
      refine ⟨rfl, fun p dx hp hdx dp => ?_⟩
      have j1 := same_new (o := HO.own p) hdx
      have jp : (upd H7 dx (.own p)) p = none := by rw [upd_ne dp.symm]; exact hp
      have j12 := j1.trans (same_new (o := HO.ins A_Reader dx []) jp)
      refine ⟨p, dx, rfl, upd_same, fun d H8 hd x8 rd8 => ⟨rfl, ?_⟩⟩
      have m8 : Same H7 H8 := fun c o hc => x8 _ _ (by simpa using ne_of_none hc hp) (j12 _ _ hc)
      have hd7 : H7 d = none := Same.free j12 hd
      have h8 := m8 _ _ h7
      have pR : p ≠ R := (ne_of_none h7 hp).symm
      have dR : d ≠ R := (ne_of_none h7 hd7).symm
      have y9 : ExtL [R] H8 (upd H8 R (HO.lst (pa.map V.ref ++ [V.ref p]))) := ExtL.put (by simp)
      obtain ⟨dx8, kv8, _, hp8, hd8, _⟩ := id rd8
      refine ⟨pa.map V.ref, h8, small _ (by rw [List.length_map]; omega), pa ++ [p], da ++ [d], by rw [upd_same, List.map_append]; rfl, by rw [List.length_append, pl7]; rfl, by rw [List.length_append, dl7]; rfl, fun i p' d' hx hd' => ?_, ?_, fun d' hm => ?_, fun p' hm => ?_, sput (m7.trans m8) hR⟩
      · by_cases c : i < pa.length
        · rw [List.getElem?_append_left c] at hx
          rw [List.getElem?_append_left (by omega)] at hd'
          have r := (rd7 i p' d' hx hd').same m8
          obtain ⟨_, n1, _⟩ := pfr p' (List.mem_of_getElem? hx)
          obtain ⟨_, o, ho⟩ := dfr d' (List.mem_of_getElem? hd')
          have dn : d' ≠ R := fun z => by
            obtain ⟨_, _, _, _, hdd, _⟩ := r
            rw [z, h8] at hdd; cases hdd
          exact r.ext y9 (by simpa using n1) (by simpa using dn)
        · rw [List.getElem?_append_right (by omega)] at hx hd'
          have e0 : i - pa.length = 0 := by
            have := (List.getElem?_eq_some_iff.mp hx).1
            simp at this; omega
          rw [e0] at hx
          rw [show i - da.length = 0 by omega] at hd'
          cases hx
          cases hd'
          exact rd8.ext y9 (by simpa using pR) (by simpa using dR)
      · rw [List.nodup_append]
        refine ⟨dnd, List.nodup_cons.mpr ⟨by simp, List.nodup_nil⟩, fun a ha c hc z => ?_⟩
        rw [List.mem_singleton.mp hc] at z
        obtain ⟨_, o, ho⟩ := dfr a ha
        rw [z, hd7] at ho; cases ho
      · rcases List.mem_append.mp hm with h | h
        · obtain ⟨n1, o, ho⟩ := dfr d' h
          by_cases z : d' = R
          · exact ⟨n1, _, by rw [z]; exact upd_same⟩
          · exact ⟨n1, o, y9 _ _ (by simpa using z) (m8 _ _ ho)⟩
        · rw [List.mem_singleton.mp h]
          exact ⟨Same.free m7 hd7, _, y9 _ _ (by simpa using dR) hd8⟩
      · rcases List.mem_append.mp hm with h | h
        · obtain ⟨n1, n2, o, ho⟩ := pfr p' h
          exact ⟨n1, n2, o, y9 _ _ (by simpa using n2) (m8 _ _ ho)⟩
        · rw [List.mem_singleton.mp h]
          exact ⟨Same.free m7 hp, pR, _, y9 _ _ (by simpa using pR) hp8⟩
    rintro H7 ⟨pa, da, h7, pl7, dl7, rd7, dnd, dfr, pfr, m7⟩
    -- the rows
    refine ⟨_, rfl, R, rfl, ⟨_, SqL.of h7⟩, fun Wl hWl => ?_⟩
    refine lc_list (K := K) (a := R) (xs := pa.map V.ref) (fun j H' => ∃ wa : List Addr, H' Wl = some (.lst (wa.map V.ref)) ∧ wa.length = j ∧ (∀ w ∈ wa, H' w = some (.lst []) ∧ w ≠ Wl ∧ H7 w = none) ∧ wa.Nodup ∧ Same H7 H') ⟨[], upd_same, rfl, (fun _ h => by cases h), List.nodup_nil, same_new hWl⟩ (fun j H' _ h => by obtain ⟨_, _, _, _, _, m⟩ := h; exact m.seq (SqL.of h7)) ?_ ?_
    · rintro j y H8 hj ⟨wa, h8, wl8, w8, wnd, m8⟩
      obtain ⟨p', hp', rfl⟩ := map_get hj
      have il := (List.getElem?_eq_some_iff.mp hp').1
      refine ⟨rfl, Nat.zero_le _, fun w hw => ?_⟩
      have n9 := same_new (o := HO.lst []) hw
      have wW : w ≠ Wl := (ne_of_none h8 hw).symm
      refine ⟨wa.map V.ref, n9 _ _ h8, small _ (by rw [List.length_map]; omega), wa ++ [w], by rw [upd_same, List.map_append]; rfl, by rw [List.length_append, wl8]; rfl, fun w' hm => ?_, ?_, sput (m8.trans n9) hWl⟩
      · rcases List.mem_append.mp hm with h | h
        · obtain ⟨a1, a2, a3⟩ := w8 w' h
          exact ⟨by rw [upd_ne a2]; exact n9 _ _ a1, a2, a3⟩
        · rw [List.mem_singleton.mp h]
          exact ⟨by rw [upd_ne wW]; exact upd_same, wW, Same.free m8 hw⟩
      · rw [List.nodup_append]
        refine ⟨wnd, List.nodup_cons.mpr ⟨by simp, List.nodup_nil⟩, fun a ha c hc z => ?_⟩
        rw [List.mem_singleton.mp hc] at z
        have := (w8 a ha).1
        rw [z, hw] at this; cases this
    rintro H8 ⟨wa, h8, wl8, w8, wnd, m8⟩
    rw [List.length_map, pl7] at wl8
    have S8 := (S6.ext m7).ext m8
    have m68 := m7.trans m8
    have T68 := TT.same (K := K) m68
    have hR8 := m8 _ _ h7
    have old : ∀ {c o}, H6 c = some o → ∀ {d : Addr}, H6 d = none → c ≠ d := fun h _ k => ne_of_none h k
    have st8 : StA A_Reader H8 n R Wl (fun k => pa.getD k 0) (fun k => da.getD k 0) (fun k => wa.getD k 0) U (fun _ => []) := by
      refine ⟨by rw [rg_getD (f := V.ref) pl7]; exact hR8, by rw [rg_getD (f := V.ref) wl8]; exact h8, fun k hk => ⟨(rd7 k _ _ (getD_at (by omega)) (getD_at (by omega))).same m8, List.nodup_nil, [], (w8 _ (getD_mem (by omega))).1, rfl⟩, fun k hk x h => by cases h⟩
    have s6 := S6.lst.choose_spec
    have Wfr : ∀ w ∈ wa, H6 w = none := fun w h => Same.free m7 (w8 w h).2.2
    have Wl6 : H6 Wl = none := Same.free m7 hWl
    obtain ⟨ns, si, sb, se, stt, hs6, hb6, _⟩ := id S6
    have ad : AdOk n R Wl s b (fun k => da.getD k 0) (fun k => wa.getD k 0) := by
      refine ⟨fun i j hi hj ij => getD_ne dnd (by omega) (by omega) ij, fun i j hi hj ij => getD_ne wnd (by omega) (by omega) ij, fun i hi => ?_, ⟨Rs, (S6.ext m7).ne hWl⟩⟩
      have wm := getD_mem (l := wa) (i := i) (by omega)
      have dm := getD_mem (l := da) (i := i) (by omega)
      have wf := w8 _ wm
      have df := dfr _ dm
      exact ⟨ne_of_none h7 wf.2.2, wf.2.1.symm, (S6.ne (Wfr _ wm)).symm, (S6.nea (Wfr _ wm)).symm, (S6.ne df.1).symm, (S6.nea df.1).symm⟩
    have clf : ∀ c, c ≠ s → (∃ o, H6 c = some o) → c ∉ CL n s (fun k => da.getD k 0) (fun k => wa.getD k 0) := fun c cs ⟨o, ho⟩ m => by
      unfold CL at m
      rcases List.mem_cons.mp m with h | m
      · exact cs h
      rcases List.mem_append.mp m with h | h
      · obtain ⟨k, hk, rfl⟩ := List.mem_map.mp h
        have := (dfr _ (getD_mem (l := da) (i := k) (by have := List.mem_range.mp hk; omega))).1
        rw [ho] at this; cases this
      · obtain ⟨k, hk, rfl⟩ := List.mem_map.mp h
        have := Wfr _ (getD_mem (l := wa) (i := k) (by have := List.mem_range.mp hk; omega))
        rw [ho] at this; cases this
    have vs8 : VsA K H8 vn VL (fun k => xa.getD k 0) U (fun k => pl.getD k []) := by
      refine ⟨by rw [rg_getD (f := V.ref) xl]; exact m68 _ _ hV6, fun k hk => ?_⟩
      obtain ⟨w, o⟩ := vw6 k _ _ (getD_at (d := 0) (by omega)) (getD_at (d := []) (by omega))
      exact ⟨w.keep (N := []) (ExtL.of m68) T68 (by simp), o⟩
    have vd : VdOk n vn VL s b (fun k => da.getD k 0) (fun k => wa.getD k 0) (fun k => xa.getD k 0) := by
      refine ⟨clf _ VLs ⟨_, hV6⟩, fun k hk => ?_, fun i j hi hj ij => getD_ne xnd (by omega) (by omega) ij⟩
      have xm := getD_mem (l := xa) (i := k) (by omega)
      obtain ⟨⟨a1, a2, a3, a4⟩, _⟩ := xne _ xm
      exact ⟨clf _ a2 (xo6 _ xm), a1, a3⟩
    have xr : ∀ k, k < vn → (fun k => xa.getD k 0) k ≠ R ∧ (fun k => xa.getD k 0) k ≠ Wl := fun k hk => by
      obtain ⟨o, ho⟩ := xo6 _ (getD_mem (l := xa) (i := k) (by omega))
      exact ⟨ne_of_none ho hR, ne_of_none ho Wl6⟩
    have In : I ∉ CV n vn s (fun k => da.getD k 0) (fun k => wa.getD k 0) (fun k => xa.getD k 0) := fun m => by
      rcases List.mem_append.mp m with h | h
      · exact clf _ Is ⟨_, hI6⟩ h
      · obtain ⟨k, hk, e⟩ := List.mem_map.mp h
        exact (xne _ (getD_mem (l := xa) (i := k) (by have := List.mem_range.mp hk; omega))).1.2.2.2 e
    have hI8 := m68 _ _ hI6
    have rU8 := rU6.mono (IsId.tt T68)
    have S8 := S8.mono (d := 700000) (by decide)
    clear vw6 vw4 rd7 w8 dfr pfr xne xo6 clf Wfr
    generalize (fun k => pa.getD k 0) = P at st8
    generalize (fun k => da.getD k 0) = D at st8 ad vd In
    generalize (fun k => wa.getD k 0) = W at st8 ad vd In
    generalize (fun k => xa.getD k 0) = X at vs8 vd xr In
    generalize (fun k => pl.getD k []) = vf0 at vs8
    -- the steps
    refine ⟨_, rfl, s, b, _, 690000, rfl, by decide, by decide, S8.mono (by decide), fun sv H9 sv0 sv1 x9 S9 => ?_⟩
    have st9 := st8.ext ad x9 S8
    have T9 := TT.ext (K := K) x9 S8
    have vs9 := vs8.keep vd (ExtL.ofExt (ms := [s]) x9 (by simp)) T9 (by simpa using (cl_mem (n := n) (k := 0) (s := s) (D := D) (W := W) (by omega)).1)
    refine ⟨_, rfl, by omega, by omega, ?_⟩
    refine for_range (lo := 0) (n := sv.toNat) (fun j σ H' => ∃ (v7 : Option V) (rf : Nat → List Idn) (vf : Nat → List (Int × Idn)), σ = [some (.ref A0), some (.ref s), some (.ref I), some (.ref VL), some (.int (m : Nat)), some (.ref R), some (.ref Wl), v7, none, none] ∧ StA A_Reader H' n R Wl P D W U rf ∧ VsA K H' vn VL X U vf ∧ H' I = some (.lst us) ∧ RL (IsId H') U us ∧ Src H' s b (690000 - 1000 * j) ∧ j ≤ 15) ⟨_, _, _, rfl, st9, vs9, x9 _ _ Is hI8, rU8.mono (IsId.tt T9), S9, by omega⟩ ?_ ?_
    · rintro j σ H10 hj ⟨v7, rf, vf, rfl, st10, vs10, hI10, rU10, S10, j15⟩
      have j14 : j ≤ 14 := by omega
      refine ⟨_, rfl, _, rfl, _, rfl, _, rfl, _, rfl, _, rfl, n, m, vn, R, Wl, s, b, VL, I, P, D, W, X, U, us, rf, vf, 690000 - 1000 * j - 500, rfl, st10, ad, vs10, vd, xr, hI10, rU10, In, Une, Ul, mm.2, mm.1, nE.1, by omega, v1, by omega, S10.mono (by omega), fun rf' vf' H11 y11 T11 st11 vs11 S11 => ?_⟩
      refine ⟨_, rfl, iteF ⟨_, rfl, _, rfl, n, R, Wl, P, D, W, U, rf', rfl, st11, Ul, by omega, fun H12 m12 => ⟨_, rfl, iteF ?_⟩⟩⟩
      exact ⟨_, rf', vf', rfl, st11.same m12, vs11.same m12, m12 _ _ (y11 _ _ In hI10), (rU10.mono (IsId.tt T11)).mono (IsId.tt (K := K) (TT.same m12)), (S11.ext m12).mono (by omega), by omega⟩
    rintro σ H10 ⟨v7, rf, vf, rfl, st10, vs10, hI10, rU10, S10, j15⟩
    -- the chain
    refine ⟨_, rfl, _, rfl, _, rfl, n, m, R, Wl, s, b, P, D, W, U, rf, 600000, rfl, st10, ad, Ul, mm.2, by omega, by omega, S10.mono (by omega), fun rf' H11 eqs y11 T11 st11 S11 => ?_⟩
    have vs11 := vs10.keep vd y11 T11 (fun _ h => h)
    refine ⟨_, rfl, iteF ⟨_, rfl, _, rfl, n, R, Wl, P, D, W, U, rf', rfl, st11, Ul, by omega, fun H12 m12 => ⟨_, rfl, iteF ?_⟩⟩⟩
    -- the tour
    refine ⟨_, rfl, _, rfl, _, rfl, _, rfl, _, rfl, n, m, vn, R, Wl, s, b, VL, P, D, W, X, U, rf', vf, 500000, rfl, st11.same m12, ad, vs11.same m12, vd, eqs, Ul, mm.2, by omega, by omega, by omega, (S11.ext m12).mono (by decide), fun rf2 H13 st13 => ⟨true, rfl, iteT ?_⟩⟩
    exact ⟨_, rfl, _, rfl, n, R, Wl, P, D, W, U, rf2, rfl, st13, Ul, by omega, fun H14 m14 => q H14⟩
end

end Z
namespace Z
open PySem L2 SX
set_option maxHeartbeats 0 in
theorem all_mk {l : PySem.W.OpenLaw} {w : World} {K : PySem.W.Frag} {h : Heap} {mg : Str → Option Value} {fa : Addr} (X : K.In h) (G : h.Ns mainGlobals mg) (hfa : mg "law" = some (.ref fa))
    {f0 : Addr} {od0 an0 : Option Addr} {sl0 : Array (Option Value)} {oc0 kV0 dc0 pm0 cd0 ct0 : Value}
    {f1 : Addr} {od1 an1 : Option Addr} {sl1 : Array (Option Value)} {oc1 kV1 dc1 pm1 cd1 ct1 : Value}
    {f2 : Addr} {od2 an2 : Option Addr} {sl2 : Array (Option Value)} {oc2 kV2 dc2 pm2 cd2 ct2 : Value}
    {f3 : Addr} {od3 an3 : Option Addr} {sl3 : Array (Option Value)} {oc3 kV3 dc3 pm3 cd3 ct3 : Value}
    {f4 : Addr} {od4 an4 : Option Addr} {sl4 : Array (Option Value)} {oc4 kV4 dc4 pm4 cd4 ct4 : Value}
    {f5 : Addr} {od5 an5 : Option Addr} {sl5 : Array (Option Value)} {oc5 kV5 dc5 pm5 cd5 ct5 : Value}
    {f6 : Addr} {od6 an6 : Option Addr} {sl6 : Array (Option Value)} {oc6 kV6 dc6 pm6 cd6 ct6 : Value}
    {f7 : Addr} {od7 an7 : Option Addr} {sl7 : Array (Option Value)} {oc7 kV7 dc7 pm7 cd7 ct7 : Value}
    {f8 : Addr} {od8 an8 : Option Addr} {sl8 : Array (Option Value)} {oc8 kV8 dc8 pm8 cd8 ct8 : Value}
    {f9 : Addr} {od9 an9 : Option Addr} {sl9 : Array (Option Value)} {oc9 kV9 dc9 pm9 cd9 ct9 : Value}
    {f10 : Addr} {od10 an10 : Option Addr} {sl10 : Array (Option Value)} {oc10 kV10 dc10 pm10 cd10 ct10 : Value}
    {f11 : Addr} {od11 an11 : Option Addr} {sl11 : Array (Option Value)} {oc11 kV11 dc11 pm11 cd11 ct11 : Value}
    {f12 : Addr} {od12 an12 : Option Addr} {sl12 : Array (Option Value)} {oc12 kV12 dc12 pm12 cd12 ct12 : Value}
    {f13 : Addr} {od13 an13 : Option Addr} {sl13 : Array (Option Value)} {oc13 kV13 dc13 pm13 cd13 ct13 : Value}
    {f14 : Addr} {od14 an14 : Option Addr} {sl14 : Array (Option Value)} {oc14 kV14 dc14 pm14 cd14 ct14 : Value}
    {f15 : Addr} {od15 an15 : Option Addr} {sl15 : Array (Option Value)} {oc15 kV15 dc15 pm15 cd15 ct15 : Value}
    {f16 : Addr} {od16 an16 : Option Addr} {sl16 : Array (Option Value)} {oc16 kV16 dc16 pm16 cd16 ct16 : Value}
    {f17 : Addr} {od17 an17 : Option Addr} {sl17 : Array (Option Value)} {oc17 kV17 dc17 pm17 cd17 ct17 : Value}
    {f18 : Addr} {od18 an18 : Option Addr} {sl18 : Array (Option Value)} {oc18 kV18 dc18 pm18 cd18 ct18 : Value}
    {f19 : Addr} {od19 an19 : Option Addr} {sl19 : Array (Option Value)} {oc19 kV19 dc19 pm19 cd19 ct19 : Value}
    {f20 : Addr} {od20 an20 : Option Addr} {sl20 : Array (Option Value)} {oc20 kV20 dc20 pm20 cd20 ct20 : Value}
    {f21 : Addr} {od21 an21 : Option Addr} {sl21 : Array (Option Value)} {oc21 kV21 dc21 pm21 cd21 ct21 : Value}
    {f22 : Addr} {od22 an22 : Option Addr} {sl22 : Array (Option Value)} {oc22 kV22 dc22 pm22 cd22 ct22 : Value}
    {f23 : Addr} {od23 an23 : Option Addr} {sl23 : Array (Option Value)} {oc23 kV23 dc23 pm23 cd23 ct23 : Value}
    {f24 : Addr} {od24 an24 : Option Addr} {sl24 : Array (Option Value)} {oc24 kV24 dc24 pm24 cd24 ct24 : Value}
    {A_Reader : Addr}
    (oG_Reader : PySem.W.nsIn K mainGlobals "Reader" = some (some (.ref A_Reader)))
    (oP_Reader : PySem.W.plainGet K A_Reader Str.empty = true)
    (oD_Reader : PySem.W.hasDictIn K A_Reader = true)
    (oO_Reader : PySem.W.plainOver K A_Reader = true)
    (oS_Reader : PySem.W.findIn K (.ref A_Reader) "__setattr__" = some (some (.builtin "object.__setattr__")))
    (oM_Reader : PySem.W.makesIn K A_Reader = true)
    (oK_Reader : PySem.W.keepIn K (.ref A_Reader) = true)
    (oN_Reader__read : PySem.W.findIn K (.ref A_Reader) "_read" = some none)
    (a0 : PySem.W.findIn K (.ref A_Reader) "__init__" = some (some (.ref f0)))
    (i0 : PySem.W.isFn K (.ref f0) = true)
    (l0 : K.lookup f0 = some ⟨oc0, od0, .func (PySem.W.fnOf "__init__" "Reader.__init__" (defArgs s_Reader____init__) (defBody s_Reader____init__) (defScope s_Reader____init__) .none kV0 dc0 pm0 an0 cd0 ct0), sl0⟩)
    (c0 : PySem.W.codeIn K cd0 "Reader.__init__" = true)
    (k0 : PySem.W.keepIn K (.ref f0) = true)
    (a1 : PySem.W.findIn K (.ref A_Reader) "new" = some (some (.ref f1)))
    (i1 : PySem.W.isFn K (.ref f1) = true)
    (l1 : K.lookup f1 = some ⟨oc1, od1, .func (PySem.W.fnOf "new" "Reader.new" (defArgs s_Reader__new) (defBody s_Reader__new) (defScope s_Reader__new) .none kV1 dc1 pm1 an1 cd1 ct1), sl1⟩)
    (c1 : PySem.W.codeIn K cd1 "Reader.new" = true)
    (k1 : PySem.W.keepIn K (.ref f1) = true)
    (a2 : PySem.W.findIn K (.ref A_Reader) "read" = some (some (.ref f2)))
    (i2 : PySem.W.isFn K (.ref f2) = true)
    (l2 : K.lookup f2 = some ⟨oc2, od2, .func (PySem.W.fnOf "read" "Reader.read" (defArgs s_Reader__read) (defBody s_Reader__read) (defScope s_Reader__read) .none kV2 dc2 pm2 an2 cd2 ct2), sl2⟩)
    (c2 : PySem.W.codeIn K cd2 "Reader.read" = true)
    (k2 : PySem.W.keepIn K (.ref f2) = true)
    (a3 : PySem.W.findIn K (.ref A_Reader) "meet" = some (some (.ref f3)))
    (i3 : PySem.W.isFn K (.ref f3) = true)
    (l3 : K.lookup f3 = some ⟨oc3, od3, .func (PySem.W.fnOf "meet" "Reader.meet" (defArgs s_Reader__meet) (defBody s_Reader__meet) (defScope s_Reader__meet) .none kV3 dc3 pm3 an3 cd3 ct3), sl3⟩)
    (c3 : PySem.W.codeIn K cd3 "Reader.meet" = true)
    (k3 : PySem.W.keepIn K (.ref f3) = true)
    (a4 : PySem.W.findIn K (.ref A_Reader) "ids" = some (some (.ref f4)))
    (i4 : PySem.W.isFn K (.ref f4) = true)
    (l4 : K.lookup f4 = some ⟨oc4, od4, .func (PySem.W.fnOf "ids" "Reader.ids" (defArgs s_Reader__ids) (defBody s_Reader__ids) (defScope s_Reader__ids) .none kV4 dc4 pm4 an4 cd4 ct4), sl4⟩)
    (c4 : PySem.W.codeIn K cd4 "Reader.ids" = true)
    (k4 : PySem.W.keepIn K (.ref f4) = true)
    (a5 : PySem.W.nsIn K mainGlobals "_law_mix" = some (some (.ref f5))) (l5 : K.lookup f5 = some ⟨oc5, od5, .func (PySem.W.fnOf "_law_mix" "_law_mix" (defArgs s__law_mix) (defBody s__law_mix) (defScope s__law_mix) .none kV5 dc5 pm5 an5 cd5 ct5), sl5⟩) (c5 : PySem.W.codeIn K cd5 "_law_mix" = true) (k5 : PySem.W.keepIn K (.ref f5) = true)
    (a6 : PySem.W.nsIn K mainGlobals "_law_source" = some (some (.ref f6))) (l6 : K.lookup f6 = some ⟨oc6, od6, .func (PySem.W.fnOf "_law_source" "_law_source" (defArgs s__law_source) (defBody s__law_source) (defScope s__law_source) .none kV6 dc6 pm6 an6 cd6 ct6), sl6⟩) (c6 : PySem.W.codeIn K cd6 "_law_source" = true) (k6 : PySem.W.keepIn K (.ref f6) = true)
    (a7 : PySem.W.nsIn K mainGlobals "_law_draw" = some (some (.ref f7))) (l7 : K.lookup f7 = some ⟨oc7, od7, .func (PySem.W.fnOf "_law_draw" "_law_draw" (defArgs s__law_draw) (defBody s__law_draw) (defScope s__law_draw) .none kV7 dc7 pm7 an7 cd7 ct7), sl7⟩) (c7 : PySem.W.codeIn K cd7 "_law_draw" = true) (k7 : PySem.W.keepIn K (.ref f7) = true)
    (a8 : PySem.W.nsIn K mainGlobals "_law_pick" = some (some (.ref f8))) (l8 : K.lookup f8 = some ⟨oc8, od8, .func (PySem.W.fnOf "_law_pick" "_law_pick" (defArgs s__law_pick) (defBody s__law_pick) (defScope s__law_pick) .none kV8 dc8 pm8 an8 cd8 ct8), sl8⟩) (c8 : PySem.W.codeIn K cd8 "_law_pick" = true) (k8 : PySem.W.keepIn K (.ref f8) = true)
    (a9 : PySem.W.nsIn K mainGlobals "_law_shuffled" = some (some (.ref f9))) (l9 : K.lookup f9 = some ⟨oc9, od9, .func (PySem.W.fnOf "_law_shuffled" "_law_shuffled" (defArgs s__law_shuffled) (defBody s__law_shuffled) (defScope s__law_shuffled) .none kV9 dc9 pm9 an9 cd9 ct9), sl9⟩) (c9 : PySem.W.codeIn K cd9 "_law_shuffled" = true) (k9 : PySem.W.keepIn K (.ref f9) = true)
    (a10 : PySem.W.nsIn K mainGlobals "_law_new_name" = some (some (.ref f10))) (l10 : K.lookup f10 = some ⟨oc10, od10, .func (PySem.W.fnOf "_law_new_name" "_law_new_name" (defArgs s__law_new_name) (defBody s__law_new_name) (defScope s__law_new_name) .none kV10 dc10 pm10 an10 cd10 ct10), sl10⟩) (c10 : PySem.W.codeIn K cd10 "_law_new_name" = true) (k10 : PySem.W.keepIn K (.ref f10) = true)
    (a11 : PySem.W.nsIn K mainGlobals "_law_names" = some (some (.ref f11))) (l11 : K.lookup f11 = some ⟨oc11, od11, .func (PySem.W.fnOf "_law_names" "_law_names" (defArgs s__law_names) (defBody s__law_names) (defScope s__law_names) .none kV11 dc11 pm11 an11 cd11 ct11), sl11⟩) (c11 : PySem.W.codeIn K cd11 "_law_names" = true) (k11 : PySem.W.keepIn K (.ref f11) = true)
    (a12 : PySem.W.nsIn K mainGlobals "_law_is_int" = some (some (.ref f12))) (l12 : K.lookup f12 = some ⟨oc12, od12, .func (PySem.W.fnOf "_law_is_int" "_law_is_int" (defArgs s__law_is_int) (defBody s__law_is_int) (defScope s__law_is_int) .none kV12 dc12 pm12 an12 cd12 ct12), sl12⟩) (c12 : PySem.W.codeIn K cd12 "_law_is_int" = true) (k12 : PySem.W.keepIn K (.ref f12) = true)
    (a13 : PySem.W.nsIn K mainGlobals "_law_same" = some (some (.ref f13))) (l13 : K.lookup f13 = some ⟨oc13, od13, .func (PySem.W.fnOf "_law_same" "_law_same" (defArgs s__law_same) (defBody s__law_same) (defScope s__law_same) .none kV13 dc13 pm13 an13 cd13 ct13), sl13⟩) (c13 : PySem.W.codeIn K cd13 "_law_same" = true) (k13 : PySem.W.keepIn K (.ref f13) = true)
    (a14 : PySem.W.nsIn K mainGlobals "_law_idents" = some (some (.ref f14))) (l14 : K.lookup f14 = some ⟨oc14, od14, .func (PySem.W.fnOf "_law_idents" "_law_idents" (defArgs s__law_idents) (defBody s__law_idents) (defScope s__law_idents) .none kV14 dc14 pm14 an14 cd14 ct14), sl14⟩) (c14 : PySem.W.codeIn K cd14 "_law_idents" = true) (k14 : PySem.W.keepIn K (.ref f14) = true)
    (a15 : PySem.W.nsIn K mainGlobals "_law_view" = some (some (.ref f15))) (l15 : K.lookup f15 = some ⟨oc15, od15, .func (PySem.W.fnOf "_law_view" "_law_view" (defArgs s__law_view) (defBody s__law_view) (defScope s__law_view) .none kV15 dc15 pm15 an15 cd15 ct15), sl15⟩) (c15 : PySem.W.codeIn K cd15 "_law_view" = true) (k15 : PySem.W.keepIn K (.ref f15) = true)
    (a16 : PySem.W.nsIn K mainGlobals "_law_change" = some (some (.ref f16))) (l16 : K.lookup f16 = some ⟨oc16, od16, .func (PySem.W.fnOf "_law_change" "_law_change" (defArgs s__law_change) (defBody s__law_change) (defScope s__law_change) .none kV16 dc16 pm16 an16 cd16 ct16), sl16⟩) (c16 : PySem.W.codeIn K cd16 "_law_change" = true) (k16 : PySem.W.keepIn K (.ref f16) = true)
    (a17 : PySem.W.nsIn K mainGlobals "_law_new_due" = some (some (.ref f17))) (l17 : K.lookup f17 = some ⟨oc17, od17, .func (PySem.W.fnOf "_law_new_due" "_law_new_due" (defArgs s__law_new_due) (defBody s__law_new_due) (defScope s__law_new_due) .none kV17 dc17 pm17 an17 cd17 ct17), sl17⟩) (c17 : PySem.W.codeIn K cd17 "_law_new_due" = true) (k17 : PySem.W.keepIn K (.ref f17) = true)
    (a18 : PySem.W.nsIn K mainGlobals "_law_look" = some (some (.ref f18))) (l18 : K.lookup f18 = some ⟨oc18, od18, .func (PySem.W.fnOf "_law_look" "_law_look" (defArgs s__law_look) (defBody s__law_look) (defScope s__law_look) .none kV18 dc18 pm18 an18 cd18 ct18), sl18⟩) (c18 : PySem.W.codeIn K cd18 "_law_look" = true) (k18 : PySem.W.keepIn K (.ref f18) = true)
    (a19 : PySem.W.nsIn K mainGlobals "_law_join" = some (some (.ref f19))) (l19 : K.lookup f19 = some ⟨oc19, od19, .func (PySem.W.fnOf "_law_join" "_law_join" (defArgs s__law_join) (defBody s__law_join) (defScope s__law_join) .none kV19 dc19 pm19 an19 cd19 ct19), sl19⟩) (c19 : PySem.W.codeIn K cd19 "_law_join" = true) (k19 : PySem.W.keepIn K (.ref f19) = true)
    (a20 : PySem.W.nsIn K mainGlobals "_law_all_right" = some (some (.ref f20))) (l20 : K.lookup f20 = some ⟨oc20, od20, .func (PySem.W.fnOf "_law_all_right" "_law_all_right" (defArgs s__law_all_right) (defBody s__law_all_right) (defScope s__law_all_right) .none kV20 dc20 pm20 an20 cd20 ct20), sl20⟩) (c20 : PySem.W.codeIn K cd20 "_law_all_right" = true) (k20 : PySem.W.keepIn K (.ref f20) = true)
    (a21 : PySem.W.nsIn K mainGlobals "_law_step" = some (some (.ref f21))) (l21 : K.lookup f21 = some ⟨oc21, od21, .func (PySem.W.fnOf "_law_step" "_law_step" (defArgs s__law_step) (defBody s__law_step) (defScope s__law_step) .none kV21 dc21 pm21 an21 cd21 ct21), sl21⟩) (c21 : PySem.W.codeIn K cd21 "_law_step" = true) (k21 : PySem.W.keepIn K (.ref f21) = true)
    (a22 : PySem.W.nsIn K mainGlobals "_law_chain" = some (some (.ref f22))) (l22 : K.lookup f22 = some ⟨oc22, od22, .func (PySem.W.fnOf "_law_chain" "_law_chain" (defArgs s__law_chain) (defBody s__law_chain) (defScope s__law_chain) .none kV22 dc22 pm22 an22 cd22 ct22), sl22⟩) (c22 : PySem.W.codeIn K cd22 "_law_chain" = true) (k22 : PySem.W.keepIn K (.ref f22) = true)
    (a23 : PySem.W.nsIn K mainGlobals "_law_tour" = some (some (.ref f23))) (l23 : K.lookup f23 = some ⟨oc23, od23, .func (PySem.W.fnOf "_law_tour" "_law_tour" (defArgs s__law_tour) (defBody s__law_tour) (defScope s__law_tour) .none kV23 dc23 pm23 an23 cd23 ct23), sl23⟩) (c23 : PySem.W.codeIn K cd23 "_law_tour" = true) (k23 : PySem.W.keepIn K (.ref f23) = true)
    (a24 : PySem.W.nsIn K mainGlobals "law" = some (some (.ref f24))) (l24 : K.lookup f24 = some ⟨oc24, od24, .func (PySem.W.fnOf "law" "law" (defArgs s_law) (defBody s_law) (defScope s_law) .none kV24 dc24 pm24 an24 cd24 ct24), sl24⟩) (c24 : PySem.W.codeIn K cd24 "law" = true) (k24 : PySem.W.keepIn K (.ref f24) = true)
    (z_abs : PySem.W.nsIn K mainGlobals "abs" = some none)
    (z_bool : PySem.W.nsIn K mainGlobals "bool" = some none)
    (z_int : PySem.W.nsIn K mainGlobals "int" = some none)
    (z_isinstance : PySem.W.nsIn K mainGlobals "isinstance" = some none)
    (z_len : PySem.W.nsIn K mainGlobals "len" = some none)
    (z_list : PySem.W.nsIn K mainGlobals "list" = some none)
    (z_max : PySem.W.nsIn K mainGlobals "max" = some none)
    (z_range : PySem.W.nsIn K mainGlobals "range" = some none)
    (z_sorted : PySem.W.nsIn K mainGlobals "sorted" = some none)
    (z_str : PySem.W.nsIn K mainGlobals "str" = some none)
    (z_tuple : PySem.W.nsIn K mainGlobals "tuple" = some none) :
    ∃ fd : FuncData, (∀ (s : Shared) (v : Value), BindsTo s fd ⟨[v], []⟩ [("script", v)]) ∧ ∀ base : Heap, K.In base → base.Ns mainGlobals mg → FnOk l.prog w K mg base CX0 8 fa fd ["script"] (sp_law K) := by
  have e := hfa.symm.trans (PySem.W.mg_of X G a24)
  cases e
  have T : Tx mg := ⟨PySem.W.mg_none_of X G z_abs, PySem.W.mg_none_of X G z_bool, PySem.W.mg_none_of X G z_int, PySem.W.mg_none_of X G z_isinstance, PySem.W.mg_none_of X G z_len, PySem.W.mg_none_of X G z_list, PySem.W.mg_none_of X G z_max, PySem.W.mg_none_of X G z_range, PySem.W.mg_none_of X G z_sorted, PySem.W.mg_none_of X G z_str, PySem.W.mg_none_of X G z_tuple⟩
  refine ⟨PySem.W.fnOf "law" "law" (defArgs s_law) (defBody s_law) (defScope s_law) .none kV24 dc24 pm24 an24 cd24 ct24, fun s v => .of_eq rfl, fun base _ _ => ?_⟩
  have D_Reader____init__ : DfI K A_Reader "Reader.__init__" s_Reader____init__ ["self"] := ⟨f0, _, fun_mk (st := s_Reader____init__) l0 c0 k0, ⟨oM_Reader, a0, i0, oK_Reader⟩, (fun_mk (st := s_Reader____init__) l0 c0 k0).binds (ps := ["self"]) fun _ _ _ _ _ _ us hl => match us, hl with | [_], _ => rfl⟩
  have D_Reader__new : DfM K A_Reader "new" "Reader.new" s_Reader__new ["self", "view"] := ⟨f1, _, fun_mk (st := s_Reader__new) l1 c1 k1, ⟨a1, i1, k1⟩, (fun_mk (st := s_Reader__new) l1 c1 k1).binds (ps := ["self", "view"]) fun _ _ _ _ _ _ us hl => match us, hl with | [_, _], _ => rfl⟩
  have D_Reader__read : DfM K A_Reader "read" "Reader.read" s_Reader__read ["self", "id"] := ⟨f2, _, fun_mk (st := s_Reader__read) l2 c2 k2, ⟨a2, i2, k2⟩, (fun_mk (st := s_Reader__read) l2 c2 k2).binds (ps := ["self", "id"]) fun _ _ _ _ _ _ us hl => match us, hl with | [_, _], _ => rfl⟩
  have D_Reader__meet : DfM K A_Reader "meet" "Reader.meet" s_Reader__meet ["self", "other"] := ⟨f3, _, fun_mk (st := s_Reader__meet) l3 c3 k3, ⟨a3, i3, k3⟩, (fun_mk (st := s_Reader__meet) l3 c3 k3).binds (ps := ["self", "other"]) fun _ _ _ _ _ _ us hl => match us, hl with | [_, _], _ => rfl⟩
  have D_Reader__ids : DfM K A_Reader "ids" "Reader.ids" s_Reader__ids ["self"] := ⟨f4, _, fun_mk (st := s_Reader__ids) l4 c4 k4, ⟨a4, i4, k4⟩, (fun_mk (st := s_Reader__ids) l4 c4 k4).binds (ps := ["self"]) fun _ _ _ _ _ _ us hl => match us, hl with | [_], _ => rfl⟩
  have D__law_mix : Df K mg "_law_mix" s__law_mix ["seed", "turn"] := ⟨f5, _, fun_mk (st := s__law_mix) l5 c5 k5, PySem.W.mg_of X G a5, (fun_mk (st := s__law_mix) l5 c5 k5).binds (ps := ["seed", "turn"]) fun _ _ _ _ _ _ us hl => match us, hl with | [_, _], _ => rfl⟩
  have D__law_source : Df K mg "_law_source" s__law_source ["script"] := ⟨f6, _, fun_mk (st := s__law_source) l6 c6 k6, PySem.W.mg_of X G a6, (fun_mk (st := s__law_source) l6 c6 k6).binds (ps := ["script"]) fun _ _ _ _ _ _ us hl => match us, hl with | [_], _ => rfl⟩
  have D__law_draw : Df K mg "_law_draw" s__law_draw ["source", "many"] := ⟨f7, _, fun_mk (st := s__law_draw) l7 c7 k7, PySem.W.mg_of X G a7, (fun_mk (st := s__law_draw) l7 c7 k7).binds (ps := ["source", "many"]) fun _ _ _ _ _ _ us hl => match us, hl with | [_, _], _ => rfl⟩
  have D__law_pick : Df K mg "_law_pick" s__law_pick ["source", "row"] := ⟨f8, _, fun_mk (st := s__law_pick) l8 c8 k8, PySem.W.mg_of X G a8, (fun_mk (st := s__law_pick) l8 c8 k8).binds (ps := ["source", "row"]) fun _ _ _ _ _ _ us hl => match us, hl with | [_, _], _ => rfl⟩
  have D__law_shuffled : Df K mg "_law_shuffled" s__law_shuffled ["source", "row"] := ⟨f9, _, fun_mk (st := s__law_shuffled) l9 c9 k9, PySem.W.mg_of X G a9, (fun_mk (st := s__law_shuffled) l9 c9 k9).binds (ps := ["source", "row"]) fun _ _ _ _ _ _ us hl => match us, hl with | [_, _], _ => rfl⟩
  have D__law_new_name : Df K mg "_law_new_name" s__law_new_name ["source", "used"] := ⟨f10, _, fun_mk (st := s__law_new_name) l10 c10 k10, PySem.W.mg_of X G a10, (fun_mk (st := s__law_new_name) l10 c10 k10).binds (ps := ["source", "used"]) fun _ _ _ _ _ _ us hl => match us, hl with | [_, _], _ => rfl⟩
  have D__law_names : Df K mg "_law_names" s__law_names ["source", "many"] := ⟨f11, _, fun_mk (st := s__law_names) l11 c11 k11, PySem.W.mg_of X G a11, (fun_mk (st := s__law_names) l11 c11 k11).binds (ps := ["source", "many"]) fun _ _ _ _ _ _ us hl => match us, hl with | [_, _], _ => rfl⟩
  have D__law_is_int : Df K mg "_law_is_int" s__law_is_int ["value"] := ⟨f12, _, fun_mk (st := s__law_is_int) l12 c12 k12, PySem.W.mg_of X G a12, (fun_mk (st := s__law_is_int) l12 c12 k12).binds (ps := ["value"]) fun _ _ _ _ _ _ us hl => match us, hl with | [_], _ => rfl⟩
  have D__law_same : Df K mg "_law_same" s__law_same ["actual", "due"] := ⟨f13, _, fun_mk (st := s__law_same) l13 c13 k13, PySem.W.mg_of X G a13, (fun_mk (st := s__law_same) l13 c13 k13).binds (ps := ["actual", "due"]) fun _ _ _ _ _ _ us hl => match us, hl with | [_, _], _ => rfl⟩
  have D__law_idents : Df K mg "_law_idents" s__law_idents ["source"] := ⟨f14, _, fun_mk (st := s__law_idents) l14 c14 k14, PySem.W.mg_of X G a14, (fun_mk (st := s__law_idents) l14 c14 k14).binds (ps := ["source"]) fun _ _ _ _ _ _ us hl => match us, hl with | [_], _ => rfl⟩
  have D__law_view : Df K mg "_law_view" s__law_view ["source", "idents"] := ⟨f15, _, fun_mk (st := s__law_view) l15 c15 k15, PySem.W.mg_of X G a15, (fun_mk (st := s__law_view) l15 c15 k15).binds (ps := ["source", "idents"]) fun _ _ _ _ _ _ us hl => match us, hl with | [_, _], _ => rfl⟩
  have D__law_change : Df K mg "_law_change" s__law_change ["source", "view", "idents"] := ⟨f16, _, fun_mk (st := s__law_change) l16 c16 k16, PySem.W.mg_of X G a16, (fun_mk (st := s__law_change) l16 c16 k16).binds (ps := ["source", "view", "idents"]) fun _ _ _ _ _ _ us hl => match us, hl with | [_, _, _], _ => rfl⟩
  have D__law_new_due : Df K mg "_law_new_due" s__law_new_due ["view", "ids"] := ⟨f17, _, fun_mk (st := s__law_new_due) l17 c17 k17, PySem.W.mg_of X G a17, (fun_mk (st := s__law_new_due) l17 c17 k17).binds (ps := ["view", "ids"]) fun _ _ _ _ _ _ us hl => match us, hl with | [_, _], _ => rfl⟩
  have D__law_look : Df K mg "_law_look" s__law_look ["source", "reader", "ids", "view", "share"] := ⟨f18, _, fun_mk (st := s__law_look) l18 c18 k18, PySem.W.mg_of X G a18, (fun_mk (st := s__law_look) l18 c18 k18).binds (ps := ["source", "reader", "ids", "view", "share"]) fun _ _ _ _ _ _ us hl => match us, hl with | [_, _, _, _, _], _ => rfl⟩
  have D__law_join : Df K mg "_law_join" s__law_join ["readers", "rows", "one", "two"] := ⟨f19, _, fun_mk (st := s__law_join) l19 c19 k19, PySem.W.mg_of X G a19, (fun_mk (st := s__law_join) l19 c19 k19).binds (ps := ["readers", "rows", "one", "two"]) fun _ _ _ _ _ _ us hl => match us, hl with | [_, _, _, _], _ => rfl⟩
  have D__law_all_right : Df K mg "_law_all_right" s__law_all_right ["readers", "rows"] := ⟨f20, _, fun_mk (st := s__law_all_right) l20 c20 k20, PySem.W.mg_of X G a20, (fun_mk (st := s__law_all_right) l20 c20 k20).binds (ps := ["readers", "rows"]) fun _ _ _ _ _ _ us hl => match us, hl with | [_, _], _ => rfl⟩
  have D__law_step : Df K mg "_law_step" s__law_step ["source", "readers", "rows", "many", "views", "idents"] := ⟨f21, _, fun_mk (st := s__law_step) l21 c21 k21, PySem.W.mg_of X G a21, (fun_mk (st := s__law_step) l21 c21 k21).binds (ps := ["source", "readers", "rows", "many", "views", "idents"]) fun _ _ _ _ _ _ us hl => match us, hl with | [_, _, _, _, _, _], _ => rfl⟩
  have D__law_chain : Df K mg "_law_chain" s__law_chain ["readers", "rows", "many"] := ⟨f22, _, fun_mk (st := s__law_chain) l22 c22 k22, PySem.W.mg_of X G a22, (fun_mk (st := s__law_chain) l22 c22 k22).binds (ps := ["readers", "rows", "many"]) fun _ _ _ _ _ _ us hl => match us, hl with | [_, _, _], _ => rfl⟩
  have D__law_tour : Df K mg "_law_tour" s__law_tour ["source", "readers", "rows", "many", "views"] := ⟨f23, _, fun_mk (st := s__law_tour) l23 c23 k23, PySem.W.mg_of X G a23, (fun_mk (st := s__law_tour) l23 c23 k23).binds (ps := ["source", "readers", "rows", "many", "views"]) fun _ _ _ _ _ _ us hl => match us, hl with | [_, _, _, _, _], _ => rfl⟩
  have O : To K mg A_Reader := { g_Reader := PySem.W.mg_of X G oG_Reader, c_Reader := ⟨oP_Reader, oD_Reader, oO_Reader, oS_Reader⟩, n_Reader_read := oN_Reader__read }
  have C_Reader____init__ := ok_Reader____init__ (P := l.prog) (w := w) (base := base) D_Reader____init__ T O 
  have C_Reader__ids := ok_Reader__ids (P := l.prog) (w := w) (base := base) D_Reader__ids T O 
  have C__law_is_int := ok__law_is_int (P := l.prog) (w := w) (base := base) D__law_is_int T 
  have C__law_same := ok__law_same (P := l.prog) (w := w) (base := base) D__law_same T C__law_is_int 4
  have C__law_all_right := ok__law_all_right (P := l.prog) (w := w) (base := base) D__law_all_right T O C_Reader__ids C__law_same
  have C_Reader__read := ok_Reader__read (P := l.prog) (w := w) (base := base) D_Reader__read T O 
  have C_Reader__meet := ok_Reader__meet (P := l.prog) (w := w) (base := base) D_Reader__meet T O C_Reader__ids C_Reader__read
  have C__law_join := ok__law_join (P := l.prog) (w := w) (base := base) D__law_join T O C_Reader__meet
  have C__law_chain := ok__law_chain (P := l.prog) (w := w) (base := base) D__law_chain T C__law_join
  have C__law_mix := ok__law_mix (P := l.prog) (w := w) (base := base) D__law_mix T 
  have C__law_draw := ok__law_draw (P := l.prog) (w := w) (base := base) D__law_draw T C__law_mix
  have C__law_new_name := ok__law_new_name (P := l.prog) (w := w) (base := base) D__law_new_name T C__law_draw
  have C__law_names := ok__law_names (P := l.prog) (w := w) (base := base) D__law_names T C__law_new_name
  have C__law_pick := ok__law_pick (P := l.prog) (w := w) (base := base) D__law_pick T C__law_draw
  have C__law_idents := ok__law_idents (P := l.prog) (w := w) (base := base) D__law_idents T C__law_draw C__law_names C__law_pick
  have C__law_source := ok__law_source (P := l.prog) (w := w) (base := base) D__law_source T C__law_mix
  have C__law_change := ok__law_change (P := l.prog) (w := w) (base := base) D__law_change T C__law_draw C__law_pick
  have C_Reader__new := ok_Reader__new (P := l.prog) (w := w) (base := base) D_Reader__new T O 
  have C__law_new_due := ok__law_new_due (P := l.prog) (w := w) (base := base) D__law_new_due T 
  have C__law_shuffled := ok__law_shuffled (P := l.prog) (w := w) (base := base) D__law_shuffled T C__law_draw
  have C__law_look := ok__law_look (P := l.prog) (w := w) (base := base) D__law_look T O C_Reader__new C_Reader__read C__law_draw C__law_new_due C__law_same C__law_shuffled
  have C__law_step := ok__law_step (P := l.prog) (w := w) (base := base) D__law_step T O C_Reader__read C__law_change C__law_draw C__law_join C__law_look C__law_pick
  have C__law_tour := ok__law_tour (P := l.prog) (w := w) (base := base) D__law_tour T O C_Reader__new C__law_draw C__law_join C__law_look C__law_new_due C__law_same C__law_shuffled
  have C__law_view := ok__law_view (P := l.prog) (w := w) (base := base) D__law_view T C__law_draw C__law_shuffled
  exact ok_law (fun_mk (st := s_law) l24 c24 k24) T O C_Reader____init__ C__law_all_right C__law_chain C__law_draw C__law_idents C__law_source C__law_step C__law_tour C__law_view
theorem walk {l : PySem.W.OpenLaw} {q : Program} {loose : List Str} {XP : (Str → Option Value) → Heap → Prop} {YP : World → Heap → Prop} {d : DefRec} {K : Params → PySem.W.Frag} (hn : l.most = some 63) (hdf : d.params.defaults = [])
    (hY : ∀ (w : World) (h : Heap), YP w h → (K w.params).In h)
    (F : ∀ (w : World) (mg : Str → Option Value) (fa : Addr) (h : Heap), (K w.params).In h → h.Ns mainGlobals mg → mg d.name = some (.ref fa) →
      ∃ fd : FuncData, (∀ (s : Shared) (u : Value), BindsTo s fd ⟨[u], []⟩ [("script", u)]) ∧ ∀ base : Heap, (K w.params).In base → base.Ns mainGlobals mg → FnOk l.prog w (K w.params) mg base CX0 8 fa fd ["script"] (sp_law (K w.params))) :
    PySem.W.WalkO q loose XP YP l.row.toRowW d [] (fun f vs => PySem.call f vs) :=
  L2.walk_of (n := 63) (k := 8) (x := "script") (CX := fun _ => CX0) (sp := fun w => sp_law (K w.params)) hn (by decide) hdf ⟨rfl, by decide, by decide⟩ hY F (fun _ _ a ns hl _ hS => ⟨a, ns, rfl, hS, hl, fun _ => rfl⟩) fun _ _ _ _ _ z => z
end Z
open PySem PySem.W PyProof.Rows in
set_option maxRecDepth 100000 in
set_option maxHeartbeats 0 in
theorem PySem.Challenge.cw_criermoot_k69_whole_readers_holds : PySem.Challenge.rw_criermoot_k69_whole_readers.Holds := by
  w_on; o_law; k_head; (case hw => w_witness2)
  k_fill
  refine Z.walk (l := PySem.Challenge.rw_criermoot_k69_whole_readers) rfl rfl (fun w h Y => PySem.W.kIn_of Y) ?F
  case F =>
    intro w mg fa h KX G hmg
    refine' Z.all_mk KX G hmg ?oG_Reader ?oP_Reader ?oD_Reader ?oO_Reader ?oS_Reader ?oM_Reader ?oK_Reader ?oN_Reader__read ?a0 ?i0 ?l0 ?c0 ?k0 ?a1 ?i1 ?l1 ?c1 ?k1 ?a2 ?i2 ?l2 ?c2 ?k2 ?a3 ?i3 ?l3 ?c3 ?k3 ?a4 ?i4 ?l4 ?c4 ?k4 ?a5 ?l5 ?c5 ?k5 ?a6 ?l6 ?c6 ?k6 ?a7 ?l7 ?c7 ?k7 ?a8 ?l8 ?c8 ?k8 ?a9 ?l9 ?c9 ?k9 ?a10 ?l10 ?c10 ?k10 ?a11 ?l11 ?c11 ?k11 ?a12 ?l12 ?c12 ?k12 ?a13 ?l13 ?c13 ?k13 ?a14 ?l14 ?c14 ?k14 ?a15 ?l15 ?c15 ?k15 ?a16 ?l16 ?c16 ?k16 ?a17 ?l17 ?c17 ?k17 ?a18 ?l18 ?c18 ?k18 ?a19 ?l19 ?c19 ?k19 ?a20 ?l20 ?c20 ?k20 ?a21 ?l21 ?c21 ?k21 ?a22 ?l22 ?c22 ?k22 ?a23 ?l23 ?c23 ?k23 ?a24 ?l24 ?c24 ?k24 ?z_abs ?z_bool ?z_int ?z_isinstance ?z_len ?z_list ?z_max ?z_range ?z_sorted ?z_str ?z_tuple
    (case oG_Reader => k_is)
    (case oP_Reader => k_is)
    (case oD_Reader => k_is)
    (case oO_Reader => k_is)
    (case oS_Reader => k_is)
    (case oM_Reader => k_is)
    (case oK_Reader => k_is)
    (case oN_Reader__read => k_is)
    (case a0 => k_is)
    (case i0 => k_is)
    (case l0 => k_is)
    (case c0 => k_is)
    (case k0 => k_is)
    (case a1 => k_is)
    (case i1 => k_is)
    (case l1 => k_is)
    (case c1 => k_is)
    (case k1 => k_is)
    (case a2 => k_is)
    (case i2 => k_is)
    (case l2 => k_is)
    (case c2 => k_is)
    (case k2 => k_is)
    (case a3 => k_is)
    (case i3 => k_is)
    (case l3 => k_is)
    (case c3 => k_is)
    (case k3 => k_is)
    (case a4 => k_is)
    (case i4 => k_is)
    (case l4 => k_is)
    (case c4 => k_is)
    (case k4 => k_is)
    (case a5 => k_is)
    (case l5 => k_is)
    (case c5 => k_is)
    (case k5 => k_is)
    (case a6 => k_is)
    (case l6 => k_is)
    (case c6 => k_is)
    (case k6 => k_is)
    (case a7 => k_is)
    (case l7 => k_is)
    (case c7 => k_is)
    (case k7 => k_is)
    (case a8 => k_is)
    (case l8 => k_is)
    (case c8 => k_is)
    (case k8 => k_is)
    (case a9 => k_is)
    (case l9 => k_is)
    (case c9 => k_is)
    (case k9 => k_is)
    (case a10 => k_is)
    (case l10 => k_is)
    (case c10 => k_is)
    (case k10 => k_is)
    (case a11 => k_is)
    (case l11 => k_is)
    (case c11 => k_is)
    (case k11 => k_is)
    (case a12 => k_is)
    (case l12 => k_is)
    (case c12 => k_is)
    (case k12 => k_is)
    (case a13 => k_is)
    (case l13 => k_is)
    (case c13 => k_is)
    (case k13 => k_is)
    (case a14 => k_is)
    (case l14 => k_is)
    (case c14 => k_is)
    (case k14 => k_is)
    (case a15 => k_is)
    (case l15 => k_is)
    (case c15 => k_is)
    (case k15 => k_is)
    (case a16 => k_is)
    (case l16 => k_is)
    (case c16 => k_is)
    (case k16 => k_is)
    (case a17 => k_is)
    (case l17 => k_is)
    (case c17 => k_is)
    (case k17 => k_is)
    (case a18 => k_is)
    (case l18 => k_is)
    (case c18 => k_is)
    (case k18 => k_is)
    (case a19 => k_is)
    (case l19 => k_is)
    (case c19 => k_is)
    (case k19 => k_is)
    (case a20 => k_is)
    (case l20 => k_is)
    (case c20 => k_is)
    (case k20 => k_is)
    (case a21 => k_is)
    (case l21 => k_is)
    (case c21 => k_is)
    (case k21 => k_is)
    (case a22 => k_is)
    (case l22 => k_is)
    (case c22 => k_is)
    (case k22 => k_is)
    (case a23 => k_is)
    (case l23 => k_is)
    (case c23 => k_is)
    (case k23 => k_is)
    (case a24 => k_is)
    (case l24 => k_is)
    (case c24 => k_is)
    (case k24 => k_is)
    (case z_abs => k_is)
    (case z_bool => k_is)
    (case z_int => k_is)
    (case z_isinstance => k_is)
    (case z_len => k_is)
    (case z_list => k_is)
    (case z_max => k_is)
    (case z_range => k_is)
    (case z_sorted => k_is)
    (case z_str => k_is)
    (case z_tuple => k_is)
