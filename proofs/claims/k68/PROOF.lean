import PyProof.Rows.All
import Wide.All
import OpenK.AllK
import Wide.FinOn
import HandS.Base
import HandS.Call
import HandS.List
import HandS.Comp
import HandS.Ends
import HandS.Dict
import HandS.Iter
import HandS.Text
import HandS.Words
import HandS.WordsList
import HandS.Conv
import HandS.Codes
import HandS.IsInst
import HandS.Replace
import HandS.StrMore
import HandS.TupAny
import HandS.WideBits
import HandS.ForExc
import HandS.ExcInit
import HandS.ExcField
import HandS.ExcIs
import KE.KExcIs
import HandS.Property
import HandS.Sort
import HandS.Deep
import KE.SortData
import KE.DataMinMax
import KE.KSortTupAny
import KE.KDictSum
import KE.KDictItemsList
import KE.KDictCopyH
import PyProof.DictUpdate
import PyProof.Transfer
import HandS.DictTup
import HandS.ExcOwn
import HandS.ExcValue
import PyProof.MinMaxWalk
import KE.KDictList
import HandS.Style
import KE.GoesEnum
import KE.GoesMore
import HandS.Rev
import HandS.ReplaceLit
import PyProof.Rows.StrCut
import HandS.TupMul
import HandS.FStr
import HandS.SortInts
import PySem.Challenge.RW_criermoot_k68_whole_marks
set_option Elab.async false
set_option linter.all false
set_option maxRecDepth 100000
namespace Z
open PySem L2

/-! ### heaps -/
/-- all that was tracked is as it was, but for what stands at s -/
def Ext (s : Addr) (H H' : Hp) : Prop := ∀ b o, b ≠ s → H b = some o → H' b = some o
theorem Ext.refl (s : Addr) (H : Hp) : Ext s H H := fun _ _ _ h => h
theorem Ext.trans {s : Addr} {H H1 H2 : Hp} (a : Ext s H H1) (b : Ext s H1 H2) : Ext s H H2 := fun c o n h => b c o n (a c o n h)
theorem Ext.of {s : Addr} {H H' : Hp} (a : Same H H') : Ext s H H' := fun c o _ h => a c o h
theorem Ext.new {s p : Addr} {H : Hp} {o : HO} (n : H p = none) : Ext s H (upd H p o) := fun b u _ h => by
  rw [upd_ne (ne_of_none h n)]; exact h
theorem Ext.put {s : Addr} {H : Hp} {o : HO} : Ext s H (upd H s o) := fun b u n h => by
  rw [upd_ne n]; exact h
theorem same_new {p : Addr} {H : Hp} {o : HO} (n : H p = none) : Same H (upd H p o) := fun b u h => by
  rw [upd_ne (ne_of_none h n)]; exact h
theorem Ext.seqT {K : PySem.W.Frag} {s a : Addr} {H H' : Hp} {xs ys : List V} (x : Ext s H H') (hs : H s = some (.lst ys)) (h : SqT K H a xs) : SqT K H' a xs := by
  rcases h with (h | ⟨o, h⟩) | h
  · exact .inl (.inl (x _ _ (fun e => by rw [e, hs] at h; cases h) h))
  · exact .inl (.inr ⟨o, x _ _ (fun e => by rw [e, hs] at h; cases h) h⟩)
  · exact .inr h
theorem Ext.seqL {K : PySem.W.Frag} {s a : Addr} {H H' : Hp} {xs : List V} (x : Ext s H H') (n : a ≠ s) (h : SqL K H a xs) : SqL K H' a xs := by
  rcases h with (h | ⟨o, h⟩) | h
  · exact .inl (.inl (x _ _ n h))
  · exact .inl (.inr ⟨o, x _ _ n h⟩)
  · exact .inr h

theorem and_nn {x : Int} (hx : 0 ≤ x) (k : Nat) : 0 ≤ Builtin.bitAnd x (1 * 2 ^ k - 1) := by
  rw [Int.one_mul, Bits.bitAnd_mask k hx]
  exact Int.emod_nonneg _ (Int.ne_of_gt (Int.pow_pos (by decide)))
/-! ### the source of draws -/
def Src (H : Hp) (s a : Addr) (c : Nat) : Prop := ∃ (ns : List Int) (i b e t : Int),
  H s = some (.lst [.ref a, .int i, .int b, .int e, .int t]) ∧ H a = some (.lst (ns.map V.int)) ∧ a ≠ s ∧ ns.length ≤ 63 ∧ 0 ≤ i ∧ i ≤ 63 ∧ 0 ≤ b ∧ 0 ≤ e ∧ e < 2147483647 ∧ 0 ≤ t ∧ t + c < 4000000000000000000
theorem Src.lst {H : Hp} {s a : Addr} {c : Nat} (h : Src H s a c) : ∃ xs, H s = some (.lst xs) := by
  obtain ⟨_, _, _, _, _, h, _⟩ := h; exact ⟨_, h⟩
theorem Src.mono {H : Hp} {s a : Addr} {c d : Nat} (h : Src H s a c) (l : d ≤ c) : Src H s a d := by
  obtain ⟨ns, i, b, e, t, h1, h2, h3, h4, h5, h6, h7, h8, h9, h10, h11⟩ := h
  exact ⟨ns, i, b, e, t, h1, h2, h3, h4, h5, h6, h7, h8, h9, h10, by omega⟩
theorem Src.ext {H H' : Hp} {s a : Addr} {c : Nat} (h : Src H s a c) (x : Same H H') : Src H' s a c := by
  obtain ⟨ns, i, b, e, t, h1, h2, h3⟩ := h
  exact ⟨ns, i, b, e, t, x _ _ h1, x _ _ h2, h3⟩
theorem Src.new {H : Hp} {s a p : Addr} {o : HO} {c : Nat} (h : Src H s a c) (n : H p = none) : Src (upd H p o) s a c := h.ext (same_new n)
theorem Src.ne {H : Hp} {s a p : Addr} {c : Nat} (h : Src H s a c) (n : H p = none) : p ≠ s := by
  obtain ⟨xs, e⟩ := h.lst
  exact (ne_of_none e n).symm
theorem Src.nea {H : Hp} {s a p : Addr} {c : Nat} (h : Src H s a c) (n : H p = none) : p ≠ a := by
  obtain ⟨ns, i, b, e, t, h1, h2, h3⟩ := h
  exact (ne_of_none h2 n).symm
theorem Src.put {H : Hp} {s a p : Addr} {o : HO} {c : Nat} (h : Src H s a c) (n : p ≠ s) (m : p ≠ a) : Src (upd H p o) s a c := by
  obtain ⟨ns, i, b, e', t, h1, h2, h3⟩ := h
  exact ⟨ns, i, b, e', t, by rw [upd_ne n.symm]; exact h1, by rw [upd_ne m.symm]; exact h2, h3⟩

/-! ### defs and their callers -/
section
variable (P : Program) (w : World) (K : PySem.W.Frag) (mg : Str → Option Value) (base : Heap)
/-- a def as callers use it -/
def Cal (x : Str) (ps : List Str) (k : Nat) (sp : Sp) : Prop := ∃ (f : Addr) (fd : FuncData), FnOk P w K mg base CX0 k f fd ps sp ∧ mg x = some (.ref f) ∧ PySem.W.keepIn K (.ref f) = true ∧ Binds K fd ps []
/-- a def as the top has left it -/
def Df (x : Str) (st : Stmt) (ps : List Str) : Prop := ∃ (f : Addr) (fd : FuncData), Fun K x x st f fd ∧ mg x = some (.ref f) ∧ Binds K fd ps []
end
theorem Cal.mono {P : Program} {w : World} {K : PySem.W.Frag} {mg : Str → Option Value} {base : Heap} {x : Str} {ps : List Str} {j k : Nat} {sp : Sp} (C : Cal P w K mg base x ps j sp) (h : j ≤ k) : Cal P w K mg base x ps k sp := by
  obtain ⟨f, fd, G, g, kp, b⟩ := C
  exact ⟨f, fd, G.mono h, g, kp, b⟩

/-! ### the promises of the drawing defs -/
def sp__law_mix : Sp := fun vs H Q _ => ∃ (x y : Int), vs = [.int x, .int y] ∧ 0 ≤ x ∧ x < 9000000000000000000 ∧ 0 ≤ y ∧ y < 9000000000000000000 ∧ ∀ v : Int, 0 ≤ v → v < 2147483647 → Q (.int v) H
def sp__law_source (K : PySem.W.Frag) : Sp := fun vs H Q _ => ∃ (a : Addr) (ns : List Int), vs = [.ref a] ∧ SqL K H a (ns.map V.int) ∧ ns.length ≤ 63 ∧ ∀ (s b : Addr) (H' : Hp), H s = none → Same H H' → Src H' s b 3000000000000000000 → Q (.ref s) H'
def sp__law_draw : Sp := fun vs H Q _ => ∃ (s a : Addr) (m : Int) (c : Nat), vs = [.ref s, .int m] ∧ 0 < m ∧ m < 1073741824 ∧ Src H s a (c + 1) ∧ ∀ (v : Int) (H' : Hp), 0 ≤ v → v < m → Ext s H H' → Src H' s a c → Q (.int v) H'

/-! ### data -/
inductive D where
  | non | bl (b : Bool) | int (i : Int) | str (x : Str) | tup (xs : List D)
mutual
def DV (K : PySem.W.Frag) (H : Hp) : D → V → Prop
  | .non, v => v = .non
  | .bl b, v => v = .bl b
  | .int i, v => v = .int i
  | .str x, v => v = .str x
  | .tup ds, v => ∃ a vs, v = .ref a ∧ SqT K H a vs ∧ DVs K H ds vs
def DVs (K : PySem.W.Frag) (H : Hp) : List D → List V → Prop
  | [], vs => vs = []
  | d :: ds, vs => ∃ v r, vs = v :: r ∧ DV K H d v ∧ DVs K H ds r
end
mutual
theorem DV.ext {K : PySem.W.Frag} {H H' : Hp} (x : ∀ a xs, SqT K H a xs → SqT K H' a xs) : ∀ {d : D} {v : V}, DV K H d v → DV K H' d v
  | .non, _, h => by unfold DV at *; exact h
  | .bl _, _, h => by unfold DV at *; exact h
  | .int _, _, h => by unfold DV at *; exact h
  | .str _, _, h => by unfold DV at *; exact h
  | .tup ds, v, h => by
    unfold DV at *
    obtain ⟨a, vs, e, q, r⟩ := h
    exact ⟨a, vs, e, x _ _ q, DVs.ext x r⟩
theorem DVs.ext {K : PySem.W.Frag} {H H' : Hp} (x : ∀ a xs, SqT K H a xs → SqT K H' a xs) : ∀ {ds : List D} {vs : List V}, DVs K H ds vs → DVs K H' ds vs
  | [], _, h => by unfold DVs at *; exact h
  | d :: ds, vs, h => by
    unfold DVs at *
    obtain ⟨v, r, e, q, t⟩ := h
    exact ⟨v, r, e, DV.ext x q, DVs.ext x t⟩
end
theorem DVs.len {K : PySem.W.Frag} {H : Hp} : ∀ {ds : List D} {vs : List V}, DVs K H ds vs → vs.length = ds.length
  | [], _, h => by unfold DVs at h; subst h; rfl
  | d :: ds, vs, h => by
    unfold DVs at h
    obtain ⟨v, r, e, q, t⟩ := h
    rw [e, List.length_cons, List.length_cons, DVs.len t]
theorem DVs.get {K : PySem.W.Frag} {H : Hp} : ∀ {ds : List D} {vs : List V} {i : Nat} {d : D}, DVs K H ds vs → ds[i]? = some d → ∃ v, vs[i]? = some v ∧ DV K H d v
  | [], _, i, d, h, e => by simp at e
  | x :: ds, vs, i, d, h, e => by
    unfold DVs at h
    obtain ⟨v, r, e1, q, t⟩ := h
    subst e1
    cases i with
    | zero =>
      have : x = d := by simpa using e
      subst this
      exact ⟨v, rfl, q⟩
    | succ i => exact DVs.get (i := i) t (by simpa using e)
theorem DVs.strs {K : PySem.W.Frag} {H : Hp} : ∀ (xs : List Str), DVs K H (xs.map D.str) (xs.map V.str)
  | [] => by unfold DVs; rfl
  | x :: xs => by
    unfold DVs
    exact ⟨_, _, rfl, by unfold DV; rfl, DVs.strs xs⟩
theorem DVs.ints {K : PySem.W.Frag} {H : Hp} : ∀ (xs : List Int), DVs K H (xs.map D.int) (xs.map V.int)
  | [] => by unfold DVs; rfl
  | x :: xs => by
    unfold DVs
    exact ⟨_, _, rfl, by unfold DV; rfl, DVs.ints xs⟩
/-- tuples lie within fewer than n others -/
def DL : Nat → D → Prop
  | 0, _ => False
  | n + 1, .tup xs => xs.length ≤ 1000000 ∧ ∀ x ∈ xs, DL n x
  | _ + 1, _ => True
theorem TyX.ofT {K : PySem.W.Frag} {H : Hp} {a : Addr} {xs : List V} (h : SqT K H a xs) : TyX K H (.ref a) (.type "tuple") := by
  rcases h with (h | ⟨o, h⟩) | ⟨o, _, _, e, c, _⟩
  · exact .base (.tup h)
  · exact .fTuple h
  · exact .kTuple e c
def sp__law_is_int (K : PySem.W.Frag) : Sp := fun vs H Q _ => ∃ i : Int, vs = [.int i] ∧ Q (.bl true) H
/-- of two values with the same data it tells True -/
def sp__law_same (K : PySem.W.Frag) (n : Nat) : Sp := fun vs H Q _ => ∃ (d : D) (v u : V), vs = [v, u] ∧ DV K H d v ∧ DV K H d u ∧ DL n d ∧ Q (.bl true) H

/-! ### texts by their signs -/
open SX (S S_cat S_len S_inj)
theorem S_lst (l : List Nat) : (S l).cps.toList = l := rfl
theorem S_of (x : Str) : x = S x.cps.toList := (SX.S_tl x).symm
theorem S_app (a b : List Nat) : S a ++ S b = S (a ++ b) := S_cat a b
/-- a for over the signs of a text -/
theorem for_str {l : List Nat} {g : TG} {tb : TS} {D : Ends} {σ : St} {H : Hp} (Pv : Nat → St → Hp → Prop) (h0 : Pv 0 σ H)
    (hs : ∀ i c σ H, l[i]? = some c → Pv i σ H → g (.str (S [c])) σ H fun σ2 H2 => tb { D with nx := Pv (i + 1), ct := Pv (i + 1), bk := D.nx } σ2 H2) (hd : ∀ σ H, Pv l.length σ H → D.nx σ H) :
    ∃ W : Nat → Nat → St → Hp → Prop, (∃ m, W 0 m σ H) ∧ ∀ i m σ H, W i m σ H →
      ((Its (S l)).stop i H ∧ D.nx σ H) ∨ ((Its (S l)).go i H ∧ ∃ N : St → Hp → Prop, (∀ σ' H', N σ' H' → ∃ m', m' < m ∧ W (i + 1) m' σ' H') ∧ ∀ x H', (Its (S l)).yld i H x H' → g x σ H' fun σ2 H2 => tb { D with nx := N, ct := N, bk := D.nx } σ2 H2) := by
  refine ⟨fun i m σ H => m = l.length - i ∧ i ≤ l.length ∧ Pv i σ H, ⟨l.length, by simp, Nat.zero_le _, h0⟩, ?_⟩
  rintro i m σ H ⟨rfl, hi, p⟩
  by_cases hlt : i < l.length
  · refine .inr ⟨by show i < l.toArray.size; simpa using hlt, Pv (i + 1), fun σ' H' p' => ⟨l.length - (i + 1), by omega, rfl, hlt, p'⟩, fun x H' y => ?_⟩
    obtain ⟨e, c, hc, y⟩ := y
    subst e y
    exact hs i c σ _ (by simpa using hc) p
  · have e : i = l.length := by omega
    subst e
    exact .inl ⟨by show l.toArray.size ≤ l.length; simp, hd σ H p⟩
/-- a comprehension over the signs of a text -/
theorem lc_str {l : List Nat} {g : TG} {tt : TT} {te : TE} {vs : List Nat} {σ : St} {H1 : Hp} {D : Addr} {Qd : Hp → Prop} (Pv : Nat → Hp → Prop) (h0 : Pv 0 (upd H1 D (.lst [])))
    (hs : ∀ i c H, l[i]? = some c → Pv i H → g (.str (S [c])) (wipe σ vs) H fun σ2 H2 => wipe σ2 vs = wipe σ vs ∧ tt σ2 H2 fun b H3 =>
      if b = true then te σ2 H3 fun y H4 => ∃ acc, H4 D = some (.lst acc) ∧ acc.length < sizeLine ∧ Pv (i + 1) (upd H4 D (.lst (acc ++ [y]))) else Pv (i + 1) H3) (hd : ∀ H, Pv l.length H → Qd H) :
    ∃ W : Nat → Nat → Hp → Prop, (∃ m, W 0 m (upd H1 D (.lst []))) ∧ ∀ i m H, W i m H →
      ((Its (S l)).stop i H ∧ Qd H) ∨ ((Its (S l)).go i H ∧ ∃ Nx : Hp → Prop, (∀ H', Nx H' → ∃ m', m' < m ∧ W (i + 1) m' H') ∧ ∀ x H', (Its (S l)).yld i H x H' → g x (wipe σ vs) H' fun σ2 H2 => wipe σ2 vs = wipe σ vs ∧ tt σ2 H2 fun b H3 =>
        if b = true then te σ2 H3 fun y H4 => ∃ acc, H4 D = some (.lst acc) ∧ acc.length < sizeLine ∧ Nx (upd H4 D (.lst (acc ++ [y]))) else Nx H3) := by
  refine ⟨fun i m H => m = l.length - i ∧ i ≤ l.length ∧ Pv i H, ⟨l.length, by simp, Nat.zero_le _, h0⟩, ?_⟩
  rintro i m H ⟨rfl, hi, p⟩
  by_cases hlt : i < l.length
  · refine .inr ⟨by show i < l.toArray.size; simpa using hlt, Pv (i + 1), fun H' p' => ⟨l.length - (i + 1), by omega, rfl, hlt, p'⟩, fun x H' y => ?_⟩
    obtain ⟨e, c, hc, y⟩ := y
    subst e y
    exact hs i c _ (by simpa using hc) p
  · have e : i = l.length := by omega
    subst e
    exact .inl ⟨by show l.toArray.size ≤ l.length; simp, hd H p⟩
/-- signs of rows -/
def Asc (l : List Nat) : Prop := ∀ x ∈ l, 32 ≤ x ∧ x ≤ 126
theorem Asc.nil : Asc [] := fun _ h => nomatch h
theorem Asc.app {a b : List Nat} (x : Asc a) (y : Asc b) : Asc (a ++ b) := fun c h => (List.mem_append.mp h).elim (x c) (y c)
theorem Asc.by_ {l : List Nat} (h : l.all (fun x => decide (32 ≤ x) && decide (x ≤ 126)) = true) : Asc l := fun x m => by
  have := List.all_eq_true.mp h x m
  simp at this
  exact this
theorem Asc.all128 {l : List Nat} (h : Asc l) : l.all (· < 128) = true := List.all_eq_true.mpr fun x m => decide_eq_true (by have := h x m; omega)
theorem joinNil : ∀ ls : List (List Nat), TL.joinL [] ls = ls.flatten
  | [] => rfl
  | [x] => by simp [TL.joinL]
  | x :: y :: r => by
    have := joinNil (y :: r)
    simp only [TL.joinL] at *
    rw [List.flatten_cons, ← this]
    simp [TL.joinL]
theorem join_nil (ls : List (List Nat)) : Txt.join (S []) (ls.map S) = S ls.flatten := by
  rw [SX.join_S, joinNil]

/-! ### texts, further -/
abbrev tl (x : Str) : List Nat := x.cps.toList
theorem tl_S (l : List Nat) : tl (S l) = l := rfl
theorem S_tl (x : Str) : S (tl x) = x := rfl
theorem tl_app (x y : Str) : tl (x ++ y) = tl x ++ tl y := TL.tl_append x y
theorem tl_len (x : Str) : x.length = (tl x).length := by show x.cps.size = x.cps.toList.length; simp
theorem tl_ext {x y : Str} (h : tl x = tl y) : x = y := TL.ext_tl h
theorem at_str {x : Str} {i : Int} (h0 : 0 ≤ i) (h1 : i < (x.length : Int)) : ∃ c, x.cps[i.toNat]? = some c ∧ (tl x)[i.toNat]? = some c ∧ c ∈ tl x := by
  have h : i.toNat < (tl x).length := by rw [← tl_len]; omega
  refine ⟨(tl x)[i.toNat], ?_, List.getElem?_eq_getElem h, List.getElem_mem h⟩
  have := List.getElem?_eq_getElem h
  rw [← this]; simp [tl]
/-- small letters and digits -/
def Low (l : List Nat) : Prop := ∀ x ∈ l, (97 ≤ x ∧ x ≤ 122) ∨ (48 ≤ x ∧ x ≤ 57)
theorem Low.nil : Low [] := fun _ h => nomatch h
theorem Low.app {a b : List Nat} (x : Low a) (y : Low b) : Low (a ++ b) := fun c h => (List.mem_append.mp h).elim (x c) (y c)
theorem Low.asc {a : List Nat} (x : Low a) : Asc a := fun c h => by have := x c h; omega
theorem low_num (n : Nat) : Low (TL.numL n) := fun c h => .inr (by have := TL.numL_digits n c h; omega)
theorem num_len : ∀ n : Nat, (TL.numL n).length ≤ n + 1 := fun n => by
  induction n using Nat.strongRecOn with
  | ind n ih =>
    by_cases h : n < 10
    · rw [TL.numL_lt h]; simp
    · rw [TL.numL_step (by omega), List.length_append]
      have := ih (n / 10) (by omega)
      simp; omega
/-- a name: a letter, then letters and digits -/
def Nm (l : List Nat) : Prop := (∃ c r, l = c :: r ∧ 97 ≤ c ∧ c ≤ 122) ∧ Low l
theorem Nm.app {a b : List Nat} (x : Nm a) (y : Low b) : Nm (a ++ b) := by
  obtain ⟨⟨c, r, e, h⟩, l⟩ := x
  exact ⟨⟨c, r ++ b, by rw [e]; rfl, h⟩, l.app y⟩
theorem flat_strs (xs : List Str) : (xs.map V.str).all flatV = true := List.all_eq_true.mpr fun x h => by
  obtain ⟨y, _, rfl⟩ := List.mem_map.mp h; rfl
theorem inV_strs (x : Str) (xs : List Str) : inV (V.str x) (xs.map V.str) = decide (x ∈ xs) := by
  unfold inV
  induction xs with
  | nil => rfl
  | cons y ys ih =>
    rw [List.map_cons, List.any_cons, ih]
    by_cases e : x = y
    · subst e; simp [eqV]
    · have : ¬ y = x := fun h => e h.symm
      simp [eqV, e, this]
def sp__law_new_name (K : PySem.W.Frag) : Sp := fun vs H Q _ => ∃ (s a u : Addr) (us : List Str) (c : Nat), vs = [.ref s, .ref u] ∧ SqL K H u (us.map V.str) ∧ u ≠ s ∧ us.length ≤ 60 ∧ Src H s a (c + 8) ∧
  ∀ (x : Str) (H' : Hp), Nm (tl x) → (tl x).length ≤ 70 → Ext s H H' → Src H' s a c → Q (.str x) H'
def sp__law_names (K : PySem.W.Frag) : Sp := fun vs H Q _ => ∃ (s a : Addr) (m c : Nat), vs = [.ref s, .int m] ∧ m ≤ 60 ∧ Src H s a (c + 8 * m) ∧
  ∀ (u : Addr) (us : List Str) (H' : Hp), H u = none → H' u = some (.lst (us.map V.str)) → us.length = m → (∀ x ∈ us, Nm (tl x) ∧ (tl x).length ≤ 70) → Ext s H H' → Src H' s a c → Q (.ref u) H'
def sp__law_row : Sp := fun vs H Q _ => ∃ (s a : Addr) (m : Int) (c : Nat), vs = [.ref s, .int m] ∧ 0 ≤ m ∧ m ≤ 1000 ∧ Src H s a (c + m.toNat) ∧
  ∀ (x : Str) (H' : Hp), Asc (tl x) → (tl x).length = m.toNat → Ext s H H' → Src H' s a c → Q (.str x) H'

/-! ### rules that name the written part themselves (for the blocks of comprehensions) -/
section
variable {X : Cx} {K : PySem.W.Frag}
/-- len of a text -/
theorem call_lenS : CallR X (.builtin "len") (fun xs H Q => ∃ x : Str, xs = [.str x] ∧ x.length ≤ sizeLine ∧ Q (.int x.length) H) := by
  intro pins s σ H xs us Q I r h
  obtain ⟨x, e, hl, q⟩ := h
  exact call_len pins s σ H xs us Q I r ⟨.str x, x.length, e, ⟨hl, rfl⟩, q⟩
theorem call_lenQ (h : X.K = K) : CallR X (.builtin "len") (fun xs H Q => ∃ p ys, xs = [.ref p] ∧ (SqL K H p ys ∨ SqT K H p ys) ∧ Q (.int ys.length) H) := by
  subst h; exact call_len_seq
theorem ix_listQ (h : X.K = K) : IxR X (rIxL K) := by subst h; exact ix_list
theorem ix_tupQ (h : X.K = K) : IxR X (rIxT K) := by subst h; exact ix_tup
theorem in_seqQ (h : X.K = K) : OpR X (compareOp .In) (rIn K false) := by subst h; exact op_in_seq
theorem notIn_seqQ (h : X.K = K) : OpR X (compareOp .NotIn) (rIn K true) := by subst h; exact op_notIn_seq
theorem isiQ (h : X.K = K) : CallR X (.builtin "isinstance") (rIsi K) := by subst h; exact call_isi
end

/-- texts of one sign each -/
def Ones (p : Nat → Prop) (xs : List Str) : Prop := ∀ x ∈ xs, ∃ c, tl x = [c] ∧ p c
theorem Ones.tail {p : Nat → Prop} {x : Str} {xs : List Str} (h : Ones p (x :: xs)) : Ones p xs := fun y m => h y (List.mem_cons_of_mem _ m)
theorem ones_len {p : Nat → Prop} : ∀ {xs : List Str}, (∀ x ∈ xs, ∃ c, tl x = [c] ∧ p c) → (xs.map (·.length)).sum = xs.length
  | [], _ => rfl
  | x :: xs, h => by
    obtain ⟨c, e, _⟩ := h x List.mem_cons_self
    have : x.length = 1 := by rw [tl_len, e]; rfl
    rw [List.map_cons, List.sum_cons, ones_len (Ones.tail h), List.length_cons, this]
    omega
/-- their only signs -/
def heads (xs : List Str) : List Nat := xs.map fun x => (tl x).headD 0
theorem tl_join0 (xs : List Str) : tl (Txt.join (S []) xs) = (xs.map tl).flatten := by
  have e : xs = (xs.map tl).map S := by rw [List.map_map]; exact (List.map_id _).symm
  have h := join_nil (xs.map tl)
  rw [← e] at h
  show tl (Txt.join (S []) xs) = _
  rw [h]
theorem ones_join {p : Nat → Prop} {xs : List Str} (h : ∀ x ∈ xs, ∃ c, tl x = [c] ∧ p c) : tl (Txt.join (S []) xs) = heads xs := by
  rw [tl_join0]
  induction xs with
  | nil => rfl
  | cons x xs ih =>
    obtain ⟨c, e, _⟩ := h x List.mem_cons_self
    rw [List.map_cons, List.flatten_cons, ih (Ones.tail h), e]
    show c :: heads xs = (tl x).headD 0 :: heads xs
    rw [e]; rfl
theorem ones_all {p : Nat → Prop} {xs : List Str} (h : ∀ x ∈ xs, ∃ c, tl x = [c] ∧ p c) : ∀ c ∈ heads xs, p c := fun c m => by
  obtain ⟨x, hx, e⟩ := List.mem_map.mp m
  obtain ⟨d, e2, hd⟩ := h x hx
  rw [e2] at e
  have : d = c := e
  rw [← this]; exact hd
theorem str0 : Str.ofString "" = S [] := rfl
theorem ones_room {p : Nat → Prop} {xs : List Str} (h : ∀ x ∈ xs, ∃ c, tl x = [c] ∧ p c) : (xs.map (·.length)).sum + xs.length * (Str.ofString "").length = xs.length := by
  rw [ones_len h]; show xs.length + xs.length * 0 = xs.length; omega
theorem ones_joinE {p : Nat → Prop} {xs : List Str} (h : ∀ x ∈ xs, ∃ c, tl x = [c] ∧ p c) : tl (Txt.join (Str.ofString "") xs) = heads xs := ones_join h
theorem ones_asc {xs : List Str} (h : ∀ x ∈ xs, ∃ c, tl x = [c] ∧ 32 ≤ c ∧ c ≤ 126) : Asc (heads xs) := fun c m => ones_all (p := fun c => 32 ≤ c ∧ c ≤ 126) h c m
theorem heads_len (xs : List Str) : (heads xs).length = xs.length := List.length_map _

theorem alpha_mem {c : Nat} (h : c ∈ tl (Str.ofString "abcdefghijklmnopqrstuvwxyz")) : 97 ≤ c ∧ c ≤ 122 := by
  have : (tl (Str.ofString "abcdefghijklmnopqrstuvwxyz")).all (fun c => decide (97 ≤ c) && decide (c ≤ 122)) = true := by decide +kernel
  have := List.all_eq_true.mp this c h
  simp at this; exact this
theorem low_mem {c : Nat} (h : c ∈ tl (Str.ofString "abcdefghijklmnopqrstuvwxyz" ++ Str.ofString "0123456789")) : (97 ≤ c ∧ c ≤ 122) ∨ (48 ≤ c ∧ c ≤ 57) := by
  rw [tl_app] at h
  have : (tl (Str.ofString "abcdefghijklmnopqrstuvwxyz") ++ tl (Str.ofString "0123456789")).all (fun c => (decide (97 ≤ c) && decide (c ≤ 122)) || (decide (48 ≤ c) && decide (c ≤ 57))) = true := by decide +kernel
  have := List.all_eq_true.mp this c h
  simp at this; exact this

theorem log_small {i : Nat} (h : i ≤ 1000000) : (Int.natAbs (0 + (i : Int))).log2 < 1920 := by
  rw [Int.zero_add, Int.natAbs_natCast]
  by_cases e : i = 0
  · subst e; decide
  · rw [Nat.log2_lt e]
    exact Nat.lt_of_le_of_lt h (Nat.lt_of_lt_of_le (by decide : 1000000 < 2 ^ 20) (Nat.pow_le_pow_right (by decide) (by decide)))

theorem fold_take {α β : Type} {f : β → α → β} {a : β} {l : List α} {i : Nat} {c : α} (h : l[i]? = some c) : (l.take (i + 1)).foldl f a = f ((l.take i).foldl f a) c := by
  rw [List.take_add_one, h, List.foldl_append]
  rfl
theorem fold_all {α β : Type} {f : β → α → β} {a : β} {l : List α} : (l.take l.length).foldl f a = l.foldl f a := by rw [List.take_length]
theorem in_abc {c : Nat} : decide (c ∈ (Str.ofString "abcdefghijklmnopqrstuvwxyz").cps.toList) = (decide (97 ≤ c) && decide (c ≤ 122)) := by
  have e : (Str.ofString "abcdefghijklmnopqrstuvwxyz").cps.toList = List.range' 97 26 := by decide +kernel
  rw [e, Bool.eq_iff_iff, decide_eq_true_iff, List.mem_range'_1]
  simp only [Bool.and_eq_true, decide_eq_true_eq]
  omega
theorem in_ABC {c : Nat} : decide (c ∈ (Str.ofString "ABCDEFGHIJKLMNOPQRSTUVWXYZ").cps.toList) = (decide (65 ≤ c) && decide (c ≤ 90)) := by
  have e : (Str.ofString "ABCDEFGHIJKLMNOPQRSTUVWXYZ").cps.toList = List.range' 65 26 := by decide +kernel
  rw [e, Bool.eq_iff_iff, decide_eq_true_iff, List.mem_range'_1]
  simp only [Bool.and_eq_true, decide_eq_true_eq]
  omega
theorem in_012 {c : Nat} : decide (c ∈ (Str.ofString "0123456789").cps.toList) = (decide (48 ≤ c) && decide (c ≤ 57)) := by
  have e : (Str.ofString "0123456789").cps.toList = List.range' 48 10 := by decide +kernel
  rw [e, Bool.eq_iff_iff, decide_eq_true_iff, List.mem_range'_1]
  simp only [Bool.and_eq_true, decide_eq_true_eq]
  omega
theorem in_abc012 {c : Nat} : decide (c ∈ (Str.ofString "abcdefghijklmnopqrstuvwxyz0123456789").cps.toList) = ((decide (97 ≤ c) && decide (c ≤ 122)) || (decide (48 ≤ c) && decide (c ≤ 57))) := by
  have e : (Str.ofString "abcdefghijklmnopqrstuvwxyz0123456789").cps.toList = List.range' 97 26 ++ List.range' 48 10 := by decide +kernel
  rw [e, Bool.eq_iff_iff, decide_eq_true_iff, List.mem_append, List.mem_range'_1, List.mem_range'_1]
  simp only [Bool.and_eq_true, Bool.or_eq_true, decide_eq_true_eq]
  omega
/-- literal texts -/
theorem tl_mapS (ws : List Str) : (ws.map tl).map S = ws := by rw [List.map_map]; exact List.map_id _

theorem strs_at (zs : List Str) {v : Int} (h0 : 0 ≤ v) (h1 : v < (zs.length : Int)) : ∃ z, z ∈ zs ∧ atI (zs.map V.str) v = some (.str z) := by
  have h : v.toNat < zs.length := by omega
  exact ⟨zs[v.toNat], List.getElem_mem h, at_of (j := v.toNat) (by omega) (by rw [List.getElem?_map, List.getElem?_eq_getElem h]; rfl)⟩
theorem tl_upper {x : Str} (h : Asc (tl x)) : tl (Txt.upper x) = (tl x).map PyProof.Rows.up1 := congrArg tl (SX.upper_S (a := tl x) h.all128)
theorem asc_upper {x : Str} (h : Asc (tl x)) : Asc (tl (Txt.upper x)) := by
  rw [tl_upper h]
  intro c hc
  obtain ⟨d, hd, e⟩ := List.mem_map.mp hc
  have := h d hd
  unfold PyProof.Rows.up1 at e
  split at e <;> omega
theorem len_upper {x : Str} (h : Asc (tl x)) : (tl (Txt.upper x)).length = (tl x).length := by rw [tl_upper h, List.length_map]
theorem DL.strs {n : Nat} (xs : List Str) (h : xs.length ≤ 1000000) : DL (n + 2) (.tup (xs.map D.str)) := ⟨by rw [List.length_map]; exact h, fun d m => by obtain ⟨x, _, rfl⟩ := List.mem_map.mp m; exact True.intro⟩
theorem DV.strs {K : PySem.W.Frag} {H : Hp} {p : Addr} {xs : List Str} (h : H p = some (.tup (xs.map V.str))) : DV K H (.tup (xs.map D.str)) (.ref p) := by
  unfold DV
  exact ⟨p, _, rfl, SqT.of h, DVs.strs xs⟩
def sp_law (K : PySem.W.Frag) : Sp := fun vs H Q _ => ∃ (a : Addr) (ns : List Int), vs = [.ref a] ∧ SqL K H a (ns.map V.int) ∧ ns.length ≤ 63 ∧ ∀ H', Q (.bl true) H'
end Z
namespace Z
open PySem L2 SX
/-! ### cuts -/
theorem sIx_pos {n d : Nat} {i : Int} (h : 0 ≤ i) : HT.sIx n d (some i) = min i.toNat n := by
  obtain ⟨k, rfl⟩ := Int.eq_ofNat_of_zero_le h
  rw [HT.sIx_nat]; rfl
theorem cutS_to {z : Str} {i : Int} (h : 0 ≤ i) : tl (cutS z none (some i)) = (tl z).take i.toNat := by
  show ((tl z).drop 0).take (HT.sIx z.length z.length (some i) - 0) = _
  rw [sIx_pos h, List.drop_zero, Nat.sub_zero, tl_len]
  by_cases e : i.toNat ≤ (tl z).length
  · rw [Nat.min_eq_left e]
  · rw [Nat.min_eq_right (by omega), List.take_length, List.take_of_length_le (by omega)]
theorem cutS_from {z : Str} {i : Int} (h : 0 ≤ i) : tl (cutS z (some i) none) = (tl z).drop i.toNat := by
  show ((tl z).drop (HT.sIx z.length 0 (some i))).take (z.length - HT.sIx z.length 0 (some i)) = _
  rw [sIx_pos h, tl_len]
  by_cases e : i.toNat ≤ (tl z).length
  · rw [Nat.min_eq_left e, List.take_of_length_le (by rw [List.length_drop]; omega)]
  · rw [Nat.min_eq_right (by omega), List.drop_of_length_le (l := tl z) (i := i.toNat) (by omega), List.drop_of_length_le (Nat.le_refl _), List.take_nil]
theorem cutS_mid {z : Str} {i j : Int} (h : 0 ≤ i) (h2 : 0 ≤ j) : tl (cutS z (some i) (some j)) = ((tl z).drop i.toNat).take (j.toNat - i.toNat) := by
  show ((tl z).drop (HT.sIx z.length 0 (some i))).take (HT.sIx z.length z.length (some j) - HT.sIx z.length 0 (some i)) = _
  rw [sIx_pos h, sIx_pos h2, tl_len]
  by_cases e : i.toNat ≤ (tl z).length
  · rw [Nat.min_eq_left e]
    by_cases f : j.toNat ≤ (tl z).length
    · rw [Nat.min_eq_left f]
    · rw [Nat.min_eq_right (by omega), List.take_of_length_le (by rw [List.length_drop]; omega), List.take_of_length_le (by rw [List.length_drop]; omega)]
  · rw [Nat.min_eq_right (a := i.toNat) (by omega), List.drop_of_length_le (Nat.le_refl _), List.drop_of_length_le (l := tl z) (i := i.toNat) (by omega)]; simp
theorem cutV_to {xs : List V} {i : Int} (h : 0 ≤ i) : cutV xs none (some i) = xs.take i.toNat := by
  show ((xs.drop 0).take (HT.sIx xs.length xs.length (some i) - 0)) = _
  rw [sIx_pos h, List.drop_zero, Nat.sub_zero]
  by_cases e : i.toNat ≤ xs.length
  · rw [Nat.min_eq_left e]
  · rw [Nat.min_eq_right (by omega), List.take_length, List.take_of_length_le (by omega)]
theorem cutV_from {xs : List V} {i : Int} (h : 0 ≤ i) : cutV xs (some i) none = xs.drop i.toNat := by
  show ((xs.drop (HT.sIx xs.length 0 (some i))).take (xs.length - HT.sIx xs.length 0 (some i))) = _
  rw [sIx_pos h]
  by_cases e : i.toNat ≤ xs.length
  · rw [Nat.min_eq_left e, List.take_of_length_le (by rw [List.length_drop]; omega)]
  · rw [Nat.min_eq_right (by omega), List.drop_of_length_le (l := xs) (i := i.toNat) (by omega), List.drop_of_length_le (Nat.le_refl _), List.take_nil]
/-- the text k times -/
def rep (k : Nat) (l : List Nat) : List Nat := (List.replicate k l).flatten
theorem rep_fold (x : Array Nat) : ∀ (k : Nat) (a : Array Nat), ((List.replicate k x).foldl (· ++ ·) a).toList = a.toList ++ rep k x.toList
  | 0, a => by simp [rep]
  | k + 1, a => by
    rw [List.replicate_succ, List.foldl_cons, rep_fold x k]
    simp [rep, List.replicate_succ]
theorem rep_len (k : Nat) (l : List Nat) : (rep k l).length = k * l.length := by
  induction k with
  | zero => simp [rep]
  | succ k ih => unfold rep at *; rw [List.replicate_succ, List.flatten_cons, List.length_append, ih, Nat.succ_mul]; omega
theorem rep_mem {k : Nat} {l : List Nat} {c : Nat} (h : c ∈ rep k l) : c ∈ l := by
  obtain ⟨x, hx, hc⟩ := List.mem_flatten.mp h
  rw [(List.mem_replicate.mp hx).2] at hc; exact hc
section
variable {X : Cx}
/-- s * k -/
theorem op_mul_str : OpR X (binaryOp .Mult) (fun x y H Q => ∃ (z : Str) (k : Int), x = .str z ∧ y = .int k ∧ k ≤ 100000 ∧ (-100000 ≤ k) ∧ (tl z).length * k.toNat ≤ 10000000 ∧ ∀ r : Str, tl r = rep k.toNat (tl z) → Q (.str r) H) := by
  intro pins s σ H x y v u Q I rx ry h
  obtain ⟨z, k, rfl, rfl, h1, h0, hz, q⟩ := h
  obtain ⟨t, rfl⟩ := rx
  obtain ⟨t', rfl⟩ := ry
  have hz' : z.length * k.toNat ≤ 10000000 := by rw [tl_len]; exact hz
  have small := PyProof.Rows.short24 (n := z.length * k.toNat) (Nat.le_trans hz' (by decide))
  refine P.mul_str ?_ (fun a b => ?_) (fun _ _ => small) ?_
  · rw [decide_eq_false (by omega), decide_eq_false (by omega)]; rfl
  · have hk : 1 ≤ k := by omega
    have hm : (z.length : Int) * k ≤ 10000000 := by
      have : ((z.length * k.toNat : Nat) : Int) ≤ 10000000 := by omega
      rw [Int.natCast_mul, Int.toNat_of_nonneg (by omega)] at this; exact this
    have hle : (z.length : Int) ≤ (2 ^ 63 - 1) / k := by
      rw [Int.le_ediv_iff_mul_le (by omega)]
      exact Int.le_trans hm (by decide)
    omega
  · by_cases hk : k < 1
    · rw [if_pos hk]
      refine ⟨by decide, ?_⟩
      exact ⟨.str Str.empty, H, I.tok _, ⟨_, rfl⟩, q _ (by rw [show k.toNat = 0 by omega]; rfl)⟩
    · rw [if_neg hk]
      by_cases hb : (k == 1 || z.length == 0) = true
      · rw [if_pos hb]
        refine ⟨.str z, H, I, ⟨_, rfl⟩, q _ ?_⟩
        rw [Bool.or_eq_true] at hb
        rcases hb with e | e
        · have : k = 1 := by simpa using e
          subst this; simp [rep]
        · have e : z.length = 0 := by simpa using e
          rw [tl_len] at e
          have : tl z = [] := List.length_eq_zero_iff.mp e
          rw [this]
          exact (List.length_eq_zero_iff.mp (by rw [rep_len]; rfl)).symm
      · rw [if_neg hb]
        have hr : tl (⟨(List.replicate k.toNat z.cps).foldl (· ++ ·) #[]⟩ : Str) = rep k.toNat (tl z) := by
          show ((List.replicate k.toNat z.cps).foldl (· ++ ·) #[]).toList = _
          rw [rep_fold]; simp [tl]
        refine ⟨?_, ?_⟩
        · rw [tl_len, hr, rep_len, Nat.mul_comm]
          exact Nat.le_trans hz (by decide)
        · exact ⟨.str _, H, I.tok _, ⟨_, rfl⟩, q _ hr⟩
end
section
variable {X : Cx} {K : PySem.W.Frag}
/-- t + u, of tuples -/
theorem op_cat (hK : X.K = K) : OpR X (binaryOp .Add) (fun x y H Q => ∃ a b xs ys, x = .ref a ∧ y = .ref b ∧ SqT K H a xs ∧ SqT K H b ys ∧ xs.length + ys.length ≤ sizeLine ∧
    ∀ p H', Same H H' → SqT K H' p (xs ++ ys) → Q (.ref p) H') := by
  subst hK
  intro pins s σ H x y v u Q I rx ry h
  obtain ⟨a, b, xs, ys, e1, e2, ha, hb, hz, q⟩ := h
  refine op_catA pins s σ H x y v u Q I rx ry ⟨a, b, xs, ys, e1, e2, ha, hb, hz, fun e => ?_, fun _ e => ?_, fun _ _ p hp => q p _ (same_new hp) (SqT.of upd_same)⟩
  · subst e; exact q b H (Same.refl _) hb
  · subst e; exact q a H (Same.refl _) (by rw [List.append_nil]; exact ha)
/-- t[lo:hi] of a tuple -/
theorem sl_tupS (hK : X.K = K) : SlR X (fun x lo hi H Q => ∃ a xs, x = .ref a ∧ SqT K H a xs ∧ ∀ p H', Same H H' → SqT K H' p (cutV xs lo hi) → Q (.ref p) H') := by
  subst hK
  intro pins s σ H x v vl vu lo hi sl Q I rx hs pl pu h
  obtain ⟨a, xs, e, hx, q⟩ := h
  refine sl_tupA pins s σ H x v vl vu lo hi sl Q I rx hs pl pu ⟨a, xs, e, hx, fun hw => q a H (Same.refl _) ?_, fun _ p hp => q p _ (same_new hp) (SqT.of upd_same)⟩
  have : cutV xs lo hi = xs := by
    show (xs.drop (HT.sIx xs.length 0 lo)).take (HT.sIx xs.length xs.length hi - HT.sIx xs.length 0 lo) = xs
    rw [hw.1, hw.2, List.drop_zero, Nat.sub_zero, List.take_length]
  rw [this]; exact hx
end
theorem _root_.L2.Same.tup {K : PySem.W.Frag} {H H' : Hp} {a : Addr} {xs : List V} (e : Same H H') (h : SqT K H a xs) : SqT K H' a xs := by
  rcases h with (h | ⟨o, h⟩) | h
  · exact .inl (.inl (e _ _ h))
  · exact .inl (.inr ⟨o, e _ _ h⟩)
  · exact .inr h

/-- a comprehension over a range that makes texts by draws (at most d of them for each) -/
theorem lc_strs {j n d : Nat} {te : TE} {vs : List Nat} {σ : St} {H : Hp} {D s a : Addr} {c : Nat} {Qd : Hp → Prop} (p : Str → Prop) (hD : H D = none) (hS : Src H s a (c + n * d)) (hn : n ≤ 100000)
    (hw : ∀ i : Nat, wipe ((wipe σ vs).set j (some (.int (0 + (i : Int))))) vs = wipe σ vs)
    (hs : ∀ (i c' : Nat) (H1 : Hp) (R : VK), i < n → Ext s H H1 → Src H1 s a (c' + d) → (∀ (x : Str) (H2 : Hp), p x → Ext s H1 H2 → Src H2 s a c' → R (.str x) H2) → te ((wipe σ vs).set j (some (.int (0 + (i : Int))))) H1 R)
    (hd : ∀ (xs : List Str) (H' : Hp), H' D = some (.lst (xs.map V.str)) → xs.length = n → (∀ x ∈ xs, p x) → Ext s H H' → Src H' s a c → Qd H') :
    ∃ W : Nat → Nat → Hp → Prop, (∃ m, W 0 m (upd H D (.lst []))) ∧ ∀ i m H, W i m H →
      ((Itr 0 n).stop i H ∧ Qd H) ∨ ((Itr 0 n).go i H ∧ ∃ Nx : Hp → Prop, (∀ H', Nx H' → ∃ m', m' < m ∧ W (i + 1) m' H') ∧ ∀ x H', (Itr 0 n).yld i H x H' → gName j x (wipe σ vs) H' fun σ2 H2 => wipe σ2 vs = wipe σ vs ∧ tYes σ2 H2 fun b H3 =>
        if b = true then te σ2 H3 fun y H4 => ∃ acc, H4 D = some (.lst acc) ∧ acc.length < sizeLine ∧ Nx (upd H4 D (.lst (acc ++ [y]))) else Nx H3) := by
  have Ds : D ≠ s := hS.ne hD
  have Da : D ≠ a := hS.nea hD
  refine lc_range (lo := 0) (n := n) (fun i H' => ∃ xs : List Str, H' D = some (.lst (xs.map V.str)) ∧ xs.length = i ∧ (∀ x ∈ xs, p x) ∧ Ext s H H' ∧ Src H' s a (c + (n - i) * d)) ?_ ?_ ?_
  · exact ⟨[], upd_same, rfl, (fun _ h => by cases h), Ext.new hD, (hS.new hD).mono (by simp)⟩
  · rintro i H' hi ⟨xs, hx, hl, hA, hE, hS'⟩
    refine ⟨hw i, ?_⟩
    show te _ H' _
    have e : c + (n - i) * d = c + (n - (i + 1)) * d + d := by
      rw [show n - i = n - (i + 1) + 1 by omega, Nat.succ_mul]; omega
    refine hs i (c + (n - (i + 1)) * d) H' _ hi hE (by rw [← e]; exact hS') (fun x H2 hp hE2 hS2 => ?_)
    refine ⟨xs.map V.str, hE2 _ _ Ds hx, ?_, xs ++ [x], by rw [upd_same, List.map_append]; rfl, by rw [List.length_append]; simp [hl], fun y hy => ?_, ?_, hS2.put Ds Da⟩
    · rw [List.length_map]; exact Nat.lt_of_lt_of_le (show xs.length < 100000 by omega) (by decide)
    · rcases List.mem_append.mp hy with h | h
      · exact hA y h
      · rw [List.mem_singleton.mp h]; exact hp
    · intro b o hb hH
      rw [upd_ne (ne_of_none hH hD)]; exact hE2 _ _ hb (hE _ _ hb hH)
  · rintro H' ⟨xs, hx, hl, hA, hE, hS'⟩
    exact hd xs H' hx hl hA hE (hS'.mono (by omega))
theorem atI_pos {α : Type} {xs : List α} {v : Int} {x : α} (h0 : 0 ≤ v) (h : xs[v.toNat]? = some x) : atI xs v = some x := by
  have e : v = (v.toNat : Int) := by omega
  rw [e]; exact atI_nat h
/-- any item of a list of texts -/
def sp__law_pick (K : PySem.W.Frag) : Sp := fun vs H Q _ =>
  (∃ (s a r : Addr) (xs : List V) (c : Nat), vs = [.ref s, .ref r] ∧ SqL K H r xs ∧ r ≠ s ∧ xs ≠ [] ∧ xs.length ≤ 100000 ∧ Src H s a (c + 1) ∧ ∀ (v : V) (H' : Hp), v ∈ xs → Ext s H H' → Src H' s a c → Q v H') ∨
  (∃ (s a : Addr) (x : Str) (c : Nat), vs = [.ref s, .str x] ∧ tl x ≠ [] ∧ (tl x).length ≤ 100000 ∧ Src H s a (c + 1) ∧ ∀ (ch : Nat) (H' : Hp), ch ∈ tl x → Ext s H H' → Src H' s a c → Q (.str (S [ch])) H')
def sp__law_once_in : Sp := fun vs H Q _ => ∃ (s a : Addr) (m : Int) (c : Nat), vs = [.ref s, .int m] ∧ 0 < m ∧ m < 1073741824 ∧ Src H s a (c + 1) ∧ ∀ (b : Bool) (H' : Hp), Ext s H H' → Src H' s a c → Q (.bl b) H'
end Z
namespace Z
open PySem L2
/-! ### own errors: raised, caught, asked -/
section
variable (P : Program) (w : World) (K : PySem.W.Frag) (mg : Str → Option Value) (base : Heap)
/-- a def that may raise, as callers use it -/
def CalX (x : Str) (ps : List Str) (k : Nat) (sp : Sp) : Prop := ∃ (f : Addr) (fd : FuncData), FnOk P w K mg base (L2.CX P w) k f fd ps sp ∧ mg x = some (.ref f) ∧ PySem.W.keepIn K (.ref f) = true ∧ Binds K fd ps []
end
/-- an own error class with an __init__ of its own (at fI) -/
structure XOk (K : PySem.W.Frag) (mg : Str → Option Value) (x : Str) (C : Addr) : Prop where
  g : mg x = some (.ref C)
  o : OexC K C
  e : ExcC K C
theorem XOk.xf {K : PySem.W.Frag} {mg : Str → Option Value} {x : Str} {C : Addr} (T : XOk K mg x C) : XfC K C := ⟨T.e.hg, T.e.hk, T.e.hs, T.e.hd⟩
/-- the class's __init__(self, f): self.f = f -/
def sp_init (K : PySem.W.Frag) (C : Addr) (f : Str) : Sp := fun vs H Q _ => ∃ (a : Addr) (v : V), vs = [.ref a, v] ∧ OexC K C ∧ PySem.W.findIn K (.ref C) f = some none ∧ H a = some (exo a C none) ∧
  ∀ dx, H dx = none → dx ≠ a → Q .non (upd (upd H dx (exd dx [(f, v)])) a (exo a C (some dx)))
/-- isinstance(e, c), e the caught error at a -/
def rIsX (K : PySem.W.Frag) (cls : Value) (d : Option Addr) (a : Addr) : List V → Hp → VK → Prop := fun xs H Q => ∃ (D dd : Addr) (c : V) (cv : Value) (b : Bool) (fs : List (Str × V)), cls = .ref D ∧ d = some dd ∧ ExcC K D ∧ xs = [.ref a, c] ∧ H dd = some (.xd fs) ∧ ClsV c cv ∧
  PySem.W.kitOne K cls cv = some b ∧ Q (.bl b) H
def rIsXT (K : PySem.W.Frag) (cls : Value) (d : Option Addr) (a : Addr) : List V → Hp → VK → Prop := fun xs H Q => ∃ (D dd tp : Addr) (cs : List V) (us : List Value) (b : Bool) (fs : List (Str × V)), cls = .ref D ∧ d = some dd ∧ ExcC K D ∧ xs = [.ref a, .ref tp] ∧ H dd = some (.xd fs) ∧
  H tp = some (.tup cs) ∧ Paired ClsV cs us ∧ PySem.W.kitAny K cls us = some b ∧ Q (.bl b) H
section
variable {X : Cx} {a : Addr} {oe : Obj} {cls : Value} {d : Option Addr} {pn : List (Addr × Obj)}
theorem inst_at {pins : List (Addr × Obj)} {σ : St} {H : Hp} {s : Shared} {D dd : Addr} {fs : List (Str × V)} (I : Inv (X.suite a ((a, oe) :: pn)) pins σ H s) (hz : Zc (.ref D) (some dd) oe) (hf : ∃ vs, oe.data = .fields vs) (hd : H dd = some (.xd fs)) :
    ∃ od, PySem.W.InstAt s.heap a oe D (some od) := by
  obtain ⟨hget, _⟩ := I.pin (a, oe) (List.mem_append.mpr (.inl List.mem_cons_self))
  obtain ⟨vs, hv⟩ := hf
  have hx : ObjOk X.prog X.w H s.heap dd (.xd fs) := I.hok dd _ hd
  obtain ⟨mA, hns, hr⟩ := hx
  obtain ⟨od, ho, hl⟩ := lookIn_ns hns
  exact ⟨od, ⟨hget, hz.1, by unfold PySem.W.notCls; rw [hv] <;> rfl, by rw [hz.2]; exact ho⟩⟩
theorem kitx_D {K : PySem.W.Frag} {D x : Addr} {ox : Obj} {od : Option Obj} (C : ExcC K D) : PySem.W.KitX K (.ref x) (.ref D) (fun h => PySem.W.InstAt h x ox D od) := by
  refine PySem.W.kitx_exc ?_ C.hg C.hk C.hs C.ha C.hn C.ht C.hm
  have h := C.hd
  obtain ⟨cd, hc, _⟩ := PySem.W.any_some h
  rw [hc]; rfl
theorem call_isX (hz : Zc cls d oe) (hf : ∃ vs, oe.data = .fields vs) : CallR (X.suite a ((a, oe) :: pn)) (.builtin "isinstance") (rIsX X.K cls d a) := by
  intro pins s σ H xs us Q I r h
  obtain ⟨D, dd, c, cv, b, fs, rfl, rfl, C, rfl, hd, k, e, q⟩ := h
  obtain ⟨u1, u2, rfl, r1, r2⟩ := vals2 r
  have e2 := k.eq r2
  subst e2
  obtain rfl : u1 = Value.ref a := r1
  obtain ⟨od, J⟩ := inst_at I hz hf hd
  exact PySem.W.kia_one (kitx_D C) I.kIn J e (fun z => nomatch z) fun tk => ⟨.bl b, H, I.kept (t' := tk) fun _ _ z => z, rfl, q⟩
theorem call_isXT (hz : Zc cls d oe) (hf : ∃ vs, oe.data = .fields vs) : CallR (X.suite a ((a, oe) :: pn)) (.builtin "isinstance") (rIsXT X.K cls d a) := by
  intro pins s σ H xs us Q I r h
  obtain ⟨D, dd, tp, cs, ws, b, fs, rfl, rfl, C, rfl, hd, hT, k, e, q⟩ := h
  obtain ⟨u1, u2, rfl, r1, r2⟩ := vals2 r
  obtain rfl : u2 = Value.ref tp := r2
  obtain rfl : u1 = Value.ref a := r1
  obtain ⟨od, J⟩ := inst_at I hz hf hd
  obtain ⟨_, its, rv, o, h1, h2, n, h3⟩ := (show ObjOk X.prog X.w H s.heap tp (.tup cs) from I.hok tp _ hT)
  have e3 := ClsV.all k rv
  subst e3
  obtain ⟨oc, od', dt, sl⟩ := o
  simp only at h2 h3
  subst h2 h3
  exact PySem.W.kia_tup (kitx_D C) I.kIn J h1 e (fun z => nomatch z) fun tk => ⟨.bl b, H, I.kept (t' := tk) fun _ _ z => z, rfl, q⟩
end
/-- the heap behind a made error -/
theorem made_same {H : Hp} {a dx : Addr} {o1 o2 o3 o4 : HO} (ha : H a = none) (hd : H dx = none) : Same H (upd (del (upd (upd (upd H a o1) dx o2) a o3) a) dx o4) := fun b u h => by
  rw [upd_ne (ne_of_none h hd), del_ne (ne_of_none h ha), upd_ne (ne_of_none h ha), upd_ne (ne_of_none h hd), upd_ne (ne_of_none h ha)]; exact h
/-- what a raised error tells: behind it all stands that stood -/
theorem paired1 {c : V} {u : Value} (k : ClsV c u) : Paired ClsV [c] [u] := .cons k .nil
end Z
namespace Z
open PySem L2 SX
open PySem.Builtin.Str (occurrences lastOccurrence subAt)
theorem at_one {x : Str} {c hi k : Nat} (h : hi ≤ (tl x).length) : StrLaws.At x (S [c]) hi k ↔ k < hi ∧ (tl x)[k]? = some c := by
  have e := StrLaws.subAt_one x c k
  have l1 : (S [c]).length = 1 := rfl
  unfold StrLaws.At
  constructor
  · rintro ⟨h1, h2⟩
    rw [l1] at h1
    refine ⟨by omega, e.mp ⟨?_, h2⟩⟩
    show k + 1 ≤ x.length
    rw [tl_len]; omega
  · rintro ⟨h1, h2⟩
    have h3 := e.mpr h2
    exact ⟨by rw [l1]; omega, h3.2⟩
theorem find_from (x : Str) (c : Nat) {i : Int} (h : 0 ≤ i) :
    (Txt.find3 x (S [c]) i = -1 ∧ ∀ k : Nat, i ≤ (k : Int) → (tl x)[k]? ≠ some c) ∨ ∃ k : Nat, Txt.find3 x (S [c]) i = (k : Int) ∧ i ≤ (k : Int) ∧ (tl x)[k]? = some c ∧ ∀ j : Nat, i ≤ (j : Int) → j < k → (tl x)[j]? ≠ some c := by
  obtain ⟨n, rfl⟩ := Int.eq_ofNat_of_zero_le h
  have hf : fromIndex x.length (n : Int) = n := by
    unfold fromIndex
    rw [if_neg (by omega), Int.max_eq_right (by omega)]; rfl
  unfold Txt.find3
  rw [hf, StrLaws.occ_eq]
  have hx : x.length = (tl x).length := tl_len x
  rcases StrLaws.occ_first x (S [c]) x.length 1 (Nat.le_refl _) (List.range' n (x.length + 1 - n)) n (fun i hi => (List.mem_range'_1.mp hi).1) with ⟨h0, hn⟩ | ⟨pre, a, post, e, h0, ha, hn⟩
  · refine .inl ⟨by rw [h0], fun k hk hc => ?_⟩
    have hlt := (List.getElem?_eq_some_iff.mp hc).1
    exact hn k (List.mem_range'_1.mpr ⟨by omega, by omega⟩) ((at_one (by omega)).mpr ⟨by omega, hc⟩)
  · have h1 := (at_one (by omega)).mp ha
    have hm : a ∈ List.range' n (x.length + 1 - n) := by rw [e]; simp
    refine .inr ⟨a, ?_, by have := (List.mem_range'_1.mp hm).1; omega, h1.2, fun j hj hl hc => ?_⟩
    · cases hq : (forIn (List.range' n (x.length + 1 - n)) ((#[] : Array Nat), n) (StrLaws.occBody x (S [c]) x.length 1)).run.fst.toList with
      | nil =>
        have : (forIn (List.range' n (x.length + 1 - n)) ((#[] : Array Nat), n) (StrLaws.occBody x (S [c]) x.length 1)).run.fst = #[] := Array.toList_eq_nil_iff.mp hq
        rw [this] at h0; simp at h0
      | cons b r =>
        have hb : (forIn (List.range' n (x.length + 1 - n)) ((#[] : Array Nat), n) (StrLaws.occBody x (S [c]) x.length 1)).run.fst[0]? = some b := by
          rw [← Array.getElem?_toList, hq]; rfl
        rw [hb] at h0
        cases h0; rfl
    · have hjm : j ∈ pre := by
        have hlt := (List.getElem?_eq_some_iff.mp hc).1
        have hjr : j ∈ List.range' n (x.length + 1 - n) := List.mem_range'_1.mpr ⟨by omega, by omega⟩
        have hp : (pre ++ a :: post).Pairwise (· < ·) := by rw [← e]; exact List.pairwise_lt_range'
        rw [e] at hjr
        rcases List.mem_append.mp hjr with q | q
        · exact q
        · rcases List.mem_cons.mp q with q | q
          · omega
          · have := (List.pairwise_cons.mp (List.pairwise_append.mp hp).2.1).1 j q
            omega
      exact hn j hjm ((at_one (by omega)).mpr ⟨by have := (List.getElem?_eq_some_iff.mp hc).1; omega, hc⟩)
theorem rfind_in (x : Str) (c : Nat) {i m : Int} (h : 0 ≤ i) (hm : 0 ≤ m) :
    (Txt.rfindIn x (S [c]) i m = -1 ∧ ∀ k : Nat, i ≤ (k : Int) → (k : Int) < m → (tl x)[k]? ≠ some c) ∨ ∃ k : Nat, Txt.rfindIn x (S [c]) i m = (k : Int) ∧ i ≤ (k : Int) ∧ (k : Int) < m ∧ (tl x)[k]? = some c ∧ ∀ j : Nat, k < j → (j : Int) < m → (tl x)[j]? ≠ some c := by
  obtain ⟨n, rfl⟩ := Int.eq_ofNat_of_zero_le h
  obtain ⟨e, rfl⟩ := Int.eq_ofNat_of_zero_le hm
  have hf : fromIndex x.length (n : Int) = n := by
    unfold fromIndex
    rw [if_neg (by omega), Int.max_eq_right (by omega)]; rfl
  have ht : toIndexW x.length (e : Int) = min e x.length := by
    unfold toIndexW
    rw [if_neg (by omega), Int.max_eq_right (by omega)]; rfl
  have hx : x.length = (tl x).length := tl_len x
  unfold Txt.rfindIn
  rw [hf, ht, StrLaws.last_eq]
  have key := StrLaws.last_run x (S [c]) (min e x.length) (List.range' n (min e x.length + 1 - n)) [] none (fun _ h => nomatch h) (fun _ h => nomatch h) List.pairwise_lt_range'
  rw [List.nil_append] at key
  cases hq : (forIn (List.range' n (min e x.length + 1 - n)) none (StrLaws.lastBody x (S [c]) (min e x.length))).run with
  | none =>
    rw [hq] at key
    refine .inl ⟨rfl, fun k hk hk2 hc => ?_⟩
    have hlt := (List.getElem?_eq_some_iff.mp hc).1
    exact key k (List.mem_range'_1.mpr ⟨by omega, by omega⟩) ((at_one (by omega)).mpr ⟨by omega, hc⟩)
  | some a =>
    rw [hq] at key
    obtain ⟨ha, hl⟩ := key
    have h1 := (at_one (by omega)).mp ha
    have hr : n ≤ a := by
      -- the last place is one of those that were looked at
      have : ∀ (l : List Nat) (st : Option Nat) (b : Nat), (forIn l st (StrLaws.lastBody x (S [c]) (min e x.length))).run = some b → st = some b ∨ b ∈ l := by
        intro l
        induction l with
        | nil => intro st b hb; exact .inl hb
        | cons d l ih =>
          intro st b hb
          rw [List.forIn_cons] at hb
          unfold StrLaws.lastBody at hb
          split at hb
          · rcases ih _ _ hb with q | q
            · exact .inr (by cases q; exact List.mem_cons_self)
            · exact .inr (List.mem_cons_of_mem _ q)
          · rcases ih _ _ hb with q | q
            · exact .inl q
            · exact .inr (List.mem_cons_of_mem _ q)
      rcases this _ _ _ hq with q | q
      · cases q
      · exact (List.mem_range'_1.mp q).1
    refine .inr ⟨a, rfl, by omega, by omega, h1.2, fun j hj hj2 hc => ?_⟩
    have hlt := (List.getElem?_eq_some_iff.mp hc).1
    exact hl j (List.mem_range'_1.mpr ⟨by omega, by omega⟩) hj ((at_one (by omega)).mpr ⟨by omega, hc⟩)

theorem tl_inj : ∀ {a b : List Str}, a.map tl = b.map tl → a = b
  | [], [], _ => rfl
  | [], _ :: _, h => by cases h
  | _ :: _, [], h => by cases h
  | x :: a, y :: b, h => by
    rw [List.map_cons, List.map_cons] at h
    obtain ⟨h1, h2⟩ := List.cons.inj h
    rw [tl_ext h1, tl_inj h2]
theorem DV.strsT {K : PySem.W.Frag} {H : Hp} {p : Addr} {xs : List Str} (h : SqT K H p (xs.map V.str)) : DV K H (.tup (xs.map D.str)) (.ref p) := by
  unfold DV
  exact ⟨p, _, rfl, h, DVs.strs xs⟩
end Z
namespace Z
open PySem L2 SX
/-! ### methods of own classes -/
section
variable (P : Program) (w : World) (K : PySem.W.Frag) (mg : Str → Option Value) (base : Heap)
/-- a method, with its promise -/
def CalM (C : Addr) (m : Str) (ps : List Str) (k : Nat) (sp : Sp) : Prop := ∃ (f : Addr) (fd : FuncData), FnOk P w K mg base CX0 k f fd ps sp ∧ Meth K C m f ∧ Binds K fd ps []
def CalI (C : Addr) (ps : List Str) (k : Nat) (sp : Sp) : Prop := ∃ (f : Addr) (fd : FuncData), FnOk P w K mg base CX0 k f fd ps sp ∧ Mk K C f ∧ Binds K fd ps []
def CalP (C : Addr) (m : Str) (ps : List Str) (k : Nat) (sp : Sp) : Prop := ∃ (p f : Addr) (fd : FuncData), FnOk P w K mg base CX0 k f fd ps sp ∧ PropOf K C m p f ∧ Binds K fd ps []
def DfM (C : Addr) (m q : Str) (st : Stmt) (ps : List Str) : Prop := ∃ (f : Addr) (fd : FuncData), Fun K m q st f fd ∧ Meth K C m f ∧ Binds K fd ps []
def DfI (C : Addr) (q : Str) (st : Stmt) (ps : List Str) : Prop := ∃ (f : Addr) (fd : FuncData), Fun K "__init__" q st f fd ∧ Mk K C f ∧ Binds K fd ps []
def DfP (C : Addr) (m q : Str) (st : Stmt) (ps : List Str) : Prop := ∃ (p f : Addr) (fd : FuncData), Fun K m q st f fd ∧ PropOf K C m p f ∧ Binds K fd ps []
end
/-- all but these stays -/
def ExtL (ms : List Addr) (H H' : Hp) : Prop := ∀ b o, b ∉ ms → H b = some o → H' b = some o
theorem ExtL.refl (ms : List Addr) (H : Hp) : ExtL ms H H := fun _ _ _ h => h
theorem ExtL.trans {ms : List Addr} {H H1 H2 : Hp} (a : ExtL ms H H1) (b : ExtL ms H1 H2) : ExtL ms H H2 := fun c o n h => b c o n (a c o n h)
theorem ExtL.of {ms : List Addr} {H H' : Hp} (a : Same H H') : ExtL ms H H' := fun c o _ h => a c o h
theorem ExtL.ofExt {ms : List Addr} {s : Addr} {H H' : Hp} (a : Ext s H H') (m : s ∈ ms) : ExtL ms H H' := fun c o n h => a c o (fun e => n (by rw [e]; exact m)) h
theorem ExtL.mono {ms ns : List Addr} {H H' : Hp} (a : ExtL ms H H') (m : ∀ x ∈ ms, x ∈ ns) : ExtL ns H H' := fun c o n h => a c o (fun e => n (m c e)) h
theorem ExtL.put {ms : List Addr} {p : Addr} {H : Hp} {o : HO} (m : p ∈ ms) : ExtL ms H (upd H p o) := fun c u n h => by
  rw [upd_ne (fun e => n (by rw [e]; exact m))]; exact h
theorem ExtL.new {ms : List Addr} {p : Addr} {H : Hp} {o : HO} (n : H p = none) : ExtL ms H (upd H p o) := ExtL.of (same_new n)
end Z
namespace Z
open PySem PySem.W PySem.Calls PyProof.Rows L2
/-! ### data, as the sorts and comparisons see it -/
mutual
def py : D → PyData
  | .non => .none
  | .bl b => .bool b
  | .int i => .int i
  | .str x => .str x
  | .tup xs => .tuple (pys xs)
def pys : List D → List PyData
  | [] => []
  | d :: ds => py d :: pys ds
end
theorem pys_map : ∀ ds : List D, pys ds = ds.map py
  | [] => by simp [pys]
  | d :: ds => by rw [pys, pys_map ds, List.map_cons]
section
variable {K : Frag} {H : Hp}
mutual
theorem DV.dp : ∀ {d : D} {v : V}, DV K H d v → Dp K H v (py d)
  | .non, _, h => by unfold DV at h; subst h; unfold py; exact .non
  | .bl b, _, h => by unfold DV at h; subst h; unfold py; exact .bl b
  | .int i, _, h => by unfold DV at h; subst h; unfold py; exact .int i
  | .str x, _, h => by unfold DV at h; subst h; unfold py; exact .str x
  | .tup ds, _, h => by
    unfold DV at h
    obtain ⟨a, vs, rfl, q, r⟩ := h
    unfold py
    exact .tup q (DVs.dpa r)
theorem DVs.dpa : ∀ {ds : List D} {vs : List V}, DVs K H ds vs → DpAll K H vs (pys ds)
  | [], _, h => by unfold DVs at h; subst h; unfold pys; exact .nil
  | d :: ds, _, h => by
    unfold DVs at h
    obtain ⟨v, r, rfl, q, t⟩ := h
    unfold pys
    exact .cons (DV.dp q) (DVs.dpa t)
end
end
mutual
theorem py_eqv : ∀ (d e : D), alike (py d) (py e) = true → (PyData.eqv (py d) (py e) = true ↔ d = e)
  | .non, .non, _ => by simp [py, PyData.eqv]
  | .bl b, .bl c, _ => by simp [py, PyData.eqv]
  | .int b, .int c, _ => by simp [py, PyData.eqv]
  | .str b, .str c, _ => by simp [py, PyData.eqv]
  | .tup xs, .tup ys, h => by
    have := pys_eqv xs ys (by simpa [py, alike] using h)
    simp only [py, PyData.eqv, D.tup.injEq]
    exact this
  | .non, .bl _, h | .non, .int _, h | .non, .str _, h | .non, .tup _, h => by simp [py, alike] at h
  | .bl _, .non, h | .bl _, .int _, h | .bl _, .str _, h | .bl _, .tup _, h => by simp [py, alike] at h
  | .int _, .non, h | .int _, .bl _, h | .int _, .str _, h | .int _, .tup _, h => by simp [py, alike] at h
  | .str _, .non, h | .str _, .bl _, h | .str _, .int _, h | .str _, .tup _, h => by simp [py, alike] at h
  | .tup _, .non, h | .tup _, .bl _, h | .tup _, .int _, h | .tup _, .str _, h => by simp [py, alike] at h
theorem pys_eqv : ∀ (d e : List D), alikeAll (pys d) (pys e) = true → (PyData.eqvAll (pys d) (pys e) = true ↔ d = e)
  | [], [], _ => by simp [pys, PyData.eqvAll]
  | [], y :: ys, _ => by simp [pys, PyData.eqvAll]
  | x :: xs, [], _ => by simp [pys, PyData.eqvAll]
  | x :: xs, y :: ys, h => by
    have h' : alike (py x) (py y) = true ∧ alikeAll (pys xs) (pys ys) = true := by simpa [pys, alikeAll] using h
    simp only [pys, PyData.eqvAll, Bool.and_eq_true, List.cons.injEq, py_eqv x y h'.1, pys_eqv xs ys h'.2]
end
/-- compared with another by == -/
def eqD (d e : D) : Bool := PyData.eqv (py d) (py e)
theorem eqD_iff {d e : D} (h : alike (py d) (py e) = true) : eqD d e = true ↔ d = e := py_eqv d e h
def Okd (d : D) : Prop := SeqAt.shaped (py d) = true
def Okl (ds : List D) : Prop := SeqAt.shaped (.list (pys ds)) = true
mutual
def fine : Nat → D → Bool
  | _, .non => true
  | _, .bl _ => true
  | _, .int _ => true
  | _, .str x => PyData.strOk x
  | 0, .tup _ => false
  | n + 1, .tup xs => fines n xs
def fines : Nat → List D → Bool
  | _, [] => true
  | n, d :: ds => fine n d && fines n ds
end
mutual
theorem fine_lay : ∀ {n : Nat} {d : D}, fine n d = true → (py d).canLay0 = true ∧ (py d).depth ≤ n
  | n, .non, _ => by simp [py, PyData.canLay0, PyData.depth]
  | n, .bl _, _ => by simp [py, PyData.canLay0, PyData.depth]
  | n, .int _, _ => by simp [py, PyData.canLay0, PyData.depth]
  | n, .str x, h => by
    have h' : PyData.strOk x = true := by cases n <;> simpa [fine] using h
    refine ⟨by simpa [py, PyData.canLay0] using h', by simp [py, PyData.depth]⟩
  | 0, .tup _, h => by simp [fine] at h
  | n + 1, .tup xs, h => by
    have h' := fines_lay (show fines n xs = true by simpa [fine] using h)
    refine ⟨by simpa [py, PyData.canLay0] using h'.1, ?_⟩
    simp only [py, PyData.depth]
    have := h'.2
    omega
theorem fines_lay : ∀ {n : Nat} {ds : List D}, fines n ds = true → PyData.canLayAll0 (pys ds) = true ∧ PyData.depthAll (pys ds) ≤ n
  | n, [], _ => by simp [pys, PyData.canLayAll0, PyData.depthAll]
  | n, d :: ds, h => by
    have h' : fine n d = true ∧ fines n ds = true := by simpa [fines] using h
    have h1 := fine_lay h'.1
    have h2 := fines_lay h'.2
    refine ⟨by simp [pys, PyData.canLayAll0, h1.1, h2.1], ?_⟩
    simp only [pys, PyData.depthAll]
    have := h1.2
    have := h2.2
    omega
end
theorem fine_ok {n : Nat} {d : D} (h : fine n d = true) (hn : n ≤ 60 := by decide) : Okd d := by
  have := fine_lay h
  unfold Okd SeqAt.shaped
  rw [this.1, decide_eq_true (by omega)]; rfl
theorem fines_ok {n : Nat} {ds : List D} (h : fines n ds = true) (hn : n ≤ 60 := by decide) : Okl ds := by
  have := fines_lay h
  unfold Okl SeqAt.shaped
  have e : (PyData.list (pys ds)).canLay0 = true := by simpa [PyData.canLay0] using this.1
  have f : (PyData.list (pys ds)).depth ≤ 64 := by simp only [PyData.depth]; omega
  rw [e, decide_eq_true f]; rfl
theorem fines_map {α : Type} {f : α → D} {n : Nat} : ∀ {l : List α}, (∀ x ∈ l, fine n (f x) = true) → fines n (l.map f) = true
  | [], _ => by simp [fines]
  | x :: l, h => by
    rw [List.map_cons, fines, h x (by simp), fines_map fun y m => h y (List.mem_cons_of_mem _ m)]; rfl
theorem fine_tup {n : Nat} {ds : List D} (h : fines n ds = true) : fine (n + 1) (.tup ds) = true := by simpa [fine] using h
theorem fine_low {n : Nat} {x : Str} (h : ∀ c ∈ tl x, c < 1114112) : fine n (.str x) = true := by
  have : PyData.strOk x = true := by
    unfold PyData.strOk
    rw [← Array.all_toList, List.all_eq_true]
    exact fun c m => decide_eq_true (h c m)
  cases n <;> simpa [fine] using this
theorem fines_cons {n : Nat} {d : D} {ds : List D} (h : fine n d = true) (t : fines n ds = true) : fines n (d :: ds) = true := by rw [fines, h, t]; rfl
theorem fines_nil {n : Nat} : fines n [] = true := by rw [fines]
theorem fine_int {n : Nat} {i : Int} : fine n (.int i) = true := by cases n <;> simp [fine]
theorem fine_non {n : Nat} : fine n .non = true := by cases n <;> simp [fine]
section
variable {X : Cx}
/-- == and != of data -/
def rEqDD (K : Frag) : R2 := fun x y H Q => ∃ d e, DV K H d x ∧ DV K H e y ∧ Okd d ∧ Okd e ∧ Q (.bl (eqD d e)) H
def rNeDD (K : Frag) : R2 := fun x y H Q => ∃ d e, DV K H d x ∧ DV K H e y ∧ Okd d ∧ Okd e ∧ Q (.bl (!eqD d e)) H
theorem op_eqDD (hu : X.A.units + 64 < cLine) : OpR X (compareOp .Eq) (rEqDD X.K) := by
  intro pins s σ H x y v u Q I rx ry h
  obtain ⟨d, e, hd, he, sd, se, q⟩ := h
  exact op_eqD hu pins s σ H x y v u Q I rx ry ⟨_, _, hd.dp, he.dp, sd, se, q⟩
theorem op_neDD (hu : X.A.units + 64 < cLine) : OpR X (compareOp .NotEq) (rNeDD X.K) := by
  intro pins s σ H x y v u Q I rx ry h
  obtain ⟨d, e, hd, he, sd, se, q⟩ := h
  exact op_neD hu pins s σ H x y v u Q I rx ry ⟨_, _, hd.dp, he.dp, sd, se, q⟩
/-- in and not in over a list of data -/
def rInDD (K : Frag) (neg : Bool) : R2 := fun x y H Q => ∃ (d : D) (a : Addr) (vs : List V) (ds : List D), DV K H d x ∧ y = .ref a ∧ SqL K H a vs ∧ DVs K H ds vs ∧ Okd d ∧ Okl ds ∧ Q (.bl (if neg then !ds.any (fun z => eqD z d) else ds.any fun z => eqD z d)) H
theorem any_pys (d : D) (ds : List D) : ((pys ds).any fun z => PyData.eqv z (py d)) = ds.any fun z => eqD z d := by
  rw [pys_map, List.any_map]; rfl
theorem op_inDD (hu : X.A.units + 65 < cLine) : OpR X (compareOp .In) (rInDD X.K false) := by
  intro pins s σ H x y v u Q I rx ry h
  obtain ⟨d, a, vs, ds, hd, rfl, hs, he, sd, se, q⟩ := h
  exact op_inD hu pins s σ H _ _ v u Q I rx ry ⟨_, _, hd.dp, .lst hs he.dpa, sd, se, by rw [any_pys]; exact q⟩
theorem op_notInDD (hu : X.A.units + 65 < cLine) : OpR X (compareOp .NotIn) (rInDD X.K true) := by
  intro pins s σ H x y v u Q I rx ry h
  obtain ⟨d, a, vs, ds, hd, rfl, hs, he, sd, se, q⟩ := h
  exact op_notInD hu pins s σ H _ _ v u Q I rx ry ⟨_, _, hd.dp, .lst hs he.dpa, sd, se, by rw [any_pys]; exact q⟩
theorem any_eqD {α : Type} {f : α → D} {d : α} {l : List α} (hf : ∀ x ∈ l, f x = f d → x = d) (h : ∀ x ∈ l, alike (py (f x)) (py (f d)) = true) : (l.map f).any (fun z => eqD z (f d)) = true ↔ d ∈ l := by
  rw [List.any_eq_true]
  constructor
  · rintro ⟨z, hz, e⟩
    obtain ⟨x, hx, rfl⟩ := List.mem_map.mp hz
    rw [← hf x hx ((eqD_iff (h x hx)).mp e)]; exact hx
  · intro m
    exact ⟨f d, List.mem_map_of_mem m, (eqD_iff (h d m)).mpr rfl⟩
/-- sorted(xs), xs a list of data -/
def dle {β : Type} (f : β → D) : β → β → Bool := dataLe false fun b => py (f b)
def rSortDD (K : Frag) : List V → Hp → VK → Prop := fun vs H Q => ∃ (a : Addr) (us : List V) (β : Type) (l : List β) (f : β → D), vs = [.ref a] ∧ SqL K H a us ∧ DVs K H (l.map f) us ∧ AllAlike (l.map fun b => py (f b)) ∧ Sortable (l.map fun b => py (f b)) ∧ (∀ b ∈ l, (py (f b)).depth ≤ 60) ∧
  ∀ (ys : List V) (p : Addr), H p = none → DVs K H ((l.mergeSort (dle f)).map f) ys → Q (.ref p) (upd H p (.lst ys))
theorem dvs_each {K : Frag} {H : Hp} {β : Type} {f : β → D} : ∀ {l : List β} {us : List V} {vs : List Value}, DVs K H (l.map f) us → Vals us vs → EachIs (fun u b => ∃ v, RelV v u ∧ DV K H (f b) v) vs l
  | [], _, _, h, r => by
    unfold List.map DVs at h; subst h; cases r; exact .nil
  | b :: l, _, _, h, r => by
    obtain ⟨v, t, rfl, q, h2⟩ := h
    cases r with
    | cons r1 r2 => exact .cons ⟨v, r1, q⟩ (dvs_each h2 r2)
theorem each_dvs {K : Frag} {H : Hp} {β : Type} {f : β → D} : ∀ {l : List β} {vs : List Value}, EachIs (fun u b => ∃ v, RelV v u ∧ DV K H (f b) v) vs l → ∃ us, DVs K H (l.map f) us ∧ Vals us vs
  | [], _, h => by cases h; exact ⟨[], by unfold List.map DVs; rfl, .nil⟩
  | b :: l, _, h => by
    cases h with
    | cons h1 h2 =>
      obtain ⟨v, r1, q⟩ := h1
      obtain ⟨us, d, r2⟩ := each_dvs h2
      exact ⟨v :: us, ⟨v, us, rfl, q, d⟩, .cons r1 r2⟩
theorem each_reads {pins : List (Addr × Obj)} {σ : L2.St} {H : Hp} {s : Shared} (I : Inv X pins σ H s) {β : Type} {f : β → D} {l : List β} {vs : List Value} (h : EachIs (fun u b => ∃ v, RelV v u ∧ DV X.K H (f b) v) vs l) :
    EachIs (fun u b => ∃ as, Reads s.heap u (py (f b)) as) vs l := h.mono fun u b ⟨v, r, q⟩ => Dp.reads I _ _ _ q.dp r
theorem vals_len : ∀ {us : List V} {vs : List Value}, Vals us vs → us.length = vs.length
  | _, _, .nil => rfl
  | _, _, .cons _ r => by rw [List.length_cons, List.length_cons, vals_len r]
theorem hu_big {n : Nat} (h : X.A.units + 65 < cLine) (k : n ≤ 60) : X.A.units + 2 + n < cLine := by omega
theorem cr_sortDD (hu : X.A.units + 65 < cLine) : CallR X (.builtin "sorted") (rSortDD X.K) := by
  intro pins s σ H vs us Q I r h
  obtain ⟨a, xs, β, l, f, rfl, hs, hd, hal, hsb, hdp, q⟩ := h
  obtain ⟨its, rv, hl, hz⟩ := I.list hs
  obtain ⟨u, rfl, ru⟩ := vals1 r
  obtain rfl : u = Value.ref a := ru
  have e := dvs_each hd rv
  have hlen := vals_len rv
  have hlen2 := e.length
  refine PySem.W.sorted_data (enc := fun b => py (f b)) hl.isList e (each_reads I e) hal hsb (by omega) (fun b m => hu_big hu (hdp b m)) fun out ho eo => ?_
  obtain ⟨ys, dy, ry⟩ := each_dvs eo
  have fr : H (s.heap.objs.size + 1) = none := I.hok.fresh (Nat.le_succ _)
  obtain ⟨n, hn⟩ := sortedAll_at s.heap its (List.toArray out)
  refine ⟨.ref _, upd H _ (.lst ys), I.laid (t' := s.toks) (fun b o g => sortedAll_old g) (Nat.le_succ _) ⟨?_, out, n, ry, hn⟩, rfl, q ys _ fr dy⟩
  rw [vals_len ry]; omega
/-- min(xs), max(xs) of data -/
def rMinDD (K : Frag) (mx : Bool) : List V → Hp → VK → Prop := fun vs H Q => ∃ (a : Addr) (us : List V) (β : Type) (l : List β) (f : β → D), vs = [.ref a] ∧ SqL K H a us ∧ DVs K H (l.map f) us ∧ AllAlike (l.map fun b => py (f b)) ∧ (∀ b ∈ l, f b ≠ .non) ∧ (∀ b ∈ l, (py (f b)).depth ≤ 60) ∧ l ≠ [] ∧
  ∀ (m : β) (v : V), m ∈ l → (∀ y ∈ l, (if mx then dataLt (py (f m)) (py (f y)) else dataLt (py (f y)) (py (f m))) = false) → DV K H (f m) v → Q v H
theorem depth_all {β : Type} {g : β → PyData} : ∀ {l : List β}, (∀ b ∈ l, (g b).depth ≤ 60) → PyData.depthAll (l.map g) ≤ 60
  | [], _ => by simp [PyData.depthAll]
  | b :: l, h => by
    have h1 := h b (by simp)
    have h2 := depth_all (l := l) fun c m => h c (List.mem_cons_of_mem _ m)
    rw [List.map_cons, PyData.depthAll]; omega
theorem lt_irr (x : PyData) : dataLt x x = false := lex_irrefl _
theorem minD_mem (x : PyData) : ∀ xs : List PyData, minD x xs ∈ x :: xs := by
  intro xs
  unfold minD
  suffices h : ∀ (xs : List PyData) (a : PyData) (L : List PyData), a ∈ L → (∀ y ∈ xs, y ∈ L) → xs.foldl (fun a y => if dataLt y a then y else a) a ∈ L from h xs x (x :: xs) (by simp) (fun y m => List.mem_cons_of_mem _ m)
  intro xs
  induction xs with
  | nil => intro a L h _; exact h
  | cons y ys ih =>
    intro a L h k
    rw [List.foldl_cons]
    refine ih _ L ?_ fun z m => k z (List.mem_cons_of_mem _ m)
    split
    · exact k y (by simp)
    · exact h
def pyLe (a b : PyData) : Bool := !dataLt b a
theorem pyLe_total : TotalLe pyLe := sortLe_total (listOrd itemOrd) false keyToks
theorem lt_of_pyLe {a b : PyData} (h : pyLe a b = true) : dataLt b a = false := by unfold pyLe at h; simpa using h
theorem pyLe_of {a b : PyData} (h : dataLt b a = false) : pyLe a b = true := by unfold pyLe; rw [h]; rfl
theorem pyLe_lt {a b : PyData} (h : dataLt a b = true) : pyLe a b = true := (pyLe_total.total a b).elim id fun k => by
  have := lt_of_pyLe k
  rw [this] at h; cases h
theorem minD_le : ∀ (xs : List PyData) (x : PyData), ∀ y ∈ x :: xs, pyLe (minD x xs) y = true := by
  intro xs
  suffices h : ∀ (xs : List PyData) (a : PyData) (L : List PyData), (∀ y ∈ L, pyLe a y = true) → ∀ y, y ∈ L ∨ y ∈ xs → pyLe (xs.foldl (fun a y => if dataLt y a then y else a) a) y = true from fun x y m => h xs x [x] (fun z m => by rw [List.mem_singleton.mp m]; exact pyLe_total.refl x) y (by
    rcases List.mem_cons.mp m with e | e
    · exact .inl (by rw [e]; simp)
    · exact .inr e)
  intro xs
  induction xs with
  | nil => intro a L h y m; exact h y (m.resolve_right (by simp))
  | cons z zs ih =>
    intro a L h y m
    rw [List.foldl_cons]
    refine ih _ (z :: L) ?_ y ?_
    · intro w mw
      by_cases c : dataLt z a = true
      · rw [if_pos c]
        rcases List.mem_cons.mp mw with e | e
        · rw [e]; exact pyLe_total.refl z
        · exact pyLe_total.trans _ _ _ (pyLe_lt c) (h w e)
      · rw [if_neg c]
        rcases List.mem_cons.mp mw with e | e
        · rw [e]; exact pyLe_of (by simpa using c)
        · exact h w e
    · rcases m with m | m
      · exact .inl (List.mem_cons_of_mem _ m)
      · rcases List.mem_cons.mp m with e | e
        · exact .inl (by rw [e]; simp)
        · exact .inr e
theorem maxD_mem (x : PyData) : ∀ xs : List PyData, maxD x xs ∈ x :: xs := by
  intro xs
  unfold maxD
  suffices h : ∀ (xs : List PyData) (a : PyData) (L : List PyData), a ∈ L → (∀ y ∈ xs, y ∈ L) → xs.foldl (fun a y => if dataLt a y then y else a) a ∈ L from h xs x (x :: xs) (by simp) (fun y m => List.mem_cons_of_mem _ m)
  intro xs
  induction xs with
  | nil => intro a L h _; exact h
  | cons y ys ih =>
    intro a L h k
    rw [List.foldl_cons]
    refine ih _ L ?_ fun z m => k z (List.mem_cons_of_mem _ m)
    split
    · exact k y (by simp)
    · exact h
theorem maxD_le : ∀ (xs : List PyData) (x : PyData), ∀ y ∈ x :: xs, pyLe y (maxD x xs) = true := by
  intro xs
  suffices h : ∀ (xs : List PyData) (a : PyData) (L : List PyData), (∀ y ∈ L, pyLe y a = true) → ∀ y, y ∈ L ∨ y ∈ xs → pyLe y (xs.foldl (fun a y => if dataLt a y then y else a) a) = true from fun x y m => h xs x [x] (fun z m => by rw [List.mem_singleton.mp m]; exact pyLe_total.refl x) y (by
    rcases List.mem_cons.mp m with e | e
    · exact .inl (by rw [e]; simp)
    · exact .inr e)
  intro xs
  induction xs with
  | nil => intro a L h y m; exact h y (m.resolve_right (by simp))
  | cons z zs ih =>
    intro a L h y m
    rw [List.foldl_cons]
    refine ih _ (z :: L) ?_ y ?_
    · intro w mw
      by_cases c : dataLt a z = true
      · rw [if_pos c]
        rcases List.mem_cons.mp mw with e | e
        · rw [e]; exact pyLe_total.refl z
        · exact pyLe_total.trans _ _ _ (h w e) (pyLe_lt c)
      · rw [if_neg c]
        rcases List.mem_cons.mp mw with e | e
        · rw [e]; exact pyLe_of (by simpa using c)
        · exact h w e
    · rcases m with m | m
      · exact .inl (List.mem_cons_of_mem _ m)
      · rcases List.mem_cons.mp m with e | e
        · exact .inl (by rw [e]; simp)
        · exact .inr e
theorem each_get {β : Type} {R : Value → β → Prop} : ∀ {vs : List Value} {l : List β} {i : Nat} {v : Value}, EachIs R vs l → vs[i]? = some v → ∃ b, l[i]? = some b ∧ R v b
  | _, _, _, _, .nil, h => by simp at h
  | _, _, 0, _, .cons h1 _, h => by cases (show some _ = some _ from h); exact ⟨_, rfl, h1⟩
  | _, _, i + 1, _, .cons _ t, h => each_get (i := i) t (by simpa using h)
theorem min_pick {pins : List (Addr × Obj)} {σ : L2.St} {H : Hp} {s : Shared} (I : Inv X pins σ H s) {β : Type} {l : List β} {f : β → D} {its : List Value} (e : EachIs (fun u b => ∃ v, RelV v u ∧ DV X.K H (f b) v) its l) (hal : AllAlike (l.map fun b => py (f b))) {i : Nat} {v : Value} {h' : Heap} {m : PyData} {bs : List Addr}
    (hv : its[i]? = some v) (hr : Reads h' v m bs) (kp : ∀ b o, s.heap.get? b = some o → h'.get? b = some o) (hm : m ∈ l.map fun b => py (f b)) : ∃ b w, b ∈ l ∧ RelV w v ∧ DV X.K H (f b) w ∧ py (f b) = m := by
  obtain ⟨b, hb, w, rw', dw⟩ := each_get e hv
  have mb := List.mem_of_getElem? hb
  obtain ⟨as, r1⟩ := Dp.reads I _ _ _ dw.dp rw'
  have r2 : Reads h' v (py (f b)) as := PyProof.Rows.Reads.keeps kp r1
  exact ⟨b, w, mb, rw', dw, alike_unique _ _ _ _ _ (hal _ (List.mem_map_of_mem mb) _ hm) r2 hr⟩
theorem cr_minDD (hu : X.A.units + 65 < cLine) (hc : X.calm = true) : CallR X (.builtin "min") (rMinDD X.K false) := by
  intro pins s σ H vs us Q I r h
  obtain ⟨a, xs, β, l, f, rfl, hs, hd, hal, hnn, hdp, hne, q⟩ := h
  obtain ⟨its, rv, hl, hz⟩ := I.list hs
  obtain ⟨u, rfl, ru⟩ := vals1 r
  obtain rfl : u = Value.ref a := ru
  have e := dvs_each hd rv
  obtain ⟨b0, l', rfl⟩ : ∃ b0 l', l = b0 :: l' := by
    cases l with
    | nil => exact absurd rfl hne
    | cons b r => exact ⟨b, r, rfl⟩
  obtain ⟨as, hra⟩ := Dp.readsAll I _ _ _ hd.dpa rv
  have ep : pys ((b0 :: l').map f) = py (f b0) :: l'.map (fun b => py (f b)) := by rw [pys_map, List.map_map]; rfl
  rw [ep] at hra
  have hal' : AllAlike (py (f b0) :: l'.map (fun b => py (f b))) := hal
  refine min_list_data (I.ok.hd hc) hl.isList (vs := its.toArray) (by simpa using hra) ⟨fun x mx y my => hal' x mx y my, fun x mx => ?_⟩ ?_ fun i v h' tk bs hv hr kp => ?_
  · obtain ⟨b, hb, rfl⟩ := List.mem_map.mp (show x ∈ (b0 :: l').map (fun b => py (f b)) from mx)
    intro e0
    refine hnn b hb ?_
    cases hf : f b with
    | non => rfl
    | _ => rw [hf] at e0; simp [py] at e0
  · have := depth_all hdp
    rw [List.map_cons] at this
    omega
  · obtain ⟨b, w, mb, rw', dw, em⟩ := min_pick I e hal (by simpa using hv) hr kp (minD_mem _ _)
    refine ⟨w, H, I.kept kp, rw', q b w mb (fun y my => ?_) dw⟩
    have := minD_le (l'.map fun b => py (f b)) (py (f b0)) (py (f y)) (List.mem_map_of_mem (f := fun b => py (f b)) my)
    rw [← em] at this
    exact lt_of_pyLe this
theorem cr_maxDD (hu : X.A.units + 65 < cLine) (hc : X.calm = true) : CallR X (.builtin "max") (rMinDD X.K true) := by
  intro pins s σ H vs us Q I r h
  obtain ⟨a, xs, β, l, f, rfl, hs, hd, hal, hnn, hdp, hne, q⟩ := h
  obtain ⟨its, rv, hl, hz⟩ := I.list hs
  obtain ⟨u, rfl, ru⟩ := vals1 r
  obtain rfl : u = Value.ref a := ru
  have e := dvs_each hd rv
  obtain ⟨b0, l', rfl⟩ : ∃ b0 l', l = b0 :: l' := by
    cases l with
    | nil => exact absurd rfl hne
    | cons b r => exact ⟨b, r, rfl⟩
  obtain ⟨as, hra⟩ := Dp.readsAll I _ _ _ hd.dpa rv
  have ep : pys ((b0 :: l').map f) = py (f b0) :: l'.map (fun b => py (f b)) := by rw [pys_map, List.map_map]; rfl
  rw [ep] at hra
  have hal' : AllAlike (py (f b0) :: l'.map (fun b => py (f b))) := hal
  refine max_list_data (I.ok.hd hc) hl.isList (vs := its.toArray) (by simpa using hra) ⟨fun x mx y my => hal' x mx y my, fun x mx => ?_⟩ ?_ fun i v h' tk bs hv hr kp => ?_
  · obtain ⟨b, hb, rfl⟩ := List.mem_map.mp (show x ∈ (b0 :: l').map (fun b => py (f b)) from mx)
    intro e0
    refine hnn b hb ?_
    cases hf : f b with
    | non => rfl
    | _ => rw [hf] at e0; simp [py] at e0
  · have := depth_all hdp
    rw [List.map_cons] at this
    omega
  · obtain ⟨b, w, mb, rw', dw, em⟩ := min_pick I e hal (by simpa using hv) hr kp (maxD_mem _ _)
    refine ⟨w, H, I.kept kp, rw', q b w mb (fun y my => ?_) dw⟩
    have := maxD_le (l'.map fun b => py (f b)) (py (f b0)) (py (f y)) (List.mem_map_of_mem (f := fun b => py (f b)) my)
    rw [← em] at this
    exact lt_of_pyLe this
/-- what a sorted list of data is -/
theorem dle_total {β : Type} (f : β → D) : TotalLe (dle f) := sortLe_total (listOrd itemOrd) false fun b => keyToks (py (f b))
theorem sort_perm {β : Type} (f : β → D) (l : List β) : (l.mergeSort (dle f)).Perm l := List.mergeSort_perm l _
theorem sort_pw {β : Type} (f : β → D) (l : List β) : (l.mergeSort (dle f)).Pairwise fun a b => dle f a b = true := sort_pairwise (dle_total f) l
theorem dle_str {β : Type} {f : β → Str} {a b : β} : dle (fun b => D.str (f b)) a b = !decide (tl (f b) < tl (f a)) := by
  show (!dataLt (py (.str (f b))) (py (.str (f a)))) = _
  rw [py, py, dataLt_str]
/-- the same, the written part named -/
theorem op_eqDDQ {K : Frag} (h : X.K = K) (hu : X.A.units + 65 < cLine) : OpR X (compareOp .Eq) (rEqDD K) := by subst h; exact op_eqDD (by omega)
theorem op_neDDQ {K : Frag} (h : X.K = K) (hu : X.A.units + 65 < cLine) : OpR X (compareOp .NotEq) (rNeDD K) := by subst h; exact op_neDD (by omega)
theorem op_inDDQ {K : Frag} (h : X.K = K) (hu : X.A.units + 65 < cLine) : OpR X (compareOp .In) (rInDD K false) := by subst h; exact op_inDD hu
theorem op_notInDDQ {K : Frag} (h : X.K = K) (hu : X.A.units + 65 < cLine) : OpR X (compareOp .NotIn) (rInDD K true) := by subst h; exact op_notInDD hu
theorem cr_sortDDQ {K : Frag} (h : X.K = K) (hu : X.A.units + 65 < cLine) : CallR X (.builtin "sorted") (rSortDD K) := by subst h; exact cr_sortDD hu
theorem cr_minDDQ {K : Frag} (h : X.K = K) (hu : X.A.units + 65 < cLine) (hc : X.calm = true) : CallR X (.builtin "min") (rMinDD K false) := by subst h; exact cr_minDD hu hc
theorem cr_maxDDQ {K : Frag} (h : X.K = K) (hu : X.A.units + 65 < cLine) (hc : X.calm = true) : CallR X (.builtin "max") (rMinDD K true) := by subst h; exact cr_maxDD hu hc
theorem aa_of {β : Type} {f : β → D} {l : List β} (h : ∀ b c, alike (py (f b)) (py (f c)) = true) : AllAlike (l.map fun b => py (f b)) := AllAlike.of h
theorem aa_str {β : Type} {f : β → Str} {l : List β} : AllAlike (l.map fun b => py (.str (f b))) := aa_of fun _ _ => by simp [py, alike]
theorem aa_int {β : Type} {f : β → Int} {l : List β} : AllAlike (l.map fun b => py (.int (f b))) := aa_of fun _ _ => by simp [py, alike]
theorem so_str {β : Type} {f : β → Str} {l : List β} : Sortable (l.map fun b => py (.str (f b))) := Sortable.others fun b => ⟨by simp [py], fun _ => by simp [py]⟩
theorem so_tup {β : Type} {f : β → D} {l : List β} (h : ∀ b, ∃ x r, f b = .tup (x :: r)) : Sortable (l.map fun b => py (f b)) := Sortable.tuples fun b => by
  obtain ⟨x, r, e⟩ := h b
  exact ⟨py x, pys r, by rw [e, py, pys]⟩
theorem lt_of_dl {x y : Str} (h : (if false = true then dataLt (py (.str y)) (py (.str x)) else dataLt (py (.str x)) (py (.str y))) = false) : ¬ tl x < tl y := by
  simp only [Bool.false_eq_true, if_false, py] at h
  rw [dataLt_str] at h
  exact of_decide_eq_false h
theorem room65 {k : Nat} {A : Around} (r : Room k A) : A.units + 65 < cLine := by have := r.un; omega
end
end Z
namespace Z
open PySem PySem.W PySem.Calls PyProof.Rows L2
/-! ### sorted of whatever can be collected, dicts among them -/
section
variable {prog : Program} {w : World} {A : Around} {E : Value → Shared → Prop} {s : Shared}
theorem each_ix {β : Type} {R : Value → β → Prop} : ∀ {vs : List Value} {bs : List β}, EachIs R vs bs → EachIs (fun v b => ∃ j : Nat, vs[j]? = some v ∧ bs[j]? = some b) vs bs
  | _, _, .nil => .nil
  | _, _, .cons h t => .cons ⟨0, rfl, rfl⟩ ((each_ix t).mono fun v b ⟨j, h1, h2⟩ => ⟨j + 1, h1, h2⟩)
theorem sorted_by {x : Value} {β : Type} {enc : β → PyData} {bs : List β} {C : Heap → List Value → Prop} {Q : Value → Shared → Prop}
    (hcol : ∀ {R' : List Value → Shared → Prop}, (∀ (h' : Heap) (tk : Nat) (vs : List Value), (∀ b o, s.heap.get? b = some o → h'.get? b = some o) → C h' vs → R' vs { s with heap := h', toks := tk }) → wpAny (model prog w) A.in1 (collect x) R' E s)
    (hC : ∀ h' vs, C h' vs → EachIs (fun v b => ∃ as, Reads h' v (enc b) as) vs bs)
    (hal : AllAlike (bs.map enc)) (hk : Sortable (bs.map enc)) (hL : bs.length ≤ sizeLine) (hu : ∀ b ∈ bs, A.units + 2 + (enc b).depth < cLine)
    (h : ∀ (h1 h' : Heap) (tk : Nat) (a : Addr) (vs out : List Value) (n : Nat), C h1 vs → (∀ b o, s.heap.get? b = some o → h1.get? b = some o) → (∀ b o, h1.get? b = some o → h'.get? b = some o) → h1.objs.size = a → h'.get? a = some (seqObj "list" out.toArray n) → out.length = bs.length →
      EachIs (fun v b => ∃ j : Nat, vs[j]? = some v ∧ bs[j]? = some b) out (bs.mergeSort (dataLe false enc)) → Q (.ref a) { s with heap := h', toks := tk }) :
    wpAny (model prog w) A (call (.builtin "sorted") [x]) Q E s := by
  refine call_function_entry kind_sorted plain_sorted entry_sorted (args_sorted1 _) ?_
  unfold Builtin.«sorted»
  refine wpAny_bind (m := checkCount "sorted" 1 1 _) (wpAny_pure ?_)
  refine wpAny_bind (hcol fun h1 tk vs kp hc => ?_)
  have er := hC h1 vs hc
  have el := er.length
  refine wpAny_bind (wpAny_newList ?_ (by omega))
  have ho : (h1.push { cls := .type "list", data := .seq vs.toArray }).get? h1.objs.size = some (seqObj "list" vs.toArray 0) := Heap.get?_push_size _ rfl
  have old : ∀ b o, h1.get? b = some o → (h1.push { cls := .type "list", data := .seq vs.toArray }).get? b = some o := fun b o e => Heap.get?_push_of_some _ e
  refine wpAny_bind (wpAny_holding (wpAny_mono (PySem.W.list_sort_data (A := A.in1) (enc := enc) (s := { s with heap := h1.push { cls := .type "list", data := .seq vs.toArray }, toks := tk }) ho (each_ix er) ?_ hal hk hL (fun b m => hu b m) fun out lo eo => ?_) (fun _ s' x => x) fun _ _ e => e))
  · refine er.mono fun v b ⟨as, r⟩ => ?_
    exact ⟨as, PyProof.Rows.Reads.keeps old r, fun m => by
      obtain ⟨o, ho⟩ := PyProof.On.reads_mem_get r _ m
      exact absurd (Heap.lt_size ho) (Nat.lt_irrefl _)⟩
  · obtain ⟨n, hn⟩ := sortedHeap_at (h := h1.push { cls := .type "list", data := .seq vs.toArray }) (out := List.toArray out) ho
    refine wpAny_pure ⟨_, rfl, h h1 _ _ _ vs out n hc kp (fun b o e => ?_) rfl hn lo eo⟩
    have lt := Heap.lt_size e
    rw [sortedHeap_old (Nat.ne_of_lt lt) (by rw [size_push']; exact Nat.lt_succ_of_lt lt)]
    exact old b o e
end
/-! ### keys, values and items of dicts, sorted -/
def kD : Key → D
  | .inl i => .int i
  | .inr x => .str x
theorem kD_dv {K : Frag} {H : Hp} : ∀ k : Key, DV K H (kD k) (kV k)
  | .inl i => by unfold kD; unfold DV; rfl
  | .inr x => by unfold kD; unfold DV; rfl
theorem kD_dvs {K : Frag} {H : Hp} : ∀ l : List Key, DVs K H (l.map kD) (l.map kV)
  | [] => by unfold List.map DVs; rfl
  | k :: l => ⟨_, _, rfl, kD_dv k, kD_dvs l⟩
theorem dvs_kD {K : Frag} {H : Hp} : ∀ {l : List Key} {ys : List V}, DVs K H (l.map kD) ys → ys = l.map kV
  | [], _, h => by unfold List.map DVs at h; exact h
  | .inl i :: l, _, h => by
    obtain ⟨v, r, rfl, q, t⟩ := h
    unfold kD DV at q
    rw [q, dvs_kD t]; rfl
  | .inr i :: l, _, h => by
    obtain ⟨v, r, rfl, q, t⟩ := h
    unfold kD DV at q
    rw [q, dvs_kD t]; rfl
theorem so_key {l : List Key} : Sortable (l.map fun k => py (kD k)) := Sortable.others fun k => by
  cases k with
  | inl i => exact ⟨by simp [kD, py], fun _ => by simp [kD, py]⟩
  | inr x => exact ⟨by simp [kD, py], fun _ => by simp [kD, py]⟩
theorem each_of_ix {β : Type} {R : Value → β → Prop} : ∀ {vs : List Value} {bs : List β}, vs.length = bs.length → (∀ (i : Nat) (v : Value) (b : β), vs[i]? = some v → bs[i]? = some b → R v b) → EachIs R vs bs
  | [], [], _, _ => .nil
  | [], _ :: _, h, _ => by simp at h
  | _ :: _, [], h, _ => by simp at h
  | v :: vs, b :: bs, h, k => .cons (k 0 v b rfl rfl) (each_of_ix (by simpa using h) fun i v' b' h1 h2 => k (i + 1) v' b' h1 h2)
theorem vals_of_each {β : Type} {R : Value → β → Prop} {f : β → V} : ∀ {out : List Value} {l : List β}, EachIs R out l → (∀ v b, R v b → RelV (f b) v) → Vals (l.map f) out
  | _, _, .nil, _ => .nil
  | _, _, .cons h t, k => .cons (k _ _ h) (vals_of_each t k)
theorem pair_get {α β : Type} {F : α → β → Prop} : ∀ {l₁ : List α} {l₂ : List β} {j : Nat} {x : α}, Paired F l₁ l₂ → l₁[j]? = some x → ∃ y, l₂[j]? = some y ∧ F x y
  | _, _, _, _, .nil, h => by simp at h
  | _, _, 0, _, .cons a _, h => by cases (show some _ = some _ from h); exact ⟨_, rfl, a⟩
  | _, _, j + 1, _, .cons _ t, h => pair_get (j := j) t (by simpa using h)
theorem kV_rel {P : Program} {w : World} {k : Key} {u : Value} (h : (mixKind P w).is k u = true) : RelV (kV k) u := by
  rcases keyIs_shape h with ⟨i, t, e1, e2⟩ | ⟨x, t, e1, e2⟩
  · subst e1; subst e2; exact ⟨t, rfl⟩
  · subst e1; subst e2; exact ⟨t, rfl⟩
theorem Dp.reads0 {h : Heap} (k : Key) {u : Value} (r : RelV (kV k) u) : ∃ as, Reads h u (py (kD k)) as := by
  cases k with
  | inl i => obtain ⟨t, e⟩ := (show ∃ t, u = Value.int i t from r); subst e; exact ⟨_, by unfold kD py; exact Reads.int i t⟩
  | inr x => obtain ⟨t, e⟩ := (show ∃ t, u = Value.str x t from r); subst e; exact ⟨_, by unfold kD py; exact Reads.str x t⟩
theorem no_get {h h' : Heap} (k : ∀ b o, h.get? b = some o → h'.get? b = some o) : h.get? h'.objs.size = none := by
  cases e : h.get? h'.objs.size with
  | none => rfl
  | some o => exact absurd (Heap.lt_size (k _ _ e)) (Nat.lt_irrefl _)
section
variable {X : Cx}
/-- what stands in the entries -/
theorem kv_raw {H : Hp} {h : Heap} {a : Addr} {kvs : List (Key × V)} (ok : HOk X.prog X.w H h) (e : H a = some (.dK kvs)) : kvs.length ≤ sizeLine ∧ (a == sysModules) = false ∧ ∃ es ep, h.DictRaw a es ep ∧ es.size = kvs.length ∧
    ∀ i (hi : i < es.size) k v, kvs[i]? = some (k, v) → RelV (kV k) es[i].key ∧ RelV v es[i].val := by
  obtain ⟨z, hd, vs, rel, dd⟩ := dk_of ok e
  obtain ⟨es, ep, hr, hs, he⟩ := dd.raw
  have hl : kvs.length = vs.length := Paired.length rel
  refine ⟨z, hd, es, ep, hr, by omega, fun i hi k v hk => ?_⟩
  obtain ⟨⟨k', u⟩, hp, h1, h2⟩ := pair_get rel hk
  have h1' : k = k' := h1
  subst h1'
  obtain ⟨q1, q2⟩ := he i hi k u hp
  exact ⟨kV_rel q1, by rw [q2]; exact h2⟩
def rSortKeys : List V → Hp → VK → Prop := fun vs H Q => ∃ (a : Addr) (kvs : List (Key × V)), vs = [.ref a] ∧ H a = some (.dK kvs) ∧ AllAlike ((kvs.map (·.1)).map fun k => py (kD k)) ∧
  ∀ p, H p = none → Q (.ref p) (upd H p (.lst (((kvs.map (·.1)).mergeSort (dle kD)).map kV)))
theorem cr_sortKeys (hu : X.A.units + 65 < cLine) (hc : X.calm = true) : CallR X (.builtin "sorted") rSortKeys := by
  intro pins s σ H vs us Q I r h
  obtain ⟨a, kvs, rfl, ha, hal, q⟩ := h
  obtain ⟨u, rfl, ru⟩ := vals1 r
  obtain rfl : u = Value.ref a := ru
  obtain ⟨z, lo, es, ep, hr, hs, he⟩ := kv_raw I.hok ha
  have hh : X.A.handled = none := I.ok.hd hc
  refine sorted_by (enc := fun k => py (kD k)) (bs := kvs.map (·.1)) (C := fun h' vs => (∀ b o, s.heap.get? b = some o → h'.get? b = some o) ∧ EachIs (fun u k => RelV (kV k) u) vs (kvs.map (·.1)))
    (fun {R'} k => kdu_collect (KdlSrc.rawDict (prog := X.prog) (w := X.w) lo) hh hr (by omega) fun h' tk acc kp hI => k h' tk acc.toList kp ⟨kp, each_of_ix (by rw [Array.length_toList, hI.1, List.length_map, hs]) fun i v k hv hk => ?_⟩)
    (fun h' vs c => c.2.mono fun u k ru => Dp.reads0 k ru) hal so_key (by rw [List.length_map]; exact z) (fun k _ => by
      have : (py (kD k)).depth = 0 := by cases k <;> simp [kD, py, PyData.depth]
      rw [this]; exact hu_big hu (by decide)) fun h1 h' tk b vs out n c kp1 kp2 eb hb lo' eo => ?_
  · rw [Array.getElem?_toList] at hv
    obtain ⟨hi, rfl⟩ := hI.2 i v hv
    rw [List.getElem?_map] at hk
    cases hk' : kvs[i]? with
    | none => rw [hk'] at hk; cases hk
    | some p =>
      rw [hk'] at hk
      obtain rfl := Option.some.inj hk
      exact (he i hi p.1 p.2 hk').1
  · have ng : s.heap.get? b = none := by rw [← eb]; exact no_get kp1
    have fr : H b = none := I.hok.gone ng
    have vo : Vals (((kvs.map (·.1)).mergeSort (dle kD)).map kV) out := vals_of_each eo fun v k ⟨j, h1, h2⟩ => by
      obtain ⟨k', hk', rk⟩ := each_get c.2 h1
      rw [h2] at hk'
      obtain rfl := Option.some.inj hk'
      exact rk
    refine ⟨.ref b, upd H b (.lst _), I.laidN (t' := tk) (fun b o g => kp2 b o (kp1 b o g)) ng fr ⟨?_, out, n, vo, hb⟩, rfl, q b fr⟩
    rw [vals_len vo, lo', List.length_map]; exact z
/-- the view d.values() at p -/
def valuesO (p d : Addr) : HO := .ext fun h => h.IsValuesView p d
theorem valuesO_ok {P : Program} {w : World} {H : Hp} {h : Heap} {p d : Addr} (e : h.get? p = some { cls := .type "dict_values", data := .fields #[.ref d] }) : ObjOk P w H h p (valuesO p d) :=
  ⟨⟨_, e, rfl, rfl⟩, ⟨_, e⟩, fun h1 h2 x k => let ⟨o, ho, r⟩ := x; ⟨o, k o ho, r⟩⟩
def rValuesK : V → List V → Hp → VK → Prop := fun x xs H Q => ∃ (a : Addr) (kvs : List (Key × V)), x = .ref a ∧ xs = [] ∧ H a = some (.dK kvs) ∧ ∀ p, H p = none → Q (.ref p) (upd H p (valuesO p a))
def rItemsK : V → List V → Hp → VK → Prop := fun x xs H Q => ∃ (a : Addr) (kvs : List (Key × V)), x = .ref a ∧ xs = [] ∧ H a = some (.dK kvs) ∧ ∀ p, H p = none → Q (.ref p) (upd H p (L2.DX.itemsO p a))
theorem mt_itemsK : MtR X "dict.items" rItemsK := by
  intro pins s σ H x xs v us Q I rx rxs h
  obtain ⟨a, kvs, rfl, rfl, ha, q⟩ := h
  cases rx
  cases rxs
  obtain ⟨z, hd, es, ep, hr, hs, he⟩ := kv_raw I.hok ha
  refine DT.callItems (es := es) (ep := ep) hd hr ?_
  have hf : H s.heap.objs.size = none := I.hok.fresh (Nat.le_refl _)
  exact ⟨.ref s.heap.objs.size, upd H s.heap.objs.size (L2.DX.itemsO s.heap.objs.size a), I.laid (t' := s.toks) (fun b u e => Heap.get?_push_of_some _ e) (Nat.le_refl _) (L2.DX.itemsO_ok (Heap.get?_push_size _ rfl)), rfl, q _ hf⟩
/-- sorted of such a view -/
def rSortVals (K : Frag) : List V → Hp → VK → Prop := fun vs H Q => ∃ (p a : Addr) (kvs : List (Key × V)) (β : Type) (l : List β) (f : β → D), vs = [.ref p] ∧ H p = some (valuesO p a) ∧ H a = some (.dK kvs) ∧ DVs K H (l.map f) (kvs.map (·.2)) ∧ AllAlike (l.map fun b => py (f b)) ∧ PySem.W.Sortable (l.map fun b => py (f b)) ∧ (∀ b ∈ l, (py (f b)).depth ≤ 60) ∧
  ∀ (ys : List V) (r : Addr), H r = none → DVs K H ((l.mergeSort (dle f)).map f) ys → Q (.ref r) (upd H r (.lst ys))
theorem cr_sortVals (hu : X.A.units + 65 < cLine) (hc : X.calm = true) : CallR X (.builtin "sorted") (rSortVals X.K) := by
  intro pins s σ H vs us Q I r h
  obtain ⟨p, a, kvs, β, l, f, rfl, hp, ha, hd, hal, hsb, hdp, q⟩ := h
  obtain ⟨u, rfl, ru⟩ := vals1 r
  obtain rfl : u = Value.ref p := ru
  have view : s.heap.IsValuesView p a := (show ObjOk X.prog X.w H s.heap p (valuesO p a) from I.hok p _ hp).1
  obtain ⟨z, lo, es, ep, hr, hs, he⟩ := kv_raw I.hok ha
  have hh : X.A.handled = none := I.ok.hd hc
  have ll : l.length = kvs.length := by have := hd.len; rw [List.length_map, List.length_map] at this; omega
  have dv : ∀ (i : Nat) (b : β) (k : Key) (v : V), l[i]? = some b → kvs[i]? = some (k, v) → DV X.K H (f b) v := fun i b k v hb hk => by
    obtain ⟨v', hv', d⟩ := hd.get (i := i) (d := f b) (by rw [List.getElem?_map, hb]; rfl)
    rw [List.getElem?_map, hk] at hv'
    obtain rfl := Option.some.inj hv'
    exact d
  refine sorted_by (enc := fun b => py (f b)) (bs := l) (C := fun h' vs => (∀ b o, s.heap.get? b = some o → h'.get? b = some o) ∧ EachIs (fun u b => ∃ v, RelV v u ∧ DV X.K H (f b) v) vs l)
    (fun {R'} k => kdu_collect (KdlSrc.rawValues (prog := X.prog) (w := X.w)) hh ⟨view, hr⟩ (by omega) fun h' tk acc kp hI => k h' tk acc.toList kp ⟨kp, each_of_ix (by rw [Array.length_toList, hI.1, ll, hs]) fun i v b hv hb => ?_⟩)
    (fun h' vs c => c.2.mono fun u b ⟨v, rv, d⟩ => by
      obtain ⟨as, rr⟩ := Dp.reads I _ _ _ d.dp rv
      exact ⟨as, PyProof.Rows.Reads.keeps c.1 rr⟩) hal hsb (by omega) (fun b m => hu_big hu (hdp b m)) fun h1 h' tk b vs out n c kp1 kp2 eb hb lo' eo => ?_
  · rw [Array.getElem?_toList] at hv
    obtain ⟨hi, rfl⟩ := hI.2 i v hv
    obtain ⟨⟨k, v⟩, hk⟩ : ∃ p, kvs[i]? = some p := ⟨_, List.getElem?_eq_getElem (by omega)⟩
    exact ⟨v, (he i hi k v hk).2, dv i b k v hb hk⟩
  · have ng : s.heap.get? b = none := by rw [← eb]; exact no_get kp1
    have fr : H b = none := I.hok.gone ng
    have eo2 : EachIs (fun u b => ∃ v, RelV v u ∧ DV X.K H (f b) v) out (l.mergeSort (dle f)) := eo.mono fun v k ⟨j, h1, h2⟩ => by
      obtain ⟨k', hk', rk⟩ := each_get c.2 h1
      rw [h2] at hk'
      obtain rfl := Option.some.inj hk'
      exact rk
    obtain ⟨ys, dy, ry⟩ := each_dvs eo2
    refine ⟨.ref b, upd H b (.lst ys), I.laidN (t' := tk) (fun b o g => kp2 b o (kp1 b o g)) ng fr ⟨?_, out, n, ry, hb⟩, rfl, q ys b fr dy⟩
    rw [vals_len ry, lo', ll]; exact z
/-- d.update(e) -/
def rUpdK : V → List V → Hp → VK → Prop := fun x xs H Q => ∃ (a b : Addr) (kvs more : List (Key × V)), x = .ref a ∧ xs = [.ref b] ∧ a ≠ b ∧ H a = some (.dK kvs) ∧ H b = some (.dK more) ∧ kvs.length + more.length ≤ sizeLine ∧ Q .non (upd H a (.dK (mergeK kvs more)))
theorem mt_updK : MtR X "dict.update" rUpdK := by
  intro pins s σ H x xs v us Q I rx rxs h
  obtain ⟨a, b, kvs, more, rfl, rfl, ab, ha, hb, hz, q⟩ := h
  cases rx
  obtain ⟨u, rfl, ru⟩ := rxs.one
  cases ru
  obtain ⟨z, hd, vs, rel, dd⟩ := dk_of I.hok ha
  obtain ⟨z', hd', vs', rel', dd'⟩ := dk_of I.hok hb
  refine call_meetsIn PySem.F.slot_dict_update dd.typeIs PySem.F.entry_dict_update (PySem.F.args_dict_update_2 _ _) (meets_dict_update (mixKind X.prog X.w) a b ab hd')
    ⟨vs, vs', dd, dd', by rw [← rel.length, ← rel'.length]; exact hz, fun h' d1 d2 hs => ⟨.non, _, ?_, rfl, q⟩⟩
  have he : ∃ q, h'.get? a = some q := let ⟨q, _, _, hq, _⟩ := d1; ⟨q, hq⟩
  exact d_write I (by rw [ha]; exact True.intro) hs he (dk_new (Nat.le_trans (length_mergeK _ _) hz) hd (KV.merge rel' rel) d1)
theorem mt_valuesK : MtR X "dict.values" rValuesK := by
  intro pins s σ H x xs v us Q I rx rxs h
  obtain ⟨a, kvs, rfl, rfl, ha, q⟩ := h
  cases rx
  cases rxs
  obtain ⟨z, hd, es, ep, hr, hs, he⟩ := kv_raw I.hok ha
  have hf : H s.heap.objs.size = none := I.hok.fresh (Nat.le_refl _)
  refine call_meetsIn PySem.F.slot_dict_values hr.typeIs PySem.F.entry_dict_values (PySem.F.args_dict_values_1 _) (meets_dict_values_raw (prog := X.prog) (w := X.w) a hd) ⟨⟨es, ep, hr⟩, ?_⟩
  exact ⟨.ref s.heap.objs.size, upd H s.heap.objs.size (valuesO s.heap.objs.size a), I.laid (t' := s.toks) (fun b u e => Heap.get?_push_of_some _ e) (Nat.le_refl _) (valuesO_ok (Heap.get?_push_size _ rfl)), rfl, q _ hf⟩
end
section
variable {prog : Program} {w : World} {A : Around} {E : Value → Shared → Prop} {s : Shared}
theorem bestX (bt : Nat → Nat → Bool) : (bt 1 0 = false ∧ argBest bt 1 = 0) ∨ (bt 1 0 = true ∧ argBest bt 1 = 1) := by
  by_cases h : bt 1 (argBest bt 0) = true
  · exact .inr ⟨h, if_pos h⟩
  · exact .inl ⟨Bool.eq_false_iff.mpr h, if_neg h⟩
/-- the larger one -/
theorem max_strX {x y : Str} {t u : Tok} {Q : Value → Shared → Prop} (calm : A.handled = none)
    (h : ∀ (hp : Heap) (tk : Nat), (∀ b o, s.heap.get? b = some o → hp.get? b = some o) → Q (if decide (tl x < tl y) = true then .str y u else .str x t) { s with heap := hp, toks := tk }) : wpAny (model prog w) A (call (.builtin "max") [.str x t, .str y u]) Q E s := by
  have tp : (s.heap.push { cls := .type "tuple", data := .seq #[.str x t, .str y u] }).IsTuple s.heap.objs.size #[.str x t, .str y u] := ⟨_, Heap.get?_push_size _ rfl, rfl, 0, rfl⟩
  have z1 : (s.heap.push { cls := .type "tuple", data := .seq #[.str x t, .str y u] }).objs.size = s.heap.objs.size + 1 := Heap.size_push ..
  refine call_max_two (wpAny_pyIter_tuple tp ?_)
  refine ⟨_, [_, s.heap.objs.size], [_], _, _, _, fun i j => decide ((if j = 0 then x else y).cps.toList < (if i = 0 then x else y).cps.toList), rfl, Walks.tuple (A := A.in1) calm _ s.heap.objs.size (by rw [z1]; exact Nat.ne_of_lt (Nat.lt_succ_self _)) #[.str x t, .str y u], ⟨⟨_, Heap.get?_push_size _ rfl, rfl, rfl⟩, tp.push _⟩, fun b hb => ?_, by simp, fun i j vi vj s1 Q1 E1 gi gj q => ?_, fun v hp tk hv kp => ?_⟩
  · show b < ((s.heap.push _).push _).objs.size
    rw [Heap.size_push]
    simp only [List.mem_cons, List.not_mem_nil, or_false] at hb
    rcases hb with e | e <;> subst e
    · exact Nat.lt_succ_self _
    · rw [z1]; exact Nat.lt_succ_of_lt (Nat.lt_succ_self _)
  · have pick : ∀ {k : Nat} {v : Value}, (#[Value.str x t, Value.str y u])[k]? = some v → ∃ tt, v = .str (if k = 0 then x else y) tt := fun {k v} g => by
      match k, g with
      | 0, g => exact ⟨t, (Option.some.inj g).symm⟩
      | 1, g => exact ⟨u, (Option.some.inj g).symm⟩
      | k + 2, g => simp at g
    obtain ⟨ti, rfl⟩ := pick gi
    obtain ⟨tj, rfl⟩ := pick gj
    exact PySem.P.gt_str q
  · have old : ∀ b o, s.heap.get? b = some o → hp.get? b = some o := fun b o g => by
      refine kp b o (fun m => ?_) (Heap.get?_push_of_some _ (Heap.get?_push_of_some _ g))
      have lt := Heap.lt_size g
      rw [List.mem_singleton.mp m, z1] at lt
      exact absurd lt (Nat.not_lt_of_lt (Nat.lt_succ_self _))
    have hv' : (#[Value.str x t, Value.str y u])[argBest (fun i j => decide ((if j = 0 then x else y).cps.toList < (if i = 0 then x else y).cps.toList)) 1]? = some v := hv
    rcases bestX (fun i j => decide ((if j = 0 then x else y).cps.toList < (if i = 0 then x else y).cps.toList)) with ⟨e0, e⟩ | ⟨e0, e⟩
    · rw [e] at hv'
      have ev : Value.str x t = v := Option.some.inj hv'
      have := h hp tk old
      have e1 : (decide (tl x < tl y)) = false := e0
      rw [e1] at this
      rw [← ev]; exact this
    · rw [e] at hv'
      have ev : Value.str y u = v := Option.some.inj hv'
      have := h hp tk old
      have e1 : (decide (tl x < tl y)) = true := e0
      rw [e1] at this
      rw [← ev]; exact this
theorem min_strX {x y : Str} {t u : Tok} {Q : Value → Shared → Prop} (calm : A.handled = none)
    (h : ∀ (hp : Heap) (tk : Nat), (∀ b o, s.heap.get? b = some o → hp.get? b = some o) → Q (if decide (tl y < tl x) = true then .str y u else .str x t) { s with heap := hp, toks := tk }) : wpAny (model prog w) A (call (.builtin "min") [.str x t, .str y u]) Q E s := by
  have tp : (s.heap.push { cls := .type "tuple", data := .seq #[.str x t, .str y u] }).IsTuple s.heap.objs.size #[.str x t, .str y u] := ⟨_, Heap.get?_push_size _ rfl, rfl, 0, rfl⟩
  have z1 : (s.heap.push { cls := .type "tuple", data := .seq #[.str x t, .str y u] }).objs.size = s.heap.objs.size + 1 := Heap.size_push ..
  refine call_min_two (wpAny_pyIter_tuple tp ?_)
  refine ⟨_, [_, s.heap.objs.size], [_], _, _, _, fun i j => decide ((if i = 0 then x else y).cps.toList < (if j = 0 then x else y).cps.toList), rfl, Walks.tuple (A := A.in1) calm _ s.heap.objs.size (by rw [z1]; exact Nat.ne_of_lt (Nat.lt_succ_self _)) #[.str x t, .str y u], ⟨⟨_, Heap.get?_push_size _ rfl, rfl, rfl⟩, tp.push _⟩, fun b hb => ?_, by simp, fun i j vi vj s1 Q1 E1 gi gj q => ?_, fun v hp tk hv kp => ?_⟩
  · show b < ((s.heap.push _).push _).objs.size
    rw [Heap.size_push]
    simp only [List.mem_cons, List.not_mem_nil, or_false] at hb
    rcases hb with e | e <;> subst e
    · exact Nat.lt_succ_self _
    · rw [z1]; exact Nat.lt_succ_of_lt (Nat.lt_succ_self _)
  · have pick : ∀ {k : Nat} {v : Value}, (#[Value.str x t, Value.str y u])[k]? = some v → ∃ tt, v = .str (if k = 0 then x else y) tt := fun {k v} g => by
      match k, g with
      | 0, g => exact ⟨t, (Option.some.inj g).symm⟩
      | 1, g => exact ⟨u, (Option.some.inj g).symm⟩
      | k + 2, g => simp at g
    obtain ⟨ti, rfl⟩ := pick gi
    obtain ⟨tj, rfl⟩ := pick gj
    exact PySem.P.lt_str q
  · have old : ∀ b o, s.heap.get? b = some o → hp.get? b = some o := fun b o g => by
      refine kp b o (fun m => ?_) (Heap.get?_push_of_some _ (Heap.get?_push_of_some _ g))
      have lt := Heap.lt_size g
      rw [List.mem_singleton.mp m, z1] at lt
      exact absurd lt (Nat.not_lt_of_lt (Nat.lt_succ_self _))
    have hv' : (#[Value.str x t, Value.str y u])[argBest (fun i j => decide ((if i = 0 then x else y).cps.toList < (if j = 0 then x else y).cps.toList)) 1]? = some v := hv
    rcases bestX (fun i j => decide ((if i = 0 then x else y).cps.toList < (if j = 0 then x else y).cps.toList)) with ⟨e0, e⟩ | ⟨e0, e⟩
    · rw [e] at hv'
      have ev : Value.str x t = v := Option.some.inj hv'
      have := h hp tk old
      have e1 : (decide (tl y < tl x)) = false := e0
      rw [e1] at this
      rw [← ev]; exact this
    · rw [e] at hv'
      have ev : Value.str y u = v := Option.some.inj hv'
      have := h hp tk old
      have e1 : (decide (tl y < tl x)) = true := e0
      rw [e1] at this
      rw [← ev]; exact this
end
section
variable {X : Cx}
def minP (x y : Str) : Str := if decide (tl y < tl x) = true then y else x
def maxP (x y : Str) : Str := if decide (tl x < tl y) = true then y else x
theorem call_maxX (hc : X.calm = true) : CallR X (.builtin "max") (fun xs H Q => ∃ x y : Str, xs = [.str x, .str y] ∧ Q (.str (maxP x y)) H) := by
  intro pins s σ H xs us Q I r h
  obtain ⟨x, y, rfl, q⟩ := h
  obtain ⟨u, w', rfl, ⟨t, rfl⟩, ⟨t', rfl⟩⟩ := vals2 r
  refine max_strX (I.ok.hd hc) fun hp tk old => ?_
  refine ⟨.str (maxP x y), H, I.kept old, ?_, q⟩
  unfold maxP
  split
  · exact ⟨t', rfl⟩
  · exact ⟨t, rfl⟩
theorem call_minX (hc : X.calm = true) : CallR X (.builtin "min") (fun xs H Q => ∃ x y : Str, xs = [.str x, .str y] ∧ Q (.str (minP x y)) H) := by
  intro pins s σ H xs us Q I r h
  obtain ⟨x, y, rfl, q⟩ := h
  obtain ⟨u, w', rfl, ⟨t, rfl⟩, ⟨t', rfl⟩⟩ := vals2 r
  refine min_strX (I.ok.hd hc) fun hp tk old => ?_
  refine ⟨.str (minP x y), H, I.kept old, ?_, q⟩
  unfold minP
  split
  · exact ⟨t', rfl⟩
  · exact ⟨t, rfl⟩
end
end Z
namespace Z
open PySem PySem.W PySem.Calls PyProof.Rows L2
/-! ### values of a dict with tuple keys -/
section
variable {X : Cx}
/-- what stands in the entries of a dict with tuple keys -/
theorem kt_raw {H : Hp} {h : Heap} {a : Addr} {kvs : List (List Key × V)} (ok : HOk X.prog X.w H h) (e : H a = some (.dT kvs)) : kvs.length ≤ sizeLine ∧ (a == sysModules) = false ∧ ∃ es ep, h.DictRaw a es ep ∧ es.size = kvs.length ∧
    ∀ i (hi : i < es.size) k v, kvs[i]? = some (k, v) → (∃ b, es[i].key = .ref b ∧ H b = some (.tup (k.map kV))) ∧ RelV v es[i].val := by
  obtain ⟨z, hd, xs, rel, o, es, ep, ho, hx, hdat, hes, his, hn⟩ := dt_of ok e
  have hs : es.size = kvs.length := by rw [size_of_entries hes, Paired.length rel]
  refine ⟨z, hd, es, ep, ⟨o, ho, hx, hdat⟩, hs, fun i hi k v hk => ?_⟩
  obtain ⟨x, hp, h1, h2, h3⟩ := pair_get rel hk
  have he := entry_at hes i
  rw [hp, Array.getElem?_eq_getElem hi] at he
  have he' : es[i] = entryOfKey (tupleKind (mixKind X.prog X.w)) x := Option.some.inj he
  rw [he']
  exact ⟨⟨x.2.1, rfl, h2⟩, h3⟩
def rValuesT : V → List V → Hp → VK → Prop := fun x xs H Q => ∃ (a : Addr) (kvs : List (List Key × V)), x = .ref a ∧ xs = [] ∧ H a = some (.dT kvs) ∧ ∀ p, H p = none → Q (.ref p) (upd H p (valuesO p a))
theorem mt_valuesT : MtR X "dict.values" rValuesT := by
  intro pins s σ H x xs v us Q I rx rxs h
  obtain ⟨a, kvs, rfl, rfl, ha, q⟩ := h
  cases rx
  cases rxs
  obtain ⟨z, hd, es, ep, hr, hs, he⟩ := kt_raw I.hok ha
  have hf : H s.heap.objs.size = none := I.hok.fresh (Nat.le_refl _)
  refine call_meetsIn PySem.F.slot_dict_values hr.typeIs PySem.F.entry_dict_values (PySem.F.args_dict_values_1 _) (meets_dict_values_raw (prog := X.prog) (w := X.w) a hd) ⟨⟨es, ep, hr⟩, ?_⟩
  exact ⟨.ref s.heap.objs.size, upd H s.heap.objs.size (valuesO s.heap.objs.size a), I.laid (t' := s.toks) (fun b u e => Heap.get?_push_of_some _ e) (Nat.le_refl _) (valuesO_ok (Heap.get?_push_size _ rfl)), rfl, q _ hf⟩
/-- list of such a view -/
def rListValsT : List V → Hp → VK → Prop := fun xs H Q => ∃ (p a : Addr) (kvs : List (List Key × V)), xs = [.ref p] ∧ H p = some (valuesO p a) ∧ H a = some (.dT kvs) ∧ ∀ r, H r = none → Q (.ref r) (upd H r (.lst (kvs.map (·.2))))
theorem cr_listValsT (hc : X.calm = true) : CallR X (.type "list") rListValsT := by
  intro pins s σ H xs us Q I r h
  obtain ⟨p, a, kvs, rfl, hp, ha, q⟩ := h
  obtain ⟨u, rfl, ru⟩ := vals1 r
  obtain rfl : u = Value.ref p := ru
  have view : s.heap.IsValuesView p a := (show ObjOk X.prog X.w H s.heap p (valuesO p a) from I.hok p _ hp).1
  obtain ⟨z, lo, es, ep, hr, hs, he⟩ := kt_raw I.hok ha
  have hh : X.A.handled = none := I.ok.hd hc
  refine kdl_call (KdlSrc.rawValues (prog := X.prog) (w := X.w)) hh ⟨view, hr⟩ (by omega) fun h' tk acc c kp hg hI => ?_
  have fr : H s.heap.objs.size = none := I.hok.fresh (Nat.le_refl _)
  have vo : Vals (kvs.map (·.2)) acc.toList := by
    refine vals_of_each (R := fun v (kv : List Key × V) => RelV kv.2 v) (f := fun kv => kv.2) (each_of_ix (by rw [Array.length_toList, hI.1, hs]) fun i v b hv hb => ?_) fun v b h => h
    rw [Array.getElem?_toList] at hv
    obtain ⟨hi, rfl⟩ := hI.2 i v hv
    exact (he i hi b.1 b.2 hb).2
  refine ⟨.ref s.heap.objs.size, upd H s.heap.objs.size (.lst (kvs.map (·.2))), I.laid (t' := tk) kp (Nat.le_refl _) ⟨?_, acc.toList, c, vo, by rw [Array.toArray_toList]; exact hg⟩, rfl, q _ fr⟩
  rw [List.length_map]; exact z
/-! ### sorted of a dict with tuple keys -/
def ktD (k : List Key) : D := .tup (k.map kD)
theorem ktD_dv {K : Frag} {H : Hp} {a : Addr} {k : List Key} (h : H a = some (.tup (k.map kV))) : DV K H (ktD k) (.ref a) := ⟨a, _, rfl, SqT.of h, kD_dvs k⟩
/-- tuples of these keys, one by one -/
def KsAt (H : Hp) : List (List Key) → List V → Prop
  | [], us => us = []
  | k :: r, us => ∃ a t, us = .ref a :: t ∧ H a = some (.tup (k.map kV)) ∧ KsAt H r t
theorem each_ks {H : Hp} {β : Type} {g : β → List Key} : ∀ {l : List β} {vs : List Value}, EachIs (fun u b => ∃ a, u = Value.ref a ∧ H a = some (.tup ((g b).map kV))) vs l → ∃ us, KsAt H (l.map g) us ∧ Vals us vs
  | [], _, h => by cases h; exact ⟨[], rfl, .nil⟩
  | b :: l, _, h => by
    cases h with
    | cons h1 h2 =>
      obtain ⟨a, e1, e2⟩ := h1
      obtain ⟨us, d, r2⟩ := each_ks h2
      subst e1
      exact ⟨V.ref a :: us, ⟨a, us, rfl, e2, d⟩, .cons rfl r2⟩
def rSortKeysT : List V → Hp → VK → Prop := fun vs H Q => ∃ (a : Addr) (kvs : List (List Key × V)) (β : Type) (l : List β) (g : β → List Key), vs = [.ref a] ∧ H a = some (.dT kvs) ∧ kvs.map (·.1) = l.map g ∧ AllAlike (l.map fun b => py (ktD (g b))) ∧ PySem.W.Sortable (l.map fun b => py (ktD (g b))) ∧ (∀ b ∈ l, (py (ktD (g b))).depth ≤ 60) ∧
  ∀ (ys : List V) (r : Addr), H r = none → KsAt H ((l.mergeSort (dle fun b => ktD (g b))).map g) ys → Q (.ref r) (upd H r (.lst ys))
theorem cr_sortKeysT (hu : X.A.units + 65 < cLine) (hc : X.calm = true) : CallR X (.builtin "sorted") rSortKeysT := by
  intro pins s σ H vs us Q I r h
  obtain ⟨a, kvs, β, l, g, rfl, ha, hkl, hal, hsb, hdp, q⟩ := h
  obtain ⟨u, rfl, ru⟩ := vals1 r
  obtain rfl : u = Value.ref a := ru
  obtain ⟨z, lo, es, ep, hr, hs, he⟩ := kt_raw I.hok ha
  have hh : X.A.handled = none := I.ok.hd hc
  have ll : l.length = kvs.length := by have := congrArg List.length hkl; rw [List.length_map, List.length_map] at this; omega
  refine sorted_by (enc := fun b => py (ktD (g b))) (bs := l) (C := fun h' vs => (∀ b o, s.heap.get? b = some o → h'.get? b = some o) ∧ EachIs (fun u b => ∃ c, u = Value.ref c ∧ H c = some (.tup ((g b).map kV))) vs l)
    (fun {R'} k => kdu_collect (KdlSrc.rawDict (prog := X.prog) (w := X.w) lo) hh hr (by omega) fun h' tk acc kp hI => k h' tk acc.toList kp ⟨kp, each_of_ix (by rw [Array.length_toList, hI.1, ll, hs]) fun i v b hv hb => ?_⟩)
    (fun h' vs c => c.2.mono fun u b ⟨c', e1, e2⟩ => by
      subst e1
      obtain ⟨as, rr⟩ := Dp.reads I _ _ _ (ktD_dv (K := X.K) e2).dp (show RelV (.ref c') (Value.ref c') from rfl)
      exact ⟨as, PyProof.Rows.Reads.keeps c.1 rr⟩) hal hsb (by omega) (fun b m => hu_big hu (hdp b m)) fun h1 h' tk b vs out n c kp1 kp2 eb hb lo' eo => ?_
  · rw [Array.getElem?_toList] at hv
    obtain ⟨hi, rfl⟩ := hI.2 i v hv
    obtain ⟨⟨k, w⟩, hk⟩ : ∃ p, kvs[i]? = some p := ⟨_, List.getElem?_eq_getElem (by omega)⟩
    have ek : k = g b := by
      have h1 : (kvs.map (·.1))[i]? = some k := by rw [List.getElem?_map, hk]; rfl
      rw [hkl, List.getElem?_map, hb] at h1
      exact (Option.some.inj h1).symm
    obtain ⟨c, c1, c2⟩ := (he i hi k w hk).1
    exact ⟨c, c1, by rw [← ek]; exact c2⟩
  · have ng : s.heap.get? b = none := by rw [← eb]; exact no_get kp1
    have fr : H b = none := I.hok.gone ng
    have eo2 : EachIs (fun u b => ∃ c, u = Value.ref c ∧ H c = some (.tup ((g b).map kV))) out (l.mergeSort (dle fun b => ktD (g b))) := eo.mono fun v k ⟨j, h1, h2⟩ => by
      obtain ⟨k', hk', rk⟩ := each_get c.2 h1
      rw [h2] at hk'
      obtain rfl := Option.some.inj hk'
      exact rk
    obtain ⟨ys, dy, ry⟩ := each_ks eo2
    refine ⟨.ref b, upd H b (.lst ys), I.laidN (t' := tk) (fun b o g => kp2 b o (kp1 b o g)) ng fr ⟨?_, out, n, ry, hb⟩, rfl, q ys b fr dy⟩
    rw [vals_len ry, lo', ll]; exact z
/-- list.count of data -/
def rCountD (K : Frag) : V → List V → Hp → VK → Prop := fun x xs H Q => ∃ (a : Addr) (y : V) (us : List V) (d : D) (ds : List D), x = .ref a ∧ xs = [y] ∧ SqL K H a us ∧ DVs K H ds us ∧ DV K H d y ∧ Okd d ∧ Okl ds ∧ Q (.int (ds.countP fun z => eqD z d : Nat)) H
theorem mt_countDD (hu : X.A.units + 65 < cLine) : MtR X "list.count" (rCountD X.K) := by
  intro pins s σ H x xs v us Q I rx rxs h
  obtain ⟨a, y, ws, d, ds, rfl, rfl, hs, hds, hd, sd, sl, q⟩ := h
  cases rx
  obtain ⟨u, rfl, ru⟩ := rxs.one
  obtain ⟨bs, r1⟩ := Dp.reads I _ y u hd.dp ru
  have hxs : PyData.canLayAll0 (pys ds) = true := SeqAt.canLay_of_shaped sl
  have hroom : X.A.units + 1 + min (PyData.depthAll (pys ds)) (py d).depth < cLine := room_in_shaped sd hu
  obtain ⟨its, rv, ⟨⟨cls, dd, data, sls⟩, n, ho, hc, hdn, hdt⟩, hlen⟩ := I.list hs
  simp only at hc hdt
  subst hc hdt
  obtain ⟨as, h4⟩ := Dp.readsAll I (pys ds) _ its hds.dpa rv
  have hmap : its.map (SeqAt.readOf s.heap) = pys ds := SeqAt.readsAll_map (pys ds) its as hxs h4
  refine call_meets PySem.F.slot_list_count ⟨_, ho, rfl⟩ PySem.F.entry_list_count (PySem.F.args_list_count_2 _ _)
    (SeqAt.list_countAt a its.toArray n dd sls u (fun z => PyData.eqv (SeqAt.readOf s.heap z) (py d))) ⟨ho, SeqAt.items_eqAt (vs := its.toArray) (show ReadsAll s.heap its.toArray.toList (pys ds) as from h4) r1 hxs (SeqAt.canLay_of_shaped sd) hroom, ?_⟩
  have ec : its.toArray.toList.countP (fun z => PyData.eqv (SeqAt.readOf s.heap z) (py d)) = ds.countP fun z => eqD z d := by
    have e1 : (its.map (SeqAt.readOf s.heap)).countP (fun z => PyData.eqv z (py d)) = ds.countP fun z => eqD z d := by
      rw [hmap, pys_map, List.countP_map]; rfl
    rw [← e1, List.countP_map]; rfl
  refine ⟨.int (ds.countP fun z => eqD z d : Nat), H, I.tok _, ⟨s.toks, ?_⟩, q⟩
  show Value.int _ s.toks = Value.int _ s.toks
  rw [ec]
end
/-- a field, read in a comprehension -/
theorem pe_fldQ {X : Cx} {K : Frag} {e : Expr} {f : Str} {pos : Pos} {ta : TE} (h : X.K = K) (he : PE X e ta) (hb : attributeBase e f X.env (eval e X.env) = eval e X.env) : PE X (.Attribute e f pos) (tFld K ta f) := by subst h; exact pe_fld he hb
end Z
namespace Z
end Z
namespace HT
open PySem PyProof.Rows
open PySem.SeqAt
open PySem.AutoSeq1 (wpAny_loadPart')
open PySem.MeetsSeq PySem.MeetsSeq2 PySem.MeetsSeq3
theorem fmap_congr {α β : Type} {f g : α → Option β} : ∀ {l : List α}, (∀ x ∈ l, f x = g x) → l.filterMap f = l.filterMap g
  | [], _ => rfl
  | a :: l, h => by
    rw [List.filterMap_cons, List.filterMap_cons, h a (by simp), fmap_congr fun x hx => h x (List.mem_cons_of_mem _ hx)]
theorem adjust_rev (n : Nat) : Builtin.Slice.sliceAdjust none none (-1) (n : Int) = ((n : Int) - 1, -1) := by
  unfold Builtin.Slice.sliceAdjust
  rfl
theorem places_rev (n : Nat) : Builtin.Slice.slicePlaces ((n : Int) - 1) (-1) (-1) = n := by
  unfold Builtin.Slice.slicePlaces
  rw [if_neg (by decide)]
  split
  · rw [show -(-1 : Int) = 1 by decide, Int.ediv_one]; omega
  · omega
theorem pick_rev (xs : Array Value) : ((List.range xs.size).filterMap fun (m : Nat) => xs[(((xs.size : Int) - 1) + (m : Int) * (-1)).toNat]?).toArray = xs.toList.reverse.toArray := by
  congr 1
  have e : (List.range xs.size).filterMap (fun (m : Nat) => xs[(((xs.size : Int) - 1) + (m : Int) * (-1)).toNat]?) = (List.range xs.size).filterMap fun m => xs.toList.reverse[m]? := by
    refine fmap_congr fun m hm => ?_
    have := List.mem_range.mp hm
    rw [List.getElem?_reverse (by rw [Array.length_toList]; exact this), Array.getElem?_toList, Array.length_toList]
    congr 1
    omega
  rw [e]
  have : xs.size = xs.toList.reverse.length := by rw [List.length_reverse, Array.length_toList]
  rw [this]
  generalize xs.toList.reverse = l
  clear this e
  induction l with
  | nil => rfl
  | cons a l ih =>
    rw [List.length_cons, List.range_succ_eq_map, List.filterMap_cons, List.filterMap_map]
    show a :: _ = _
    congr 1
section
variable {prog : Program} {w : World} {A : Around} {E : Value → Shared → Prop} {s : Shared}
theorem sliceApplied_rev {sl : Addr} {vl vu vs : Value} {n : Nat} {Q : Int × Int × Nat → Shared → Prop} (hs : s.heap.IsSliceOf sl vl vu vs) (pl : IsPart vl none) (pu : IsPart vu none) (ps : IsPart vs (some (-1)))
    (h : Q ((n : Int) - 1, -1, n) s) : wpAny (model prog w) A (Builtin.Slice.sliceApplied (.ref sl) (pure (n : Int))) Q E s := by
  obtain ⟨os, hos, hcs, hds⟩ := id hs
  unfold Builtin.Slice.sliceApplied Builtin.Slice.sliceFields
  refine wpAny_bind (wpAny_bind (wpAny_field hos hds (x := vl) rfl (wpAny_bind (wpAny_field hos hds (x := vu) rfl (wpAny_bind (wpAny_field hos hds (x := vs) rfl (wpAny_pure ?_)))))))
  refine wpAny_bind (slicePart_ ps ?_)
  show wpAny _ _ (if ((-1 : Int) == 0) = true then _ else _) _ _ s
  rw [if_neg (by decide)]
  refine wpAny_bind (slicePart_ pl (wpAny_bind (slicePart_ pu (wpAny_bind (wpAny_pure ?_)))))
  show wpAny _ _ (match Builtin.Slice.sliceAdjust none none (-1) (n : Int) with | (lo, hi) => pure (lo, (-1 : Int), Builtin.Slice.slicePlaces lo hi (-1))) _ _ s
  rw [adjust_rev]
  show wpAny _ _ (pure ((n : Int) - 1, (-1 : Int), Builtin.Slice.slicePlaces ((n : Int) - 1) (-1) (-1))) _ _ s
  rw [places_rev]
  exact wpAny_pure h
theorem getItem_tuple_rev {t sl : Addr} {items : Array Value} {vl vu vs : Value} {Q : Value → Shared → Prop} (ht : IsTup s.heap t items) (hs : s.heap.IsSliceOf sl vl vu vs) (pl : IsPart vl none) (pu : IsPart vu none) (ps : IsPart vs (some (-1)))
    (h : Q (.ref s.heap.objs.size) { s with heap := s.heap.push { cls := .type "tuple", data := .seq items.toList.reverse.toArray } })
    (hsz : items.size ≤ sizeLine) : wpAny (model prog w) A (getItem (.ref t) (.ref sl)) Q E s := by
  have htake : sizeOk (.seq items.toList.reverse.toArray) := by
    show items.toList.reverse.toArray.size ≤ sizeLine
    rw [List.size_toArray, List.length_reverse, Array.length_toList]
    exact hsz
  obtain ⟨os, hos, hcs, hds⟩ := id hs
  have hTs : s.TypeIs (.ref sl) "slice" := ⟨os, hos, hcs⟩
  unfold getItem
  try with_reducible refine wpAny_holding ?_
  first | refine wpAny_bind (wpAny_pure ?_) | skip
  refine wpAny_bind (wpAny_sequenceKey ht.typeIs (by decide) ?_)
  refine wpAny_bind (wpAny_callSpecial?_slot (name := Str.ofString "__getitem__") ht.typeIs PyProof.Rows.slot_tuple_getitem
    (wpAny_call_entry PyProof.Rows.slot_tuple_getitem ht.typeIs entry_tuple_getitem ?_ (args_tuple_getitem _ _)))
  show wpAny _ _ (Builtin.Tuple.tupleItemsOf (.ref t) >>= _) _ _ s
  refine wpAny_bind (tupleItemsOf_ ht ?_)
  refine wpAny_bind (wpAny_typeOf hTs ?_)
  rw [if_pos (by decide)]
  refine wpAny_bind (sliceApplied_rev hs pl pu ps ?_)
  have hno : ¬ (((items.size : Int) - 1 == 0 && (-1 : Int) == 1 && items.size == items.size) = true) := by
    intro q
    rw [Bool.and_eq_true, Bool.and_eq_true] at q
    exact absurd q.1.2 (by decide)
  show wpAny _ _ (if (((items.size : Int) - 1) == 0 && (-1 : Int) == 1 && items.size == items.size) = true then _ else _) _ _ s
  rw [if_neg hno, pick_rev]
  first
    | exact wpAny_bind (m := Builtin.Tuple.tupleExact _) (wpAny_newObj_type (wpAny_pure ⟨_, rfl, wpAny_pure h⟩) htake)
    | exact wpAny_bind (m := Builtin.Tuple.tupleExact _) (wpAny_newObj_type (wpAny_bind (wpAny_pure (wpAny_pure ⟨_, rfl, wpAny_pure h⟩))) htake)
end
end HT
namespace L2
open PySem PySem.Spec PyProof.Rows
section
variable {X : Cx}
def tRevTu (K : PySem.W.Frag) (te : TE) : TE := fun σ H Q => te σ H fun x H1 => ∃ a xs, x = .ref a ∧ SqT K H1 a xs ∧ ∀ p, H1 p = none → Q (.ref p) (upd H1 p (.tup xs.reverse))
theorem pe_revTu {e : Expr} {te : TE} {k : Nat} {p1 p2 p3 pos : Pos} (he : PE X e te) : PE X (.Subscript e (.Slice none none (some (.UnaryOp .USub (.Constant (.int 1) k p1) p2)) p3) pos) (tRevTu X.K te) := by
  refine ⟨fun pins s σ H Q I h => ?_⟩
  refine Subscript_ (thn (he.run pins s σ H _ I h) fun v s1 ⟨x, H1, I1, r1, q1⟩ => ?_)
  obtain ⟨a, xs, ex, hx, q⟩ := q1
  subst ex
  cases r1
  have hst : PO X (some (.UnaryOp .USub (.Constant (.int 1) k p1) p2)) (tPart (tUn (rU fun i => .int (-i)) (tC (.int 1)))) := po_some (pe_un un_neg pe_int)
  refine wpAny_Slice (thn (po_none.run pins s1 σ H1 (fun o H2 => o = none ∧ H2 = H1) I1 ⟨rfl, rfl⟩) fun vl s2 ⟨l, H2, I2, pl, el, e2⟩ => ?_)
  subst el e2
  refine thn (po_none.run pins s2 σ H2 (fun o H3 => o = none ∧ H3 = H2) I2 ⟨rfl, rfl⟩) fun vu s3 ⟨u, H3, I3, pu, eu, e3⟩ => ?_
  subst eu e3
  refine thn (hst.run pins s3 σ H3 (fun o H4 => o = some (-1) ∧ H4 = H3) I3 ⟨1, rfl, -1, rfl, rfl, rfl⟩) fun vs s4 ⟨o, H4, I4, ps, eo, e4⟩ => ?_
  subst eo e4
  have I5 : Inv X pins σ H4 { s4 with heap := s4.heap.push { cls := .type "slice", data := .fields #[vl, vu, vs] } } := I4.kept (t' := s4.toks) fun b ob q => Heap.get?_push_of_some _ q
  obtain ⟨its, r, ht, hz⟩ := I5.tuple hx
  have hlen := r.length
  show wpAny (model X.prog X.w) X.A (subscriptTail e (.Slice none none (some (.UnaryOp .USub (.Constant (.int 1) k p1) p2)) p3) (.ref a) (.ref s4.heap.objs.size)) (EP X pins σ Q) X.xe { s4 with heap := s4.heap.push { cls := .type "slice", data := .fields #[vl, vu, vs] } }
  refine tail_any (ops := [.ref a, .ref s4.heap.objs.size]) ht.typeIs (PyProof.Rows.slot_tuple_getitem.lookup) ?_ (by with_unfolding_all rfl)
  refine HT.getItem_tuple_rev ht (Heap.IsSliceOf.new _ vl vu vs) pl pu ps ?_ (by rw [List.size_toArray]; omega)
  refine ⟨.ref _, _, I5.laid (t' := s4.toks) (o := .tup xs.reverse) (fun b ob q => Heap.get?_push_of_some _ q) (Nat.le_refl _) ?_, rfl, q _ (I5.hok.fresh (Nat.le_refl _))⟩
  exact ⟨by rw [List.length_reverse]; exact hz, _, r.reverse, IsTup.new _ _⟩
end
end L2
namespace Z
end Z
namespace Z
open PySem L2 SX
def top (i : Nat) : Stmt := PySem.Challenge.pw_criermoot_k68_whole_marks.main.body.getD i (.Pass ⟨0, 0, 0, 0⟩)
abbrev s_greatest_of : Stmt := top 8
abbrev N_greatest_of : List Str := ["digits"]
theorem sc_greatest_of : FnScope ["digits"] ["digits"] (defScope s_greatest_of) := ⟨rfl, rfl, rfl, by decide +kernel, rfl, by decide +kernel, by decide +kernel⟩
abbrev s_MarksReader____init__ : Stmt := inClass (top 9) 0
abbrev N_MarksReader____init__ : List Str := ["self"]
theorem sc_MarksReader____init__ : FnScope ["self"] ["self"] (defScope s_MarksReader____init__) := ⟨rfl, rfl, rfl, by decide +kernel, rfl, by decide +kernel, by decide +kernel⟩
abbrev s_MarksReader__may_stand : Stmt := inClass (top 9) 1
abbrev N_MarksReader__may_stand : List Str := ["self", "sign", "digits"]
theorem sc_MarksReader__may_stand : FnScope ["self", "sign", "digits"] ["self", "sign"] (defScope s_MarksReader__may_stand) := ⟨rfl, rfl, rfl, by decide +kernel, rfl, by decide +kernel, by decide +kernel⟩
abbrev s_MarksReader__is_number : Stmt := inClass (top 9) 2
abbrev N_MarksReader__is_number : List Str := ["self"]
theorem sc_MarksReader__is_number : FnScope ["self"] ["self"] (defScope s_MarksReader__is_number) := ⟨rfl, rfl, rfl, by decide +kernel, rfl, by decide +kernel, by decide +kernel⟩
abbrev s_MarksReader__read_sign : Stmt := inClass (top 9) 3
abbrev N_MarksReader__read_sign : List Str := ["self", "sign"]
theorem sc_MarksReader__read_sign : FnScope ["self", "sign"] ["self", "sign"] (defScope s_MarksReader__read_sign) := ⟨rfl, rfl, rfl, by decide +kernel, rfl, by decide +kernel, by decide +kernel⟩
abbrev s_MarksReader__end_range : Stmt := inClass (top 9) 4
abbrev N_MarksReader__end_range : List Str := ["self", "last"]
theorem sc_MarksReader__end_range : FnScope ["self", "last"] ["self"] (defScope s_MarksReader__end_range) := ⟨rfl, rfl, rfl, by decide +kernel, rfl, by decide +kernel, by decide +kernel⟩
abbrev s_read_marks : Stmt := top 10
abbrev N_read_marks : List Str := ["text", "reader", "at", "sign"]
theorem sc_read_marks : FnScope ["text", "reader", "at", "sign"] ["text"] (defScope s_read_marks) := ⟨rfl, rfl, rfl, by decide +kernel, rfl, by decide +kernel, by decide +kernel⟩
abbrev s_range_text : Stmt := top 11
abbrev N_range_text : List Str := ["first", "last"]
theorem sc_range_text : FnScope ["first", "last"] ["first", "last"] (defScope s_range_text) := ⟨rfl, rfl, rfl, by decide +kernel, rfl, by decide +kernel, by decide +kernel⟩
abbrev s_write_marks : Stmt := top 12
abbrev N_write_marks : List Str := ["marks", "first", "last"]
theorem sc_write_marks : FnScope ["marks", "first", "last"] ["marks"] (defScope s_write_marks) := ⟨rfl, rfl, rfl, by decide +kernel, rfl, by decide +kernel, by decide +kernel⟩
abbrev s_joined_marks : Stmt := top 13
abbrev N_joined_marks : List Str := ["marks", "other", "found", "first", "last"]
theorem sc_joined_marks : FnScope ["marks", "other", "found", "first", "last"] ["marks", "other"] (defScope s_joined_marks) := ⟨rfl, rfl, rfl, by decide +kernel, rfl, by decide +kernel, by decide +kernel⟩
abbrev s_range_without : Stmt := top 14
abbrev N_range_without : List Str := ["first", "last", "other", "found", "begin", "end"]
theorem sc_range_without : FnScope ["first", "last", "other", "found", "begin", "end"] ["first", "last", "other"] (defScope s_range_without) := ⟨rfl, rfl, rfl, by decide +kernel, rfl, by decide +kernel, by decide +kernel⟩
abbrev s_marks_without : Stmt := top 15
abbrev N_marks_without : List Str := ["marks", "other", "found", "first", "last"]
theorem sc_marks_without : FnScope ["marks", "other", "found", "first", "last"] ["marks", "other"] (defScope s_marks_without) := ⟨rfl, rfl, rfl, by decide +kernel, rfl, by decide +kernel, by decide +kernel⟩
abbrev s_range_of : Stmt := top 16
abbrev N_range_of : List Str := ["marks", "number", "first", "last"]
theorem sc_range_of : FnScope ["marks", "number", "first", "last"] ["marks", "number"] (defScope s_range_of) := ⟨rfl, rfl, rfl, by decide +kernel, rfl, by decide +kernel, by decide +kernel⟩
abbrev s_marked : Stmt := top 17
abbrev N_marked : List Str := ["marks", "number"]
theorem sc_marked : FnScope ["marks", "number"] ["marks", "number"] (defScope s_marked) := ⟨rfl, rfl, rfl, by decide +kernel, rfl, by decide +kernel, by decide +kernel⟩
abbrev s_next_new : Stmt := top 18
abbrev N_next_new : List Str := ["marks", "number", "found"]
theorem sc_next_new : FnScope ["marks", "number", "found"] ["marks", "number"] (defScope s_next_new) := ⟨rfl, rfl, rfl, by decide +kernel, rfl, by decide +kernel, by decide +kernel⟩
abbrev s__law_mix : Stmt := top 20
abbrev N__law_mix : List Str := ["seed", "turn", "number"]
theorem sc__law_mix : FnScope ["seed", "turn", "number"] ["seed", "turn"] (defScope s__law_mix) := ⟨rfl, rfl, rfl, by decide +kernel, rfl, by decide +kernel, by decide +kernel⟩
abbrev s__law_source : Stmt := top 21
abbrev N__law_source : List Str := ["script", "seed", "k"]
theorem sc__law_source : FnScope ["script", "seed", "k"] ["script"] (defScope s__law_source) := ⟨rfl, rfl, rfl, by decide +kernel, rfl, by decide +kernel, by decide +kernel⟩
abbrev s__law_draw : Stmt := top 22
abbrev N__law_draw : List Str := ["source", "many", "cell", "value"]
theorem sc__law_draw : FnScope ["source", "many", "cell", "value"] ["source", "many"] (defScope s__law_draw) := ⟨rfl, rfl, rfl, by decide +kernel, rfl, by decide +kernel, by decide +kernel⟩
abbrev s__law_pick : Stmt := top 23
abbrev N__law_pick : List Str := ["source", "row"]
theorem sc__law_pick : FnScope ["source", "row"] ["source", "row"] (defScope s__law_pick) := ⟨rfl, rfl, rfl, by decide +kernel, rfl, by decide +kernel, by decide +kernel⟩
abbrev s__law_is_int : Stmt := top 24
abbrev N__law_is_int : List Str := ["value"]
theorem sc__law_is_int : FnScope ["value"] ["value"] (defScope s__law_is_int) := ⟨rfl, rfl, rfl, by decide +kernel, rfl, by decide +kernel, by decide +kernel⟩
abbrev s__law_same : Stmt := top 25
abbrev N__law_same : List Str := ["actual", "due", "k"]
theorem sc__law_same : FnScope ["actual", "due", "k"] ["actual", "due"] (defScope s__law_same) := ⟨rfl, rfl, rfl, by decide +kernel, rfl, by decide +kernel, by decide +kernel⟩
abbrev s__law_ranges : Stmt := top 26
abbrev N__law_ranges : List Str := ["source", "zone", "step", "at", "found", "k", "last"]
theorem sc__law_ranges : FnScope ["source", "zone", "step", "at", "found", "k", "last"] ["source", "zone"] (defScope s__law_ranges) := ⟨rfl, rfl, rfl, by decide +kernel, rfl, by decide +kernel, by decide +kernel⟩
abbrev s__law_other : Stmt := top 27
abbrev N__law_other : List Str := ["source", "zone", "top", "marks", "way", "low", "found", "pair"]
theorem sc__law_other : FnScope ["source", "zone", "top", "marks", "way", "low", "found", "pair"] ["source", "zone", "top", "marks"] (defScope s__law_other) := ⟨rfl, rfl, rfl, by decide +kernel, rfl, by decide +kernel, by decide +kernel⟩
abbrev s__law_in : Stmt := top 28
abbrev N__law_in : List Str := ["marks", "number", "pair"]
theorem sc__law_in : FnScope ["marks", "number", "pair"] ["marks", "number"] (defScope s__law_in) := ⟨rfl, rfl, rfl, by decide +kernel, rfl, by decide +kernel, by decide +kernel⟩
abbrev s__law_left : Stmt := top 29
abbrev N__law_left : List Str := ["deeds", "number", "answer", "deed"]
theorem sc__law_left : FnScope ["deeds", "number", "answer", "deed"] ["deeds", "number"] (defScope s__law_left) := ⟨rfl, rfl, rfl, by decide +kernel, rfl, by decide +kernel, by decide +kernel⟩
abbrev s__law_due : Stmt := top 30
abbrev N__law_due : List Str := ["deeds", "ends", "deed", "pair", "found", "k", "low"]
theorem sc__law_due : FnScope ["deeds", "ends", "deed", "pair", "found", "k", "low"] ["deeds"] (defScope s__law_due) := ⟨rfl, rfl, rfl, by decide +kernel, rfl, by decide +kernel, by decide +kernel⟩
abbrev s__law_next : Stmt := top 31
abbrev N__law_next : List Str := ["marks", "number", "point", "pair"]
theorem sc__law_next : FnScope ["marks", "number", "point", "pair"] ["marks", "number"] (defScope s__law_next) := ⟨rfl, rfl, rfl, by decide +kernel, rfl, by decide +kernel, by decide +kernel⟩
abbrev s__law_text : Stmt := top 32
abbrev N__law_text : List Str := ["marks", "words", "pair"]
theorem sc__law_text : FnScope ["marks", "words", "pair"] ["marks"] (defScope s__law_text) := ⟨rfl, rfl, rfl, by decide +kernel, rfl, by decide +kernel, by decide +kernel⟩
abbrev s__law_points : Stmt := top 33
abbrev N__law_points : List Str := ["marks", "points", "pair", "point"]
theorem sc__law_points : FnScope ["marks", "points", "pair", "point"] ["marks"] (defScope s__law_points) := ⟨rfl, rfl, rfl, by decide +kernel, rfl, by decide +kernel, by decide +kernel⟩
abbrev s__law_asked : Stmt := top 34
abbrev N__law_asked : List Str := ["value", "due", "points", "point", "text"]
theorem sc__law_asked : FnScope ["value", "due", "points", "point", "text"] ["value", "due", "points"] (defScope s__law_asked) := ⟨rfl, rfl, rfl, by decide +kernel, rfl, by decide +kernel, by decide +kernel⟩
abbrev s__law_both : Stmt := top 35
abbrev N__law_both : List Str := ["value", "other", "deeds", "union", "rest", "back"]
theorem sc__law_both : FnScope ["value", "other", "deeds", "union", "rest", "back"] ["value", "other", "deeds"] (defScope s__law_both) := ⟨rfl, rfl, rfl, by decide +kernel, rfl, by decide +kernel, by decide +kernel⟩
abbrev s__law_next_pair : Stmt := top 36
abbrev N__law_next_pair : List Str := ["value", "due", "number", "told"]
theorem sc__law_next_pair : FnScope ["value", "due", "number", "told"] ["value", "due", "number"] (defScope s__law_next_pair) := ⟨rfl, rfl, rfl, by decide +kernel, rfl, by decide +kernel, by decide +kernel⟩
abbrev s__law_walked : Stmt := top 37
abbrev N__law_walked : List Str := ["source", "value", "deeds", "number", "k", "other"]
theorem sc__law_walked : FnScope ["source", "value", "deeds", "number", "k", "other"] ["source", "value", "deeds", "number"] (defScope s__law_walked) := ⟨rfl, rfl, rfl, by decide +kernel, rfl, by decide +kernel, by decide +kernel⟩
abbrev s_law : Stmt := top 38
abbrev N_law : List Str := ["script", "source", "zone", "top", "value", "deeds", "start", "step", "due", "other", "way", "pair"]
theorem sc_law : FnScope ["script", "source", "zone", "top", "value", "deeds", "start", "step", "due", "other", "way", "pair"] ["script"] (defScope s_law) := ⟨rfl, rfl, rfl, by decide +kernel, rfl, by decide +kernel, by decide +kernel⟩
structure Tx (mg : Str → Option Value) : Prop where
  n_abs : mg "abs" = none
  n_bool : mg "bool" = none
  n_enumerate : mg "enumerate" = none
  n_int : mg "int" = none
  n_isinstance : mg "isinstance" = none
  n_len : mg "len" = none
  n_list : mg "list" = none
  n_max : mg "max" = none
  n_min : mg "min" = none
  n_range : mg "range" = none
  n_sorted : mg "sorted" = none
  n_str : mg "str" = none
  n_tuple : mg "tuple" = none
  c_DIGITS : ∃ t, mg "DIGITS" = some (.str ("0123456789") t)
  c_LAST_MARK : ∃ t, mg "LAST_MARK" = some (.int 999999 t)
  c_MOST_DIGITS : ∃ t, mg "MOST_DIGITS" = some (.int 6 t)
abbrev s_init_BadMarks : Stmt := inClass (top 3) 0
theorem sc_init_BadMarks : FnScope ["self", "at"] ["self", "at"] (defScope s_init_BadMarks) := ⟨rfl, rfl, rfl, by decide +kernel, rfl, by decide +kernel, by decide +kernel⟩
section
variable {P : Program} {w : World} {K : PySem.W.Frag} {mg : Str → Option Value} {base : Heap}
theorem ok_init_BadMarks {C f : Addr} {fd : FuncData} (F : Fun K "__init__" "BadMarks.__init__" s_init_BadMarks f fd) : FnOk P w K mg base CX0 1 f fd ["self", "at"] (sp_init K C "at") := by
  refine F.ok sc_init_BadMarks (fun vs H Q E h => ?_) (fun cdv A outer s₀ H vs Q E hr h => ?_)
  · obtain ⟨a, v, rfl, _⟩ := h; rfl
  · obtain ⟨a, v, rfl, T, hno, ha, q⟩ := h
    refine ⟨_, (pss_one (ps_ost (pv 0) (pv 1))), ?_⟩
    exact ⟨_, rfl, _, rfl, a, C, rfl, T, hno, .inl ⟨ha, fun dx n ne => q dx n ne⟩⟩
end
structure Tc (K : PySem.W.Frag) (mg : Str → Option Value) (A_MootError A_TextError A_BadMarks : Addr) : Prop where
  g_MootError : mg "MootError" = some (.ref A_MootError)
  g_TextError : mg "TextError" = some (.ref A_TextError)
  g_BadMarks : mg "BadMarks" = some (.ref A_BadMarks)
  e_BadMarks : XOk K mg "BadMarks" A_BadMarks
  n_BadMarks_at : PySem.W.findIn K (.ref A_BadMarks) "at" = some none
  i_BadMarks : ∃ (fI : Addr) (fd : FuncData), Fun K "__init__" "BadMarks.__init__" s_init_BadMarks fI fd ∧ PySem.W.findIn K (.ref A_BadMarks) "__init__" = some (some (.ref fI)) ∧ PySem.W.typeIn K (.ref fI) = some (.type "function") ∧ Binds K fd ["self", "at"] []
structure To (K : PySem.W.Frag) (mg : Str → Option Value) (A_MarksReader : Addr) : Prop where
  g_MarksReader : mg "MarksReader" = some (.ref A_MarksReader)
  c_MarksReader : Cls K A_MarksReader
  n_MarksReader_marks : NoAttr K A_MarksReader "marks"
  n_MarksReader_least : NoAttr K A_MarksReader "least"
  n_MarksReader_digits : NoAttr K A_MarksReader "digits"
  n_MarksReader_first : NoAttr K A_MarksReader "first"
end Z
namespace Z
open PySem PySem.Spec PyProof.Rows L2 SX
/-! ### enumerate(text) -/
def ItEs (x : Str) : It := ⟨fun i _ => i < x.cps.size, fun i H v H' => ∃ (T : Addr) (c : Nat), v = .ref T ∧ H T = none ∧ H' = upd H T (.tup [.int (i : Nat), .str ⟨#[c]⟩]) ∧ x.cps[i]? = some c, fun i _ => i = x.cps.size⟩
theorem turn_enumS {P : Program} {w : World} {K : PySem.W.Frag} {elts : List Expr} {kk : Nat} {tpos : Pos} (x : Str) (t : Tok) (e it : Addr) :
    Turn P w K (.Tuple elts kk tpos) (ItEs x) [e, it] e (fun i h => (∃ old, IsEnum h e it ((i : Nat) : Int) old) ∧ h.IsStrIter it (strIterType x) x t i ∧ e ≠ it) where
  mem := by simp
  obj := fun i h st b hb => by
    obtain ⟨⟨old, he⟩, ⟨o, ho, hc, hd⟩, _⟩ := st
    have e' : b = e ∨ b = it := by simpa using hb
    rcases e' with z | z
    · rw [z]; exact ⟨_, he, fun v q => nomatch q⟩
    · rw [z]; exact ⟨o, ho, fun v q => by rw [hd] at q; cases q⟩
  keep := fun i h h' st k => by
    obtain ⟨⟨old, he⟩, ⟨o, ho, r⟩, hne⟩ := st
    exact ⟨⟨old, k e (by simp) _ he⟩, ⟨o, k it (by simp) o ho, r⟩, hne⟩
  item := by
    intro X hP hw hK hc i pins s σ H E I hf st hg
    subst hP hw hK
    obtain ⟨⟨old, he⟩, hit, hne⟩ := st
    have hel : e < s.heap.objs.size := Heap.lt_size he
    have hil : it < s.heap.objs.size := by obtain ⟨_, q, _⟩ := hit; exact Heap.lt_size q
    have D := Draws.text (prog := X.prog) (w := X.w) (A := X.A.in1) (I.ok.hd hc) it x t
    refine wpAny_pyNext_enum_itemC D he hit hg hne (by simp [hne]) fun v h' tk hv ho hit' hT hsz hk => ?_
    obtain ⟨c, u, hcx, rfl⟩ := hv
    refine ⟨_, rfl, wpAny_letOwnedTupleGo_enum (s := { s with heap := h', toks := tk + 1 }) ho fun h'' he' sb => ?_⟩
    have hT2 : h''.get? s.heap.objs.size = some { cls := .type "tuple", data := .seq #[.int i tk, .str ⟨#[c]⟩ u] } := (sb.2 _ (Nat.ne_of_gt hel)).trans hT
    have new : ObjOk X.prog X.w (upd H s.heap.objs.size (.tup [.int (i : Nat), .str ⟨#[c]⟩])) h'' s.heap.objs.size (.tup [.int (i : Nat), .str ⟨#[c]⟩]) :=
      ⟨by show 2 ≤ sizeLine; decide, [.int i tk, .str ⟨#[c]⟩ u], .cons ⟨_, rfl⟩ (.cons ⟨_, rfl⟩ .nil), ⟨_, hT2, rfl, _, rfl⟩⟩
    have I1 : Inv X pins σ (upd H s.heap.objs.size (.tup [.int (i : Nat), .str ⟨#[c]⟩])) { s with heap := h'', toks := tk + 1 } :=
      I.turnedNew (ch := [e, it]) (fun b ob hb q => (sb.2 b (fun z => hb (by simp [z]))).trans (hk b ob (fun z => hb (by simp [z])) (fun z => hb (by simp [z])) q)) hf (Nat.le_refl _) new
    refine ⟨.ref s.heap.objs.size, _, I1, rfl, ⟨_, c, rfl, I.hok.fresh (Nat.le_refl _), rfl, hcx⟩, ⟨⟨.str ⟨#[c]⟩ u, ?_⟩, ?_, hne⟩, fun b hb => ?_⟩
    · have e1 : ((i + 1 : Nat) : Int) = (i : Int) + 1 := by omega
      rw [e1]; exact he'
    · obtain ⟨o, q, r⟩ := hit'
      exact ⟨o, (sb.2 it (Ne.symm hne)).trans q, r⟩
    · have hb' : b < s.heap.objs.size := by
        have e' : b = e ∨ b = it := by simpa using hb
        rcases e' with z | z
        · rw [z]; exact hel
        · rw [z]; exact hil
      rw [upd_ne (Nat.ne_of_lt hb')]
      exact (hf b hb).1
  done := by
    intro X hP hw hK hc i pins s σ H E I hf st hg
    subst hP hw hK
    obtain ⟨⟨old, he⟩, hit, hne⟩ := st
    obtain ⟨f0, f1, f2, f3, f4, f5⟩ := hf it (by simp)
    have hg' : i = x.cps.size := hg
    subst hg'
    have D := Draws.text (prog := X.prog) (w := X.w) (A := X.A.in1) (I.ok.hd hc) it x t
    exact wpAny_pyNext_enum_endD D he hit fun h' eb => ⟨rfl, I.turned (t' := s.toks) (fun b o hb q => eb b o hb q) f0 f1 f3 f4 f5⟩
  self := fun A i s Q E st h => let ⟨⟨_, he⟩, _⟩ := st; wpAny_pyIter_enum he h
def iEnumS (ta : TA) : TI := fun σ H R => ta σ H fun vs H1 => ∃ x : Str, vs = [.str x] ∧ R (ItEs x) H1
theorem pi_enumS {X : Cx} {e : Expr} {ta : TA} {p pos tpos : Pos} {elts : List Expr} {kk : Nat} (hg : Gl X "enumerate") (hm : X.mg "enumerate" = none) (ha : PA X [e] ta) (hs : starEach [e] X.env = [(false, eval e X.env)] := by rfl) :
    PI X (.Tuple elts kk tpos) (.Call (.Name "enumerate" p) [e] [] pos) (iEnumS ta) := by
  refine ⟨fun pins s σ H R I h => ?_⟩
  refine Call_ (ld_blt I hg hm boot_enumerate (PyProof.Rows.callWith_type1 (thn (ha.run pos pins s σ H _ I h) fun us s1 ⟨vs, H1, I1, r1, q1⟩ => ?_) hs rfl))
  obtain ⟨x, ex, q⟩ := q1
  subst ex
  cases r1 with
  | cons r rr =>
    cases rr
    obtain ⟨t, rfl⟩ := r
    refine call_enumerate_str fun h' he hit hsz hk => wpAny_pyIter_enum he ?_
    have I2 : Inv X pins σ H1 { s1 with heap := h' } := I1.kept (t' := s1.toks) hk
    refine ⟨s1.heap.objs.size + 1, [s1.heap.objs.size + 1, s1.heap.objs.size], _, _, H1, rfl, I2, turn_enumS x t (s1.heap.objs.size + 1) s1.heap.objs.size, ⟨⟨.none, he⟩, hit, Nat.succ_ne_self _⟩, fun b hb => ?_, q⟩
    have e' : b = s1.heap.objs.size + 1 ∨ b = s1.heap.objs.size := by simpa using hb
    have hle : s1.heap.objs.size ≤ b := by
      rcases e' with z | z
      · rw [z]; exact Nat.le_add_right _ _
      · rw [z]; exact Nat.le_refl _
    exact I1.fpOk hle (I1.hok.fresh hle)
theorem for_enumS {l : List Nat} {g : TG} {tb : TS} {D : Ends} {σ : L2.St} {H : Hp} (Pv : Nat → L2.St → Hp → Prop) (h0 : Pv 0 σ H)
    (hs : ∀ i c T σ H, l[i]? = some c → Pv i σ H → H T = none → g (.ref T) σ (upd H T (.tup [.int (i : Nat), .str (S [c])])) fun σ2 H2 => tb { D with nx := Pv (i + 1), ct := Pv (i + 1), bk := D.nx } σ2 H2) (hd : ∀ σ H, Pv l.length σ H → D.nx σ H) :
    ∃ W : Nat → Nat → L2.St → Hp → Prop, (∃ m, W 0 m σ H) ∧ ∀ i m σ H, W i m σ H →
      ((ItEs (S l)).stop i H ∧ D.nx σ H) ∨ ((ItEs (S l)).go i H ∧ ∃ N : L2.St → Hp → Prop, (∀ σ' H', N σ' H' → ∃ m', m' < m ∧ W (i + 1) m' σ' H') ∧ ∀ x H', (ItEs (S l)).yld i H x H' → g x σ H' fun σ2 H2 => tb { D with nx := N, ct := N, bk := D.nx } σ2 H2) := by
  refine ⟨fun i m σ H => m = l.length - i ∧ i ≤ l.length ∧ Pv i σ H, ⟨l.length, by simp, Nat.zero_le _, h0⟩, ?_⟩
  rintro i m σ H ⟨rfl, hi, p⟩
  by_cases hlt : i < l.length
  · refine .inr ⟨by show i < l.toArray.size; simpa using hlt, Pv (i + 1), fun σ' H' p' => ⟨l.length - (i + 1), by omega, rfl, hlt, p'⟩, fun x H' y => ?_⟩
    obtain ⟨T, c, rfl, hT, rfl, hc⟩ := y
    exact hs i c T _ _ (by simpa using hc) p hT
  · have e : i = l.length := by omega
    subst e
    exact .inl ⟨by show l.length = l.toArray.size; simp, hd σ H p⟩
end Z
namespace Z
open PySem L2 SX
/-! ### where a beginning stands in a glob -/
abbrev nts (l : List Nat) : List V := l.map fun k : Nat => V.int (k : Int)
def st0 (g : List Nat) : Nat → Prop
  | 0 => True
  | i + 1 => g[i]? = some 42 ∧ st0 g i
def nxt (g : List Nat) (M : Nat → Prop) (c : Nat) : Nat → Prop
  | 0 => False
  | i + 1 => (g[i]? = some 42 ∧ (nxt g M c i ∨ M (i + 1))) ∨ (g[i]? ≠ some 42 ∧ M i ∧ (g[i]? = some 63 ∨ g[i]? = some c))
def stand (g b : List Nat) : Nat → Prop := b.foldl (fun M c => nxt g M c) (st0 g)
/-- closed along stars -/
def closed (g : List Nat) (M : Nat → Prop) : Prop := ∀ y, M y → g[y]? = some 42 → M (y + 1)
def within (g : List Nat) (M : Nat → Prop) : Prop := ∀ y, M y → y ≤ g.length
theorem st0_closed (g : List Nat) : closed g (st0 g) := fun _ h e => ⟨e, h⟩
theorem st0_within (g : List Nat) : within g (st0 g) := fun y h => by
  cases y with
  | zero => omega
  | succ i => have := (List.getElem?_eq_some_iff.mp h.1).1; omega
theorem nxt_closed (g : List Nat) (M : Nat → Prop) (c : Nat) : closed g (nxt g M c) := fun _ h e => .inl ⟨e, .inl h⟩
theorem nxt_within (g : List Nat) (M : Nat → Prop) (c : Nat) : within g (nxt g M c) := fun y h => by
  cases y with
  | zero => omega
  | succ i =>
    rcases h with ⟨h, _⟩ | ⟨_, _, h | h⟩ <;> (have := (List.getElem?_eq_some_iff.mp h).1; omega)
theorem stand_nil (g : List Nat) : stand g [] = st0 g := rfl
theorem stand_snoc (g b : List Nat) (c : Nat) : stand g (b ++ [c]) = nxt g (stand g b) c := by unfold stand; rw [List.foldl_append]; rfl
theorem stand_ok (g b : List Nat) : closed g (stand g b) ∧ within g (stand g b) := by
  unfold stand
  rw [← List.reverse_reverse b, List.foldl_reverse]
  cases b.reverse with
  | nil => exact ⟨st0_closed g, st0_within g⟩
  | cons c r => exact ⟨nxt_closed g _ c, nxt_within g _ c⟩
/-- the places, ascending -/
def Asd (ps : List Nat) (M : Nat → Prop) : Prop := ps.Pairwise (· < ·) ∧ ∀ y, y ∈ ps ↔ M y
theorem asd_one : ∀ {a b : List Nat}, a.Pairwise (· < ·) → b.Pairwise (· < ·) → (∀ y, y ∈ a ↔ y ∈ b) → a = b
  | [], [], _, _, _ => rfl
  | [], y :: b, _, _, h => by have := (h y).mpr (by simp); cases this
  | x :: a, [], _, _, h => by have := (h x).mp (by simp); cases this
  | x :: a, y :: b, pa, pb, h => by
    have ha := List.pairwise_cons.mp pa
    have hb := List.pairwise_cons.mp pb
    have e : x = y := by
      have h1 := (h x).mp (by simp)
      have h2 := (h y).mpr (by simp)
      rcases List.mem_cons.mp h1 with e | e
      · exact e
      · rcases List.mem_cons.mp h2 with f | f
        · exact f.symm
        · have := hb.1 x e; have := ha.1 y f; omega
    subst e
    rw [asd_one ha.2 hb.2 fun z => ?_]
    constructor
    · intro hz
      rcases List.mem_cons.mp ((h z).mp (List.mem_cons_of_mem _ hz)) with e | e
      · subst e; have := ha.1 z hz; omega
      · exact e
    · intro hz
      rcases List.mem_cons.mp ((h z).mpr (List.mem_cons_of_mem _ hz)) with e | e
      · subst e; have := hb.1 z hz; omega
      · exact e
theorem Asd.one {a b : List Nat} {M : Nat → Prop} (x : Asd a M) (y : Asd b M) : a = b := asd_one x.1 y.1 fun z => (x.2 z).trans (y.2 z).symm
theorem Asd.congr {a : List Nat} {M N : Nat → Prop} (x : Asd a M) (h : ∀ y, M y ↔ N y) : Asd a N := ⟨x.1, fun y => (x.2 y).trans (h y)⟩
theorem Asd.len {a : List Nat} {M : Nat → Prop} {g : List Nat} (x : Asd a M) (w : within g M) : a.length ≤ g.length + 1 := by
  have : ∀ (n : Nat) (l : List Nat), l.Pairwise (· < ·) → (∀ y ∈ l, y < n) → l.length ≤ n := by
    intro n
    induction n with
    | zero => intro l _ h; cases l with
      | nil => simp
      | cons y r => have := h y (by simp); omega
    | succ n ih =>
      intro l p h
      rcases List.eq_nil_or_concat l with e | ⟨r, z, e⟩
      · subst e; simp
      · subst e
        rw [List.concat_eq_append] at p h ⊢
        have h2 := ih r (List.pairwise_append.mp p).1 (fun y hy => by
          have := (List.pairwise_append.mp p).2.2 y hy z (by simp)
          have := h z (by simp)
          omega)
        rw [List.length_append]; simp; exact h2
  exact this (g.length + 1) a x.1 fun y hy => by have := w y ((x.2 y).mp hy); omega
/-- a row of stars behind x -/
def isRun (g : List Nat) (x k : Nat) : Prop := (∀ j, j < k → g[x + j]? = some 42) ∧ g[x + k]? ≠ some 42
/-- places that are built up: L so far, m the greatest one that was put in, A what was put in -/
structure Up (g L : List Nat) (m : Nat) (A : Nat → Prop) : Prop where
  asc : L.Pairwise (· < ·)
  cl : ∀ y ∈ L, g[y]? = some 42 → y + 1 ∈ L
  gap : ∀ y z, m ≤ y → y ≤ z → z ∈ L → y ∈ L
  has : ∀ y, A y → y ∈ L
  only : ∀ (N : Nat → Prop), closed g N → (∀ y, A y → N y) → ∀ y ∈ L, N y
theorem Up.nil (g : List Nat) : Up g [] 0 (fun _ => False) := ⟨.nil, (fun _ h => by cases h), (fun _ _ _ _ h => by cases h), (fun _ h => h.elim), (fun _ _ _ _ h => by cases h)⟩
theorem Up.stay {g L : List Nat} {m x z : Nat} {A : Nat → Prop} (u : Up g L m A) (hm : m ≤ x) (hz : z ∈ L) (hx : x ≤ z) : Up g L x (fun y => A y ∨ y = x) :=
  ⟨u.asc, u.cl, fun y z a b c => u.gap y z (by omega) b c, fun y h => h.elim (u.has y) fun e => by subst e; exact u.gap _ _ hm hx hz, fun N c h => u.only N c fun y a => h y (.inl a)⟩
theorem run_mem {x k y : Nat} : y ∈ List.range' x (k + 1) ↔ x ≤ y ∧ y ≤ x + k := by rw [List.mem_range'_1]; omega
theorem Up.more {g L : List Nat} {m x k : Nat} {A : Nat → Prop} (u : Up g L m A) (hl : ∀ y ∈ L, y < x) (hr : isRun g x k) : Up g (L ++ List.range' x (k + 1)) x (fun y => A y ∨ y = x) := by
  refine ⟨?_, ?_, ?_, ?_, ?_⟩
  · exact List.pairwise_append.mpr ⟨u.asc, List.pairwise_lt_range', fun a ha b hb => by have := hl a ha; have := (run_mem.mp hb).1; omega⟩
  · intro y hy e
    rcases List.mem_append.mp hy with h | h
    · exact List.mem_append_left _ (u.cl y h e)
    · refine List.mem_append_right _ (run_mem.mpr ?_)
      have := run_mem.mp h
      by_cases q : y = x + k
      · subst q; exact absurd e hr.2
      · omega
  · intro y z hy hyz hz
    rcases List.mem_append.mp hz with h | h
    · have := hl z h; omega
    · have := run_mem.mp h
      exact List.mem_append_right _ (run_mem.mpr ⟨by omega, by omega⟩)
  · intro y h
    rcases h with h | e
    · exact List.mem_append_left _ (u.has y h)
    · subst e; exact List.mem_append_right _ (run_mem.mpr ⟨Nat.le_refl _, by omega⟩)
  · intro N c h y hy
    rcases List.mem_append.mp hy with q | q
    · exact u.only N c (fun z a => h z (.inl a)) y q
    · obtain ⟨q1, q2⟩ := run_mem.mp q
      have : ∀ j, j ≤ k → N (x + j) := by
        intro j
        induction j with
        | zero => intro _; exact h x (.inr rfl)
        | succ j ih => intro hj; exact c _ (ih (by omega)) (hr.1 j (by omega))
      have := this (y - x) (by omega)
      rwa [show x + (y - x) = y by omega] at this
theorem Up.congr {g L : List Nat} {m : Nat} {A B : Nat → Prop} (u : Up g L m A) (h : ∀ y, A y ↔ B y) : Up g L m B :=
  ⟨u.asc, u.cl, u.gap, fun y b => u.has y ((h y).mpr b), fun N c q => u.only N c fun y a => q y ((h y).mp a)⟩
/-- what is put in by the places of M that are taken -/
def puts (g : List Nat) (c : Nat) (T : Nat → Prop) (y : Nat) : Prop := (T y ∧ ∃ i, y = i + 1 ∧ g[i]? = some 42) ∨ ∃ i, y = i + 1 ∧ T i ∧ (g[i]? = some 63 ∨ g[i]? = some c)
theorem puts_next {g : List Nat} {M : Nat → Prop} {c : Nat} (hc : c ≠ 42) (cl : closed g M) {L : List Nat} {m : Nat} (u : Up g L m (puts g c M)) : Asd L (nxt g M c) := by
  refine ⟨u.asc, fun y => ⟨fun hy => u.only _ (nxt_closed g M c) (fun y p => ?_) y hy, ?_⟩⟩
  · rcases p with ⟨t, i, rfl, e⟩ | ⟨i, rfl, t, e⟩
    · exact .inl ⟨e, .inr t⟩
    · refine .inr ⟨fun q => ?_, t, e⟩
      rcases e with e | e <;> rw [e] at q
      · cases q
      · exact hc (Option.some.inj q)
  · intro h
    induction y with
    | zero => exact h.elim
    | succ i ih =>
      rcases h with ⟨e, h | h⟩ | ⟨_, t, e⟩
      · exact u.cl i (ih h) e
      · exact u.has _ (.inl ⟨h, i, rfl, e⟩)
      · exact u.has _ (.inr ⟨i, rfl, t, e⟩)
theorem start_asd {g L : List Nat} {m : Nat} (u : Up g L m (fun y => y = 0)) : Asd L (st0 g) := by
  refine ⟨u.asc, fun y => ⟨fun hy => u.only _ (st0_closed g) (fun y e => by subst e; exact True.intro) y hy, ?_⟩⟩
  intro h
  induction y with
  | zero => exact u.has 0 rfl
  | succ i ih => exact u.cl i (ih h.2) h.1
/-! ### promises -/
def sp_add_place : Sp := fun vs H Q _ => ∃ (g : Str) (p : Addr) (x : Nat) (L : List Nat) (m : Nat) (A : Nat → Prop), vs = [.str g, .ref p, .int (x : Int)] ∧ H p = some (.lst (nts L)) ∧ Up (tl g) L m A ∧ m ≤ x ∧ x ≤ (tl g).length ∧ (∀ y ∈ L, y ≤ (tl g).length) ∧ (tl g).length ≤ 10000 ∧
  ∀ (L' : List Nat) (H' : Hp), H' p = some (.lst (nts L')) → (∀ b, b ≠ p → H' b = H b) → Up (tl g) L' x (fun y => A y ∨ y = x) → (∀ y ∈ L', y ≤ (tl g).length) → Q .non H'
def sp_follows (K : PySem.W.Frag) : Sp := fun vs H Q _ => ∃ (g : Str) (a : Addr) (c : Nat) (ps : List Nat) (M : Nat → Prop), vs = [.str g, .ref a, .str (S [c])] ∧ SqT K H a (nts ps) ∧ Asd ps M ∧ closed (tl g) M ∧ within (tl g) M ∧ c ≠ 42 ∧ (tl g).length ≤ 10000 ∧
  ∀ (q : Addr) (qs : List Nat) (H' : Hp), Same H H' → H' q = some (.tup (nts qs)) → Asd qs (nxt (tl g) M c) → Q (.ref q) H'
def sp_standing (K : PySem.W.Frag) : Sp := fun vs H Q _ => ∃ (g b : Str), vs = [.str g, .str b] ∧ (∀ c ∈ tl b, c ≠ 42) ∧ (tl g).length ≤ 10000 ∧
  ∀ (q : Addr) (qs : List Nat) (H' : Hp), Same H H' → H' q = some (.tup (nts qs)) → Asd qs (stand (tl g) (tl b)) → Q (.ref q) H'
open Classical in
def sp_fits (K : PySem.W.Frag) : Sp := fun vs H Q _ => ∃ (g b : Str), vs = [.str g, .str b] ∧ (∀ c ∈ tl b, c ≠ 42) ∧ (tl g).length ≤ 10000 ∧
  ∀ (H' : Hp), Same H H' → Q (.bl (decide (stand (tl g) (tl b) (tl g).length))) H'
theorem inV_nts (n : Nat) (l : List Nat) : inV (V.int (n : Int)) (nts l) = decide (n ∈ l) := by
  unfold inV nts
  induction l with
  | nil => rfl
  | cons y ys ih =>
    rw [List.map_cons, List.any_cons, ih]
    by_cases e : n = y
    · subst e; simp [eqV]
    · have : ¬ (y : Int) = (n : Int) := fun h => e (by omega)
      simp [eqV, e, this]
theorem flat_nts (xs : List Nat) : (nts xs).all flatV = true := List.all_eq_true.mpr fun x h => by
  obtain ⟨y, _, rfl⟩ := List.mem_map.mp h; rfl
theorem DVs.nats {K : PySem.W.Frag} {H : Hp} (xs : List Nat) : DVs K H (xs.map fun k : Nat => D.int (k : Int)) (nts xs) := by
  have := DVs.ints (K := K) (H := H) (xs.map fun k : Nat => (k : Int))
  rwa [List.map_map, List.map_map] at this
theorem DV.nats {K : PySem.W.Frag} {H : Hp} {p : Addr} {xs : List Nat} (h : SqT K H p (nts xs)) : DV K H (.tup (xs.map fun k : Nat => D.int (k : Int))) (.ref p) := by
  unfold DV
  exact ⟨p, _, rfl, h, DVs.nats xs⟩
theorem DL.nats {n : Nat} (xs : List Nat) (h : xs.length ≤ 1000000) : DL (n + 2) (.tup (xs.map fun k : Nat => D.int (k : Int))) := ⟨by rw [List.length_map]; exact h, fun d m => by obtain ⟨x, _, rfl⟩ := List.mem_map.mp m; exact True.intro⟩
end Z
namespace Z
open PySem L2 SX
/-! ### patterns -/
def parts (p : List Nat) : List (List Nat) := TL.spl [44] 0 [] p
theorem spl_bound (c0 : Nat) : ∀ (l acc : List Nat), (∀ q ∈ TL.spl [c0] 0 acc l, q.length ≤ acc.length + l.length) ∧ (TL.spl [c0] 0 acc l).length ≤ l.length + 1
  | [], acc => by
    rw [TL.spl_nil]
    exact ⟨fun q h => by rw [List.mem_singleton.mp h]; exact Nat.le_refl _, Nat.le_refl _⟩
  | c :: r, acc => by
    cases h : TL.pre [c0] (c :: r) with
    | true =>
      rw [TL.spl_hit h]
      have ih := spl_bound c0 r []
      refine ⟨fun q hq => ?_, ?_⟩
      · rcases List.mem_cons.mp hq with e | e
        · subst e; omega
        · have := ih.1 q e; rw [List.length_nil] at this; rw [List.length_cons]; omega
      · have := ih.2; show (TL.spl [c0] 0 [] r).length + 1 ≤ r.length + 1 + 1; omega
    | false =>
      rw [TL.spl_miss h]
      have ih := spl_bound c0 r (acc ++ [c])
      refine ⟨fun q hq => ?_, ?_⟩
      · have := ih.1 q hq; rw [List.length_append] at this; rw [List.length_cons]; simp at this; omega
      · rw [List.length_cons]; have := ih.2; omega
theorem parts_len {p q : List Nat} (h : q ∈ parts p) : q.length ≤ p.length := by have := (spl_bound 44 p []).1 q h; rw [List.length_nil] at this; omega
theorem parts_num (p : List Nat) : (parts p).length ≤ p.length + 1 := (spl_bound 44 p []).2
/-- an item: its sign, its glob -/
def isBar (it : List Nat) : Bool := decide (it.take 1 = [33])
def globOf (it : List Nat) : List Nat := if isBar it = true then it.drop 1 else it
theorem globOf_len (it : List Nat) : (globOf it).length ≤ it.length := by
  unfold globOf; split
  · rw [List.length_drop]; omega
  · exact Nat.le_refl _
def fit (g b : List Nat) : Prop := stand g b g.length
open Classical in
noncomputable def letsL (its : List (List Nat)) (b : List Nat) : Bool := its.foldl (fun ans it => if fit (globOf it) b then !isBar it else ans) false
open Classical in
theorem lets_skip (b : List Nat) : ∀ (its : List (List Nat)) (v : Bool), (∀ it ∈ its, ¬ fit (globOf it) b) → its.foldl (fun ans it => if fit (globOf it) b then !isBar it else ans) v = v
  | [], _, _ => rfl
  | x :: r, v, h => by rw [List.foldl_cons, if_neg (h x (by simp))]; exact lets_skip b r v fun y hy => h y (List.mem_cons_of_mem _ hy)
theorem lets_last {its : List (List Nat)} {b : List Nat} {i : Nat} {it : List Nat} (h : its[i]? = some it) (hf : fit (globOf it) b) (hn : ∀ (j : Nat) (y : List Nat), i < j → its[j]? = some y → ¬ fit (globOf y) b) : letsL its b = !isBar it := by
  classical
  unfold letsL
  have e : its = its.take i ++ it :: its.drop (i + 1) := by
    obtain ⟨h1, h2⟩ := List.getElem?_eq_some_iff.mp h
    rw [← h2, List.getElem_cons_drop, List.take_append_drop]
  rw [e, List.foldl_append, List.foldl_cons, if_pos hf]
  refine lets_skip b _ _ fun y hy => ?_
  obtain ⟨j, hj, e2⟩ := List.getElem_of_mem hy
  refine hn (i + 1 + j) y (by omega) ?_
  have := List.getElem?_eq_getElem hj
  rw [List.getElem?_drop, e2] at this
  exact this
theorem lets_none {its : List (List Nat)} {b : List Nat} (hn : ∀ (j : Nat) (y : List Nat), its[j]? = some y → ¬ fit (globOf y) b) : letsL its b = false := by
  classical
  unfold letsL
  refine lets_skip b _ _ fun y hy => ?_
  obtain ⟨j, hj, e⟩ := List.getElem_of_mem hy
  exact hn j y (by rw [List.getElem?_eq_getElem hj, e])
def Clean (b : List Nat) : Prop := ∀ c ∈ b, c ≠ 42
theorem bar_starts (x : Str) : Txt.startswith x (Str.ofString "!") = isBar (tl x) := by
  have e := StrLaws.subAt_one x 33 0
  have e0 : ((tl x)[0]? = some 33) ↔ (tl x).take 1 = [33] := by
    cases tl x with
    | nil => simp
    | cons y r => simp
  unfold Txt.startswith isBar
  rw [Bool.eq_iff_iff, Bool.and_eq_true, decide_eq_true_iff, decide_eq_true_iff, ← e0]
  exact e
theorem bar_cut (x : Str) : decide (V.str (cutS x none (some 1)) = V.str (Str.ofString "!")) = isBar (tl x) := by
  unfold isBar
  rw [Bool.eq_iff_iff, decide_eq_true_iff, decide_eq_true_iff]
  have e : tl (cutS x none (some 1)) = (tl x).take 1 := cutS_to (by decide)
  constructor
  · intro h
    have h2 := congrArg tl (V.str.inj h)
    rw [e] at h2; exact h2
  · intro h
    exact congrArg V.str (tl_ext (by rw [e, h]; rfl))
/-- the law's places: those that lie ahead of a star, too -/
def Lax (g : List Nat) (N M : Nat → Prop) : Prop := ∀ y, M y ↔ (N y ∨ (g[y]? = some 42 ∧ N (y + 1)))
theorem lax_start (g : List Nat) : Lax g (st0 g) (st0 g) := fun y => ⟨.inl, fun h => h.elim id fun k => k.2.2⟩
/-- what the law puts in, ahead of its last loop -/
def lawA (g : List Nat) (M : Nat → Prop) (c : Nat) (y : Nat) : Prop := (M y ∧ g[y]? = some 42) ∨ ∃ i, y = i + 1 ∧ M i ∧ (g[i]? = some 63 ∨ g[i]? = some c)
def lawB (g : List Nat) (A : Nat → Prop) : Nat → Prop
  | 0 => A 0
  | i + 1 => A (i + 1) ∨ (lawB g A i ∧ g[i]? = some 42)
theorem lax_next {g : List Nat} {N M : Nat → Prop} {c : Nat} (hc : c ≠ 42) (cl : closed g N) (l : Lax g N M) : Lax g (nxt g N c) (lawB g (lawA g M c)) := by
  have ns : ∀ i : Nat, (g[i]? = some 63 ∨ g[i]? = some c) → g[i]? ≠ some 42 := fun i h e => by
    rcases h with h | h <;> rw [h] at e
    · cases e
    · exact hc (Option.some.inj e)
  have bA : ∀ y, lawA g M c y → lawB g (lawA g M c) y := fun y h => by
    cases y with
    | zero => exact h
    | succ i => exact .inl h
  have fA : ∀ y, lawA g M c y → nxt g N c y ∨ (g[y]? = some 42 ∧ nxt g N c (y + 1)) := fun y h => by
    rcases h with ⟨m, e⟩ | ⟨i, rfl, m, k⟩
    · refine .inr ⟨e, .inl ⟨e, .inr ?_⟩⟩
      rcases (l y).mp m with n | ⟨_, n⟩
      · exact cl y n e
      · exact n
    · refine .inl (.inr ⟨ns i k, ?_, k⟩)
      rcases (l i).mp m with n | ⟨q, _⟩
      · exact n
      · exact absurd q (ns i k)
  have back : ∀ y, nxt g N c y → lawB g (lawA g M c) y := fun y => by
    induction y with
    | zero => intro h; exact h.elim
    | succ i ih =>
      rintro (⟨e, h | h⟩ | ⟨_, n, k⟩)
      · exact .inr ⟨ih h, e⟩
      · exact .inr ⟨bA i (.inl ⟨(l i).mpr (.inr ⟨e, h⟩), e⟩), e⟩
      · exact .inl (.inr ⟨i, rfl, (l i).mpr (.inl n), k⟩)
  intro y
  constructor
  · induction y with
    | zero => intro h; exact fA 0 h
    | succ i ih =>
      rintro (h | ⟨h, e⟩)
      · exact fA _ h
      · rcases ih h with n | ⟨_, n⟩
        · exact .inl (.inl ⟨e, .inl n⟩)
        · exact .inl n
  · rintro (h | ⟨e, h⟩)
    · exact back y h
    · rcases h with ⟨_, h | h⟩ | ⟨q, _⟩
      · exact back y h
      · exact bA y (.inl ⟨(l y).mpr (.inr ⟨e, h⟩), e⟩)
      · exact absurd e q
/-! ### promises -/
def itemV (it : List Nat) : List V := [.int (if isBar it = true then 0 else 1), .str (S (globOf it))]
def sp_items_of (K : PySem.W.Frag) : Sp := fun vs H Q _ => ∃ (p : Str), vs = [.str p] ∧ (tl p).length ≤ 3000 ∧
  ∀ (q : Addr) (ts : List Addr) (H' : Hp), Same H H' → H' q = some (.tup (ts.map V.ref)) → ts.length = (parts (tl p)).length → (∀ (i : Nat) (t : Addr) (it : List Nat), ts[i]? = some t → (parts (tl p))[i]? = some it → H' t = some (.tup (itemV it))) → Q (.ref q) H'
def sp_lets (K : PySem.W.Frag) : Sp := fun vs H Q _ => ∃ (p b : Str), vs = [.str p, .str b] ∧ (tl p).length ≤ 3000 ∧ Clean (tl b) ∧ ∀ H', Same H H' → Q (.bl (letsL (parts (tl p)) (tl b))) H'
def sp_lets_one (K : PySem.W.Frag) : Sp := fun vs H Q _ => ∃ (p : Str) (a : Addr) (bs : List Str), vs = [.str p, .ref a] ∧ SqT K H a (bs.map V.str) ∧ (tl p).length ≤ 3000 ∧ bs.length ≤ 1000 ∧ (∀ b ∈ bs, Clean (tl b)) ∧ ∀ H', Same H H' → Q (.bl (bs.any fun b => letsL (parts (tl p)) (tl b))) H'
open Classical in
def sp__law_fits (K : PySem.W.Frag) : Sp := fun vs H Q _ => ∃ (g b : Str), vs = [.str g, .str b] ∧ Clean (tl b) ∧ (tl g).length ≤ 10000 ∧ ∀ (H' : Hp), Same H H' → Q (.bl (decide (fit (tl g) (tl b)))) H'
def sp__law_lets (K : PySem.W.Frag) : Sp := sp_lets K
def sp__law_lets_some (K : PySem.W.Frag) : Sp := sp_lets_one K
theorem split_bar (p : Str) : Txt.split p (Str.ofString ",") = (parts (tl p)).map S := split_S (a := tl p) (b := [44]) (by decide) (by decide)

/-! ### lists of truth values -/
def Bs (bs : List Bool) (n : Nat) (M : Nat → Prop) : Prop := bs.length = n + 1 ∧ ∀ y, bs[y]? = some true ↔ M y
theorem Bs.set {bs : List Bool} {n k : Nat} {M : Nat → Prop} (h : Bs bs n M) (hk : k ≤ n) : Bs (bs.set k true) n (fun y => M y ∨ y = k) := by
  refine ⟨by rw [List.length_set]; exact h.1, fun y => ?_⟩
  rw [List.getElem?_set]
  by_cases e : k = y
  · subst e
    rw [if_pos rfl, if_pos (by have := h.1; omega)]
    exact ⟨fun _ => .inr rfl, fun _ => rfl⟩
  · rw [if_neg e]
    exact ⟨fun q => .inl ((h.2 y).mp q), fun q => q.elim (h.2 y).mpr fun z => absurd z.symm e⟩
theorem Bs.congr {bs : List Bool} {n : Nat} {M N : Nat → Prop} (h : Bs bs n M) (e : ∀ y, M y ↔ N y) : Bs bs n N := ⟨h.1, fun y => (h.2 y).trans (e y)⟩
theorem Bs.get {bs : List Bool} {n k : Nat} {M : Nat → Prop} (h : Bs bs n M) (hk : k ≤ n) : ∃ b : Bool, bs[k]? = some b ∧ (b = true ↔ M k) := by
  have hl : k < bs.length := by have := h.1; omega
  refine ⟨bs[k], List.getElem?_eq_getElem hl, ?_⟩
  rw [← h.2 k, List.getElem?_eq_getElem hl]
  exact ⟨fun e => by rw [e], fun e => Option.some.inj e⟩
theorem atI_bl {bs : List Bool} {k : Nat} {b : Bool} {z : Int} (hz : z = (k : Int)) (h : bs[k]? = some b) : atI (bs.map V.bl) z = some (.bl b) := at_of hz (by rw [List.getElem?_map, h]; rfl)
theorem ixN_pos {n k : Nat} {z : Int} (hz : z = (k : Int)) (h : k < n) : ixN n z = some k := by
  subst hz
  unfold ixN
  rw [if_pos (by omega), if_pos (by omega)]; rfl
theorem map_set_bl (bs : List Bool) (k : Nat) : (bs.map V.bl).set k (.bl true) = (bs.set k true).map V.bl := by rw [List.map_set]
theorem bs_false (n : Nat) : Bs (List.replicate (n + 1) false) n (fun _ => False) := by
  refine ⟨List.length_replicate, fun y => ⟨fun h => ?_, fun h => h.elim⟩⟩
  rw [List.getElem?_replicate] at h
  split at h <;> cases h
theorem flatten_one (n : Nat) : (List.replicate n [V.bl false]).flatten = (List.replicate n false).map V.bl := by
  induction n with
  | zero => rfl
  | succ n ih => rw [List.replicate_succ, List.flatten_cons, ih, List.replicate_succ, List.map_cons]; rfl
end Z
namespace Z
open PySem L2 SX
def sp13 (f n : Nat) : Sp := fun vs H Q _ => ∃ (s a : Addr) (c : Nat), vs = [.ref s] ∧ Src H s a (c + f) ∧ ∀ (x : Str) (H' : Hp), (tl x).length ≤ n → Ext s H H' → Src H' s a c → Q (.str x) H'
def sp13_bent : Sp := fun vs H Q _ => ∃ (s a : Addr) (x : Str) (c : Nat), vs = [.ref s, .str x] ∧ (tl x).length ≤ 1000 ∧ Src H s a (c + 10) ∧ ∀ (y : Str) (H' : Hp), (tl y).length ≤ (tl x).length + 3 → Ext s H H' → Src H' s a c → Q (.str y) H'
theorem ext_free {H H1 : Hp} {s a u : Addr} {c : Nat} (x : Ext s H H1) (S : Src H1 s a c) (h : H1 u = none) : H u = none := by
  cases e : H u with
  | none => rfl
  | some o =>
    by_cases q : u = s
    · subst q
      obtain ⟨xs, e2⟩ := S.lst
      rw [h] at e2; cases e2
    · have := x _ _ q e
      rw [h] at this; cases this
theorem joinL_len {s : List Nat} {n : Nat} : ∀ {ls : List (List Nat)}, (∀ l ∈ ls, l.length ≤ n) → (TL.joinL s ls).length ≤ ls.length * (n + s.length)
  | [], _ => by simp [TL.joinL]
  | [x], h => by have := h x (by simp); show x.length ≤ 1 * (n + s.length); omega
  | x :: y :: r, h => by
    have ih := joinL_len (s := s) (ls := y :: r) (fun l m => h l (List.mem_cons_of_mem _ m))
    have := h x (by simp)
    show (x ++ (s ++ TL.joinL s (y :: r))).length ≤ ((y :: r).length + 1) * (n + s.length)
    rw [List.length_append, List.length_append, Nat.succ_mul]
    omega
theorem tl_joinS (s : Str) (xs : List Str) : tl (Txt.join s xs) = TL.joinL (tl s) (xs.map tl) := by
  have h := join_S (tl s) (xs.map tl)
  rw [tl_mapS] at h
  exact congrArg tl h
theorem sum_len {n : Nat} : ∀ {xs : List Str}, (∀ x ∈ xs, (tl x).length ≤ n) → (xs.map (·.length)).sum ≤ xs.length * n
  | [], _ => by simp
  | x :: xs, h => by
    have := h x (by simp)
    have ih := sum_len (n := n) (xs := xs) (fun y m => h y (List.mem_cons_of_mem _ m))
    rw [List.map_cons, List.sum_cons, List.length_cons, Nat.succ_mul, tl_len]; omega
theorem cut_le (x : Str) (i j : Option Int) : (tl (cutS x i j)).length ≤ (tl x).length := by
  show ((List.drop _ (tl x)).take _).length ≤ _
  rw [List.length_take, List.length_drop]; omega
theorem len_mem {n : Nat} {xs : List Str} {w : V} (h : ∀ x ∈ xs, (tl x).length ≤ n) (m : w ∈ xs.map V.str) : ∃ x, w = V.str x ∧ (tl x).length ≤ n := by
  obtain ⟨x, hx, rfl⟩ := List.mem_map.mp m
  exact ⟨x, rfl, h x hx⟩
end Z
namespace Z
open PySem L2 SX
/-! ### patterns: scanning and splitting -/
def okc (c : Nat) : Bool := decide (c ∈ tl (Str.ofString "abcdefghijklmnopqrstuvwxyz0123456789.*?"))
theorem okc_44 : okc 44 = false := by decide +kernel
theorem okc_33 : okc 33 = false := by decide +kernel
def step (a c : Nat) : Bool := (decide (c = 33) && decide (a = 44)) || (decide (c = 44) && (decide (a ≠ 44) && decide (a ≠ 33))) || okc c
/-- all signs may follow each other, behind a -/
def runs : Nat → List Nat → Bool
  | _, [] => true
  | a, c :: r => step a c && runs c r
def lastOf : Nat → List Nat → Nat
  | a, [] => a
  | _, c :: r => lastOf c r
def globP (it : List Nat) : List Nat := if decide (it.take 1 = [33]) = true then it.drop 1 else it
def goodItem (it : List Nat) : Bool := decide (globP it ≠ []) && (globP it).all okc
/-- an item so far: what stands behind its ! is of glob signs -/
def part1 (acc : List Nat) : Bool := (globP acc).all okc
theorem runs_app (a : Nat) (l m : List Nat) : runs a (l ++ m) = (runs a l && runs (lastOf a l) m) := by
  induction l generalizing a with
  | nil => simp [runs, lastOf]
  | cons c r ih => show (step a c && runs c (r ++ m)) = ((step a c && runs c r) && runs (lastOf c r) m); rw [ih, Bool.and_assoc]
theorem last_app (a c : Nat) (l : List Nat) : lastOf a (l ++ [c]) = c := by
  induction l generalizing a with
  | nil => rfl
  | cons d r ih => exact ih d
theorem globP_app {acc : List Nat} {c : Nat} (h : acc ≠ []) : globP (acc ++ [c]) = globP acc ++ [c] := by
  cases acc with
  | nil => exact absurd rfl h
  | cons d r =>
    unfold globP
    show (if decide ([d] = [33]) = true then r ++ [c] else d :: (r ++ [c])) = (if decide ([d] = [33]) = true then r else d :: r) ++ [c]
    split <;> rfl
/-- the last sign ahead, as the scan sees it: the accumulated item behind a comma -/
theorem good_last {acc : List Nat} (h : part1 acc = true) : goodItem acc = (decide (lastOf 44 acc ≠ 44) && decide (lastOf 44 acc ≠ 33)) := by
  rcases List.eq_nil_or_concat acc with e | ⟨l, c, e⟩
  · subst e; decide
  · rw [List.concat_eq_append] at e
    subst e
    rw [last_app]
    unfold goodItem
    rw [show (globP (l ++ [c])).all okc = true from h, Bool.and_true]
    by_cases hl : l = []
    · subst hl
      by_cases e33 : c = 33
      · subst e33; decide
      · have g : globP ([] ++ [c]) = [c] := by
          unfold globP
          rw [if_neg (by simp [e33])]; rfl
        have oc : okc c = true := by
          have h' : (globP ([] ++ [c])).all okc = true := h
          rw [g] at h'
          simpa using h'
        have e44 : c ≠ 44 := fun e => by rw [e, okc_44] at oc; cases oc
        rw [g, decide_eq_true (show [c] ≠ [] by simp), decide_eq_true e44, decide_eq_true e33]; rfl
    · have g := globP_app (c := c) hl
      have h' : (globP (l ++ [c])).all okc = true := h
      rw [g, List.all_append] at h'
      have oc : okc c = true := by
        have := (Bool.and_eq_true_iff.mp h').2
        simpa using this
      have e44 : c ≠ 44 := fun e => by rw [e, okc_44] at oc; cases oc
      have e33 : c ≠ 33 := fun e => by rw [e, okc_33] at oc; cases oc
      rw [g, decide_eq_true (show globP l ++ [c] ≠ [] by simp), decide_eq_true e44, decide_eq_true e33]; rfl
theorem part_step {acc : List Nat} {c : Nat} (h : part1 acc = true) (hc : c ≠ 44) : part1 (acc ++ [c]) = step (lastOf 44 acc) c := by
  unfold step
  rw [decide_eq_false hc, Bool.false_and, Bool.or_false]
  by_cases hl : acc = []
  · subst hl
    by_cases e33 : c = 33
    · subst e33; decide
    · have g : globP ([] ++ [c]) = [c] := by
        unfold globP
        rw [if_neg (by simp [e33])]; rfl
      unfold part1
      rw [g, decide_eq_false e33, Bool.false_and, Bool.false_or]
      simp
  · unfold part1
    rw [globP_app hl, List.all_append, show (globP acc).all okc = true from h]
    have l44 : lastOf 44 acc ≠ 44 := by
      rcases List.eq_nil_or_concat acc with e | ⟨l, d, e⟩
      · exact absurd e hl
      · rw [List.concat_eq_append] at e
        subst e
        rw [last_app]
        intro e
        subst e
        by_cases hl2 : l = []
        · subst hl2
          revert h; decide +kernel
        · have h' : (globP (l ++ [44])).all okc = true := h
          rw [globP_app hl2, List.all_append] at h'
          have := (Bool.and_eq_true_iff.mp h').2
          simp [okc_44] at this
    rw [decide_eq_false l44, Bool.and_false, Bool.false_or]
    simp
theorem bad_part (l : List Nat) : ∀ acc : List Nat, part1 acc = false → (TL.spl [44] 0 acc l).all goodItem = false := by
  induction l with
  | nil =>
    intro acc h
    rw [TL.spl_nil]
    show (goodItem acc && true) = false
    unfold goodItem
    rw [show (globP acc).all okc = false from h, Bool.and_false]; rfl
  | cons c r ih =>
    intro acc h
    by_cases hc : c = 44
    · subst hc
      rw [TL.spl_hit (show TL.pre [44] (44 :: r) = true by show ([44] == [44]) = true; rfl)]
      show (goodItem acc && _) = false
      unfold goodItem
      rw [show (globP acc).all okc = false from h, Bool.and_false, Bool.false_and]
    · rw [TL.spl_miss (show TL.pre [44] (c :: r) = false by show ([c] == [44]) = false; simp [hc])]
      refine ih _ ?_
      have hl : acc ≠ [] := fun e => by rw [e] at h; revert h; decide
      unfold part1
      rw [globP_app hl, List.all_append, show (globP acc).all okc = false from h, Bool.false_and]
theorem spl_good (l : List Nat) : ∀ acc : List Nat, part1 acc = true → (TL.spl [44] 0 acc l).all goodItem = (runs (lastOf 44 acc) l && (decide (lastOf (lastOf 44 acc) l ≠ 44) && decide (lastOf (lastOf 44 acc) l ≠ 33))) := by
  induction l with
  | nil =>
    intro acc h
    rw [TL.spl_nil]
    show (goodItem acc && true) = _
    rw [Bool.and_true, good_last h]; rfl
  | cons c r ih =>
    intro acc h
    by_cases hc : c = 44
    · subst hc
      rw [TL.spl_hit (show TL.pre [44] (44 :: r) = true by show ([44] == [44]) = true; rfl)]
      show (goodItem acc && (TL.spl [44] 0 [] r).all goodItem) = ((step (lastOf 44 acc) 44 && runs 44 r) && _)
      rw [ih [] (by decide), good_last h]
      have : step (lastOf 44 acc) 44 = (decide (lastOf 44 acc ≠ 44) && decide (lastOf 44 acc ≠ 33)) := by
        unfold step
        rw [okc_44]; simp
      rw [this]
      show (_ && (runs 44 r && (decide (lastOf 44 r ≠ 44) && decide (lastOf 44 r ≠ 33)))) = _
      rw [show lastOf (lastOf 44 acc) (44 :: r) = lastOf 44 r from rfl]
      simp only [Bool.and_assoc]
    · rw [TL.spl_miss (show TL.pre [44] (c :: r) = false by show ([c] == [44]) = false; simp [hc])]
      by_cases hs : step (lastOf 44 acc) c = true
      · rw [ih (acc ++ [c]) (by rw [part_step h hc]; exact hs), last_app]
        show _ = ((step (lastOf 44 acc) c && runs c r) && _)
        rw [hs, Bool.true_and]; rfl
      · have hs' : step (lastOf 44 acc) c = false := Bool.eq_false_iff.mpr hs
        show _ = ((step (lastOf 44 acc) c && runs c r) && _)
        rw [hs', Bool.false_and, Bool.false_and]
        have np : part1 (acc ++ [c]) = false := by rw [part_step h hc]; exact hs'
        exact bad_part r _ np
theorem spl_count (l : List Nat) : ∀ acc : List Nat, (TL.spl [44] 0 acc l).length = l.count 44 + 1 := by
  induction l with
  | nil => intro acc; rw [TL.spl_nil]; rfl
  | cons c r ih =>
    intro acc
    by_cases hc : c = 44
    · subst hc
      rw [TL.spl_hit (show TL.pre [44] (44 :: r) = true by show ([44] == [44]) = true; rfl), List.count_cons_self]
      show (TL.spl [44] 0 [] r).length + 1 = _
      rw [ih]
    · rw [TL.spl_miss (show TL.pre [44] (c :: r) = false by show ([c] == [44]) = false; simp [hc]), ih, List.count_cons_of_ne hc]
/-- a pattern, as the law splits it -/
def isPat (l : List Nat) : Bool := decide (l.length ≤ 60) && (decide ((TL.spl [44] 0 [] l).length ≤ 8) && (TL.spl [44] 0 [] l).all goodItem)
def endOk (a : Nat) : Bool := decide (a ≠ 44) && decide (a ≠ 33)
theorem isPat_eq (l : List Nat) : isPat l = (decide (l.length ≤ 60) && (decide (l.count 44 ≤ 7) && (runs 44 l && endOk (lastOf 44 l)))) := by
  unfold isPat endOk
  rw [spl_good l [] (by decide), spl_count]
  rw [show decide (l.count 44 + 1 ≤ 8) = decide (l.count 44 ≤ 7) by rw [decide_eq_decide]; omega]
  rfl
/-- the beginning of some pattern, as the law asks it -/
def isBeg (l : List Nat) : Bool := isPat l || isPat (l ++ [97])
theorem isBeg_eq (l : List Nat) : isBeg l = (runs 44 l && (decide (l.count 44 ≤ 7) && (decide (l.length ≤ 59) || (decide (l.length ≤ 60) && endOk (lastOf 44 l))))) := by
  unfold isBeg
  rw [isPat_eq, isPat_eq, runs_app, last_app, List.length_append, List.count_append]
  rw [show runs (lastOf 44 l) [97] = true by show (step _ 97 && true) = true; unfold step; rw [show okc 97 = true by decide +kernel]; simp, show endOk 97 = true by decide]
  rw [show List.count 44 [97] = 0 by decide, Nat.add_zero, Bool.and_true, Bool.and_true]
  rw [show decide (l.length + [97].length ≤ 60) = decide (l.length ≤ 59) by rw [decide_eq_decide]; show l.length + 1 ≤ 60 ↔ _; omega]
  cases runs 44 l <;> cases decide (l.count 44 ≤ 7) <;> cases decide (l.length ≤ 59) <;> cases decide (l.length ≤ 60) <;> cases endOk (lastOf 44 l) <;> rfl
/-- a sign behind a, behind k commas, at the place n -/
def may (c a k n : Nat) : Bool := if c = 33 then decide (a = 44) && decide (n < 59) else if c = 44 then (decide (a ≠ 44) && decide (a ≠ 33)) && (decide (k < 7) && decide (n < 59)) else okc c && decide (n < 60)
theorem isBeg_snoc (l : List Nat) (c : Nat) : isBeg (l ++ [c]) = (isBeg l && may c (lastOf 44 l) (l.count 44) l.length) := by
  rw [isBeg_eq, isBeg_eq, runs_app, last_app, List.length_append, List.count_append]
  show ((runs 44 l && (step (lastOf 44 l) c && true)) && (decide (l.count 44 + List.count 44 [c] ≤ 7) && (decide (l.length + 1 ≤ 59) || (decide (l.length + 1 ≤ 60) && endOk c)))) = _
  unfold may step
  by_cases h33 : c = 33
  · subst h33
    rw [if_pos rfl, show List.count 44 [33] = 0 by decide, okc_33, show endOk 33 = false by decide, decide_eq_true (rfl : (33 : Nat) = 33), decide_eq_false (show ¬ (33 : Nat) = 44 by decide)]
    by_cases hn : l.length < 59
    · rw [decide_eq_true (show l.length + 1 ≤ 59 by omega), decide_eq_true (show l.length ≤ 59 by omega), decide_eq_true hn]
      cases runs 44 l <;> cases decide (lastOf 44 l = 44) <;> cases decide (l.count 44 ≤ 7) <;> simp
    · rw [decide_eq_false (show ¬ l.length + 1 ≤ 59 by omega), decide_eq_false hn]
      simp
  · rw [if_neg h33]
    by_cases h44 : c = 44
    · subst h44
      rw [if_pos rfl, show List.count 44 [44] = 1 by decide, okc_44, show endOk 44 = false by decide, decide_eq_true (rfl : (44 : Nat) = 44), decide_eq_false h33]
      rw [show decide (l.count 44 + 1 ≤ 7) = decide (l.count 44 < 7) by rw [decide_eq_decide]; omega]
      by_cases hn : l.length < 59
      · rw [decide_eq_true (show l.length + 1 ≤ 59 by omega), decide_eq_true (show l.length ≤ 59 by omega), decide_eq_true hn]
        by_cases hk : l.count 44 < 7
        · rw [decide_eq_true hk, decide_eq_true (show l.count 44 ≤ 7 by omega)]; simp
        · rw [decide_eq_false hk]; simp
      · rw [decide_eq_false (show ¬ l.length + 1 ≤ 59 by omega), decide_eq_false hn]
        simp
    · rw [if_neg h44, show List.count 44 [c] = 0 by rw [List.count_cons_of_ne h44]; rfl, decide_eq_false h33, decide_eq_false h44, Nat.add_zero]
      have : endOk c = true := by unfold endOk; rw [decide_eq_true h44, decide_eq_true h33]; rfl
      rw [this]
      by_cases hn : l.length < 60
      · rw [decide_eq_true (show l.length + 1 ≤ 60 by omega), decide_eq_true (show l.length ≤ 59 by omega), decide_eq_true hn]
        cases runs 44 l <;> cases okc c <;> cases decide (l.count 44 ≤ 7) <;> simp
      · rw [decide_eq_false (show ¬ l.length + 1 ≤ 59 by omega), decide_eq_false (show ¬ l.length + 1 ≤ 60 by omega), decide_eq_false hn]
        simp
theorem isPat_of_beg {l : List Nat} (h : isBeg l = true) : isPat l = endOk (lastOf 44 l) := by
  rw [isPat_eq]
  rw [isBeg_eq] at h
  simp only [Bool.and_eq_true, Bool.or_eq_true] at h
  obtain ⟨h1, h2, h3⟩ := h
  rw [h1, h2]
  have : l.length ≤ 60 := by rcases h3 with h | h
                             · have := of_decide_eq_true h; omega
                             · exact of_decide_eq_true h.1
  rw [decide_eq_true this]; rfl
theorem eqL {x y : Str} : V.str x = V.str y ↔ tl x = tl y := ⟨fun h => by injection h with h; rw [h], fun h => by rw [tl_ext h]⟩
theorem split_comma (x : Str) : Txt.split x (Str.ofString ",") = (TL.spl [44] 0 [] (tl x)).map S := split_S (a := tl x) (b := [44]) (by decide) (by decide)
def sp_isPat : Sp := fun vs H Q _ => ∃ (x : Str), vs = [.str x] ∧ (tl x).length ≤ 2000 ∧ ∀ H', Same H H' → Q (.bl (isPat (tl x))) H'
def sp_may_stand : Sp := fun vs H Q _ => ∃ (c a k n : Nat), vs = [.str (S [c]), .str (S [a]), .int (k : Int), .int (n : Int)] ∧ Q (.bl (may c a k n)) H
/-- where a text is wrong -/
def wrongAt (l : List Nat) (o : Option Nat) : Prop := match o with
  | some k => (∀ j, j < k → j < l.length → isBeg (l.take (j + 1)) = true) ∧ ((k < l.length ∧ isBeg (l.take (k + 1)) = false) ∨ (k = l.length ∧ isPat l = false))
  | none => (∀ j, j < l.length → isBeg (l.take (j + 1)) = true) ∧ isPat l = true
theorem wrongAt_one {l : List Nat} {o p : Option Nat} (x : wrongAt l o) (y : wrongAt l p) : o = p := by
  have key : ∀ (k m : Nat), wrongAt l (some k) → wrongAt l (some m) → ¬ k < m := fun k m x y h => by
    obtain ⟨_, x2⟩ := x
    obtain ⟨y1, y2⟩ := y
    have ml : m ≤ l.length := by rcases y2 with h | h <;> omega
    rcases x2 with x2 | x2
    · have := y1 k h x2.1
      rw [x2.2] at this; cases this
    · omega
  have mix : ∀ k : Nat, wrongAt l (some k) → wrongAt l none → False := fun k x y => by
    obtain ⟨_, x2⟩ := x
    obtain ⟨y1, y2⟩ := y
    rcases x2 with x2 | x2
    · have := y1 k x2.1
      rw [x2.2] at this; cases this
    · rw [x2.2] at y2; cases y2
  cases o with
  | none => cases p with
    | none => rfl
    | some m => exact (mix m y x).elim
  | some k => cases p with
    | none => exact (mix k x y).elim
    | some m =>
      have h1 := key k m x y
      have h2 := key m k y x
      rw [show k = m by omega]
def optV : Option Nat → V
  | none => .non
  | some k => .int (k : Int)
def sp_wrong_place : Sp := fun vs H Q _ => ∃ (x : Str), vs = [.str x] ∧ (tl x).length ≤ 2000 ∧ ∀ o H', wrongAt (tl x) o → Same H H' → Q (optV o) H'
def sgnI (it : List Nat) : Int := if decide (it.take 1 = [33]) = true then 0 else 1
def itemP (it : List Nat) : List V := [.int (sgnI it), .str (S (globP it))]
def itemD (it : List Nat) : D := .tup [.int (sgnI it), .str (S (globP it))]
def sp_sign_and_glob : Sp := fun vs H Q _ => ∃ (x : Str), vs = [.str x] ∧ (tl x).length ≤ 2000 ∧ ∀ (t : Addr), H t = none → Q (.ref t) (upd H t (.tup (itemP (tl x))))
def dueD (l : List Nat) : Option Nat → D
  | some k => .tup [.str (Str.ofString "bad"), .int (k : Int)]
  | none => .tup [.str (Str.ofString "read"), .tup ((TL.spl [44] 0 [] l).map itemD)]
def sp_due (K : PySem.W.Frag) : Sp := fun vs H Q _ => ∃ (x : Str), vs = [.str x] ∧ (tl x).length ≤ 1000 ∧ ∀ o v H', wrongAt (tl x) o → DV K H' (dueD (tl x) o) v → Same H H' → Q v H'
theorem DVs.items {K : PySem.W.Frag} {H : Hp} : ∀ {its : List (List Nat)} {ts : List Addr}, ts.length = its.length → (∀ (k : Nat) (t : Addr) (it : List Nat), ts[k]? = some t → its[k]? = some it → H t = some (.tup (itemP it))) → DVs K H (its.map itemD) (ts.map V.ref)
  | [], [], _, _ => by unfold DVs; rfl
  | [], _ :: _, h, _ => by simp at h
  | _ :: _, [], h, _ => by simp at h
  | it :: its, t :: ts, h, f => by
    refine ⟨.ref t, ts.map V.ref, rfl, ?_, DVs.items (by simpa using h) fun k t' it' h1 h2 => f (k + 1) t' it' (by simpa using h1) (by simpa using h2)⟩
    exact ⟨t, _, rfl, SqT.of (f 0 t it rfl rfl), _, _, rfl, by unfold DV; rfl, _, _, rfl, by unfold DV; rfl, rfl⟩
def sp_write_pattern (K : PySem.W.Frag) : Sp := fun vs H Q _ => ∃ (a : Addr) (ts : List Addr) (its : List (List Nat)), vs = [.ref a] ∧ SqT K H a (ts.map V.ref) ∧ ts.length = its.length ∧ its.length ≤ 100 ∧ (∀ it ∈ its, it.length ≤ 1000) ∧ (∀ (k : Nat) (t : Addr) (it : List Nat), ts[k]? = some t → its[k]? = some it → SqT K H t (itemP it)) ∧
  ∀ (y : Str) (H' : Hp), tl y = TL.joinL [44] its → Same H H' → Q (.str y) H'
theorem join_spl (l : List Nat) : ∀ acc : List Nat, TL.joinL [44] (TL.spl [44] 0 acc l) = acc ++ l := by
  induction l with
  | nil => intro acc; rw [TL.spl_nil, List.append_nil]; rfl
  | cons c r ih =>
    intro acc
    by_cases hc : c = 44
    · subst hc
      rw [TL.spl_hit (show TL.pre [44] (44 :: r) = true by show ([44] == [44]) = true; rfl)]
      have e := ih []
      have ne : TL.spl [44] 0 [] r ≠ [] := fun h => by
        have := spl_count r []
        rw [h] at this; cases this
      show TL.joinL [44] (acc :: TL.spl [44] 0 [] r) = _
      cases hs : TL.spl [44] 0 [] r with
      | nil => exact absurd hs ne
      | cons y ys =>
        show acc ++ ([44] ++ TL.joinL [44] (y :: ys)) = _
        rw [← hs, e]; rfl
    · rw [TL.spl_miss (show TL.pre [44] (c :: r) = false by show ([c] == [44]) = false; simp [hc]), ih, List.append_assoc]; rfl
theorem DVs.items_inv {K : PySem.W.Frag} {H : Hp} : ∀ {its : List (List Nat)} {vs : List V}, DVs K H (its.map itemD) vs → ∃ ts : List Addr, vs = ts.map V.ref ∧ ts.length = its.length ∧ ∀ (k : Nat) (t : Addr) (it : List Nat), ts[k]? = some t → its[k]? = some it → SqT K H t (itemP it)
  | [], vs, h => by unfold DVs at h; subst h; exact ⟨[], rfl, rfl, fun k t it h1 h2 => by simp at h1⟩
  | it :: its, vs, h => by
    obtain ⟨v, r, rfl, h1, h2⟩ := h
    obtain ⟨ts, rfl, hl, hk⟩ := DVs.items_inv h2
    unfold itemD DV at h1
    obtain ⟨a, xs, rfl, hS, h3⟩ := h1
    obtain ⟨v1, r1, rfl, e1, h4⟩ := h3
    obtain ⟨v2, r2, rfl, e2, h5⟩ := h4
    unfold DV at e1 e2
    unfold DVs at h5
    subst e1 e2 h5
    refine ⟨a :: ts, rfl, by rw [List.length_cons, hl, List.length_cons], fun k t it' g1 g2 => ?_⟩
    cases k with
    | zero =>
      have ea : a = t := Option.some.inj g1
      have ei : it = it' := Option.some.inj g2
      subst ea ei
      exact hS
    | succ k => exact hk k t it' (by simpa using g1) (by simpa using g2)
def sp_read_pattern (K : PySem.W.Frag) (C : Addr) : Sp := fun vs H Q E => ∃ (x : Str), vs = [.str x] ∧ (tl x).length ≤ 1000 ∧
  (∀ (u : Addr) (ts : List Addr) (H1 : Hp), wrongAt (tl x) none → Same H H1 → H1 u = some (.tup (ts.map V.ref)) → ts.length = (TL.spl [44] 0 [] (tl x)).length → (∀ (i : Nat) (t : Addr) (it : List Nat), ts[i]? = some t → (TL.spl [44] 0 [] (tl x))[i]? = some it → H1 t = some (.tup (itemP it))) → Q (.ref u) H1) ∧
  (∀ (k : Nat) (dd : Addr) (H1 : Hp), wrongAt (tl x) (some k) → Same H H1 → H1 dd = some (.xd [("at", .int (k : Int))]) → E (.ref C) (some dd) H1)
end Z
namespace Z
open PySem PySem.Spec PyProof.Rows L2 SX
/-! ### name = text[..]; text = text.replace(name, ''): the token of the name is known -/
theorem nsSet_det {M : Model} {Γ : PySem.Ctx} {E : Value → Pos → Shared → Prop} {p : Pos} {s : Shared} {a : Addr} {m : Str → Option Value} (hn : s.heap.Ns a m) (name : Str) (v : Value) :
    ∃ h', h'.Ns a (fun x => if x = name then some v else m x) ∧ ∀ Q, Sem.wp M Γ (nsSet a name v) Q E p s ↔ Q () p { s with heap := h', toks := s.toks + 1 } := by
  have key : ∃ h', ∀ Q, Sem.wp M Γ (nsSet a name v) Q E p s ↔ Q () p { s with heap := h', toks := s.toks + 1 } := by
    obtain ⟨o, es, ep, ho, hd, hk, hm⟩ := hn
    have hany : es.any (·.refKey) = false := by
      rw [Array.any_eq_false']
      intro e he
      obtain ⟨n, t, h⟩ := hk e he
      simp [DictEntry.refKey, h]
    apply Exists.intro
    intro Q
    simp only [nsSet, strHash, Sem.wp_bind', Sem.wp_cmd_ask, Sem.wp_pure', Sem.wp_cmd_mkText]
    rw [Sem.wp_loadPart_of M Γ E p { s with toks := s.toks + 1 } (o := o) _ ho]
    simp only [hd, aRefKeyMayBeTheName_eq, aRefKeyMayBeTheNameByArray, hany, Bool.and_false, Bool.false_eq_true, if_false, Sem.wp_cmd_updatePart]
    exact ⟨fun h => h.2, fun h => ⟨by rw [ho]; rfl, h⟩⟩
  obtain ⟨h', hq⟩ := key
  refine ⟨h', ?_, hq⟩
  have := (hq _).mp (Sem.wp_nsSet M Γ E p s hn name v (fun _ _ s' => ∃ h2 : Heap, h2.Ns a (fun x => if x = name then some v else m x) ∧ s' = { s with heap := h2, toks := s.toks + 1 }) (fun h2 a1 _ => ⟨h2, a1, rfl⟩))
  obtain ⟨h2, a1, e⟩ := this
  have e2 : h' = h2 := congrArg Shared.heap e
  rw [e2]; exact a1
theorem store_det {M : Model} {A : Around} {E : Value → Shared → Prop} {s : Shared} {env : Env} {name : Str} {m : Str → Option Value} {v : Value} {Q : Unit → Shared → Prop} (hl : env.kindOf name = some .local) (hn : s.heap.Ns env.locals m)
    (hp : (env.scope.kind == .class || (env.scope.kind == .module && env.locals != env.globals)) = false) (h : wpAny M A (storeName env name v) Q E s) :
    wpAny M A (storeName env name v) (fun u s' => Q u s' ∧ s'.heap.Ns env.locals (fun x => if x = name then some v else m x) ∧ s'.toks = s.toks + 1) E s := by
  rw [storeName_local hl hp] at h ⊢
  intro Γ p hΓ
  obtain ⟨h', a1, hq⟩ := nsSet_det (M := M) (Γ := Γ) (E := fun e _ s' => E e s') (p := p) hn name v
  have h1 := (hq _).mp (h Γ p hΓ)
  exact (hq _).mpr ⟨h1, a1, rfl⟩
section
variable {X : Cx}
def tRepS (l o : Nat) (tb : TE) (u : TS) : TS := fun D σ H => ∃ z : Str, σ[l]? = some (some (.str z)) ∧ tb σ H fun y H1 => ∃ (i : Int) (c : Nat), y = .int i ∧ 0 ≤ i ∧ i < 2 ^ 63 ∧ i < z.length ∧ z.cps[i.toNat]? = some c ∧ z.length ≤ 1000000 ∧
  u D ((σ.set o (some (.str ⟨#[c]⟩))).set l (some (.str (Txt.replace z ⟨#[c]⟩ (Str.ofString ""))))) H1
theorem psst_rep {l o j : Nat} {nl no : Str} {eb : Expr} {rest : List Stmt} {tb : TE} {u : TS} {p1 p2 p3 p4 p5 p6 p7 p8 c1 ap pos : Pos} (hN : X.N.Nodup) (hl : X.N[l]? = some nl) (ho : X.N[o]? = some no) (hlo : o ≠ l)
    (kl : X.env.scope.names.lookup nl = some .local) (ko : X.env.scope.names.lookup no = some .local) (hb : PE X eb tb) (hs : PlainIxT eb) (h2 : PSsT X rest u)
    (hs1 : swapsWith (.Subscript (.Name nl p2) eb p3) (some (.Name no p1)) p4.line X.env = pure false := by rfl)
    (hs2 : swapsWith (.Call (.Attribute (.Name nl p6) "replace" ap) [.Name no p7, .Constant (.str (Str.ofString "")) j c1] [] pos) (some (.Name nl p5)) p8.line X.env = pure false := by rfl)
    (hst : starEach [.Name no p7, .Constant (.str (Str.ofString "")) j c1] X.env = [(false, eval (.Name no p7) X.env), (false, eval (.Constant (.str (Str.ofString "")) j c1) X.env)] := by rfl)
    (hbase : attributeBase (.Name nl p6) "replace" X.env (eval (.Name nl p6) X.env) = eval (.Name nl p6) X.env := by rfl) (hline : (ap.endLine == pos.line) = true := by rfl)
    (hd : (nl == ("__debug__" : Str)) = false := by decide) (hc : (nl == ("__classdict__" : Str)) = false := by decide) (hd' : (no == ("__debug__" : Str)) = false := by decide) :
    PSsT X (.Assign [.Name no p1] (.Subscript (.Name nl p2) eb p3) p4 :: .Assign [.Name nl p5] (.Call (.Attribute (.Name nl p6) "replace" ap) [.Name no p7, .Constant (.str (Str.ofString "")) j c1] [] pos) p8 :: rest) (tRepS l o tb u) := by
  intro pins s σ H D h0 I h
  obtain ⟨z, hz, h⟩ := h
  refine wpAny_execs_cons (wpAny_Assign_Name (Subscript_ (raw_name hl (.inl kl) I hz (fun uz rz => ?_) hd hc)) hs1)
  obtain ⟨tz, rfl⟩ := rz
  refine wpAny_mono (PySem.wpAny_toks (hb.run pins s σ H _ I h)) (fun ub s2 q => ?_) (fun _ _ x => x.2)
  obtain ⟨hk, y, H1, I2, ry, i, c, rfl, i0, i63, il, hcc, hzl, q⟩ := q
  obtain ⟨ti, rfl⟩ := ry
  have e := PySem.StrLaws.seqIndex_nonneg i0 il
  have n0 : s2.toks ≠ 0 := by omega
  refine tail_any (typeIs_str s2 z tz) slot_str_getitem.lookup (getItem_str (c := c) (by
    have e1 : decide (i < -(2 ^ 63 : Int)) = false := decide_eq_false (by omega)
    have e2 : decide (i ≥ 2 ^ 63) = false := decide_eq_false (by omega)
    rw [e1, e2] <;> rfl) (by rw [e]; exact hcc) ?_) (hs _ _)
  have I2' := I2.tok (s2.toks + 1)
  obtain ⟨m, hn, _⟩ := id I2'.loc
  have hp : (X.env.scope.kind == .class || (X.env.scope.kind == .module && X.env.locals != X.env.globals)) = false := by rw [I2.ok.kind]; rfl
  have st := store_ok (M := model X.prog X.w) (A := X.A) (E := X.xe) (v := V.str ⟨#[c]⟩) (u := Value.str ⟨#[c]⟩ s2.toks) (Q := fun _ s' => Inv X pins (σ.set o (some (V.str ⟨#[c]⟩))) H1 s') I2' hN ho (.inl ko) ⟨_, rfl⟩ (fun s' I' => I') (.inr ko)
  refine wpAny_mono (store_det ko hn hp st) (fun _ s3 q3 => ?_) (fun _ _ x => x)
  obtain ⟨I3, hn3, ht3⟩ := q3
  have ht3' : s3.toks = s2.toks + 1 + 1 := ht3
  have hz3 : (σ.set o (some (V.str ⟨#[c]⟩)))[l]? = some (some (.str z)) := by rw [List.getElem?_set_ne hlo]; exact hz
  have B : wpAny (model X.prog X.w) X.A (exec (.Assign [.Name nl p5] (.Call (.Attribute (.Name nl p6) "replace" ap) [.Name no p7, .Constant (.str (Str.ofString "")) j c1] [] pos) p8) X.env) (fun f s4 => f = .next ∧ Inv X pins ((σ.set o (some (V.str ⟨#[c]⟩))).set l (some (.str (Txt.replace z ⟨#[c]⟩ (Str.ofString ""))))) H1 s4) X.xe s3 := by
    refine wpAny_Assign_Name (PySem.Call_method2 hbase hst hline (raw_name hl (.inl kl) I3 hz3 (fun uz2 rz2 => ?_) hd hc)) hs2
    obtain ⟨tz2, rfl⟩ := rz2
    refine ⟨"str", _, PySem.F.plainAttrs_str, PySem.F.slot_str_replace, PySem.F.type_str_replace, typeIs_str _ _ _, (fun _ e => nomatch e), Calls.callWith_builtin rfl (Calls.evalArgs_plain (Calls.spliced_cons ?_))⟩
    refine wpAny_Name (wpAny_loadName_local I3.ok.kind ko hn3 (if_pos rfl) ?_) hd'
    refine Calls.spliced_cons (Calls.Constant_str (Calls.spliced_nil ?_))
    have n1 : s3.toks ≠ 0 := by omega
    have n2 : s2.toks ≠ s3.toks := by omega
    refine PySem.SC.replace (u := s2.toks) (v := s3.toks) n0 n1 n2 ?_ ?_ fun t' k => ?_
    · rfl
    · show z.length + (z.length + 1) * 0 ≤ _; omega
    exact store_ok (v := V.str (Txt.replace z ⟨#[c]⟩ (Str.ofString ""))) (u := Value.str (Txt.replace z ⟨#[c]⟩ (Str.ofString "")) t') (I3.tok k) hN hl (.inl kl) ⟨_, rfl⟩ (fun s' I' => ⟨rfl, I'⟩) (.inr kl)
  refine wpAny_execs_cons (wpAny_mono (PySem.wpAny_toks B) (fun f s4 q4 => ?_) (fun _ _ x => x.2))
  obtain ⟨hk4, rfl, I4⟩ := q4
  exact h2 pins s4 _ H1 D (by omega) I4 q
end
end Z
namespace Z
open PySem L2 SX
/-! ### items that are joined, and split again -/
theorem spl_no {it : List Nat} : (44 ∉ it) → ∀ acc : List Nat, TL.spl [44] 0 acc it = [acc ++ it] := by
  induction it with
  | nil => intro _ acc; rw [TL.spl_nil, List.append_nil]
  | cons c r ih =>
    intro h acc
    have hc : c ≠ 44 := fun e => h (by rw [e]; exact List.mem_cons_self)
    rw [TL.spl_miss (show TL.pre [44] (c :: r) = false by show ([c] == [44]) = false; simp [hc]), ih (fun m => h (List.mem_cons_of_mem _ m)), List.append_assoc]; rfl
theorem spl_cut {it m : List Nat} : (44 ∉ it) → ∀ acc : List Nat, TL.spl [44] 0 acc (it ++ 44 :: m) = (acc ++ it) :: TL.spl [44] 0 [] m := by
  induction it with
  | nil =>
    intro _ acc
    rw [List.nil_append, TL.spl_hit (show TL.pre [44] (44 :: m) = true by show ([44] == [44]) = true; rfl), List.append_nil]; rfl
  | cons c r ih =>
    intro h acc
    have hc : c ≠ 44 := fun e => h (by rw [e]; exact List.mem_cons_self)
    show TL.spl [44] 0 acc (c :: (r ++ 44 :: m)) = _
    rw [TL.spl_miss (show TL.pre [44] (c :: (r ++ 44 :: m)) = false by show ([c] == [44]) = false; simp [hc]), ih (fun m => h (List.mem_cons_of_mem _ m)), List.append_assoc]; rfl
theorem spl_join : ∀ {its : List (List Nat)}, its ≠ [] → (∀ it ∈ its, 44 ∉ it) → TL.spl [44] 0 [] (TL.joinL [44] its) = its
  | [], h, _ => absurd rfl h
  | [x], _, h => by
    show TL.spl [44] 0 [] x = [x]
    rw [spl_no (h x (by simp))]; rfl
  | x :: y :: r, _, h => by
    show TL.spl [44] 0 [] (x ++ ([44] ++ TL.joinL [44] (y :: r))) = _
    rw [show x ++ ([44] ++ TL.joinL [44] (y :: r)) = x ++ 44 :: TL.joinL [44] (y :: r) from rfl, spl_cut (h x (by simp)), spl_join (by simp) (fun z m => h z (List.mem_cons_of_mem _ m))]; rfl
/-- a text whose items are right -/
def GP (l : List Nat) : Prop := (TL.spl [44] 0 [] l).all goodItem = true
def okG (l : List Nat) : Prop := l ≠ [] ∧ ∀ c ∈ l, okc c = true
theorem good_no {it : List Nat} (h : goodItem it = true) : 44 ∉ it := fun m => by
  unfold goodItem at h
  have h2 := List.all_eq_true.mp (Bool.and_eq_true_iff.mp h).2
  unfold globP at h2
  by_cases e : it.take 1 = [33]
  · rw [if_pos (decide_eq_true e)] at h2
    cases it with
    | nil => cases m
    | cons c r =>
      have : c = 33 := by simpa using e
      subst this
      rcases List.mem_cons.mp m with q | q
      · cases q
      · have := h2 44 q; rw [okc_44] at this; cases this
  · rw [if_neg (fun q => e (of_decide_eq_true q))] at h2
    have := h2 44 m; rw [okc_44] at this; cases this
theorem okG.no33 {g : List Nat} (h : okG g) : ¬ g.take 1 = [33] := fun e => by
  cases g with
  | nil => exact h.1 rfl
  | cons c r =>
    have : c = 33 := by simpa using e
    subst this
    have := h.2 33 (by simp); rw [okc_33] at this; cases this
theorem good_glob {g : List Nat} (h : okG g) : goodItem g = true ∧ goodItem (33 :: g) = true := by
  have ha : g.all okc = true := List.all_eq_true.mpr h.2
  constructor
  · unfold goodItem globP
    rw [if_neg (fun q => h.no33 (of_decide_eq_true q)), ha, decide_eq_true h.1]; rfl
  · have e : globP (33 :: g) = g := by unfold globP; rw [if_pos (decide_eq_true (by simp))]; rfl
    unfold goodItem
    rw [e, ha, decide_eq_true h.1]; rfl
theorem GP.join {its : List (List Nat)} (ne : its ≠ []) (h : ∀ it ∈ its, goodItem it = true) : GP (TL.joinL [44] its) := by
  unfold GP
  rw [spl_join ne fun it m => good_no (h it m)]
  exact List.all_eq_true.mpr h
theorem lastOf_app (m : List Nat) : ∀ (l : List Nat) (a : Nat), lastOf a (l ++ m) = lastOf (lastOf a l) m
  | [], _ => rfl
  | c :: r, _ => lastOf_app m r c
theorem runs_ok {m : List Nat} : ∀ a : Nat, (∀ c ∈ m, okc c = true) → runs a m = true := by
  induction m with
  | nil => intro a _; rfl
  | cons c r ih =>
    intro a h
    show (step a c && runs c r) = true
    rw [ih c (fun d hd => h d (List.mem_cons_of_mem _ hd))]
    unfold step
    rw [h c (by simp)]; simp
theorem last_ok {m : List Nat} : ∀ a : Nat, (∀ c ∈ m, okc c = true) → m ≠ [] → endOk (lastOf a m) = true := by
  induction m with
  | nil => intro a _ h; exact absurd rfl h
  | cons c r ih =>
    intro a h _
    show endOk (lastOf c r) = true
    by_cases e : r = []
    · subst e
      show endOk c = true
      have hc := h c (by simp)
      unfold endOk
      rw [decide_eq_true (show c ≠ 44 from fun e => by rw [e, okc_44] at hc; cases hc), decide_eq_true (show c ≠ 33 from fun e => by rw [e, okc_33] at hc; cases hc)]; rfl
    · exact ih c (fun d hd => h d (List.mem_cons_of_mem _ hd)) e
theorem GP_iff {l : List Nat} : GP l ↔ (runs 44 l && endOk (lastOf 44 l)) = true := by
  unfold GP
  rw [spl_good l [] (by decide)]; rfl
theorem GP.app {l m : List Nat} (h : GP l) (hm : ∀ c ∈ m, okc c = true) : GP (l ++ m) := by
  by_cases e : m = []
  · subst e; rw [List.append_nil]; exact h
  rw [GP_iff] at h ⊢
  obtain ⟨h1, h2⟩ := Bool.and_eq_true_iff.mp h
  rw [runs_app, lastOf_app, h1, runs_ok _ hm, last_ok _ hm e]; rfl
/-- the other sign -/
def turnI (it : List Nat) : List Nat := if isBar it = true then it.drop 1 else 33 :: it
def oppI (l : List Nat) : List (List Nat) := [42] :: (parts l).map turnI
def oppL (l : List Nat) : List Nat := TL.joinL [44] (oppI l)
theorem globOf_nb {x : List Nat} (h : isBar x = false) : globOf x = x := by unfold globOf; rw [if_neg (by rw [h]; exact Bool.false_ne_true)]
theorem turn_good {it : List Nat} (h : goodItem it = true) : goodItem (turnI it) = true ∧ globOf (turnI it) = globOf it ∧ isBar (turnI it) = !isBar it := by
  have hg : okG (globOf it) := by
    unfold goodItem at h
    obtain ⟨h1, h2⟩ := Bool.and_eq_true_iff.mp h
    exact ⟨of_decide_eq_true h1, List.all_eq_true.mp h2⟩
  unfold turnI
  by_cases e : isBar it = true
  · have eg : globOf it = it.drop 1 := by unfold globOf; rw [if_pos e]
    rw [if_pos e, ← eg]
    have nb : isBar (globOf it) = false := by unfold isBar; exact decide_eq_false hg.no33
    exact ⟨(good_glob hg).1, globOf_nb nb, by rw [nb, e]; rfl⟩
  · have e' : isBar it = false := by simpa using e
    have eg : globOf it = it := by unfold globOf; rw [if_neg e]
    rw [if_neg e]
    have hb : isBar (33 :: it) = true := by unfold isBar; exact decide_eq_true (by simp)
    rw [eg] at hg
    refine ⟨(good_glob hg).2, ?_, by rw [hb, e']; rfl⟩
    rw [eg]; unfold globOf; rw [if_pos hb]; rfl
theorem GP.good {l it : List Nat} (h : GP l) (m : it ∈ parts l) : goodItem it = true := List.all_eq_true.mp h it m
theorem opp_good {l : List Nat} (h : GP l) : ∀ it ∈ oppI l, goodItem it = true := fun it m => by
  rcases List.mem_cons.mp m with e | m
  · subst e; decide +kernel
  · obtain ⟨x, hx, rfl⟩ := List.mem_map.mp m
    exact (turn_good (h.good hx)).1
theorem opp_parts {l : List Nat} (h : GP l) : parts (oppL l) = oppI l := spl_join (by unfold oppI; simp) fun it m => good_no (opp_good h it m)
theorem isPat_opp {l : List Nat} (h : GP l) : isPat (oppL l) = (decide ((oppL l).length ≤ 60) && decide ((parts l).length ≤ 7)) := by
  unfold isPat
  have e : TL.spl [44] 0 [] (oppL l) = oppI l := opp_parts h
  rw [e, List.all_eq_true.mpr (opp_good h), Bool.and_true]
  rw [show decide ((oppI l).length ≤ 8) = decide ((parts l).length ≤ 7) by
    rw [decide_eq_decide]; unfold oppI; rw [List.length_cons, List.length_map]; omega]
theorem fit_star (b : List Nat) : fit [42] b := by
  have key : ∀ (b : List Nat) (M : Nat → Prop), M 1 → (b.foldl (fun M c => nxt [42] M c) M) 1 := by
    intro b
    induction b with
    | nil => intro M h; exact h
    | cons c r ih => intro M h; exact ih _ (.inl ⟨rfl, .inr h⟩)
  exact key b _ ⟨rfl, True.intro⟩
open Classical in
theorem lets_opp {l b : List Nat} (h : GP l) : letsL (oppI l) b = !letsL (parts l) b := by
  have key : ∀ (its : List (List Nat)) (v : Bool), (∀ it ∈ its, goodItem it = true) →
      (its.map turnI).foldl (fun ans it => if fit (globOf it) b then !isBar it else ans) (!v) = !(its.foldl (fun ans it => if fit (globOf it) b then !isBar it else ans) v) := by
    intro its
    induction its with
    | nil => intro v _; rfl
    | cons x r ih =>
      intro v hg
      obtain ⟨_, t2, t3⟩ := turn_good (hg x (by simp))
      rw [List.map_cons, List.foldl_cons, List.foldl_cons, t2, t3, ← ih _ (fun y hy => hg y (List.mem_cons_of_mem _ hy))]
      congr 1
      by_cases hf : fit (globOf x) b
      · rw [if_pos hf, if_pos hf]
      · rw [if_neg hf, if_neg hf]
  have := key (parts l) false fun it m => h.good m
  unfold letsL
  unfold oppI
  rw [List.foldl_cons]
  have g42 : globOf [42] = [42] := by decide +kernel
  rw [g42, if_pos (fit_star b), show (!isBar [42]) = !false by decide +kernel]
  exact this
theorem isBeg_take {l : List Nat} (h : isBeg l = true) (k : Nat) : isBeg (l.take k) = true := by
  have key : ∀ (m : Nat), m ≤ l.length → isBeg (l.take (l.length - m)) = true := by
    intro m
    induction m with
    | zero => intro _; rw [Nat.sub_zero, List.take_length]; exact h
    | succ m ih =>
      intro hm
      have h1 := ih (by omega)
      have e : l.length - m = l.length - (m + 1) + 1 := by omega
      have hi : l.length - (m + 1) < l.length := by omega
      rw [e, List.take_add_one, List.getElem?_eq_getElem hi] at h1
      have h2 : isBeg (l.take (l.length - (m + 1)) ++ [l[l.length - (m + 1)]]) = true := h1
      rw [isBeg_snoc] at h2
      exact (Bool.and_eq_true_iff.mp h2).1
  by_cases hk : k ≤ l.length
  · have := key (l.length - k) (by omega)
    rw [show l.length - (l.length - k) = k by omega] at this; exact this
  · rw [List.take_of_length_le (by omega)]; exact h
theorem pat_wrong {l : List Nat} {o : Option Nat} (w : wrongAt l o) : decide (optV o = V.non) = isPat l := by
  cases o with
  | none => rw [w.2]; rfl
  | some k =>
    cases e : isPat l with
    | false => exact decide_eq_false (fun h => by cases h)
    | true =>
      have hb : isBeg l = true := by unfold isBeg; rw [e]; rfl
      have := wrongAt_one w (p := none) ⟨fun j _ => isBeg_take hb _, e⟩
      cases this
def sp_is_pattern : Sp := fun vs H Q _ => ∃ (x : Str), vs = [.str x] ∧ (tl x).length ≤ 2000 ∧ ∀ H', Same H H' → Q (.bl (isPat (tl x))) H'
def oppD (l : List Nat) : D := if isPat (oppL l) = true then .tup [.str (Str.ofString "told"), .str (S (oppL l))] else .tup [.str (Str.ofString "large"), .str (Str.ofString "pattern")]
def sp_opp (K : PySem.W.Frag) : Sp := fun vs H Q _ => ∃ (x : Str), vs = [.str x] ∧ (tl x).length ≤ 200 ∧ GP (tl x) ∧ ∀ v H', DV K H' (oppD (tl x)) v → Same H H' → Q v H'
def sp_opposite (K : PySem.W.Frag) (C : Addr) : Sp := fun vs H Q E => ∃ (x : Str), vs = [.str x] ∧ (tl x).length ≤ 200 ∧ GP (tl x) ∧ (isPat (oppL (tl x)) = true → ∀ H', Same H H' → Q (.str (S (oppL (tl x)))) H') ∧
  (isPat (oppL (tl x)) = false → ∀ (dd : Addr) (H1 : Hp), Same H H1 → H1 dd = some (.xd [("part", .str (Str.ofString "pattern"))]) → E (.ref C) (some dd) H1)
def sp_write_patternL (K : PySem.W.Frag) : Sp := fun vs H Q _ => ∃ (a : Addr) (ts : List Addr) (its : List (List Nat)), vs = [.ref a] ∧ SqL K H a (ts.map V.ref) ∧ ts.length = its.length ∧ its.length ≤ 1000 ∧ (∀ it ∈ its, it.length ≤ 1000) ∧ (∀ (k : Nat) (t : Addr) (it : List Nat), ts[k]? = some t → its[k]? = some it → SqT K H t (itemP it)) ∧
  ∀ (y : Str) (H' : Hp), tl y = TL.joinL [44] its → Same H H' → Q (.str y) H'
def sp_sight (K : PySem.W.Frag) : Sp := fun vs H Q _ => ∃ (a b : Addr) (ps bs : List Str), vs = [.ref a, .ref b] ∧ SqT K H a (ps.map V.str) ∧ SqT K H b (bs.map V.str) ∧ (∀ p ∈ ps, (tl p).length ≤ 3000) ∧ ps.length ≤ 1000 ∧ bs.length ≤ 1000 ∧ (∀ b ∈ bs, Clean (tl b)) ∧
  ∀ (t : Addr) (H' : Hp), Same H H' → SqT K H' t ((ps.map fun p => if (bs.any fun b => letsL (parts (tl p)) (tl b)) = true then (1 : Int) else 0).map V.int) → Q (.ref t) H'
def sp_lets_someL (K : PySem.W.Frag) : Sp := fun vs H Q _ => ∃ (p : Str) (a : Addr) (bs : List Str), vs = [.str p, .ref a] ∧ SqL K H a (bs.map V.str) ∧ (tl p).length ≤ 3000 ∧ bs.length ≤ 1000 ∧ (∀ b ∈ bs, Clean (tl b)) ∧ ∀ H', Same H H' → Q (.bl (bs.any fun b => letsL (parts (tl p)) (tl b))) H'
def sp_pattern_right (K : PySem.W.Frag) : Sp := fun vs H Q _ => ∃ (p : Str) (a : Addr) (bs : List Str), vs = [.str p, .ref a] ∧ SqL K H a (bs.map V.str) ∧ (tl p).length ≤ 200 ∧ GP (tl p) ∧ bs.length ≤ 1000 ∧ (∀ b ∈ bs, Clean (tl b)) ∧ ∀ H', Same H H' → Q (.bl true) H'
/-! ### signs, boards, globs, patterns, as they are drawn -/
abbrev sgs (cs : List Nat) : List V := cs.map fun c => V.str (S [c])
def No42 (l : List Nat) : Prop := ∀ c ∈ l, c ≠ 42
theorem No42.app {a b : List Nat} (x : No42 a) (y : No42 b) : No42 (a ++ b) := fun c h => (List.mem_append.mp h).elim (x c) (y c)
def Sgns (cs : List Nat) : Prop := cs.length = 4 ∧ ∀ c ∈ cs, (97 ≤ c ∧ c ≤ 122) ∨ (48 ≤ c ∧ c ≤ 57)
theorem okc_low {c : Nat} (h : (97 ≤ c ∧ c ≤ 122) ∨ (48 ≤ c ∧ c ≤ 57)) : okc c = true := by
  have e : tl (Str.ofString "abcdefghijklmnopqrstuvwxyz0123456789.*?") = List.range' 97 26 ++ List.range' 48 10 ++ [46, 42, 63] := by decide +kernel
  unfold okc
  rw [e]
  refine decide_eq_true (List.mem_append_left _ (List.mem_append.mpr ?_))
  rw [List.mem_range'_1, List.mem_range'_1]
  omega
def Wds (us : List Str) : Prop := us ≠ [] ∧ us.length ≤ 9 ∧ ∀ x ∈ us, Nm (tl x) ∧ (tl x).length ≤ 8
/-- tuples stay -/
def TK (K : PySem.W.Frag) (H H' : Hp) : Prop := ∀ a xs, SqT K H a xs → SqT K H' a xs
theorem TK.same {K : PySem.W.Frag} {H H' : Hp} (h : Same H H') : TK K H H' := fun _ _ q => h.tup q
theorem TK.ext {K : PySem.W.Frag} {H H' : Hp} {s a : Addr} {c : Nat} (h : Ext s H H') (S : Src H s a c) : TK K H H' := fun _ _ q => h.seqT S.lst.choose_spec q
theorem TK.trans {K : PySem.W.Frag} {H H1 H2 : Hp} (x : TK K H H1) (y : TK K H1 H2) : TK K H H2 := fun a xs q => y a xs (x a xs q)
/-- signs of boards -/
def Bdc (l : List Nat) : Prop := ∀ c ∈ l, (97 ≤ c ∧ c ≤ 122) ∨ (48 ≤ c ∧ c ≤ 57) ∨ c = 46
theorem Low.bdc {l : List Nat} (h : Low l) : Bdc l := fun c m => (h c m).elim .inl fun q => .inr (.inl q)
theorem Bdc.clean {l : List Nat} (h : Bdc l) : Clean l := fun c m => by have := h c m; omega
theorem Bdc.okc {l : List Nat} (h : Bdc l) : ∀ c ∈ l, okc c = true := fun c m => by
  rcases h c m with q | q | q
  · exact okc_low (.inl q)
  · exact okc_low (.inr q)
  · subst q; decide +kernel
theorem Low.okc {l : List Nat} (h : Low l) : ∀ c ∈ l, Z.okc c = true := h.bdc.okc
theorem Nm.ne {l : List Nat} (h : Nm l) : l ≠ [] := fun e => by obtain ⟨⟨c, r, e2, _⟩, _⟩ := h; rw [e] at e2; cases e2
theorem joinL_mem {s : List Nat} : ∀ {ls : List (List Nat)} {c : Nat}, c ∈ TL.joinL s ls → c ∈ s ∨ ∃ l ∈ ls, c ∈ l
  | [], c, h => by cases h
  | [x], c, h => .inr ⟨x, by simp, h⟩
  | x :: y :: r, c, h => by
    have h' : c ∈ x ++ (s ++ TL.joinL s (y :: r)) := h
    rcases List.mem_append.mp h' with q | q
    · exact .inr ⟨x, by simp, q⟩
    · rcases List.mem_append.mp q with q | q
      · exact .inl q
      · rcases joinL_mem q with q | ⟨l, m, q⟩
        · exact .inl q
        · exact .inr ⟨l, List.mem_cons_of_mem _ m, q⟩
theorem joinL_ne {s : List Nat} {ls : List (List Nat)} (h : ls ≠ []) (hx : ∀ l ∈ ls, l ≠ []) : TL.joinL s ls ≠ [] := fun e => by
  match ls, h with
  | [x], _ => exact hx x (by simp) e
  | x :: y :: r, _ =>
    have e' : x ++ (s ++ TL.joinL s (y :: r)) = [] := e
    exact hx x (by simp) (List.append_eq_nil_iff.mp e').1
def sp8__law_new_name (K : PySem.W.Frag) : Sp := fun vs H Q _ => ∃ (s a u : Addr) (us : List Str) (c : Nat), vs = [.ref s, .ref u] ∧ SqL K H u (us.map V.str) ∧ u ≠ s ∧ us.length ≤ 9 ∧ Src H s a (c + 8) ∧
  ∀ (x : Str) (H' : Hp), Nm (tl x) → (tl x).length ≤ 8 → Ext s H H' → Src H' s a c → Q (.str x) H'
def sp8__law_names (K : PySem.W.Frag) : Sp := fun vs H Q _ => ∃ (s a : Addr) (m c : Nat), vs = [.ref s, .int m] ∧ m ≤ 9 ∧ Src H s a (c + 8 * m) ∧
  ∀ (u : Addr) (us : List Str) (H' : Hp), H u = none → H' u = some (.lst (us.map V.str)) → us.length = m → (∀ x ∈ us, Nm (tl x) ∧ (tl x).length ≤ 8) → Ext s H H' → Src H' s a c → Q (.ref u) H'
def sp2__law_words (K : PySem.W.Frag) : Sp := fun vs H Q _ => ∃ (s a : Addr) (c : Nat), vs = [.ref s] ∧ Src H s a (c + 100) ∧
  ∀ (u : Addr) (us : List Str) (H' : Hp), H u = none → H' u = some (.lst (us.map V.str)) → Wds us → Ext s H H' → Src H' s a c → Q (.ref u) H'
def sp2__law_board (K : PySem.W.Frag) : Sp := fun vs H Q _ => ∃ (s a u : Addr) (us : List Str) (c : Nat), vs = [.ref s, .ref u] ∧ SqL K H u (us.map V.str) ∧ u ≠ s ∧ Wds us ∧ Src H s a (c + 10) ∧
  ∀ (x : Str) (H' : Hp), Bdc (tl x) → tl x ≠ [] → (tl x).length ≤ 30 → Ext s H H' → Src H' s a c → Q (.str x) H'
def sp2__law_boards (K : PySem.W.Frag) : Sp := fun vs H Q _ => ∃ (s a u : Addr) (us : List Str) (m : Int) (c : Nat), vs = [.ref s, .ref u, .int m] ∧ SqL K H u (us.map V.str) ∧ u ≠ s ∧ Wds us ∧ 0 < m ∧ m ≤ 10 ∧ Src H s a (c + 200) ∧
  ∀ (t : Addr) (bs : List Str) (H' : Hp), H' t = some (.tup (bs.map V.str)) → bs.length ≤ 10 → (∀ x ∈ bs, Bdc (tl x) ∧ (tl x).length ≤ 30) → Ext s H H' → Src H' s a c → Q (.ref t) H'
def sp2__law_glob (K : PySem.W.Frag) : Sp := fun vs H Q _ => ∃ (s a u : Addr) (us : List Str) (c : Nat), vs = [.ref s, .ref u] ∧ SqL K H u (us.map V.str) ∧ u ≠ s ∧ Wds us ∧ Src H s a (c + 20) ∧
  ∀ (x : Str) (H' : Hp), okG (tl x) → (tl x).length ≤ 40 → Ext s H H' → Src H' s a c → Q (.str x) H'
def sp2__law_pattern (K : PySem.W.Frag) : Sp := fun vs H Q _ => ∃ (s a u : Addr) (us : List Str) (c : Nat), vs = [.ref s, .ref u] ∧ SqL K H u (us.map V.str) ∧ u ≠ s ∧ Wds us ∧ Src H s a (c + 200) ∧
  ∀ (x : Str) (H' : Hp), GP (tl x) → (tl x).length ≤ 130 → Ext s H H' → Src H' s a c → Q (.str x) H'
def sp__law_shuffled (K : PySem.W.Frag) : Sp := fun vs H Q _ => ∃ (s a r : Addr) (xs : List V) (c : Nat), vs = [.ref s, .ref r] ∧ SqL K H r xs ∧ r ≠ s ∧ xs.length ≤ 1000 ∧ Src H s a (c + xs.length) ∧
  ∀ (d : Addr) (ys : List V) (H' : Hp), H d = none → H' d = some (.lst ys) → ys.length = xs.length → (∀ y ∈ ys, y ∈ xs) → Ext s H H' → Src H' s a c → Q (.ref d) H'
def sp2__law_signs : Sp := fun vs H Q _ => ∃ (s a : Addr) (c : Nat), vs = [.ref s] ∧ Src H s a (c + 10) ∧
  ∀ (u : Addr) (cs : List Nat) (H' : Hp), H u = none → H' u = some (.lst (sgs cs)) → Sgns cs → Ext s H H' → Src H' s a c → Q (.ref u) H'
def sp2__law_free_glob (K : PySem.W.Frag) : Sp := fun vs H Q _ => ∃ (s a u : Addr) (cs : List Nat) (m : Int) (c : Nat), vs = [.ref s, .ref u, .int m] ∧ SqL K H u (sgs cs) ∧ u ≠ s ∧ Sgns cs ∧ 0 < m ∧ m ≤ 60 ∧ Src H s a (c + 100) ∧
  ∀ (g : Str) (H' : Hp), okG (tl g) → ((tl g).length : Int) ≤ m → Ext s H H' → Src H' s a c → Q (.str g) H'
def sp__law_put : Sp := fun vs H Q _ => ∃ (t : Str) (c : Nat), vs = [.str t, .str (S [c])] ∧ c ≠ 42 ∧ No42 (tl t) ∧ (tl t).length ≤ 9000 ∧ ∀ (y : Str) (H' : Hp), Same H H' → No42 (tl y) → (tl y).length ≤ (tl t).length + 1 → Q (.str y) H'
def sp__law_drawn (K : PySem.W.Frag) : Sp := fun vs H Q _ => ∃ (s a u w : Addr) (cs : List Nat) (us : List Str) (c : Nat), vs = [.ref s, .ref u, .ref w] ∧ SqL K H u (sgs cs) ∧ u ≠ s ∧ Sgns cs ∧ SqL K H w (us.map V.str) ∧ w ≠ s ∧ Wds us ∧ Src H s a (c + 2000) ∧
  ∀ (x : Str) (H' : Hp), GP (tl x) → (tl x).length ≤ 200 → Ext s H H' → Src H' s a c → Q (.str x) H'
def sp__law_board_for (K : PySem.W.Frag) : Sp := fun vs H Q _ => ∃ (s a u : Addr) (p : Str) (cs : List Nat) (c : Nat), vs = [.ref s, .str p, .ref u] ∧ (tl p).length ≤ 200 ∧ H u = some (.lst (sgs cs)) ∧ u ≠ s ∧ Sgns cs ∧ Src H s a (c + 2000) ∧
  ∀ (y : Str) (H' : Hp), No42 (tl y) → (tl y).length ≤ 500 → Ext s H H' → Src H' s a c → Q (.str y) H'
theorem strike_len (c : Nat) : ∀ {l : List Nat}, l.Nodup → l.length ≤ (l.filter (· != c)).length + 1
  | [], _ => by simp
  | x :: r, h => by
    have hh := List.nodup_cons.mp h
    by_cases e : x = c
    · subst e
      have : r.filter (· != x) = r := List.filter_eq_self.mpr fun y hy => by
        have : y ≠ x := fun e => hh.1 (e ▸ hy)
        simp [this]
      rw [List.filter_cons_of_neg (by simp), this, List.length_cons]; exact Nat.le_refl _
    · rw [List.filter_cons_of_pos (by simp [e]), List.length_cons, List.length_cons]
      have := strike_len c hh.2
      omega
theorem tl_strike (z : Str) (c : Nat) : tl (Txt.replace z ⟨#[c]⟩ (Str.ofString "")) = (tl z).filter (· != c) := PyProof.Rows.replace_strikes z c
theorem cut_mem (x : Str) (i j : Option Int) : ∀ c ∈ tl (cutS x i j), c ∈ tl x := fun c h => by
  have h' : c ∈ (List.drop _ (tl x)).take _ := h
  exact List.mem_of_mem_drop (List.mem_of_mem_take h')
/-- what is stripped at the end is a piece -/
theorem rstrip_sub (x y : Str) : (∀ c ∈ tl (Txt.rstripChars x y), c ∈ tl x) ∧ (tl (Txt.rstripChars x y)).length ≤ (tl x).length := by
  have e : ∃ i j, tl (Txt.rstripChars x y) = ((tl x).drop i).take (j - i) := by
    have h := PyProof.Rows.stripBy_eq y.cps.contains false true x
    apply Exists.intro; apply Exists.intro
    refine (congrArg tl h).trans ?_
    show (x.cps.extract _ _).toList = _
    rw [Array.toList_extract]
  obtain ⟨i, j, e⟩ := e
  rw [e]
  exact ⟨fun c m => List.mem_of_mem_drop (List.mem_of_mem_take m), by rw [List.length_take, List.length_drop]; omega⟩
/-- a walk over the signs of a text behind a token -/
theorem pit_str {X : Cx} {tg e : Expr} {te : TE} (he : PET X e te) : PIT X tg e (iStr te) := by
  intro pins s σ H R h0 I h
  refine thn (he pins s σ H _ h0 I h) fun v s1 hh => ?_
  obtain ⟨y, H1, I1, r1, x, rfl, q⟩ := hh
  obtain ⟨t, rfl⟩ := r1
  have J := fun (ty : String) (hty : ty = "str_ascii_iterator" ∨ ty = "str_iterator") => pi_one (tk := s1.toks) I1 (tg := tg) (R := R) ⟨.type ty, none, .fields #[.str x t, .int 0 0], #[]⟩ (turn_str _ x t ty hty) ⟨_, Heap.get?_push_size _ rfl, rfl, rfl⟩ q
  by_cases ha : x.cps.all (· < 128) = true
  · exact wpAny_pyIter_ascii ha (J _ (.inl rfl))
  · exact wpAny_pyIter_wide (by simpa using ha) (J _ (.inr rfl))
theorem strs_of {ws : List V} {bs : List Str} (h : ∀ y ∈ ws, y ∈ bs.map V.str) : ∃ cs : List Str, ws = cs.map V.str ∧ ∀ c ∈ cs, c ∈ bs := by
  induction ws with
  | nil => exact ⟨[], rfl, fun _ h => by cases h⟩
  | cons w ws ih =>
    obtain ⟨cs, e, k⟩ := ih fun y hy => h y (List.mem_cons_of_mem _ hy)
    obtain ⟨b, hb, rfl⟩ := List.mem_map.mp (h w (by simp))
    exact ⟨b :: cs, by rw [e]; rfl, fun c hc => by
      rcases List.mem_cons.mp hc with e | hc
      · rw [e]; exact hb
      · exact k c hc⟩
theorem joinL_sum : ∀ {ls : List (List Nat)}, ls ≠ [] → (TL.joinL [44] ls).length + 1 = (ls.map fun it => it.length + 1).sum
  | [], h => absurd rfl h
  | [x], _ => by show x.length + 1 = _; simp
  | x :: y :: r, _ => by
    have ih := joinL_sum (ls := y :: r) (by simp)
    show (x ++ ([44] ++ TL.joinL [44] (y :: r))).length + 1 = _
    rw [List.map_cons, List.sum_cons, ← ih, List.length_append, List.length_append]
    show x.length + (1 + _) + 1 = _
    omega
theorem turn_len (it : List Nat) : (turnI it).length ≤ it.length + 1 := by
  unfold turnI
  split
  · rw [List.length_drop]; omega
  · exact Nat.le_refl _
theorem turn_sum : ∀ ls : List (List Nat), ((ls.map turnI).map fun it => it.length + 1).sum ≤ (ls.map fun it => it.length + 1).sum + ls.length
  | [] => Nat.le_refl _
  | x :: r => by
    have := turn_sum r
    have := turn_len x
    rw [List.map_cons, List.map_cons, List.map_cons, List.sum_cons, List.sum_cons, List.length_cons]
    omega
theorem opp_len (l : List Nat) : (oppL l).length ≤ 2 * l.length + 3 := by
  have h1 := joinL_sum (ls := oppI l) (by unfold oppI; simp)
  have h2 := turn_sum (parts l)
  have h3 := parts_num l
  have ne : parts l ≠ [] := fun h => by
    have := spl_count l []
    have h' : TL.spl [44] 0 [] l = [] := h
    rw [h'] at this; cases this
  have h4 := joinL_sum ne
  have e : TL.joinL [44] (parts l) = l := join_spl l []
  rw [e] at h4
  have h5 : ((oppI l).map fun it => it.length + 1).sum = 2 + (((parts l).map turnI).map fun it => it.length + 1).sum := by
    unfold oppI; rw [List.map_cons, List.sum_cons]; rfl
  have h6 : (oppL l).length = (TL.joinL [44] (oppI l)).length := rfl
  omega
theorem joinL_snoc {y : List Nat} : ∀ {ls : List (List Nat)}, ls ≠ [] → TL.joinL [44] (ls ++ [y]) = TL.joinL [44] ls ++ 44 :: y
  | [], h => absurd rfl h
  | [x], _ => rfl
  | x :: z :: r, _ => by
    have ih := joinL_snoc (y := y) (ls := z :: r) (by simp)
    show x ++ ([44] ++ TL.joinL [44] (z :: r ++ [y])) = (x ++ ([44] ++ TL.joinL [44] (z :: r))) ++ 44 :: y
    rw [ih]; simp
theorem DL_opp (l : List Nat) : DL 3 (oppD l) := by
  unfold oppD
  split
  · refine ⟨by show 2 ≤ _; decide, fun x hx => ?_⟩
    rcases List.mem_cons.mp hx with e | hx
    · subst e; exact True.intro
    · rw [List.mem_singleton.mp hx]; exact True.intro
  · refine ⟨by show 2 ≤ _; decide, fun x hx => ?_⟩
    rcases List.mem_cons.mp hx with e | hx
    · subst e; exact True.intro
    · rw [List.mem_singleton.mp hx]; exact True.intro
theorem DV_pair {K : PySem.W.Frag} {H : Hp} {t : Addr} {x y : Str} (h : SqT K H t [V.str x, V.str y]) : DV K H (.tup [.str x, .str y]) (.ref t) :=
  ⟨t, _, rfl, h, _, _, rfl, by unfold DV; rfl, _, _, rfl, by unfold DV; rfl, rfl⟩
theorem DV_pair_inv {K : PySem.W.Frag} {H : Hp} {v : V} {x y : Str} (h : DV K H (.tup [.str x, .str y]) v) : ∃ t, v = .ref t ∧ SqT K H t [V.str x, V.str y] := by
  obtain ⟨t, vs, rfl, hS, h3⟩ := h
  obtain ⟨u1, r1, rfl, e1, h4⟩ := h3
  obtain ⟨u2, r2, rfl, e2, h5⟩ := h4
  unfold DV at e1 e2
  unfold DVs at h5
  subst e1 e2 h5
  exact ⟨t, rfl, hS⟩
end Z
namespace Z
open PySem PySem.W PySem.Calls PyProof.Rows L2
/-! ### sorted(tuples of texts and numbers), min and max of two texts -/
/-- a text where the shape says so, elsewhere a number -/
def Shp (shape : Nat → Bool) : Nat → List V → Prop
  | _, [] => True
  | i, .int _ :: r => shape i = false ∧ Shp shape (i + 1) r
  | i, .str _ :: r => shape i = true ∧ Shp shape (i + 1) r
  | _, _ :: _ => False
/-- what the sort asks of a tuple in the heap -/
def TupAt (h : Heap) (shape : Nat → Bool) (v : Value) : Prop := ∃ (a : Addr) (o : Obj) (us : List Value) (n : Nat) (as : List (Int ⊕ List Nat)), v = .ref a ∧ h.get? a = some o ∧ o.cls = .type "tuple" ∧ o.data = .seq us.toArray n ∧ tupItems shape 0 us = some as ∧
  ∃ f, us[0]? = some f ∧ (shape 0 = false → ∃ k t, f = .int k t) ∧ (shape 0 = true → ∃ x t, f = .str x t)
theorem TupAt.keep {h h' : Heap} {shape : Nat → Bool} {v : Value} (p : TupAt h shape v) (k : ∀ b o, h.get? b = some o → o.cls = .type "tuple" → h'.get? b = some o) : TupAt h' shape v := by
  obtain ⟨a, o, us, n, as, e, g, c, r⟩ := p
  exact ⟨a, o, us, n, as, e, k _ _ g c, c, r⟩
theorem shp_items {shape : Nat → Bool} : ∀ {ws : List V} {us : List Value} {i : Nat}, Shp shape i ws → Vals ws us → ∃ l, tupItems shape i us = some l
  | [], _, _, _, r => by cases r; exact ⟨[], by simp [tupItems]⟩
  | .int k :: ws, _, i, h, r => by
    cases r with
    | cons r1 r2 =>
      obtain ⟨t, rfl⟩ := r1
      obtain ⟨l, hl⟩ := shp_items h.2 r2
      exact ⟨.inl k :: l, by simp [tupItems, h.1, hl]⟩
  | .str x :: ws, _, i, h, r => by
    cases r with
    | cons r1 r2 =>
      obtain ⟨t, rfl⟩ := r1
      obtain ⟨l, hl⟩ := shp_items h.2 r2
      exact ⟨.inr x.cps.toList :: l, by simp [tupItems, h.1, hl]⟩
  | .non :: _, _, _, h, _ => by unfold Shp at h; exact h.elim
  | .bl _ :: _, _, _, h, _ => by unfold Shp at h; exact h.elim
  | .ref _ :: _, _, _, h, _ => by unfold Shp at h; exact h.elim
  | .ty _ :: _, _, _, h, _ => by unfold Shp at h; exact h.elim
  | .byt _ :: _, _, _, h, _ => by unfold Shp at h; exact h.elim
  | .flt _ :: _, _, _, h, _ => by unfold Shp at h; exact h.elim
theorem shp_first {shape : Nat → Bool} {ws : List V} {us : List Value} (h : Shp shape 0 ws) (ne : ws ≠ []) (r : Vals ws us) : ∃ f, us[0]? = some f ∧ (shape 0 = false → ∃ k t, f = .int k t) ∧ (shape 0 = true → ∃ x t, f = .str x t) := by
  cases r with
  | nil => exact absurd rfl ne
  | @cons w u ws us r1 r2 =>
    refine ⟨u, rfl, fun e => ?_, fun e => ?_⟩
    · cases w with
      | int k => obtain ⟨t, rfl⟩ := r1; exact ⟨k, t, rfl⟩
      | str x => have := h.1; rw [e] at this; cases this
      | _ => unfold Shp at h; exact h.elim
    · cases w with
      | str x => obtain ⟨t, rfl⟩ := r1; exact ⟨x, t, rfl⟩
      | int x => have := h.1; rw [e] at this; cases this
      | _ => unfold Shp at h; exact h.elim
section
variable {prog : Program} {w : World} {A : Around} {E : Value → Shared → Prop} {s : Shared}
theorem tups_of {h : Heap} {shape : Nat → Bool} : ∀ {vs : List Value}, (∀ v ∈ vs, TupAt h shape v) → ∃ fs, TupsOf h shape vs fs ∧ fs.length = vs.length
  | [], _ => ⟨[], .nil, rfl⟩
  | v :: vs, hp => by
    obtain ⟨fs, h1, h2⟩ := tups_of (vs := vs) fun y m => hp y (List.mem_cons_of_mem _ m)
    obtain ⟨a, o, us, n, as, e, g, c, d, _, f, hf, k1, k2⟩ := hp v (by simp)
    refine ⟨f :: fs, .cons ⟨a, o, us.toArray, n, e, g, c, d, ?_, k1, k2⟩ h1, by rw [List.length_cons, List.length_cons, h2]⟩
    simpa using hf
theorem tupkey {h : Heap} {shape : Nat → Bool} {v : Value} (p : TupAt h shape v) : ∃ as, (tupKind h shape).keyOf v = some as := by
  obtain ⟨a, o, us, n, as, rfl, g, c, d, i, _⟩ := p
  refine ⟨as, ?_⟩
  show tupKey h shape (.ref a) = some as
  unfold tupKey
  simp only [g, d]
  exact i
theorem sorted_tups {shape : Nat → Bool} {l : Addr} {vs : List Value} {Q : Value → Shared → Prop} (hl : s.heap.IsList l vs.toArray) (hz : vs.length ≤ sizeLine) (hp : ∀ v ∈ vs, TupAt s.heap shape v)
    (hq : ∀ out : List Value, out.Perm vs → Q (.ref (s.heap.objs.size + 1)) { s with heap := sortedAll s.heap vs out.toArray }) : wpAny (model prog w) A (call (.builtin "sorted") [.ref l]) Q E s := by
  refine Srt.sorted_any hl hz (fun two h1 a ha kp => ?_) hq
  intro h2 kp2
  have tup : ∀ v ∈ vs, TupAt h2 shape v := fun v m => ((hp v m).keep fun b o g _ => (kp b o g).2).keep fun b o g c => kp2 b o (fun z => by
    subst z
    have g' : h1.get? b = some o := g
    rw [ha] at g'
    cases g'
    exact absurd (Value.type.inj c) (by decide)) g
  obtain ⟨fs, t, fl⟩ := tups_of tup
  refine ⟨tuples' true, fun Q E q => tup_kind (shape := shape) (s := { s with heap := h2 }) (by omega) t q, fun p q mp mq => ?_⟩
  obtain ⟨as, ka⟩ := tupkey (tup _ mp)
  obtain ⟨bs, kb⟩ := tupkey (tup _ mq)
  exact ⟨_, tup_ltAt (s := { s with heap := h2 }) true _ _ _ _ as bs ka kb ⟨rfl, rfl⟩⟩
end
/-- sorted(xs), xs a list of tuples of one shape: a new list of the same tuples, in some order -/
def rSortedX (K : Frag) (shape : Nat → Bool) : List V → Hp → VK → Prop := fun vs H Q => ∃ (a : Addr) (ts : List Addr), vs = [V.ref a] ∧ SqL K H a (ts.map V.ref) ∧ (∀ t ∈ ts, ∃ ws, H t = some (.tup ws) ∧ Shp shape 0 ws ∧ ws ≠ []) ∧
  ∀ (ys : List Addr) (p : Addr), ys.Perm ts → H p = none → Q (.ref p) (upd H p (.lst (ys.map V.ref)))
theorem vals_refs : ∀ {ts : List Addr} {us : List Value}, Vals (ts.map V.ref) us → us = ts.map Value.ref
  | [], _, r => by cases r; rfl
  | t :: ts, _, r => by
    cases r with
    | cons r1 r2 => cases r1; rw [vals_refs r2]; rfl
theorem refs_vals : ∀ ts : List Addr, Vals (ts.map V.ref) (ts.map Value.ref)
  | [] => .nil
  | t :: ts => .cons rfl (refs_vals ts)
theorem perm_refs {ts : List Addr} {us : List Value} (h : us.Perm (ts.map Value.ref)) : ∃ ys : List Addr, us = ys.map Value.ref ∧ ys.Perm ts := by
  refine ⟨us.map fun u => match u with | .ref a => a | _ => 0, ?_, ?_⟩
  · rw [List.map_map]
    refine (List.map_id us).symm.trans (List.map_congr_left fun u m => ?_)
    obtain ⟨a, _, rfl⟩ := List.mem_map.mp (h.mem_iff.mp m)
    rfl
  · have := h.map fun u => match u with | Value.ref a => a | _ => 0
    rw [List.map_map] at this
    rwa [show ts.map ((fun u => match u with | Value.ref a => a | _ => 0) ∘ Value.ref) = ts from (List.map_congr_left fun _ _ => rfl).trans (List.map_id ts)] at this
section
variable {X : Cx}
theorem cr_sortedX {shape : Nat → Bool} : CallR X (.builtin "sorted") (rSortedX X.K shape) := by
  intro pins s σ H vs us Q I r h
  obtain ⟨a, ts, rfl, hs, ht, q⟩ := h
  obtain ⟨its, rv, hl, hz⟩ := I.list hs
  have e1 := vals_refs rv
  subst e1
  obtain ⟨u, rfl, ru⟩ := vals1 r
  obtain rfl : u = Value.ref a := ru
  rw [List.length_map] at hz
  refine sorted_tups (shape := shape) hl.isList (by rw [List.length_map]; exact hz) (fun v m => ?_) fun out po => ?_
  · obtain ⟨t, tm, rfl⟩ := List.mem_map.mp m
    obtain ⟨ws, hw, sh, ne⟩ := ht t tm
    have ok : ObjOk X.prog X.w H s.heap t (.tup ws) := I.hok t _ hw
    obtain ⟨_, xs, rx, o, g, c, n, d⟩ := ok
    obtain ⟨as, hi⟩ := shp_items sh rx
    exact ⟨t, o, xs, n, as, rfl, g, c, d, hi, shp_first sh ne rx⟩
  · obtain ⟨ys, rfl, py⟩ := perm_refs po
    have fr : H (s.heap.objs.size + 1) = none := I.hok.fresh (Nat.le_succ _)
    obtain ⟨n, hn⟩ := sortedAll_at s.heap (ts.map Value.ref) (ys.map Value.ref).toArray
    refine ⟨.ref _, upd H _ (.lst (ys.map V.ref)), I.laid (t' := s.toks) (fun b o g => sortedAll_old g) (Nat.le_succ _) ⟨?_, ys.map Value.ref, n, refs_vals ys, hn⟩, rfl, q ys _ py fr⟩
    rw [List.length_map, py.length_eq]; exact hz
end
section
variable {prog : Program} {w : World} {A : Around} {E : Value → Shared → Prop} {s : Shared}
theorem best1 (bt : Nat → Nat → Bool) : argBest bt 1 = 0 ∨ argBest bt 1 = 1 := by
  by_cases h : bt 1 (argBest bt 0) = true
  · exact .inr (if_pos h)
  · exact .inl (if_neg h)
/-- the larger one -/
theorem max_strs {x y : Str} {t u : Tok} {Q : Value → Shared → Prop} (calm : A.handled = none)
    (h : ∀ (k : Bool) (hp : Heap) (tk : Nat), (∀ b o, s.heap.get? b = some o → hp.get? b = some o) → Q (if k = true then .str y u else .str x t) { s with heap := hp, toks := tk }) : wpAny (model prog w) A (call (.builtin "max") [.str x t, .str y u]) Q E s := by
  have tp : (s.heap.push { cls := .type "tuple", data := .seq #[.str x t, .str y u] }).IsTuple s.heap.objs.size #[.str x t, .str y u] := ⟨_, Heap.get?_push_size _ rfl, rfl, 0, rfl⟩
  have z1 : (s.heap.push { cls := .type "tuple", data := .seq #[.str x t, .str y u] }).objs.size = s.heap.objs.size + 1 := Heap.size_push ..
  refine call_max_two (wpAny_pyIter_tuple tp ?_)
  refine ⟨_, [_, s.heap.objs.size], [_], _, _, _, fun i j => decide ((if j = 0 then x else y).cps.toList < (if i = 0 then x else y).cps.toList), rfl, Walks.tuple (A := A.in1) calm _ s.heap.objs.size (by rw [z1]; exact Nat.ne_of_lt (Nat.lt_succ_self _)) #[.str x t, .str y u], ⟨⟨_, Heap.get?_push_size _ rfl, rfl, rfl⟩, tp.push _⟩, fun b hb => ?_, by simp, fun i j vi vj s1 Q1 E1 gi gj q => ?_, fun v hp tk hv kp => ?_⟩
  · show b < ((s.heap.push _).push _).objs.size
    rw [Heap.size_push]
    simp only [List.mem_cons, List.not_mem_nil, or_false] at hb
    rcases hb with e | e <;> subst e
    · exact Nat.lt_succ_self _
    · rw [z1]; exact Nat.lt_succ_of_lt (Nat.lt_succ_self _)
  · have pick : ∀ {k : Nat} {v : Value}, (#[Value.str x t, Value.str y u])[k]? = some v → ∃ tt, v = .str (if k = 0 then x else y) tt := fun {k v} g => by
      match k, g with
      | 0, g => exact ⟨t, (Option.some.inj g).symm⟩
      | 1, g => exact ⟨u, (Option.some.inj g).symm⟩
      | k + 2, g => simp at g
    obtain ⟨ti, rfl⟩ := pick gi
    obtain ⟨tj, rfl⟩ := pick gj
    exact PySem.P.gt_str q
  · have old : ∀ b o, s.heap.get? b = some o → hp.get? b = some o := fun b o g => by
      refine kp b o (fun m => ?_) (Heap.get?_push_of_some _ (Heap.get?_push_of_some _ g))
      have lt := Heap.lt_size g
      rw [List.mem_singleton.mp m, z1] at lt
      exact absurd lt (Nat.not_lt_of_lt (Nat.lt_succ_self _))
    have cases2 : v = .str y u ∨ v = .str x t := by
      have hv' : (#[Value.str x t, Value.str y u])[argBest (fun i j => decide ((if j = 0 then x else y).cps.toList < (if i = 0 then x else y).cps.toList)) 1]? = some v := hv
      rcases best1 _ with e | e
      · rw [e] at hv'; exact .inr (Option.some.inj hv').symm
      · rw [e] at hv'; exact .inl (Option.some.inj hv').symm
    rcases cases2 with e | e
    · rw [e]; exact h true hp tk old
    · rw [e]; exact h false hp tk old
theorem min_strs {x y : Str} {t u : Tok} {Q : Value → Shared → Prop} (calm : A.handled = none)
    (h : ∀ (k : Bool) (hp : Heap) (tk : Nat), (∀ b o, s.heap.get? b = some o → hp.get? b = some o) → Q (if k = true then .str y u else .str x t) { s with heap := hp, toks := tk }) : wpAny (model prog w) A (call (.builtin "min") [.str x t, .str y u]) Q E s := by
  have tp : (s.heap.push { cls := .type "tuple", data := .seq #[.str x t, .str y u] }).IsTuple s.heap.objs.size #[.str x t, .str y u] := ⟨_, Heap.get?_push_size _ rfl, rfl, 0, rfl⟩
  have z1 : (s.heap.push { cls := .type "tuple", data := .seq #[.str x t, .str y u] }).objs.size = s.heap.objs.size + 1 := Heap.size_push ..
  refine call_min_two (wpAny_pyIter_tuple tp ?_)
  refine ⟨_, [_, s.heap.objs.size], [_], _, _, _, fun i j => decide ((if i = 0 then x else y).cps.toList < (if j = 0 then x else y).cps.toList), rfl, Walks.tuple (A := A.in1) calm _ s.heap.objs.size (by rw [z1]; exact Nat.ne_of_lt (Nat.lt_succ_self _)) #[.str x t, .str y u], ⟨⟨_, Heap.get?_push_size _ rfl, rfl, rfl⟩, tp.push _⟩, fun b hb => ?_, by simp, fun i j vi vj s1 Q1 E1 gi gj q => ?_, fun v hp tk hv kp => ?_⟩
  · show b < ((s.heap.push _).push _).objs.size
    rw [Heap.size_push]
    simp only [List.mem_cons, List.not_mem_nil, or_false] at hb
    rcases hb with e | e <;> subst e
    · exact Nat.lt_succ_self _
    · rw [z1]; exact Nat.lt_succ_of_lt (Nat.lt_succ_self _)
  · have pick : ∀ {k : Nat} {v : Value}, (#[Value.str x t, Value.str y u])[k]? = some v → ∃ tt, v = .str (if k = 0 then x else y) tt := fun {k v} g => by
      match k, g with
      | 0, g => exact ⟨t, (Option.some.inj g).symm⟩
      | 1, g => exact ⟨u, (Option.some.inj g).symm⟩
      | k + 2, g => simp at g
    obtain ⟨ti, rfl⟩ := pick gi
    obtain ⟨tj, rfl⟩ := pick gj
    exact PySem.P.lt_str q
  · have old : ∀ b o, s.heap.get? b = some o → hp.get? b = some o := fun b o g => by
      refine kp b o (fun m => ?_) (Heap.get?_push_of_some _ (Heap.get?_push_of_some _ g))
      have lt := Heap.lt_size g
      rw [List.mem_singleton.mp m, z1] at lt
      exact absurd lt (Nat.not_lt_of_lt (Nat.lt_succ_self _))
    have cases2 : v = .str y u ∨ v = .str x t := by
      have hv' : (#[Value.str x t, Value.str y u])[argBest (fun i j => decide ((if i = 0 then x else y).cps.toList < (if j = 0 then x else y).cps.toList)) 1]? = some v := hv
      rcases best1 _ with e | e
      · rw [e] at hv'; exact .inr (Option.some.inj hv').symm
      · rw [e] at hv'; exact .inl (Option.some.inj hv').symm
    rcases cases2 with e | e
    · rw [e]; exact h true hp tk old
    · rw [e]; exact h false hp tk old
end
section
variable {X : Cx}
/-- min, max of two texts: one of them -/
def rOne2 : List V → Hp → VK → Prop := fun xs H Q => ∃ x y : Str, xs = [.str x, .str y] ∧ Q (.str x) H ∧ Q (.str y) H
theorem call_maxS (hc : X.calm = true) : CallR X (.builtin "max") rOne2 := by
  intro pins s σ H xs us Q I r h
  obtain ⟨x, y, rfl, q1, q2⟩ := h
  obtain ⟨u, w', rfl, ⟨t, rfl⟩, ⟨t', rfl⟩⟩ := vals2 r
  refine max_strs (I.ok.hd hc) fun k hp tk old => ?_
  cases k with
  | true => exact ⟨.str y, H, I.kept old, ⟨t', rfl⟩, q2⟩
  | false => exact ⟨.str x, H, I.kept old, ⟨t, rfl⟩, q1⟩
theorem call_minS (hc : X.calm = true) : CallR X (.builtin "min") rOne2 := by
  intro pins s σ H xs us Q I r h
  obtain ⟨x, y, rfl, q1, q2⟩ := h
  obtain ⟨u, w', rfl, ⟨t, rfl⟩, ⟨t', rfl⟩⟩ := vals2 r
  refine min_strs (I.ok.hd hc) fun k hp tk old => ?_
  cases k with
  | true => exact ⟨.str y, H, I.kept old, ⟨t', rfl⟩, q2⟩
  | false => exact ⟨.str x, H, I.kept old, ⟨t, rfl⟩, q1⟩
end
end Z
namespace Z
open PySem PySem.Spec PyProof.Rows L2
theorem mulT1 (l : Addr) (its : Array Value) (n : Nat) (dd : Option Addr) (sl : Array (Option Value)) (u : Tok) : Meets (Builtin.«tuple.__mul__» ⟨[.ref l, .int 1 u], []⟩) (fun _ R s =>
    s.heap.get? l = some { cls := .type "tuple", dict := dd, data := .seq its n, slots := sl } ∧ R (.ok (.ret (.ref l))) s) := .of_wp fun prog w A R s h => by
  obtain ⟨hp, g, d, tk, os⟩ := s
  obtain ⟨at_, h⟩ := h
  have ix := AutoSeq1.idx_int
  have c1 : (its.isEmpty || (1 : Int) == 1) = true := by cases its.isEmpty <;> rfl
  wp_walk using wpAny_loadPart' at_
  repeat (first
    | (refine wpAny_ite_false (decide_eq_false (by decide)) ?_; wp_walk using wpAny_loadPart' at_)
    | (refine wpAny_ite_true (decide_eq_true (by first | decide | exact c1)) ?_; wp_walk using wpAny_loadPart' at_))
  exact ⟨_, rfl, h⟩
theorem mulT0 (l : Addr) (its : Array Value) (n : Nat) (dd : Option Addr) (sl : Array (Option Value)) (u : Tok) (ne : its.isEmpty = false) : Meets (Builtin.«tuple.__mul__» ⟨[.ref l, .int 0 u], []⟩) (fun _ R s =>
    s.heap.get? l = some { cls := .type "tuple", dict := dd, data := .seq its n, slots := sl } ∧ R (.ok (.ret (.ref s.heap.objs.size))) { s with heap := s.heap.push { cls := .type "tuple", data := .seq #[] }, toks := s.toks }) := .of_wp fun prog w A R s h => by
  obtain ⟨hp, g, d, tk, os⟩ := s
  obtain ⟨at_, h⟩ := h
  have ix := AutoSeq1.idx_int
  have c1 : (its.isEmpty || (0 : Int) == 1) = false := by rw [ne]; rfl
  wp_walk using wpAny_loadPart' at_
  repeat (first
    | (refine wpAny_ite_false (decide_eq_false (by first | decide | (rw [c1]; exact Bool.false_ne_true))) ?_; wp_walk using wpAny_loadPart' at_)
    | (refine wpAny_ite_true (decide_eq_true (by first | decide | rfl)) ?_; wp_walk using wpAny_loadPart' at_))
  exact ⟨_, rfl, h⟩
/-- t * k, of a tuple -/
def rMulT (K : PySem.W.Frag) : R2 := fun x y H Q => ∃ (l : Addr) (k : Nat) (xs : List V), x = .ref l ∧ y = .int (k : Int) ∧ SqT K H l xs ∧ xs ≠ [] ∧ k ≤ 1000 ∧ xs.length ≤ 1000 ∧ ∀ (p : Addr) (H' : Hp), Same H H' → SqT K H' p (List.replicate k xs).flatten → Q (.ref p) H'
section
variable {X : Cx}
theorem op_mulT : OpR X (binaryOp .Mult) (rMulT X.K) := by
  intro pins s σ H x y v u Q I rx ry h
  obtain ⟨l, k, xs, ex, ey, hT, ne, hk, hx, q⟩ := h
  by_cases h2 : 2 ≤ k
  · exact op_repT pins s σ H x y v u Q I rx ry ⟨l, _, xs, ex, ey, hT, ne, by omega, by omega, hx, fun p hp => q p _ (same_new hp) (SqT.of (by rw [upd_same]; rfl))⟩
  subst ex ey
  cases rx
  obtain ⟨t, rfl⟩ := ry
  obtain ⟨its, r, ⟨⟨cls, dd, data, sl⟩, at_, hc, n, hd⟩, hs⟩ := I.tuple hT
  simp only at hc hd
  subst hc hd
  have hi : its.toArray.isEmpty = false := by
    cases r with
    | nil => exact absurd rfl ne
    | cons _ _ => rfl
  have k01 : k = 0 ∨ k = 1 := by omega
  rcases k01 with e | e
  · subst e
    refine wpAny_binaryOp_repeat_ref (T := "tuple") (U := "int") (by decide) ⟨_, at_, rfl⟩ (fun s1 => typeIs_int s1 _ t) noFill_tuple_mul F.fills_int_mul F.slot_int_rmul repeat_tuple F.slot_int_index.lookup (call_meets F.slot_int_rmul (typeIs_int s _ t) F.entry_int_rmul (F.args_int_rmul_2 _ _) (int_rmul_tuple _ t l its.toArray n dd sl) ⟨at_, rfl, ⟨_, at_, rfl⟩, call_meets F.slot_tuple_mul ⟨_, at_, rfl⟩ F.entry_tuple_mul (F.args_tuple_mul_2 _ _) (mulT0 l its.toArray n dd sl t hi) ⟨at_, ?_⟩⟩)
    have fr : H s.heap.objs.size = none := I.hok.fresh (Nat.le_refl _)
    exact ⟨.ref _, upd H s.heap.objs.size (.tup []), I.laid (t' := s.toks) (fun b o g => Heap.get?_push_of_some _ g) (Nat.le_refl _) ⟨by show 0 ≤ sizeLine; decide, [], .nil, IsTup.new _ _⟩, rfl, q _ _ (same_new fr) (SqT.of upd_same)⟩
  · subst e
    refine wpAny_binaryOp_repeat_ref (T := "tuple") (U := "int") (by decide) ⟨_, at_, rfl⟩ (fun s1 => typeIs_int s1 _ t) noFill_tuple_mul F.fills_int_mul F.slot_int_rmul repeat_tuple F.slot_int_index.lookup (call_meets F.slot_int_rmul (typeIs_int s _ t) F.entry_int_rmul (F.args_int_rmul_2 _ _) (int_rmul_tuple _ t l its.toArray n dd sl) ⟨at_, rfl, ⟨_, at_, rfl⟩, call_meets F.slot_tuple_mul ⟨_, at_, rfl⟩ F.entry_tuple_mul (F.args_tuple_mul_2 _ _) (mulT1 l its.toArray n dd sl t) ⟨at_, ?_⟩⟩)
    exact ⟨.ref l, H, I, rfl, q l H (Same.refl _) (by show SqT X.K H l (xs ++ []); rw [List.append_nil]; exact hT)⟩
end
end Z
namespace Z
open PySem L2 SX
/-! ### data, by place -/
section
variable {K : PySem.W.Frag} {H : Hp}
theorem DV.any {ds : List D} {v : V} {i : Nat} {d : D} (h : DV K H (.tup ds) v) (e : ds[i]? = some d) : ∃ a us u, v = .ref a ∧ SqT K H a us ∧ us[i]? = some u ∧ DV K H d u := by
  obtain ⟨a, us, rfl, hS, hs⟩ := h
  obtain ⟨u, eu, du⟩ := hs.get e
  exact ⟨a, us, u, rfl, hS, eu, du⟩
theorem DV.sub {ds es : List D} {v : V} {i : Nat} (h : DV K H (.tup ds) v) (e : ds[i]? = some (.tup es)) : ∃ a us c ws, v = .ref a ∧ SqT K H a us ∧ us[i]? = some (V.ref c) ∧ SqT K H c ws ∧ DVs K H es ws := by
  obtain ⟨a, us, u, rfl, hS, eu, du⟩ := h.any e
  obtain ⟨c, ws, rfl, hc, hw⟩ := du
  exact ⟨a, us, c, ws, rfl, hS, eu, hc, hw⟩
theorem DV.leafS {ds : List D} {v : V} {i : Nat} {x : Str} (h : DV K H (.tup ds) v) (e : ds[i]? = some (.str x)) : ∃ a us, v = .ref a ∧ SqT K H a us ∧ us[i]? = some (V.str x) := by
  obtain ⟨a, us, u, rfl, hS, eu, du⟩ := h.any e
  unfold DV at du
  subst du
  exact ⟨a, us, rfl, hS, eu⟩
theorem DVs.map_get {α : Type} {f : α → D} : ∀ {l : List α} {us : List V} {i : Nat} {u : V}, DVs K H (l.map f) us → us[i]? = some u → ∃ x, l[i]? = some x ∧ DV K H (f x) u
  | [], _, i, u, h, e => by unfold DVs at h; subst h; simp at e
  | x :: l, us, i, u, h, e => by
    obtain ⟨v, r, rfl, q, t⟩ := h
    cases i with
    | zero =>
      have : v = u := Option.some.inj e
      subst this
      exact ⟨x, rfl, q⟩
    | succ i => exact DVs.map_get (i := i) t e
theorem DVs.map_len {α : Type} {f : α → D} {l : List α} {us : List V} (h : DVs K H (l.map f) us) : us.length = l.length := by rw [h.len, List.length_map]
/-- values that are data of some of these -/
theorem DVs.pick {α : Type} {f : α → D} {xs : List V} {l : List α} : ∀ {ys : List V}, DVs K H (l.map f) xs → (∀ y ∈ ys, y ∈ xs) → ∃ m : List α, DVs K H (m.map f) ys ∧ m.length = ys.length ∧ ∀ x ∈ m, x ∈ l
  | [], _, _ => ⟨[], by unfold List.map DVs; rfl, rfl, fun _ h => by cases h⟩
  | y :: ys, h, k => by
    obtain ⟨m, h1, h2, h3⟩ := DVs.pick h fun z hz => k z (List.mem_cons_of_mem _ hz)
    obtain ⟨i, hi⟩ := List.getElem?_of_mem (k y (by simp))
    obtain ⟨x, hx, dx⟩ := h.map_get hi
    refine ⟨x :: m, ?_, by rw [List.length_cons, List.length_cons, h2], fun z hz => ?_⟩
    · exact ⟨y, ys, rfl, dx, h1⟩
    · rcases List.mem_cons.mp hz with e | e
      · rw [e]; exact List.mem_of_getElem? hx
      · exact h3 z e
theorem DVs.snoc {α : Type} {f : α → D} {x : α} {u : V} : ∀ {l : List α} {us : List V}, DVs K H (l.map f) us → DV K H (f x) u → DVs K H ((l ++ [x]).map f) (us ++ [u])
  | [], _, h, d => by unfold List.map DVs at h; subst h; exact ⟨u, [], rfl, d, by unfold List.map DVs; rfl⟩
  | y :: l, us, h, d => by
    obtain ⟨v, r, rfl, q, t⟩ := h
    exact ⟨v, r ++ [u], rfl, q, DVs.snoc t d⟩
theorem DVs.tk {H' : Hp} (t : TK K H H') {ds : List D} {us : List V} (h : DVs K H ds us) : DVs K H' ds us := DVs.ext t h
theorem DV.tk {H' : Hp} (t : TK K H H') {d : D} {u : V} (h : DV K H d u) : DV K H' d u := DV.ext t h
end
theorem find_step {α : Type} {p : α → Bool} {l : List α} {i : Nat} {x : α} (h : (l.take i).find? p = none) (e : l[i]? = some x) (hx : p x = false) : (l.take (i + 1)).find? p = none := by
  rw [List.take_add_one, e, List.find?_append, h]
  show (none : Option α).or ([x].find? p) = none
  simp [hx]
theorem find_hit {α : Type} {p : α → Bool} {l : List α} {i : Nat} {x : α} (h : (l.take i).find? p = none) (e : l[i]? = some x) (hx : p x = true) : l.find? p = some x := by
  have el : l = l.take i ++ x :: l.drop (i + 1) := by
    obtain ⟨h1, h2⟩ := List.getElem?_eq_some_iff.mp e
    rw [← h2, List.getElem_cons_drop, List.take_append_drop]
  rw [el, List.find?_append, h]
  show (none : Option α).or ((x :: l.drop (i + 1)).find? p) = some x
  rw [List.find?_cons_of_pos hx]; rfl
/-! ### books -/
structure Si where
  n : Str
  o : Int
  m : Int
  r : Int
  p : Str
structure Fd where
  g : Str
  t : Str
  p : Str
  h : Int
  z : Int
structure Sw where
  p : Str
  a : Str
  y : D
structure Bk where
  w : Int
  x : Int
  y : Int
  si : List Si
  ln : List (Str × Str)
  fd : List Fd
  sw : List Sw
  li : List D
def siD (s : Si) : D := .tup [.str (Str.ofString "site"), .str s.n, .int s.o, .int s.m, .int s.r, .str s.p]
def lnD (l : Str × Str) : D := .tup [.str l.1, .str l.2]
def fdD (f : Fd) : D := .tup [.str (Str.ofString "feed"), .str f.g, .str f.t, .str f.p, .int f.h, .int f.z]
def swD (s : Sw) : D := .tup [.str (Str.ofString "steward"), .str s.p, .str s.a, s.y]
def bkD (b : Bk) : D := .tup [.str (Str.ofString "book"), .int b.w, .tup [.int b.x, .int b.y], .tup (b.si.map siD), .tup (b.ln.map lnD), .tup (b.fd.map fdD), .tup (b.sw.map swD), .tup b.li]
structure BkOk (b : Bk) : Prop where
  si : b.si.length ≤ 10
  ln : b.ln.length ≤ 30
  fd : b.fd.length ≤ 100
  sw : b.sw.length ≤ 10
  sp : ∀ s ∈ b.si, (tl s.p).length ≤ 3000
  wp : ∀ s ∈ b.sw, (tl s.p).length ≤ 3000
  sn : ∀ s ∈ b.si, Low (tl s.n) ∧ (tl s.n).length ≤ 8
  fn : ∀ f ∈ b.fd, Low (tl f.g) ∧ Low (tl f.t)
def siteOf (b : Bk) (n : Str) : Option Si := b.si.find? fun s => decide (s.n = n)
def feedOf (b : Bk) (g t : Str) : Option Fd := b.fd.find? fun f => decide (f.g = g) && decide (f.t = t)
noncomputable def stwOf (b : Bk) (d : List Nat) : Option Sw := b.sw.find? fun s => letsL (parts (tl s.p)) d
def polOf (b : Bk) (a : Str) : Option Sw := b.sw.find? fun s => decide (s.a = a)
def optD {α : Type} (f : α → D) : Option α → D
  | none => .non
  | some x => f x
def nearL (b : Bk) (n : Str) : List Str := ((b.ln.filter fun l => decide (l.1 = n)).map (·.2)) ++ ((b.ln.filter fun l => decide (l.2 = n)).map (·.1))
/-- the seals so far, and a board more -/
noncomputable def sealF (b : Bk) (acc : List Str) (d : Str) : List Str := match stwOf b (tl d) with
  | none => acc
  | some s => if s.a ∈ acc then acc else acc ++ [s.a]
noncomputable def sealsL (b : Bk) (bs : List Str) : List Str := bs.foldl (sealF b) []
def sp_site_of (K : PySem.W.Frag) : Sp := fun vs H Q _ => ∃ (b : Bk) (v : V) (n : Str), vs = [v, .str n] ∧ DV K H (bkD b) v ∧ ∀ u, DV K H (optD siD (siteOf b n)) u → Q u H
def sp_feed_of (K : PySem.W.Frag) : Sp := fun vs H Q _ => ∃ (b : Bk) (v : V) (g t : Str), vs = [v, .str g, .str t] ∧ DV K H (bkD b) v ∧ BkOk b ∧ Low (tl g) ∧ Low (tl t) ∧ ∀ u H', Same H H' → DV K H' (optD fdD (feedOf b g t)) u → Q u H'
def sp_neighbours (K : PySem.W.Frag) : Sp := fun vs H Q _ => ∃ (b : Bk) (v : V) (n : Str), vs = [v, .str n] ∧ DV K H (bkD b) v ∧ BkOk b ∧ ∀ (t : Addr) (ys : List Str) (H' : Hp), Same H H' → SqT K H' t (ys.map V.str) → ys.Perm (nearL b n) → PyProof.Rows.sortedS ys = true → Q (.ref t) H'
noncomputable def carriesB (b : Bk) (n : Str) (bs : List Str) : Bool := match siteOf b n with
  | none => false
  | some s => bs.any fun d => letsL (parts (tl s.p)) (tl d)
def sp_carries (K : PySem.W.Frag) : Sp := fun vs H Q _ => ∃ (b : Bk) (v : V) (n : Str) (a : Addr) (bs : List Str), vs = [v, .str n, .ref a] ∧ DV K H (bkD b) v ∧ BkOk b ∧ SqT K H a (bs.map V.str) ∧ bs.length ≤ 1000 ∧ (∀ d ∈ bs, Clean (tl d)) ∧ ∀ H', Same H H' → Q (.bl (carriesB b n bs)) H'
def swA (s : Sw) : D := .str s.a
def sp_steward_of (K : PySem.W.Frag) : Sp := fun vs H Q _ => ∃ (b : Bk) (v : V) (d : Str), vs = [v, .str d] ∧ DV K H (bkD b) v ∧ BkOk b ∧ Clean (tl d) ∧ ∀ u H', Same H H' → DV K H' (optD swA (stwOf b (tl d))) u → Q u H'
def sp_seals (K : PySem.W.Frag) : Sp := fun vs H Q _ => ∃ (b : Bk) (v : V) (a : Addr) (bs : List Str), vs = [v, .ref a] ∧ DV K H (bkD b) v ∧ BkOk b ∧ SqT K H a (bs.map V.str) ∧ bs.length ≤ 1000 ∧ (∀ d ∈ bs, Clean (tl d)) ∧ ∀ (t : Addr) H', Same H H' → SqT K H' t ((sealsL b bs).map V.str) → Q (.ref t) H'
def sp_policy_of (K : PySem.W.Frag) : Sp := fun vs H Q _ => ∃ (b : Bk) (v : V) (a : Str), vs = [v, .str a] ∧ DV K H (bkD b) v ∧ ∀ u, DV K H (optD Sw.y (polOf b a)) u → Q u H
/-! ### what the law draws -/
def sp3__law_pick (K : PySem.W.Frag) : Sp := fun vs H Q _ =>
  (∃ (s a r : Addr) (xs : List V) (c : Nat), vs = [.ref s, .ref r] ∧ SqL K H r xs ∧ r ≠ s ∧ xs ≠ [] ∧ xs.length ≤ 100000 ∧ Src H s a (c + 1) ∧ ∀ (v : V) (H' : Hp), v ∈ xs → Ext s H H' → Src H' s a c → Q v H') ∨
  (∃ (s a : Addr) (x : Str) (c : Nat), vs = [.ref s, .str x] ∧ tl x ≠ [] ∧ (tl x).length ≤ 100000 ∧ Src H s a (c + 1) ∧ ∀ (ch : Nat) (H' : Hp), ch ∈ tl x → Ext s H H' → Src H' s a c → Q (.str (S [ch])) H') ∨
  (∃ (s a r : Addr) (xs : List V) (c : Nat), vs = [.ref s, .ref r] ∧ SqT K H r xs ∧ xs ≠ [] ∧ xs.length ≤ 100000 ∧ Src H s a (c + 1) ∧ ∀ (v : V) (H' : Hp), v ∈ xs → Ext s H H' → Src H' s a c → Q v H')
def Nms (us : List Str) : Prop := us.Nodup ∧ ∀ x ∈ us, Nm (tl x) ∧ (tl x).length ≤ 8
def sp9__law_new_name (K : PySem.W.Frag) : Sp := fun vs H Q _ => ∃ (s a u : Addr) (us : List Str) (c : Nat), vs = [.ref s, .ref u] ∧ SqL K H u (us.map V.str) ∧ u ≠ s ∧ us.length ≤ 9 ∧ Src H s a (c + 8) ∧
  ∀ (x : Str) (H' : Hp), Nm (tl x) → (tl x).length ≤ 8 → x ∉ us → Ext s H H' → Src H' s a c → Q (.str x) H'
def sp9__law_names (K : PySem.W.Frag) : Sp := fun vs H Q _ => ∃ (s a : Addr) (m c : Nat), vs = [.ref s, .int m] ∧ m ≤ 9 ∧ Src H s a (c + 8 * m) ∧
  ∀ (u : Addr) (us : List Str) (H' : Hp), H u = none → H' u = some (.lst (us.map V.str)) → us.length = m → Nms us → Ext s H H' → Src H' s a c → Q (.ref u) H'
def sp_lines (K : PySem.W.Frag) : Sp := fun vs H Q _ => ∃ (s a u : Addr) (us : List Str) (c : Nat), vs = [.ref s, .ref u] ∧ SqL K H u (us.map V.str) ∧ u ≠ s ∧ 1 ≤ us.length ∧ us.length ≤ 9 ∧ (∀ x ∈ us, Low (tl x)) ∧ Src H s a (c + 100) ∧
  ∀ (L : Addr) (ws : List V) (ls : List (Str × Str)) (H' : Hp), H L = none → H' L = some (.lst ws) → DVs K H' (ls.map lnD) ws → ls.length ≤ 20 → (∀ l ∈ ls, Low (tl l.1) ∧ Low (tl l.2)) → Ext s H H' → Src H' s a c → Q (.ref L) H'
def sp_feeds (K : PySem.W.Frag) : Sp := fun vs H Q _ => ∃ (s a L w : Addr) (ws : List V) (ls : List (Str × Str)) (us : List Str) (k : Int) (c : Nat), vs = [.ref s, .ref L, .ref w, .int k] ∧ SqL K H L ws ∧ L ≠ s ∧ DVs K H (ls.map lnD) ws ∧ ls.length ≤ 20 ∧ (∀ l ∈ ls, Low (tl l.1) ∧ Low (tl l.2)) ∧ SqL K H w (us.map V.str) ∧ w ≠ s ∧ Wds us ∧ 0 < k ∧ k ≤ 100 ∧ Src H s a (c + 20000) ∧
  ∀ (u : V) (fs : List Fd) (H' : Hp), DV K H' (.tup (fs.map fdD)) u → fs.length ≤ 40 → (∀ f ∈ fs, Low (tl f.g) ∧ Low (tl f.t)) → Ext s H H' → Src H' s a c → Q u H'
def sp_sites (K : PySem.W.Frag) : Sp := fun vs H Q _ => ∃ (s a u w o : Addr) (us ws : List Str) (z : Int) (is : List Int) (c : Nat), vs = [.ref s, .ref u, .ref w, .int z, .ref o] ∧ SqL K H u (us.map V.str) ∧ u ≠ s ∧ us.length ≤ 9 ∧ SqL K H w (ws.map V.str) ∧ w ≠ s ∧ Wds ws ∧ H o = some (.lst (is.map V.int)) ∧ o ≠ s ∧ is.length = us.length ∧ Src H s a (c + 5000) ∧
  ∀ (v : V) (l : List Si) (H' : Hp), DV K H' (.tup (l.map siD)) v → l.map (·.n) = us → (∀ x ∈ l, (tl x.p).length ≤ 200) → Ext s H H' → Src H' s a c → Q v H'
def sp_book (K : PySem.W.Frag) : Sp := fun vs H Q _ => ∃ (s a w : Addr) (ws : List Str) (m : Nat) (c : Nat), vs = [.ref s, .int (m : Int), .ref w] ∧ 1 ≤ m ∧ m ≤ 9 ∧ SqL K H w (ws.map V.str) ∧ w ≠ s ∧ Wds ws ∧ Src H s a (c + 30000) ∧
  ∀ (v : V) (b : Bk) (H' : Hp), DV K H' (bkD b) v → BkOk b → b.sw = [] → b.si ≠ [] → (b.si.map (·.n)).Nodup → Ext s H H' → Src H' s a c → Q v H'
def sp_stewards (K : PySem.W.Frag) : Sp := fun vs H Q _ => ∃ (s a w : Addr) (v : V) (b : Bk) (ws : List Str) (c : Nat), vs = [.ref s, v, .ref w] ∧ DV K H (bkD b) v ∧ b.si ≠ [] ∧ BkOk b ∧ SqL K H w (ws.map V.str) ∧ w ≠ s ∧ Wds ws ∧ Src H s a (c + 5000) ∧
  ∀ (u : V) (l : List Sw) (H' : Hp), DV K H' (.tup (l.map swD)) u → l.length ≤ 3 → (∀ x ∈ l, (tl x.p).length ≤ 200 ∧ (tl x.a).length ≤ 20 ∧ DL 4 x.y) → (l.map (·.a)).Nodup → Ext s H H' → Src H' s a c → Q u H'
/-! ### sorted texts, told by what they are -/
open PyProof.Rows in
theorem eqv_pair (a b c d : Str) : PyData.eqv (.tuple [.str a, .str b]) (.tuple [.str c, .str d]) = (decide (a = c) && decide (b = d)) := by
  simp [PyData.eqv, PyData.eqvAll]
  by_cases h1 : a = c <;> by_cases h2 : b = d <;> simp [h1, h2]
theorem ok_low {x : Str} (h : Low (tl x)) : PyData.strOk x = true := by
  unfold PyData.strOk
  rw [← Array.all_toList, List.all_eq_true]
  intro c m
  have := h c m
  exact decide_eq_true (by omega)
theorem pair_shaped {x y : Str} (hx : Low (tl x)) (hy : Low (tl y)) : SeqAt.shaped (.tuple [.str x, .str y]) = true := by
  simp [SeqAt.shaped, PyData.canLay0, PyData.canLayAll0, PyData.depth, PyData.depthAll, ok_low hx, ok_low hy]
end Z
namespace Z
open PySem L2 SX
open PyProof.Rows PySem.Spec
theorem find_uniq {α : Type} {f : α → Str} : ∀ {l : List α} {i : Nat} {x : α}, (l.map f).Nodup → l[i]? = some x → l.find? (fun y => decide (f y = f x)) = some x
  | [], i, x, _, h => by simp at h
  | y :: r, i, x, nd, h => by
    rw [List.map_cons, List.nodup_cons] at nd
    cases i with
    | zero =>
      have : y = x := Option.some.inj h
      subst this
      rw [List.find?_cons_of_pos (by simp)]
    | succ i =>
      have hr : r[i]? = some x := h
      have ne : ¬ f y = f x := fun e => nd.1 (by rw [e]; exact List.mem_map_of_mem (List.mem_of_getElem? hr))
      rw [List.find?_cons_of_neg (by simpa using ne)]
      exact find_uniq nd.2 hr
theorem lt_anti : ∀ {a b : List Nat}, ltCps a b = false → ltCps b a = false → a = b
  | [], [], _, _ => rfl
  | [], _ :: _, h, _ => by simp [ltCps] at h
  | _ :: _, [], _, h => by simp [ltCps] at h
  | x :: a, y :: b, h, k => by
    simp only [ltCps, Bool.or_eq_false_iff, decide_eq_false_iff_not, Bool.and_eq_false_iff] at h k
    have e : x = y := by omega
    subst e
    have h2 := h.2.resolve_left (by simp)
    have k2 := k.2.resolve_left (by simp)
    rw [lt_anti h2 k2]
theorem lt_trans : ∀ {a b c : List Nat}, ltCps b a = false → ltCps c b = false → ltCps c a = false
  | [], _, [], _, _ => rfl
  | [], _, _ :: _, _, _ => by simp [ltCps]
  | _ :: _, [], _, h, _ => by simp [ltCps] at h
  | _ :: _, _ :: _, [], _, k => by simp [ltCps] at k
  | x :: a, y :: b, z :: c, h, k => by
    simp only [ltCps, Bool.or_eq_false_iff, decide_eq_false_iff_not, Bool.and_eq_false_iff] at h k ⊢
    refine ⟨by omega, ?_⟩
    by_cases e : z = x
    · have e1 : y = x := by omega
      have e2 : z = y := by omega
      subst e1
      subst e2
      exact .inr (lt_trans (h.2.resolve_left (by simp)) (k.2.resolve_left (by simp)))
    · exact .inl (by simpa using e)
theorem rising_pw : ∀ {l : List Str} {p : Str}, risingS p l = true → (∀ x ∈ l, ltCps x.cps.toList p.cps.toList = false) ∧ l.Pairwise (fun a b => ltCps b.cps.toList a.cps.toList = false)
  | [], _, _ => ⟨(fun _ h => by cases h), List.Pairwise.nil⟩
  | x :: r, p, h => by
    have h' : (!ltCps x.cps.toList p.cps.toList && risingS x r) = true := h
    obtain ⟨h1, h2⟩ := Bool.and_eq_true_iff.mp h'
    have h1' : ltCps x.cps.toList p.cps.toList = false := by simpa using h1
    obtain ⟨k1, k2⟩ := rising_pw h2
    refine ⟨fun y hy => ?_, List.pairwise_cons.mpr ⟨k1, k2⟩⟩
    rcases List.mem_cons.mp hy with e | e
    · rw [e]; exact h1'
    · exact lt_trans h1' (k1 y e)
theorem sorted_pw : ∀ {l : List Str}, sortedS l = true → l.Pairwise (fun a b => ltCps b.cps.toList a.cps.toList = false)
  | [], _ => List.Pairwise.nil
  | x :: r, h => List.pairwise_cons.mpr (rising_pw (show risingS x r = true from h))
theorem pw_uniq : ∀ {ys zs : List Str}, ys.Perm zs → ys.Pairwise (fun a b => ltCps b.cps.toList a.cps.toList = false) → zs.Pairwise (fun a b => ltCps b.cps.toList a.cps.toList = false) → ys = zs
  | [], zs, p, _, _ => p.nil_eq
  | y :: r, [], p, _, _ => absurd p.symm.nil_eq (by simp)
  | y :: r, z :: t, p, hy, hz => by
    obtain ⟨y1, y2⟩ := List.pairwise_cons.mp hy
    obtain ⟨z1, z2⟩ := List.pairwise_cons.mp hz
    have e : y = z := by
      have m1 : y ∈ z :: t := p.mem_iff.mp (by simp)
      have m2 : z ∈ y :: r := p.mem_iff.mpr (by simp)
      rcases List.mem_cons.mp m1 with e | e
      · exact e
      · rcases List.mem_cons.mp m2 with e2 | e2
        · exact e2.symm
        · exact tl_ext (lt_anti (z1 y e) (y1 z e2)) 
    subst e
    rw [pw_uniq ((List.perm_cons y).mp p) y2 z2]
theorem sorted_uniq {ys zs : List Str} (p : ys.Perm zs) (sy : sortedS ys = true) (sz : sortedS zs = true) : ys = zs := pw_uniq p (sorted_pw sy) (sorted_pw sz)
theorem seal_len (b : Bk) (acc : List Str) (d : Str) : (sealF b acc d).length ≤ acc.length + 1 := by
  unfold sealF
  split
  · omega
  · split
    · omega
    · rw [List.length_append]; exact Nat.le_refl _
theorem seals_len (b : Bk) : ∀ (bs acc : List Str), (bs.foldl (sealF b) acc).length ≤ acc.length + bs.length
  | [], _ => Nat.le_refl _
  | d :: r, acc => by
    have h1 := seals_len b r (sealF b acc d)
    have h2 := seal_len b acc d
    rw [List.foldl_cons, List.length_cons]; omega
end Z
namespace Z
open PySem L2 SX
/-! ### small helpers -/
theorem nodup_len : ∀ {l m : List Str}, l.Nodup → (∀ x ∈ l, x ∈ m) → l.length ≤ m.length
  | [], m, _, _ => Nat.zero_le _
  | x :: l, m, nd, h => by
    obtain ⟨n1, n2⟩ := List.nodup_cons.mp nd
    have hx := h x (by simp)
    have := nodup_len (l := l) (m := m.erase x) n2 fun y my => (List.mem_erase_of_ne (fun e => n1 (by rw [← e]; exact my))).mpr (h y (List.mem_cons_of_mem _ my))
    have e := List.length_erase_of_mem hx
    have p := List.length_pos_of_mem hx
    rw [List.length_cons]; omega
theorem sput {H H' : Hp} {a : Addr} {o : HO} (h : Same H H') (n : H a = none) : Same H (upd H' a o) := fun b u hb => by
  rw [upd_ne (ne_of_none hb n)]; exact h b u hb
theorem tk_upd {K : PySem.W.Frag} {H : Hp} {p : Addr} {u o : HO} (h : H p = some u) (n1 : ∀ xs, u ≠ .tup xs) (n2 : ∀ o w, u ≠ .frz o w) : TK K H (upd H p o) := fun a xs q => by
  rcases q with (q | ⟨o', q⟩) | q
  · exact .inl (.inl (by rw [upd_ne (fun e => by rw [e, h] at q; exact n1 _ (Option.some.inj q))]; exact q))
  · exact .inl (.inr ⟨o', by rw [upd_ne (fun e => by rw [e, h] at q; exact n2 _ _ (Option.some.inj q))]; exact q⟩)
  · exact .inr q
theorem map_get {α : Type} {f : α → V} {l : List α} {i : Nat} {x : V} (h : (l.map f)[i]? = some x) : ∃ y, l[i]? = some y ∧ x = f y := by
  rw [List.getElem?_map] at h
  cases e : l[i]? with
  | none => rw [e] at h; cases h
  | some y => rw [e] at h; exact ⟨y, rfl, (Option.some.inj h).symm⟩
theorem filt_step2 {α : Type} {p : α → Bool} {l : List α} {i : Nat} {x : α} (e : l[i]? = some x) : (l.take (i + 1)).filter p = (l.take i).filter p ++ (if p x = true then [x] else []) := by
  rw [List.take_add_one, e, List.filter_append]
  congr 1
  by_cases c : p x = true
  · rw [if_pos c]; exact List.filter_eq_self.mpr fun y hy => by rw [List.mem_singleton.mp hy]; exact c
  · rw [if_neg c]; exact List.filter_eq_nil_iff.mpr fun y hy => by rw [List.mem_singleton.mp hy]; exact c
theorem iG {c : Bool} {A B : Prop} (h : c = true) (a : A) : if c = true then A else B := by rw [if_pos h]; exact a
theorem iN {c : Bool} {A B : Prop} (h : c = false) (b : B) : if c = true then A else B := by rw [if_neg (by rw [h]; exact Bool.false_ne_true)]; exact b
theorem sorted_first {y : Str} {r : List Str} (h : (y :: r).Pairwise fun a b => PySem.Spec.ltCps b.cps.toList a.cps.toList = false) : ∀ z ∈ y :: r, ¬ tl z < tl y := fun z hz => by
  rcases List.mem_cons.mp hz with e | e
  · rw [e]; exact fun q => List.lt_irrefl _ q
  · have := (List.pairwise_cons.mp h).1 z e
    rw [PyProof.Rows.ltCps_eq] at this
    exact of_decide_eq_false this
def nms (b : Bk) : List Str := b.si.map (·.n)
theorem dls {K : PySem.W.Frag} {H : Hp} (x : Str) : DV K H (.str x) (.str x) := by unfold DV; rfl
theorem dli {K : PySem.W.Frag} {H : Hp} (x : Int) : DV K H (.int x) (.int x) := by unfold DV; rfl
theorem dln {K : PySem.W.Frag} {H : Hp} : DVs K H [] [] := by unfold DVs; rfl
theorem dlc {K : PySem.W.Frag} {H : Hp} {d : D} {ds : List D} {v : V} {vs : List V} (h : DV K H d v) (t : DVs K H ds vs) : DVs K H (d :: ds) (v :: vs) := ⟨v, vs, rfl, h, t⟩
theorem tk_put {K : PySem.W.Frag} {H : Hp} {M : Addr} {ys : List V} {o : HO} (h : H M = some (.lst ys)) : TK K H (upd H M o) := fun a xs q => Ext.seqT (s := M) (fun b o hb hh => by rw [upd_ne hb]; exact hh) h q
theorem tk_new {K : PySem.W.Frag} {H : Hp} {M : Addr} {o : HO} (h : H M = none) : TK K H (upd H M o) := TK.same (same_new h)
theorem small_le (n : Nat) (h : n ≤ 30000) : n ≤ sizeLine := Nat.le_trans h (by decide)
theorem small_lt (n : Nat) (h : n ≤ 30000) : n < sizeLine := Nat.lt_of_le_of_lt h (by decide)
theorem pw_get {α : Type} {r : α → α → Prop} : ∀ {l : List α} {i j : Nat} {a b : α}, l.Pairwise r → l[i]? = some a → l[j]? = some b → i < j → r a b
  | [], _, _, _, _, _, h, _, _ => by simp at h
  | x :: l, 0, j + 1, a, b, p, h, k, _ => by
    cases (show some _ = some _ from h)
    exact (List.pairwise_cons.mp p).1 b (List.mem_of_getElem? (by simpa using k))
  | x :: l, i + 1, j + 1, a, b, p, h, k, lt => pw_get (i := i) (j := j) (List.pairwise_cons.mp p).2 (by simpa using h) (by simpa using k) (by omega)
/-- the bookkeeping of one local list and the source -/
theorem ext_keep {s M : Addr} {H H1 : Hp} {o : HO} (n : H M = none) (x : Ext s H H1) : Ext s H (upd H1 M o) := fun b w hb hh => by
  rw [upd_ne (ne_of_none hh n)]; exact x b w hb hh
theorem DVs.of_all {K : PySem.W.Frag} {H : Hp} {α : Type} {f : α → D} {g : α → V} : ∀ {l : List α}, (∀ x ∈ l, DV K H (f x) (g x)) → DVs K H (l.map f) (l.map g)
  | [], _ => by unfold List.map DVs; rfl
  | x :: l, h => ⟨g x, l.map g, rfl, h x (by simp), DVs.of_all fun y m => h y (List.mem_cons_of_mem _ m)⟩
theorem DVs.all {K : PySem.W.Frag} {H : Hp} {α : Type} {f : α → D} {l : List α} {us : List V} (h : DVs K H (l.map f) us) {i : Nat} {x : α} (e : l[i]? = some x) : ∃ u, us[i]? = some u ∧ DV K H (f x) u :=
  h.get (by rw [List.getElem?_map, e]; rfl)
theorem ln_ok {ls : List (Str × Str)} (h : ∀ l ∈ ls, Low (tl l.1) ∧ Low (tl l.2)) : Okl (ls.map lnD) :=
  fines_ok (n := 1) (fines_map fun l m => fine_tup (fines_cons (fine_low fun c hc => by have := (h l m).1 c hc; omega) (fines_cons (fine_low fun c hc => by have := (h l m).2 c hc; omega) fines_nil)))
theorem pr_ok {x y : Str} (h : Low (tl x)) (k : Low (tl y)) : Okd (.tup [.str x, .str y]) :=
  fine_ok (n := 1) (fine_tup (fines_cons (fine_low fun c hc => by have := h c hc; omega) (fines_cons (fine_low fun c hc => by have := k c hc; omega) fines_nil)))
theorem alike_ln (b c : Str × Str) : PySem.W.alike (py (lnD b)) (py (lnD c)) = true := by simp [lnD, py, pys, PySem.W.alike, PySem.W.alikeAll]
theorem depth_ln (b : Str × Str) : (py (lnD b)).depth ≤ 60 := by simp [lnD, py, pys, PyData.depth, PyData.depthAll]
theorem lnD_inj {a b : Str × Str} (h : lnD a = lnD b) : a = b := by
  unfold lnD at h
  simp only [D.tup.injEq, List.cons.injEq, D.str.injEq, and_true] at h
  exact Prod.ext h.1 h.2
theorem erase_perm {α : Type} : ∀ (l : List α) (i : Nat) (h : i < l.length), (l[i] :: l.eraseIdx i).Perm l
  | x :: l, 0, _ => List.Perm.refl _
  | x :: l, i + 1, h => by
    have ih := erase_perm l i (by simpa using h)
    exact (List.Perm.swap x _ _).trans (ih.cons x)
theorem DVs.perm {K : PySem.W.Frag} {H : Hp} {α : Type} {f : α → D} {ys us : List V} (p : ys.Perm us) : ∀ {l : List α}, DVs K H (l.map f) us → ∃ m : List α, m.Perm l ∧ DVs K H (m.map f) ys := by
  induction p with
  | nil => intro l h; exact ⟨l, List.Perm.refl _, h⟩
  | cons x _ ih =>
    intro l h
    cases l with
    | nil => unfold List.map DVs at h; cases h
    | cons a l =>
      obtain ⟨v, r, e, q, t⟩ := h
      cases e
      obtain ⟨m, pm, d⟩ := ih t
      exact ⟨a :: m, pm.cons a, ⟨_, _, rfl, q, d⟩⟩
  | swap x y r0 =>
    intro l h
    match l, h with
    | [], h => unfold List.map DVs at h; cases h
    | [a], h =>
      obtain ⟨v, r, e, q, t⟩ := h
      cases e
      unfold List.map DVs at t; cases t
    | a :: b :: l, h =>
      obtain ⟨v, r, e, q, t⟩ := h
      cases e
      obtain ⟨v2, r2, e2, q2, t2⟩ := t
      cases e2
      exact ⟨b :: a :: l, List.Perm.swap a b l, ⟨_, _, rfl, q2, ⟨_, _, rfl, q, t2⟩⟩⟩
  | trans _ _ ih1 ih2 =>
    intro l h
    obtain ⟨m, pm, d⟩ := ih2 h
    obtain ⟨m2, pm2, d2⟩ := ih1 d
    exact ⟨m2, pm2.trans pm, d2⟩
theorem DVs.take {K : PySem.W.Frag} {H : Hp} {α : Type} {f : α → D} : ∀ {l : List α} {us : List V} (n : Nat), DVs K H (l.map f) us → DVs K H ((l.take n).map f) (us.take n)
  | _, _, 0, _ => by rw [List.take_zero, List.take_zero]; unfold List.map DVs; rfl
  | [], _, n + 1, h => by unfold List.map DVs at h; subst h; unfold List.take List.map DVs; rfl
  | x :: l, _, n + 1, h => by
    obtain ⟨v, r, rfl, q, t⟩ := h
    exact ⟨v, r.take n, rfl, q, DVs.take n t⟩
theorem DVs.drop {K : PySem.W.Frag} {H : Hp} {α : Type} {f : α → D} : ∀ {l : List α} {us : List V} (n : Nat), DVs K H (l.map f) us → DVs K H ((l.drop n).map f) (us.drop n)
  | _, _, 0, h => by rw [List.drop_zero, List.drop_zero]; exact h
  | [], _, n + 1, h => by unfold List.map DVs at h; subst h; unfold List.drop List.map DVs; rfl
  | x :: l, _, n + 1, h => by
    obtain ⟨v, r, rfl, q, t⟩ := h
    exact DVs.drop n t
end Z
namespace Z
open PySem L2 SX
theorem tkE {K : PySem.W.Frag} {H H' : Hp} {s a : Addr} {c : Nat} (x : Ext s H H') (S : Src H s a c) : TK K H H' := fun _ _ h => by
  obtain ⟨xs, e⟩ := S.lst
  exact x.seqT e h
theorem sl_listK {X : Cx} {K : PySem.W.Frag} (h : X.K = K) : SlR X (rSlL K) := by subst h; exact sl_list
/-! ### tuples stay, by their addresses too -/
def TT (K : PySem.W.Frag) (H H' : Hp) : Prop := TK K H H' ∧ ∀ a xs, H a = some (.tup xs) → H' a = some (.tup xs)
section
variable {K : PySem.W.Frag}
theorem TT.refl {H : Hp} : TT K H H := ⟨TK.same (Same.refl _), fun _ _ e => e⟩
theorem TT.same {H H' : Hp} (h : Same H H') : TT K H H' := ⟨TK.same h, fun _ _ e => h _ _ e⟩
theorem TT.trans {H H1 H2 : Hp} (x : TT K H H1) (y : TT K H1 H2) : TT K H H2 := ⟨x.1.trans y.1, fun a xs e => y.2 a xs (x.2 a xs e)⟩
theorem TT.ext {H H' : Hp} {s a : Addr} {c : Nat} (x : Ext s H H') (S : Src H s a c) : TT K H H' := ⟨tkE x S, fun b xs e => x _ _ (fun z => by
  obtain ⟨ys, e2⟩ := S.lst
  rw [z, e2] at e
  cases e) e⟩
theorem TT.over {H : Hp} {p : Addr} {u o : HO} (h : H p = some u) (n1 : ∀ xs, u ≠ .tup xs) (n2 : ∀ o w, u ≠ .frz o w) : TT K H (upd H p o) := ⟨tk_upd h n1 n2, fun b xs e => by
  rw [upd_ne (fun z => by rw [z, h] at e; exact n1 _ (Option.some.inj e))]; exact e⟩
theorem TT.put {H : Hp} {M : Addr} {ys : List V} {o : HO} (h : H M = some (.lst ys)) : TT K H (upd H M o) := TT.over h (fun _ e => by cases e) (fun _ _ e => by cases e)
end
theorem Src.extL {H H' : Hp} {s a : Addr} {c : Nat} {ms : List Addr} (h : Src H s a c) (x : ExtL ms H H') (n1 : s ∉ ms) (n2 : a ∉ ms) : Src H' s a c := by
  obtain ⟨ns, i, b, e, t, h1, h2, h3⟩ := h
  exact ⟨ns, i, b, e, t, x _ _ n1 h1, x _ _ n2 h2, h3⟩
/-! ### a list of values, told one by one -/
def RL {α : Type} (R : α → V → Prop) : List α → List V → Prop
  | [], us => us = []
  | x :: r, us => ∃ v t, us = v :: t ∧ R x v ∧ RL R r t
section
variable {α β : Type} {R R' : α → V → Prop}
theorem RL.len : ∀ {xs : List α} {us : List V}, RL R xs us → us.length = xs.length
  | [], _, h => by have : _ = [] := h; rw [this]; rfl
  | _ :: _, _, h => by
    obtain ⟨v, t, rfl, _, h2⟩ := h
    rw [List.length_cons, List.length_cons, h2.len]
theorem RL.get : ∀ {xs : List α} {us : List V} {i : Nat} {v : V}, RL R xs us → us[i]? = some v → ∃ x, xs[i]? = some x ∧ R x v
  | [], us, i, v, h, q => by have : us = [] := h; subst this; simp at q
  | x :: r, us, i, v, h, q => by
    obtain ⟨v', t, rfl, h1, h2⟩ := h
    cases i with
    | zero => exact ⟨x, rfl, by cases q; exact h1⟩
    | succ i => exact RL.get (i := i) h2 q
theorem RL.at {xs : List α} {us : List V} {i : Nat} {x : α} (h : RL R xs us) (q : xs[i]? = some x) : ∃ v, us[i]? = some v ∧ R x v := by
  have il := (List.getElem?_eq_some_iff.mp q).1
  obtain ⟨v, hv⟩ : ∃ v, us[i]? = some v := ⟨_, List.getElem?_eq_getElem (by rw [h.len]; exact il)⟩
  obtain ⟨x', hx, r⟩ := h.get hv
  rw [q] at hx
  cases hx
  exact ⟨v, hv, r⟩
theorem RL.mono (m : ∀ x v, R x v → R' x v) : ∀ {xs : List α} {us : List V}, RL R xs us → RL R' xs us
  | [], _, h => h
  | _ :: _, _, h => by
    obtain ⟨v, t, e, h1, h2⟩ := h
    exact ⟨v, t, e, m _ _ h1, RL.mono m h2⟩
theorem RL.snoc {x : α} {v : V} (q : R x v) : ∀ {xs : List α} {us : List V}, RL R xs us → RL R (xs ++ [x]) (us ++ [v])
  | [], us, h => by have : us = [] := h; subst this; exact ⟨v, [], rfl, q, rfl⟩
  | _ :: _, _, h => by
    obtain ⟨v', t, rfl, h1, h2⟩ := h
    exact ⟨v', t ++ [v], rfl, h1, h2.snoc q⟩
theorem RL.step {xs : List α} {us : List V} {x : α} {v : V} {j : Nat} (he : xs[j]? = some x) (h : RL R (xs.take j) us) (q : R x v) : RL R (xs.take (j + 1)) (us ++ [v]) := by
  rw [List.take_add_one, he]
  exact h.snoc q
theorem RL.take : ∀ {xs : List α} {us : List V} (j : Nat), RL R xs us → RL R (xs.take j) (us.take j)
  | _, _, 0, _ => rfl
  | [], us, j + 1, h => by have : us = [] := h; subst this; exact rfl
  | _ :: _, _, j + 1, h => by
    obtain ⟨v, t, rfl, h1, h2⟩ := h
    exact ⟨v, t.take j, rfl, h1, h2.take j⟩
theorem RL.erase : ∀ {xs : List α} {us : List V} (j : Nat), RL R xs us → RL R (xs.eraseIdx j) (us.eraseIdx j)
  | [], us, j, h => by have : us = [] := h; subst this; simp; exact rfl
  | _ :: _, _, 0, h => by
    obtain ⟨v, t, rfl, h1, h2⟩ := h
    exact h2
  | _ :: _, _, j + 1, h => by
    obtain ⟨v, t, rfl, h1, h2⟩ := h
    exact ⟨v, t.eraseIdx j, rfl, h1, h2.erase j⟩
theorem RL.pick {xs : List α} {us : List V} {v : V} (h : RL R xs us) (m : v ∈ us) : ∃ x, x ∈ xs ∧ R x v := by
  obtain ⟨i, hi⟩ := List.mem_iff_getElem?.mp m
  obtain ⟨x, hx, r⟩ := h.get hi
  exact ⟨x, List.mem_of_getElem? hx, r⟩
theorem RL.dvs {K : PySem.W.Frag} {H : Hp} {f : α → D} (m : ∀ x v, R x v → DV K H (f x) v) : ∀ {xs : List α} {us : List V}, RL R xs us → DVs K H (xs.map f) us
  | [], us, h => by have : us = [] := h; subst this; exact dln
  | _ :: _, _, h => by
    obtain ⟨v, t, rfl, h1, h2⟩ := h
    exact dlc (m _ _ h1) (RL.dvs m h2)
theorem RL.perm : ∀ {us vs : List V}, us.Perm vs → ∀ {xs : List α}, RL R xs us → ∃ ys : List α, xs.Perm ys ∧ RL R ys vs := by
  intro us vs p
  induction p with
  | nil => intro xs h; exact ⟨xs, List.Perm.refl _, h⟩
  | cons v p ih =>
    intro xs h
    cases xs with
    | nil => cases (show _ :: _ = [] from h)
    | cons x r =>
      obtain ⟨v', t, e, h1, h2⟩ := h
      cases e
      obtain ⟨ys, p2, h3⟩ := ih h2
      exact ⟨x :: ys, p2.cons x, v, _, rfl, h1, h3⟩
  | swap v w l =>
    intro xs h
    cases xs with
    | nil => cases (show _ :: _ = [] from h)
    | cons x r =>
      obtain ⟨v', t, e, h1, h2⟩ := h
      cases e
      cases r with
      | nil => cases (show _ :: _ = [] from h2)
      | cons y r =>
        obtain ⟨v2, t2, e2, h3, h4⟩ := h2
        cases e2
        exact ⟨y :: x :: r, List.Perm.swap y x r, _, _, rfl, h3, _, _, rfl, h1, h4⟩
  | trans _ _ ih1 ih2 =>
    intro xs h
    obtain ⟨ys, p1, h1⟩ := ih1 h
    obtain ⟨zs, p2, h2⟩ := ih2 h1
    exact ⟨zs, p1.trans p2, h2⟩
theorem RL.filter {f : α → Bool} : ∀ {xs : List α} {us : List V}, RL R xs us → ∃ ws, RL R (xs.filter f) ws
  | [], _, _ => ⟨[], rfl⟩
  | x :: r, _, h => by
    obtain ⟨v, t, _, h1, h2⟩ := h
    obtain ⟨ws, h3⟩ := RL.filter (f := f) h2
    by_cases c : f x = true
    · rw [List.filter_cons_of_pos c]; exact ⟨v :: ws, v, ws, rfl, h1, h3⟩
    · rw [List.filter_cons_of_neg c]; exact ⟨ws, h3⟩
end
/-! ### ids -/
abbrev Idn := Str × Int
def ik (x : Idn) : List L2.Key := [.inr x.1, .inl x.2]
def iD (x : Idn) : D := .tup [.str x.1, .int x.2]
theorem ik_inj {x y : Idn} (h : ik x = ik y) : x = y := by
  obtain ⟨a, b⟩ := x
  obtain ⟨c, d⟩ := y
  unfold ik at h
  injection h with h1 h2
  injection h2 with h2 _
  exact Prod.ext (Sum.inr.inj h1) (Sum.inl.inj h2)
theorem iD_inj {x y : Idn} (h : iD x = iD y) : x = y := by
  obtain ⟨a, b⟩ := x
  obtain ⟨c, d⟩ := y
  unfold iD at h
  injection h with h
  injection h with h1 h2
  injection h2 with h2 _
  injection h1 with h1
  injection h2 with h2
  exact Prod.ext h1 h2
def okI (x : Idn) : Prop := Low (tl x.1) ∧ (tl x.1).length ≤ 1000
def IsId (H : Hp) (x : Idn) (v : V) : Prop := okI x ∧ ∃ a, v = .ref a ∧ H a = some (.tup [.str x.1, .int x.2])
section
variable {K : PySem.W.Frag}
theorem IsId.tt {H H' : Hp} (T : TT K H H') (x : Idn) (v : V) (h : IsId H x v) : IsId H' x v := by
  obtain ⟨h0, a, e, h1⟩ := h
  exact ⟨h0, a, e, T.2 _ _ h1⟩
theorem IsId.dv {H : Hp} (x : Idn) (v : V) (h : IsId H x v) : DV K H (iD x) v := by
  obtain ⟨h0, a, rfl, h1⟩ := h
  exact ⟨a, _, rfl, SqT.of h1, dlc (dls _) (dlc (dli _) dln)⟩
theorem id_okd {x : Idn} (h : okI x) : Okd (iD x) := fine_ok (n := 1) (fine_tup (fines_cons (fine_low fun c hc => by have := h.1 c hc; omega) (fines_cons fine_int fines_nil)))
theorem id_okl {l : List Idn} (h : ∀ x ∈ l, okI x) : Okl (l.map iD) := fines_ok (n := 1) (fines_map fun x m => fine_tup (fines_cons (fine_low fun c hc => by have := (h x m).1 c hc; omega) (fines_cons fine_int fines_nil)))
theorem id_alike (x y : Idn) : PySem.W.alike (py (iD x)) (py (iD y)) = true := by simp [iD, py, pys, PySem.W.alike, PySem.W.alikeAll]
theorem id_eqD {x y : Idn} : eqD (iD x) (iD y) = true ↔ x = y := by
  rw [eqD_iff (id_alike x y)]
  exact ⟨iD_inj, fun h => by rw [h]⟩
theorem id_aa {l : List Idn} : PySem.W.AllAlike (l.map fun b => py (iD b)) := aa_of id_alike
theorem id_so {l : List Idn} : PySem.W.Sortable (l.map fun b => py (iD b)) := so_tup fun b => ⟨_, _, rfl⟩
theorem id_dp (b : Idn) : (py (iD b)).depth ≤ 60 := by simp [iD, py, pys, PyData.depth, PyData.depthAll]
end
/-- is it in? -/
def memB (l : List Idn) (x : Idn) : Bool := l.any fun y => decide (ik y = ik x)
theorem memB_iff {l : List Idn} {x : Idn} : memB l x = true ↔ x ∈ l := by
  unfold memB
  rw [List.any_eq_true]
  exact ⟨fun ⟨y, hy, h⟩ => by rw [← ik_inj (of_decide_eq_true h)]; exact hy, fun h => ⟨x, h, decide_eq_true rfl⟩⟩
theorem memB_any {l : List Idn} {x : Idn} : ((l.map iD).any fun z => eqD z (iD x)) = memB l x := by
  rw [List.any_map]
  refine congrArg (List.any l) (funext fun y => ?_)
  rw [Bool.eq_iff_iff, decide_eq_true_iff]
  exact id_eqD.trans ⟨fun h => by rw [h], ik_inj⟩
theorem memB_congr {l m : List Idn} {x : Idn} (h : ∀ y, y ∈ l ↔ y ∈ m) : memB l x = memB m x := by
  rw [Bool.eq_iff_iff, memB_iff, memB_iff]; exact h x
def add (l : List Idn) (x : Idn) : List Idn := if memB l x = true then l else l ++ [x]
theorem add_mem {l : List Idn} {x y : Idn} : y ∈ add l x ↔ y ∈ l ∨ y = x := by
  unfold add
  split
  · rename_i h
    exact ⟨.inl, fun k => k.elim id fun e => by rw [e]; exact memB_iff.mp h⟩
  · rw [List.mem_append, List.mem_singleton]
theorem add_nd {l : List Idn} {x : Idn} (h : l.Nodup) : (add l x).Nodup := by
  unfold add
  split
  · exact h
  · rename_i n
    rw [List.nodup_append]
    exact ⟨h, List.nodup_cons.mpr ⟨by simp, List.nodup_nil⟩, fun a ha b hb => by
      rw [List.mem_singleton.mp hb]
      exact fun z => n (memB_iff.mpr (by rw [← z]; exact ha))⟩
theorem add_len {l : List Idn} {x : Idn} : (add l x).length ≤ l.length + 1 := by
  unfold add
  split
  · omega
  · rw [List.length_append]; exact Nat.le_refl _
def uni (l m : List Idn) : List Idn := m.foldl add l
theorem uni_mem {y : Idn} : ∀ {m l : List Idn}, y ∈ uni l m ↔ y ∈ l ∨ y ∈ m
  | [], l => by simp [uni]
  | x :: m, l => by
    show y ∈ uni (add l x) m ↔ _
    rw [uni_mem, add_mem, List.mem_cons, or_assoc]
theorem uni_nd : ∀ {m l : List Idn}, l.Nodup → (uni l m).Nodup
  | [], _, h => h
  | x :: m, l, h => uni_nd (m := m) (l := add l x) (add_nd h)
theorem uni_len : ∀ {m l : List Idn}, (uni l m).length ≤ l.length + m.length
  | [], _ => Nat.le_refl _
  | x :: m, l => by
    have h1 := uni_len (m := m) (l := add l x)
    have h2 := add_len (l := l) (x := x)
    show (uni (add l x) m).length ≤ _
    rw [List.length_cons]
    omega
theorem uni_take {l m : List Idn} {j : Nat} {x : Idn} (h : m[j]? = some x) : add (uni l (m.take j)) x = uni l (m.take (j + 1)) := by
  unfold uni
  rw [List.take_add_one, h, show (some x).toList = [x] from rfl, List.foldl_append]
  rfl
/-! ### sorted ids -/
noncomputable def srt (l : List Idn) : List Idn := l.mergeSort (dle iD)
theorem srt_mem {l : List Idn} {x : Idn} : x ∈ srt l ↔ x ∈ l := (sort_perm iD l).mem_iff
theorem srt_len {l : List Idn} : (srt l).length = l.length := (sort_perm iD l).length_eq
theorem pw_eq9 {α : Type} {r : α → α → Prop} (an : ∀ a b, r a b → r b a → a = b) : ∀ {l m : List α}, l.Perm m → l.Pairwise r → m.Pairwise r → l = m
  | [], m, p, _, _ => p.nil_eq
  | y :: l, [], p, _, _ => absurd p.symm.nil_eq (by simp)
  | y :: l, z :: m, p, hy, hz => by
    obtain ⟨y1, y2⟩ := List.pairwise_cons.mp hy
    obtain ⟨z1, z2⟩ := List.pairwise_cons.mp hz
    have e : y = z := by
      rcases List.mem_cons.mp (p.mem_iff.mp (List.mem_cons_self (a := y))) with e | e
      · exact e
      · rcases List.mem_cons.mp (p.mem_iff.mpr (List.mem_cons_self (a := z))) with e2 | e2
        · exact e2.symm
        · exact an _ _ (y1 z e2) (z1 y e)
    subst e
    rw [pw_eq9 an ((List.perm_cons y).mp p) y2 z2]
open PySem.W in
theorem dle_anti {x y : Idn} (h : dle iD x y = true) (k : dle iD y x = true) : x = y := by
  obtain ⟨a, b⟩ := x
  obtain ⟨c, d⟩ := y
  have h : (!dataLt (py (iD (c, d))) (py (iD (a, b)))) = true := h
  have k : (!dataLt (py (iD (a, b))) (py (iD (c, d)))) = true := k
  unfold iD at h k
  simp only [py, pys] at h k
  rw [dataLt_pair (by simp [alike]) (by simp [alike])] at h k
  rw [Bool.not_eq_true'] at h k
  by_cases e : a = c
  · subst e
    have e1 : (PyData.str a).eqv (PyData.str a) = true := by simp [PyData.eqv]
    rw [if_pos e1] at h k
    by_cases f : b = d
    · rw [f]
    · exfalso
      have e2 : (PyData.int d).eqv (PyData.int b) = false := by simp only [PyData.eqv, beq_eq_false_iff_ne]; omega
      have e3 : (PyData.int b).eqv (PyData.int d) = false := by simp only [PyData.eqv, beq_eq_false_iff_ne]; omega
      rw [if_neg (by rw [e2]; exact Bool.false_ne_true), dataLt_int, decide_eq_false_iff_not] at h
      rw [if_neg (by rw [e3]; exact Bool.false_ne_true), dataLt_int, decide_eq_false_iff_not] at k
      omega
  · exfalso
    have e2 : (PyData.str c).eqv (PyData.str a) = false := by simp [PyData.eqv, Ne.symm e]
    have e3 : (PyData.str a).eqv (PyData.str c) = false := by simp [PyData.eqv, e]
    rw [if_neg (by rw [e2]; exact Bool.false_ne_true), dataLt_str, decide_eq_false_iff_not] at h
    rw [if_neg (by rw [e3]; exact Bool.false_ne_true), dataLt_str, decide_eq_false_iff_not] at k
    exact e (str_of_cps (List.le_antisymm (List.not_lt.mp h) (List.not_lt.mp k)))
theorem srt_perm {l m : List Idn} (p : l.Perm m) : srt l = srt m :=
  pw_eq9 (r := fun a b => dle iD a b = true) (fun _ _ => dle_anti) (((sort_perm iD l).trans p).trans (sort_perm iD m).symm) (sort_pw iD l) (sort_pw iD m)
theorem val_mem {kvs : List (List L2.Key × V)} {ks : List Idn} (h : kvs.map (·.1) = ks.map ik) (x : Idn) : (valV kvs (ik x)).isSome = memB ks x := by
  rw [← valV_any]
  unfold memB
  have e1 : (kvs.any fun kv => decide (kv.1 = ik x)) = (kvs.map (·.1)).any fun k => decide (k = ik x) := by rw [List.any_map]; rfl
  rw [e1, h, List.any_map]; rfl
theorem RL.ofPairs {α : Type} {R : α → V → Prop} : ∀ {L : List (α × V)}, (∀ p ∈ L, R p.1 p.2) → RL R (L.map (·.1)) (L.map (·.2))
  | [], _ => rfl
  | p :: L, h => ⟨_, _, rfl, h p (by simp), RL.ofPairs fun q hq => h q (List.mem_cons_of_mem _ hq)⟩
theorem RL.pairs {α : Type} {R : α → V → Prop} : ∀ {xs : List α} {us : List V}, RL R xs us → ∃ L : List (α × V), L.map (·.1) = xs ∧ L.map (·.2) = us ∧ ∀ p ∈ L, R p.1 p.2
  | [], us, h => ⟨[], rfl, by have : us = [] := h; rw [this]; rfl, fun p h => by cases h⟩
  | x :: r, us, h => by
    obtain ⟨v, t, rfl, h1, h2⟩ := h
    obtain ⟨L, e1, e2, e3⟩ := RL.pairs h2
    refine ⟨(x, v) :: L, by rw [List.map_cons, e1], by rw [List.map_cons, e2], fun p hp => ?_⟩
    rcases List.mem_cons.mp hp with e | e
    · rw [e]; exact h1
    · exact e3 p e
end Z
namespace Z
open PySem L2 SX
/-! ### digits -/
def dg (c : Nat) : Bool := decide (48 ≤ c) && decide (c ≤ 57)
theorem dg_iff {c : Nat} : dg c = true ↔ 48 ≤ c ∧ c ≤ 57 := by unfold dg; rw [Bool.and_eq_true, decide_eq_true_iff, decide_eq_true_iff]
abbrev dv (d : List Nat) : Nat := NumText.digitsVal d
theorem dv_fold : ∀ (b : List Nat) (a : Nat), b.foldl (fun acc c => acc * 10 + (c - 48)) a = a * 10 ^ b.length + b.foldl (fun acc c => acc * 10 + (c - 48)) 0
  | [], a => by simp
  | c :: r, a => by
    rw [List.foldl_cons, List.foldl_cons, dv_fold r (a * 10 + (c - 48)), dv_fold r (0 * 10 + (c - 48)), List.length_cons, Nat.pow_succ, Nat.add_mul, Nat.mul_assoc, Nat.mul_comm 10 (10 ^ r.length), Nat.zero_mul, Nat.zero_add, Nat.add_assoc]
theorem dv_app (a b : List Nat) : dv (a ++ b) = dv a * 10 ^ b.length + dv b := by
  unfold dv NumText.digitsVal
  rw [List.foldl_append]; exact dv_fold b _
theorem dv_lt : ∀ {d : List Nat}, d.all dg = true → dv d < 10 ^ d.length
  | [], _ => by decide
  | c :: r, h => by
    rw [List.all_cons, Bool.and_eq_true] at h
    have h1 := dg_iff.mp h.1
    have ih := dv_lt h.2
    have e : dv (c :: r) = dv [c] * 10 ^ r.length + dv r := dv_app [c] r
    have e1 : dv [c] = c - 48 := by show 0 * 10 + (c - 48) = _; omega
    have le : dv [c] ≤ 9 := by omega
    have := Nat.mul_le_mul_right (10 ^ r.length) le
    rw [List.length_cons, Nat.pow_succ, e]; omega
theorem dv_nines : ∀ k : Nat, dv (List.replicate k 57) + 1 = 10 ^ k
  | 0 => by decide
  | k + 1 => by
    have e : dv (List.replicate (k + 1) 57) = dv [57] * 10 ^ (List.replicate k 57).length + dv (List.replicate k 57) := dv_app [57] (List.replicate k 57)
    have := dv_nines k
    rw [e, List.length_replicate, show dv [57] = 9 from rfl, Nat.pow_succ]; omega
def cap (d : List Nat) : Nat := dv ((d ++ List.replicate 6 57).take 6)
theorem cap_take {d : List Nat} (h : d.length ≤ 6) : (d ++ List.replicate 6 57).take 6 = d ++ List.replicate (6 - d.length) 57 := by
  rw [List.take_append, List.take_of_length_le h, List.take_replicate]
  congr 2; omega
theorem cap_eq {d : List Nat} (h : d.length ≤ 6) : cap d + 1 = (dv d + 1) * 10 ^ (6 - d.length) := by
  unfold cap
  rw [cap_take h, dv_app, List.length_replicate, Nat.add_assoc, dv_nines, Nat.add_mul, Nat.one_mul]
theorem dv_cap {d : List Nat} (h : d.length ≤ 6) : dv d ≤ cap d := by
  have e := cap_eq h
  have p : 1 ≤ 10 ^ (6 - d.length) := Nat.pow_pos (by decide)
  have := Nat.mul_le_mul_left (dv d + 1) p
  omega
def canB (d : List Nat) (L : Nat) : Bool := decide (d.length ≤ 6) && (decide (d.head? ≠ some 48) && (d.all dg && decide (L ≤ cap d)))
theorem can_iff {d : List Nat} {L : Nat} : canB d L = true ↔ d.length ≤ 6 ∧ d.head? ≠ some 48 ∧ d.all dg = true ∧ L ≤ cap d := by
  unfold canB
  rw [Bool.and_eq_true, Bool.and_eq_true, Bool.and_eq_true, decide_eq_true_iff, decide_eq_true_iff, decide_eq_true_iff]
theorem can_pre {p q : List Nat} {L : Nat} (h : canB (p ++ q) L = true) : canB p L = true := by
  obtain ⟨h1, h2, h3, h4⟩ := can_iff.mp h
  rw [List.all_append, Bool.and_eq_true] at h3
  have l1 : p.length + q.length ≤ 6 := by rw [List.length_append] at h1; exact h1
  refine can_iff.mpr ⟨by omega, fun e => h2 ?_, h3.1, Nat.le_trans h4 ?_⟩
  · cases p with
    | nil => cases e
    | cons c r => exact e
  · have e1 := cap_eq h1
    have e2 := cap_eq (d := p) (by omega)
    have lt := dv_lt h3.2
    rw [dv_app, List.length_append] at e1
    have e3 : 10 ^ (6 - p.length) = 10 ^ q.length * 10 ^ (6 - (p.length + q.length)) := by rw [← Nat.pow_add]; congr 1; omega
    rw [e3, ← Nat.mul_assoc] at e2
    have le : dv p * 10 ^ q.length + dv q + 1 ≤ (dv p + 1) * 10 ^ q.length := by rw [Nat.add_mul]; omega
    have := Nat.mul_le_mul_right (10 ^ (6 - (p.length + q.length))) le
    omega
theorem can_le {d : List Nat} {L : Nat} (h : canB d L = true) : L ≤ 999999 ∧ dv d ≤ 999999 := by
  obtain ⟨h1, _, h3, h4⟩ := can_iff.mp h
  have e := cap_eq h1
  have lt := dv_lt h3
  have e3 : 10 ^ 6 = 10 ^ d.length * 10 ^ (6 - d.length) := by rw [← Nat.pow_add]; congr 1; omega
  have := Nat.mul_le_mul_right (10 ^ (6 - d.length)) (show dv d + 1 ≤ 10 ^ d.length from lt)
  have e6 : (10 : Nat) ^ 6 = 1000000 := by decide
  have := dv_cap h1
  omega
theorem can_nil {L : Nat} (h : L ≤ 999999) : canB [] L = true := can_iff.mpr ⟨by decide, by decide, rfl, Nat.le_trans h (by decide)⟩
def numB (d : List Nat) (L : Nat) : Bool := decide (d ≠ []) && (canB d L && decide (L ≤ dv d))
theorem num_iff {d : List Nat} {L : Nat} : numB d L = true ↔ d ≠ [] ∧ canB d L = true ∧ L ≤ dv d := by
  unfold numB
  rw [Bool.and_eq_true, Bool.and_eq_true, decide_eq_true_iff, decide_eq_true_iff]
theorem num_false {d : List Nat} {L : Nat} (h : 999999 < L) : numB d L = false := by
  rw [Bool.eq_false_iff]
  intro k
  have := (can_le (num_iff.mp k).2.1).1
  omega
def numN (d : List Nat) (L : Nat) : Nat := if numB d L = true then dv d else 0
theorem num_back6 : ∀ (n : Nat) (d : List Nat), d.length = n → d.all dg = true → d ≠ [] → d.head? ≠ some 48 → TL.numL (dv d) = d := by
  intro n
  induction n with
  | zero => intro d hl _ ne _; exact absurd (List.length_eq_zero_iff.mp hl) ne
  | succ n ih =>
    intro d hl ha ne hz
    obtain ⟨e, c, rfl⟩ : ∃ e c, d = e ++ [c] := ⟨d.dropLast, d.getLast ne, (List.dropLast_concat_getLast ne).symm⟩
    rw [List.all_append] at ha
    obtain ⟨ha1, ha2⟩ := Bool.and_eq_true_iff.mp ha
    have hc : 48 ≤ c ∧ c ≤ 57 := dg_iff.mp (by simpa using ha2)
    have vs : dv (e ++ [c]) = dv e * 10 + (c - 48) := by
      have := dv_app e [c]
      rw [this]
      show dv e * 10 ^ 1 + (0 * 10 + (c - 48)) = _
      omega
    rw [vs]
    by_cases he : e = []
    · subst he
      show TL.numL (0 * 10 + (c - 48)) = [c]
      rw [TL.numL_lt (by omega)]
      congr 1; omega
    · have nz : e.head? ≠ some 48 := fun h => hz (by
        cases e with
        | nil => exact absurd rfl he
        | cons x r => exact h)
      have i := ih e (by rw [List.length_append] at hl; simp at hl; exact hl) ha1 he nz
      have p : 1 ≤ dv e := by
        rcases Nat.eq_zero_or_pos (dv e) with h | h
        · rw [h, TL.numL_lt (by decide)] at i
          rw [← i] at nz
          exact absurd rfl nz
        · exact h
      rw [TL.numL_step (by omega), show (dv e * 10 + (c - 48)) / 10 = dv e by omega, show (dv e * 10 + (c - 48)) % 10 = c - 48 by omega, i]
      congr 2; omega
theorem can_back {d : List Nat} {L : Nat} (h : canB d L = true) (ne : d ≠ []) : TL.numL (dv d) = d := by
  obtain ⟨_, h2, h3, _⟩ := can_iff.mp h
  exact num_back6 _ d rfl h3 ne h2
theorem numL_dg (n : Nat) : (TL.numL n).all dg = true := List.all_eq_true.mpr fun c hc => dg_iff.mpr (TL.numL_digits n c hc)
theorem numL_head : ∀ (n : Nat), 1 ≤ n → (TL.numL n).head? ≠ some 48 := by
  intro n
  induction n using Nat.strongRecOn with
  | _ n ih =>
    intro h1 h
    by_cases c : n < 10
    · rw [TL.numL_lt c] at h
      have : 48 + n = 48 := by simpa using h
      omega
    · rw [TL.numL_step (by omega)] at h
      refine ih (n / 10) (by omega) (by omega) ?_
      cases e : TL.numL (n / 10) with
      | nil => exact absurd e (TL.numL_ne _)
      | cons x r => rw [e] at h; exact h
theorem num_numL {n L : Nat} (h1 : 1 ≤ n) (h2 : n ≤ 999999) (h3 : L ≤ n) : numB (TL.numL n) L = true := by
  have len : (TL.numL n).length ≤ 6 := TL.numL_len (by decide) (by show n < 1000000; omega)
  have v : dv (TL.numL n) = n := TL.numL_val n
  refine num_iff.mpr ⟨TL.numL_ne n, can_iff.mpr ⟨len, numL_head n h1, numL_dg n, ?_⟩, by rw [v]; exact h3⟩
  have := dv_cap len
  rw [v] at this
  omega
/-! ### the reader -/
structure St67 where
  M : List (Nat × Nat)
  L : Nat
  d : List Nat
  f : Option Nat
def s067 : St67 := ⟨[], 1, [], none⟩
def stp (st : St67) (c : Nat) : Option St67 :=
  if dg c = true then (if canB (st.d ++ [c]) st.L = true then some { st with d := st.d ++ [c] } else none)
  else if c = 45 then (if st.f = none ∧ numB st.d st.L = true ∧ dv st.d < 999999 then some ⟨st.M, dv st.d + 1, [], some (dv st.d)⟩ else none)
  else if c = 44 ∧ numB st.d st.L = true ∧ dv st.d + 2 ≤ 999999 then some ⟨st.M ++ [(st.f.getD (dv st.d), dv st.d)], dv st.d + 2, [], none⟩ else none
def run67 : St67 → List Nat → Option St67
  | st, [] => some st
  | st, c :: r => (stp st c).bind fun s => run67 s r
def fin67 (st : St67) : Option (List (Nat × Nat)) := if numB st.d st.L = true then some (st.M ++ [(st.f.getD (dv st.d), dv st.d)]) else none
theorem run_app : ∀ (a b : List Nat) (st : St67), run67 st (a ++ b) = (run67 st a).bind fun s => run67 s b
  | [], b, st => rfl
  | c :: r, b, st => by
    show (stp st c).bind _ = ((stp st c).bind _).bind _
    cases stp st c with
    | none => rfl
    | some s => exact run_app r b s
theorem run_one (st : St67) (c : Nat) : run67 st [c] = stp st c := by
  show (stp st c).bind some = _
  cases stp st c <;> rfl
theorem run_pre {a b : List Nat} {st : St67} (h : (run67 st (a ++ b)).isSome = true) : (run67 st a).isSome = true := by
  rw [run_app] at h
  cases e : run67 st a with
  | none => rw [e] at h; cases h
  | some s => rfl
structure GSt (st : St67) : Prop where
  can : canB st.d st.L = true
  lo : 1 ≤ st.L
theorem stp_g {st s : St67} {c : Nat} (g : GSt st) (h : stp st c = some s) : GSt s := by
  unfold stp at h
  split at h
  · split at h
    · rename_i k; cases h; exact ⟨k, g.lo⟩
    · cases h
  · split at h
    · split at h
      · rename_i k; cases h; exact ⟨can_nil (by show _ + 1 ≤ _; omega), by show 1 ≤ _ + 1; omega⟩
      · cases h
    · split at h
      · rename_i k; cases h; exact ⟨can_nil (by show _ + 2 ≤ _; omega), by show 1 ≤ _ + 2; omega⟩
      · cases h
theorem s067_g : GSt s067 := ⟨can_nil (by decide), by decide⟩
theorem run_g : ∀ {l : List Nat} {st s : St67}, GSt st → run67 st l = some s → GSt s
  | [], st, s, g, h => by cases h; exact g
  | c :: r, st, s, g, h => by
    have h : (stp st c).bind _ = some s := h
    cases e : stp st c with
    | none => rw [e] at h; cases h
    | some t => rw [e] at h; exact run_g (stp_g g e) h
theorem run_dig : ∀ (e : List Nat) (st : St67), 44 ∉ e → 45 ∉ e → canB st.d st.L = true → run67 st e = if canB (st.d ++ e) st.L = true then some { st with d := st.d ++ e } else none
  | [], st, _, _, g => by rw [List.append_nil, if_pos g]; rfl
  | c :: r, st, n1, n2, g => by
    have c1 : c ≠ 44 := fun e => n1 (by rw [e]; exact List.mem_cons_self)
    have c2 : c ≠ 45 := fun e => n2 (by rw [e]; exact List.mem_cons_self)
    have e1 : st.d ++ c :: r = (st.d ++ [c]) ++ r := by rw [List.append_assoc]; rfl
    show (stp st c).bind _ = _
    unfold stp
    by_cases k : dg c = true
    · rw [if_pos k]
      by_cases k2 : canB (st.d ++ [c]) st.L = true
      · rw [if_pos k2, e1]
        exact run_dig r { st with d := st.d ++ [c] } (fun m => n1 (List.mem_cons_of_mem _ m)) (fun m => n2 (List.mem_cons_of_mem _ m)) k2
      · rw [if_neg k2, if_neg (fun z => k2 (can_pre (by rw [← e1]; exact z)))]; rfl
    · rw [if_neg k, if_neg c2, if_neg (fun z => c1 z.1), if_neg (fun z => k ?_)]
      · rfl
      · exact List.all_eq_true.mp (can_iff.mp z).2.2.1 c (by simp)
theorem cut1 (s : Nat) : ∀ l : List Nat, s ∉ l ∨ ∃ p r, l = p ++ s :: r ∧ s ∉ p
  | [] => .inl (by simp)
  | c :: l => by
    by_cases k : c = s
    · exact .inr ⟨[], l, by rw [k]; rfl, by simp⟩
    · rcases cut1 s l with h | ⟨p, r, h, n⟩
      · exact .inl (by simp [h, Ne.symm k])
      · exact .inr ⟨c :: p, r, by rw [h]; rfl, by simp [n, Ne.symm k]⟩
theorem spl1 {s : Nat} {l : List Nat} (h : s ∉ l) : TL.spl [s] 0 [] l = [l] := by rw [TL.spl_last1 h, List.nil_append]
theorem spl2 {s : Nat} {p r : List Nat} (h : s ∉ p) : TL.spl [s] 0 [] (p ++ s :: r) = p :: TL.spl [s] 0 [] r := by
  have := TL.spl_part1 (s := s) (S := []) (p := p) (rest := r) (acc := []) h
  rw [List.nil_append] at this
  exact this
theorem spl_nn (s : Nat) (l : List Nat) : TL.spl [s] 0 [] l ≠ [] := by
  rcases cut1 s l with h | ⟨p, r, rfl, h⟩
  · rw [spl1 h]; simp
  · rw [spl2 h]; simp
/-- the words of a text, and the text again -/
theorem join67 (s : Nat) : ∀ (n : Nat) (l : List Nat), l.length ≤ n → TL.joinL [s] (TL.spl [s] 0 [] l) = l ∧ ∀ w ∈ TL.spl [s] 0 [] l, s ∉ w ∧ w.length ≤ l.length := by
  intro n
  induction n with
  | zero =>
    intro l hl
    obtain rfl := List.length_eq_zero_iff.mp (Nat.le_zero.mp hl)
    rw [spl1 (by simp)]
    exact ⟨rfl, fun w hw => by rw [List.mem_singleton.mp hw]; simp⟩
  | succ n ih =>
    intro l hl
    rcases cut1 s l with h | ⟨p, r, rfl, h⟩
    · rw [spl1 h]; exact ⟨rfl, fun w hw => by rw [List.mem_singleton.mp hw]; exact ⟨h, Nat.le_refl _⟩⟩
    · rw [List.length_append, List.length_cons] at hl
      obtain ⟨i1, i2⟩ := ih r (by omega)
      rw [spl2 h]
      refine ⟨?_, fun w hw => ?_⟩
      · cases e : TL.spl [s] 0 [] r with
        | nil => exact absurd e (spl_nn s r)
        | cons q t => rw [e] at i1; show p ++ ([s] ++ TL.joinL [s] (q :: t)) = _; rw [i1]; rfl
      · rw [List.length_append, List.length_cons]
        rcases List.mem_cons.mp hw with e | hw
        · rw [e]; exact ⟨h, by omega⟩
        · exact ⟨(i2 w hw).1, by have := (i2 w hw).2; omega⟩
/-! ### one word -/
def tailS (M : List (Nat × Nat)) (L : Nat) (t : List Nat) : Option St67 := match TL.spl [45] 0 [] t with
  | [e] => if canB e L = true then some ⟨M, L, e, none⟩ else none
  | [a, b] => if numB a L = true ∧ canB b (dv a + 1) = true then some ⟨M, dv a + 1, b, some (dv a)⟩ else none
  | _ => none
theorem not_mem_app {α : Type} {x : α} {a b : List α} (h : x ∉ a ++ b) : x ∉ a ∧ x ∉ b := ⟨fun m => h (List.mem_append_left _ m), fun m => h (List.mem_append_right _ m)⟩
theorem tail_run {M : List (Nat × Nat)} {L : Nat} {t : List Nat} (n4 : 44 ∉ t) (h2 : L ≤ 999999) : run67 ⟨M, L, [], none⟩ t = tailS M L t := by
  unfold tailS
  rcases cut1 45 t with h | ⟨a, r, rfl, h⟩
  · rw [spl1 h, run_dig t _ n4 h (can_nil h2)]; rfl
  · obtain ⟨n1, n3⟩ := not_mem_app n4
    have n2 : 44 ∉ r := fun m => n3 (List.mem_cons_of_mem _ m)
    rw [spl2 h, run_app, run_dig a _ n1 h (can_nil h2)]
    show Option.bind (if canB a L = true then some (⟨M, L, a, none⟩ : St67) else none) _ = _
    have go : ∀ X : Option St67, (numB a L = true → canB [] (dv a + 1) = true → run67 ⟨M, dv a + 1, [], some (dv a)⟩ r = X) → (¬ (numB a L = true ∧ dv a < 999999) → X = none) → (Option.bind (if canB a L = true then some (⟨M, L, a, none⟩ : St67) else none) fun s => run67 s (45 :: r)) = X := fun X k1 k2 => by
      by_cases c : canB a L = true
      · rw [if_pos c]
        show (stp ⟨M, L, a, none⟩ 45).bind _ = X
        unfold stp
        rw [if_neg (by decide), if_pos rfl]
        by_cases c2 : numB a L = true ∧ dv a < 999999
        · rw [if_pos ⟨rfl, c2⟩]
          exact k1 c2.1 (can_nil (by omega))
        · rw [if_neg (fun z => c2 z.2), k2 c2]; rfl
      · rw [if_neg c, k2 (fun z => c (num_iff.mp z.1).2.1)]; rfl
    refine go _ (fun c1 c2 => ?_) fun c => ?_
    · rcases cut1 45 r with k | ⟨b, q, rfl, k⟩
      · rw [spl1 k, run_dig r _ n2 k c2]
        show (if canB ([] ++ r) (dv a + 1) = true then _ else _) = _
        rw [List.nil_append]
        by_cases z : canB r (dv a + 1) = true
        · rw [if_pos z]; exact (if_pos (⟨c1, z⟩ : numB a L = true ∧ canB r (dv a + 1) = true)).symm
        · rw [if_neg z]; exact (if_neg (fun y : numB a L = true ∧ canB r (dv a + 1) = true => z y.2)).symm
      · obtain ⟨n5, _⟩ := not_mem_app n2
        rw [spl2 k, run_app, run_dig b _ n5 k c2]
        cases e : TL.spl [45] 0 [] q with
        | nil => exact absurd e (spl_nn _ _)
        | cons x y =>
          show _ = none
          by_cases z : canB ([] ++ b) (dv a + 1) = true
          · rw [if_pos z]
            show (stp ⟨M, dv a + 1, [] ++ b, some (dv a)⟩ 45).bind (fun s => run67 s q) = none
            unfold stp
            rw [if_neg (by decide), if_pos rfl, if_neg (fun y => by cases y.1)]; rfl
          · rw [if_neg z]; rfl
    · cases e : TL.spl [45] 0 [] r with
      | nil => exact absurd e (spl_nn _ _)
      | cons x y =>
        cases y with
        | nil =>
          show (if numB a L = true ∧ canB x (dv a + 1) = true then _ else none) = none
          rw [if_neg (fun z => c ⟨z.1, by have := (can_le z.2).1; omega⟩)]
        | cons _ _ => rfl
def tailB (L : Nat) (t : List Nat) : Bool := match TL.spl [45] 0 [] t with
  | [e] => canB e L
  | [a, b] => numB a L && canB b (dv a + 1)
  | _ => false
theorem tail_some (M : List (Nat × Nat)) (L : Nat) (t : List Nat) : (tailS M L t).isSome = tailB L t := by
  unfold tailS tailB
  cases TL.spl [45] 0 [] t with
  | nil => rfl
  | cons a r =>
    cases r with
    | nil =>
      show (if canB a L = true then _ else _ : Option St67).isSome = canB a L
      by_cases c : canB a L = true
      · rw [if_pos c, c]; rfl
      · rw [if_neg c]; simpa using c
    | cons b r =>
      cases r with
      | nil =>
        show (if numB a L = true ∧ canB b (dv a + 1) = true then _ else _ : Option St67).isSome = (numB a L && canB b (dv a + 1))
        by_cases c : numB a L = true ∧ canB b (dv a + 1) = true
        · rw [if_pos c, c.1, c.2]; rfl
        · rw [if_neg c]
          have : ¬ (numB a L && canB b (dv a + 1)) = true := fun z => c (Bool.and_eq_true_iff.mp z)
          simpa using this
      | cons _ _ => rfl
theorem tail_big {L : Nat} {t : List Nat} (h : 999999 < L) : tailB L t = false := by
  unfold tailB
  split
  · rw [Bool.eq_false_iff]; intro k; have := (can_le k).1; omega
  · rw [num_false h]; rfl
  · rfl
def wordW (L : Nat) (w : List Nat) : Option (Nat × Nat) := match TL.spl [45] 0 [] w with
  | [a] => if numB a L = true then some (dv a, dv a) else none
  | [a, b] => if numB a L = true ∧ numB b (dv a + 1) = true then some (dv a, dv b) else none
  | _ => none
def wholeW : Nat → List (List Nat) → Option (List (Nat × Nat))
  | _, [] => some []
  | L, w :: ws => (wordW L w).bind fun p => (wholeW (p.2 + 2) ws).map fun m => p :: m
def whole67 (t : List Nat) : Option (List (Nat × Nat)) := if t = [] then some [] else wholeW 1 (TL.spl [44] 0 [] t)
theorem word_big {L : Nat} {w : List Nat} (h : 999999 < L) : wordW L w = none := by
  unfold wordW
  split
  · rw [num_false h]; rfl
  · rw [num_false h, if_neg (fun z => by cases z.1)]
  · rfl
theorem tailS_M {M : List (Nat × Nat)} {L : Nat} {t : List Nat} {s : St67} (h : tailS M L t = some s) : s.M = M := by
  unfold tailS at h
  split at h
  · split at h
    · cases h; rfl
    · cases h
  · split at h
    · cases h; rfl
    · cases h
  · cases h
theorem word_fin {M : List (Nat × Nat)} {L : Nat} {w : List Nat} : (tailS M L w).bind fin67 = (wordW L w).map fun p => M ++ [p] := by
  unfold tailS wordW
  cases TL.spl [45] 0 [] w with
  | nil => rfl
  | cons a r =>
    cases r with
    | nil =>
      show Option.bind (if canB a L = true then some ⟨M, L, a, none⟩ else none) fin67 = Option.map _ (if numB a L = true then some (dv a, dv a) else none)
      by_cases c : numB a L = true
      · rw [if_pos c, if_pos (num_iff.mp c).2.1]
        show (if numB a L = true then _ else _) = _
        rw [if_pos c]; rfl
      · rw [if_neg c]
        by_cases c2 : canB a L = true
        · rw [if_pos c2]
          show (if numB a L = true then _ else _) = _
          rw [if_neg c]; rfl
        · rw [if_neg c2]; rfl
    | cons b r =>
      cases r with
      | nil =>
        show Option.bind (if numB a L = true ∧ canB b (dv a + 1) = true then some ⟨M, dv a + 1, b, some (dv a)⟩ else none) fin67 = Option.map _ (if numB a L = true ∧ numB b (dv a + 1) = true then some (dv a, dv b) else none)
        by_cases c : numB a L = true ∧ numB b (dv a + 1) = true
        · rw [if_pos c, if_pos ⟨c.1, (num_iff.mp c.2).2.1⟩]
          show (if numB b (dv a + 1) = true then _ else _) = _
          rw [if_pos c.2]; rfl
        · rw [if_neg c]
          by_cases c2 : numB a L = true ∧ canB b (dv a + 1) = true
          · rw [if_pos c2]
            show (if numB b (dv a + 1) = true then _ else _) = _
            rw [if_neg (fun z => c ⟨c2.1, z⟩)]; rfl
          · rw [if_neg c2]; rfl
      | cons _ _ => rfl
theorem run_words : ∀ (ws : List (List Nat)) (M : List (Nat × Nat)) (L : Nat), ws ≠ [] → (∀ w ∈ ws, 44 ∉ w) → L ≤ 999999 → (run67 ⟨M, L, [], none⟩ (TL.joinL [44] ws)).bind fin67 = (wholeW L ws).map fun m => M ++ m
  | [], _, _, h, _, _ => absurd rfl h
  | [w], M, L, _, hw, hL => by
    show (run67 ⟨M, L, [], none⟩ w).bind fin67 = Option.map _ ((wordW L w).bind fun p => some [p])
    rw [tail_run (hw w (by simp)) hL, word_fin]
    cases wordW L w <;> rfl
  | w :: w2 :: r, M, L, _, hw, hL => by
    show (run67 ⟨M, L, [], none⟩ (w ++ ([44] ++ TL.joinL [44] (w2 :: r)))).bind fin67 = Option.map _ ((wordW L w).bind fun p => (wholeW (p.2 + 2) (w2 :: r)).map fun m => p :: m)
    rw [run_app, tail_run (hw w (by simp)) hL]
    have wf := word_fin (M := M) (L := L) (w := w)
    cases e : tailS M L w with
    | none =>
      rw [e] at wf
      cases e2 : wordW L w with
      | none => rfl
      | some p => rw [e2] at wf; cases wf
    | some s =>
      have sM := tailS_M e
      rw [e] at wf
      have wf : fin67 s = _ := wf
      show ((stp s 44).bind fun s => run67 s (TL.joinL [44] (w2 :: r))).bind fin67 = _
      unfold fin67 at wf
      unfold stp
      rw [if_neg (by decide), if_neg (by decide)]
      by_cases c : numB s.d s.L = true
      · rw [if_pos c, sM] at wf
        cases e2 : wordW L w with
        | none => rw [e2] at wf; cases wf
        | some p =>
          rw [e2] at wf
          have wf : some (M ++ [(s.f.getD (dv s.d), dv s.d)]) = some (M ++ [p]) := wf
          have ep : (s.f.getD (dv s.d), dv s.d) = p := by
            have := List.append_cancel_left (Option.some.inj wf)
            exact (List.cons.inj this).1
          have e2' : dv s.d = p.2 := by rw [← ep]
          show _ = Option.map _ ((wholeW (p.2 + 2) (w2 :: r)).map fun m => p :: m)
          by_cases k : dv s.d + 2 ≤ 999999
          · rw [if_pos ⟨rfl, c, k⟩]
            show (run67 ⟨s.M ++ [(s.f.getD (dv s.d), dv s.d)], dv s.d + 2, [], none⟩ (TL.joinL [44] (w2 :: r))).bind fin67 = _
            rw [ep, sM, run_words (w2 :: r) (M ++ [p]) (dv s.d + 2) (by simp) (fun x hx => hw x (List.mem_cons_of_mem _ hx)) k, e2']
            cases wholeW (p.2 + 2) (w2 :: r) with
            | none => rfl
            | some m => simp
          · rw [if_neg (fun z => k z.2.2)]
            show _ = Option.map _ (Option.map _ ((wordW (p.2 + 2) w2).bind _))
            rw [word_big (by omega)]; rfl
      · rw [if_neg c] at wf
        rw [if_neg (fun z => c z.2.1)]
        cases e2 : wordW L w with
        | none => rfl
        | some p => rw [e2] at wf; cases wf
theorem whole_run {t : List Nat} (h : t ≠ []) : whole67 t = (run67 s067 t).bind fin67 := by
  obtain ⟨j1, j2⟩ := join67 44 _ t (Nat.le_refl _)
  have := run_words (TL.spl [44] 0 [] t) [] 1 (spl_nn _ _) (fun w hw => (j2 w hw).1) (by decide)
  rw [j1] at this
  unfold whole67
  rw [if_neg h]
  show _ = (run67 ⟨[], 1, [], none⟩ t).bind fin67
  rw [this]
  cases wholeW 1 (TL.spl [44] 0 [] t) <;> rfl
theorem beg_last {h t : List Nat} (n4 : 44 ∉ t) : (run67 s067 (h ++ 44 :: t)).isSome = (match whole67 h with
  | none => false
  | some ms => match ms.getLast? with
    | none => false
    | some q => tailB (q.2 + 2) t) := by
  rw [run_app]
  by_cases e : h = []
  · subst e; rfl
  · rw [whole_run e]
    cases run67 s067 h with
    | none => rfl
    | some s =>
      show ((stp s 44).bind fun s => run67 s t).isSome = (match fin67 s with | none => false | some ms => match ms.getLast? with | none => false | some q => tailB (q.2 + 2) t)
      unfold stp fin67
      rw [if_neg (by decide), if_neg (by decide)]
      by_cases c : numB s.d s.L = true
      · rw [if_pos c]
        show _ = (match (s.M ++ [(s.f.getD (dv s.d), dv s.d)]).getLast? with | none => false | some q => tailB (q.2 + 2) t)
        rw [List.getLast?_concat]
        show _ = tailB (dv s.d + 2) t
        by_cases k : dv s.d + 2 ≤ 999999
        · rw [if_pos ⟨rfl, c, k⟩]
          show (run67 ⟨_, dv s.d + 2, [], none⟩ t).isSome = _
          rw [tail_run n4 k, tail_some]
        · rw [if_neg (fun z => k z.2.2), tail_big (by omega)]; rfl
      · rw [if_neg c, if_neg (fun z => c z.2.1)]; rfl
theorem beg_one {t : List Nat} (n4 : 44 ∉ t) : (run67 s067 t).isSome = tailB 1 t := by
  show (run67 ⟨[], 1, [], none⟩ t).isSome = _
  rw [tail_run n4 (by decide), tail_some]
/-! ### where a text goes wrong -/
def BadAt (l : List Nat) (k : Nat) : Prop := (∀ i, i < k → (run67 s067 (l.take (i + 1))).isSome = true) ∧ k ≤ l.length ∧ (k < l.length → run67 s067 (l.take (k + 1)) = none)
theorem BadAt.one {l : List Nat} {j k : Nat} (a : BadAt l j) (b : BadAt l k) : j = k := by
  have key : ∀ {j k : Nat}, BadAt l j → BadAt l k → ¬ j < k := fun {j k} a b h => by
    have h1 := b.1 j h
    rw [a.2.2 (by have := b.2.1; omega)] at h1
    cases h1
  have := key a b
  have := key b a
  omega
theorem run_take {l : List Nat} {i : Nat} {s : St67} (h : run67 s067 (l.take i) = some s) : ∀ j, j < i → (run67 s067 (l.take (j + 1))).isSome = true := fun j hj => by
  have e : l.take i = l.take (j + 1) ++ (l.take i).drop (j + 1) := by
    have := List.take_append_drop (j + 1) (l.take i)
    rw [List.take_take, Nat.min_eq_left (by omega)] at this
    exact this.symm
  refine run_pre (b := (l.take i).drop (j + 1)) ?_
  rw [← e, h]; rfl
theorem run_step {l : List Nat} {i c : Nat} {s : St67} (h : run67 s067 (l.take i) = some s) (hc : l[i]? = some c) : run67 s067 (l.take (i + 1)) = stp s c := by
  rw [List.take_add_one, hc, run_app, h]
  exact run_one s c
theorem BadAt.of {l : List Nat} {i c : Nat} {s : St67} (h : run67 s067 (l.take i) = some s) (hc : l[i]? = some c) (n : stp s c = none) : BadAt l i ∧ run67 s067 l = none := by
  have il := (List.getElem?_eq_some_iff.mp hc).1
  have e := run_step h hc
  rw [n] at e
  refine ⟨⟨run_take h, by omega, fun _ => e⟩, ?_⟩
  cases q : run67 s067 l with
  | none => rfl
  | some t =>
    have := run_take (l := l) (i := l.length) (s := t) (by rw [List.take_length]; exact q) i il
    rw [e] at this; cases this
theorem BadAt.full {l : List Nat} {s : St67} (h : run67 s067 l = some s) : BadAt l l.length :=
  ⟨run_take (s := s) (by rw [List.take_length]; exact h), Nat.le_refl _, fun h => by omega⟩
/-! ### writing -/
def wordL (p : Nat × Nat) : List Nat := if p.1 = p.2 then TL.numL p.1 else TL.numL p.1 ++ 45 :: TL.numL p.2
def textL (m : List (Nat × Nat)) : List Nat := TL.joinL [44] (m.map wordL)
theorem word_back {L : Nat} {w : List Nat} {p : Nat × Nat} (h : wordW L w = some p) : w = wordL p := by
  unfold wordW at h
  rcases cut1 45 w with k | ⟨a, r, rfl, k⟩
  · rw [spl1 k] at h
    have h : (if numB w L = true then some (dv w, dv w) else none) = some p := h
    split at h
    · rename_i c
      cases h
      unfold wordL
      obtain ⟨c1, c2, _⟩ := num_iff.mp c
      rw [if_pos rfl, can_back c2 c1]
    · cases h
  · rw [spl2 k] at h
    rcases cut1 45 r with k2 | ⟨b, q, rfl, k2⟩
    · rw [spl1 k2] at h
      have h : (if numB a L = true ∧ numB r (dv a + 1) = true then some (dv a, dv r) else none) = some p := h
      split at h
      · rename_i c
        cases h
        obtain ⟨c1, c2, _⟩ := num_iff.mp c.1
        obtain ⟨c3, c4, c5⟩ := num_iff.mp c.2
        unfold wordL
        rw [if_neg (by show ¬ dv a = dv r; omega), can_back c2 c1, can_back c4 c3]
      · cases h
    · rw [spl2 k2] at h
      cases e : TL.spl [45] 0 [] q with
      | nil => exact absurd e (spl_nn _ _)
      | cons x y => rw [e] at h; cases h
theorem words_back : ∀ {ws : List (List Nat)} {L : Nat} {m : List (Nat × Nat)}, wholeW L ws = some m → ws = m.map wordL
  | [], _, _, h => by cases h; rfl
  | w :: ws, L, m, h => by
    have h : ((wordW L w).bind fun p => (wholeW (p.2 + 2) ws).map fun m => p :: m) = some m := h
    cases e : wordW L w with
    | none => rw [e] at h; cases h
    | some p =>
      rw [e] at h
      have h : (wholeW (p.2 + 2) ws).map (fun m => p :: m) = some m := h
      cases e2 : wholeW (p.2 + 2) ws with
      | none => rw [e2] at h; cases h
      | some m' =>
        rw [e2] at h
        cases h
        rw [List.map_cons, ← word_back e, ← words_back e2]
theorem whole_back {t : List Nat} {m : List (Nat × Nat)} (h : whole67 t = some m) : t = textL m := by
  unfold whole67 at h
  split at h
  · rename_i c; cases h; rw [c]; rfl
  · have := words_back h
    unfold textL
    rw [← this, (join67 44 _ t (Nat.le_refl _)).1]
def GoodL : Nat → List (Nat × Nat) → Prop
  | _, [] => True
  | L, p :: r => L ≤ p.1 ∧ p.1 ≤ p.2 ∧ p.2 ≤ 999999 ∧ GoodL (p.2 + 2) r
theorem numL_no {n s : Nat} (h : s < 48 ∨ 57 < s) : s ∉ TL.numL n := TL.numL_free h
theorem word_wordL {L : Nat} {p : Nat × Nat} (h0 : 1 ≤ L) (h1 : L ≤ p.1) (h2 : p.1 ≤ p.2) (h3 : p.2 ≤ 999999) : wordW L (wordL p) = some p := by
  unfold wordW wordL
  have v1 : dv (TL.numL p.1) = p.1 := TL.numL_val _
  have v2 : dv (TL.numL p.2) = p.2 := TL.numL_val _
  by_cases c : p.1 = p.2
  · rw [if_pos c, spl1 (numL_no (.inl (by decide)))]
    show (if numB (TL.numL p.1) L = true then some (dv (TL.numL p.1), dv (TL.numL p.1)) else none) = some p
    rw [if_pos (num_numL (by omega) (by omega) h1), v1]
    exact congrArg some (Prod.ext rfl c)
  · rw [if_neg c, spl2 (numL_no (.inl (by decide))), spl1 (numL_no (.inl (by decide)))]
    show (if numB (TL.numL p.1) L = true ∧ numB (TL.numL p.2) (dv (TL.numL p.1) + 1) = true then some (dv (TL.numL p.1), dv (TL.numL p.2)) else none) = some p
    rw [v1, v2, if_pos ⟨num_numL (by omega) (by omega) h1, num_numL (by omega) h3 (by omega)⟩]
theorem words_wordL : ∀ {m : List (Nat × Nat)} {L : Nat}, 1 ≤ L → GoodL L m → wholeW L (m.map wordL) = some m
  | [], _, _, _ => rfl
  | p :: m, L, h0, ⟨h1, h2, h3, h4⟩ => by
    show ((wordW L (wordL p)).bind fun q => (wholeW (q.2 + 2) (m.map wordL)).map fun m => q :: m) = _
    rw [word_wordL h0 h1 h2 h3]
    show (wholeW (p.2 + 2) (m.map wordL)).map _ = _
    rw [words_wordL (by omega) h4]; rfl
theorem wordL_no (p : Nat × Nat) : 44 ∉ wordL p := by
  unfold wordL
  split
  · exact numL_no (.inl (by decide))
  · intro m
    rcases List.mem_append.mp m with m | m
    · exact numL_no (.inl (by decide)) m
    · rcases List.mem_cons.mp m with m | m
      · cases m
      · exact numL_no (.inl (by decide)) m
theorem wordL_ne (p : Nat × Nat) : wordL p ≠ [] := by
  unfold wordL
  split
  · exact TL.numL_ne _
  · intro e
    exact TL.numL_ne p.1 (List.append_eq_nil_iff.mp e).1
theorem whole_text {m : List (Nat × Nat)} (h : GoodL 1 m) : whole67 (textL m) = some m := by
  unfold whole67 textL
  cases m with
  | nil => rfl
  | cons p m =>
    have ne : (p :: m).map wordL ≠ [] := by simp
    have e := TL.spl_join (s := 44) (S := []) ne (fun w hw => by
      obtain ⟨q, _, rfl⟩ := List.mem_map.mp hw
      exact wordL_no q)
    have tn : TL.joinL [44] ((p :: m).map wordL) ≠ [] := fun z => by
      rw [z, spl1 (by simp)] at e
      have := (List.cons.inj e).1
      exact wordL_ne p this.symm
    rw [if_neg tn, e, words_wordL (by decide) h]
/-- read the other way round -/
theorem good_iff : ∀ {m : List (Nat × Nat)} {L : Nat}, GoodL L m ↔ (∀ p ∈ m, L ≤ p.1 ∧ p.1 ≤ p.2 ∧ p.2 ≤ 999999) ∧ m.Pairwise fun p q => p.2 + 2 ≤ q.1
  | [], _ => ⟨fun _ => ⟨fun _ h => (by cases h), List.Pairwise.nil⟩, fun _ => trivial⟩
  | p :: m, L => by
    constructor
    · rintro ⟨h1, h2, h3, h4⟩
      obtain ⟨k1, k2⟩ := good_iff.mp h4
      exact ⟨fun q hq => (List.mem_cons.mp hq).elim (fun e => by rw [e]; exact ⟨h1, h2, h3⟩) fun hq => ⟨by have := k1 q hq; omega, (k1 q hq).2⟩, List.pairwise_cons.mpr ⟨fun q hq => (k1 q hq).1, k2⟩⟩
    · rintro ⟨k1, k2⟩
      obtain ⟨k2, k3⟩ := List.pairwise_cons.mp k2
      obtain ⟨h1, h2, h3⟩ := k1 p (by simp)
      exact ⟨h1, h2, h3, good_iff.mpr ⟨fun q hq => ⟨k2 q hq, (k1 q (List.mem_cons_of_mem _ hq)).2⟩, k3⟩⟩
def flip67 (p : Nat × Nat) : Nat × Nat := (1000000 - p.2, 1000000 - p.1)
theorem good_rev {m : List (Nat × Nat)} (h : GoodL 1 m) : GoodL 1 (m.reverse.map flip67) := by
  obtain ⟨k1, k2⟩ := good_iff.mp h
  refine good_iff.mpr ⟨fun q hq => ?_, ?_⟩
  · obtain ⟨p, hp, rfl⟩ := List.mem_map.mp hq
    have := k1 p (List.mem_reverse.mp hp)
    unfold flip67
    show 1 ≤ 1000000 - p.2 ∧ 1000000 - p.2 ≤ 1000000 - p.1 ∧ 1000000 - p.1 ≤ 999999
    omega
  · refine List.pairwise_map.mpr (List.Pairwise.imp_of_mem (R := fun p q => q.2 + 2 ≤ p.1) (fun {p q} hp hq r => ?_) (List.pairwise_reverse.mpr k2))
    have h1 := k1 p (List.mem_reverse.mp hp)
    have h2 := k1 q (List.mem_reverse.mp hq)
    unfold flip67
    show 1000000 - p.1 + 2 ≤ 1000000 - q.2
    omega
theorem good_snoc {m : List (Nat × Nat)} {x y : Nat} (h : GoodL 1 m) (k : ∀ p ∈ m, p.2 + 2 ≤ x) (h1 : 1 ≤ x) (h2 : x ≤ y) (h3 : y ≤ 999999) : GoodL 1 (m ++ [(x, y)]) := by
  obtain ⟨k1, k2⟩ := good_iff.mp h
  refine good_iff.mpr ⟨fun q hq => (List.mem_append.mp hq).elim (k1 q) fun hq => by rw [List.mem_singleton.mp hq]; exact ⟨h1, h2, h3⟩, List.pairwise_append.mpr ⟨k2, by simp, fun p hp q hq => by rw [List.mem_singleton.mp hq]; exact k p hp⟩⟩
end Z
namespace Z
open PySem L2 SX
abbrev Mks := List (Nat × Nat)
def inM (m : Mks) (n : Nat) : Prop := ∃ p ∈ m, p.1 ≤ n ∧ n ≤ p.2
theorem inM_nil {n : Nat} : ¬ inM [] n := fun ⟨_, h, _⟩ => by cases h
theorem inM_app {a b : Mks} {n : Nat} : inM (a ++ b) n ↔ inM a n ∨ inM b n := by
  constructor
  · rintro ⟨p, hp, h⟩
    exact (List.mem_append.mp hp).imp (fun k => ⟨p, k, h⟩) fun k => ⟨p, k, h⟩
  · rintro (⟨p, hp, h⟩ | ⟨p, hp, h⟩)
    · exact ⟨p, List.mem_append_left _ hp, h⟩
    · exact ⟨p, List.mem_append_right _ hp, h⟩
theorem inM_one {p : Nat × Nat} {n : Nat} : inM [p] n ↔ p.1 ≤ n ∧ n ≤ p.2 :=
  ⟨fun ⟨q, hq, h⟩ => by rw [List.mem_singleton.mp hq] at h; exact h, fun h => ⟨p, by simp, h⟩⟩
theorem inM_cons {p : Nat × Nat} {m : Mks} {n : Nat} : inM (p :: m) n ↔ (p.1 ≤ n ∧ n ≤ p.2) ∨ inM m n := by
  rw [show p :: m = [p] ++ m from rfl, inM_app, inM_one]
def inB (m : Mks) (n : Nat) : Bool := m.any fun p => decide (p.1 ≤ n) && decide (n ≤ p.2)
theorem inB_iff {m : Mks} {n : Nat} : inB m n = true ↔ inM m n := by
  unfold inB inM
  rw [List.any_eq_true]
  refine exists_congr fun p => and_congr Iff.rfl ?_
  rw [Bool.and_eq_true, decide_eq_true_iff, decide_eq_true_iff]
theorem inB_no {m : Mks} {n : Nat} : inB m n = false ↔ ¬ inM m n := by rw [← inB_iff, Bool.not_eq_true]
theorem good_lo {m : Mks} {L n : Nat} (g : GoodL L m) (h : inM m n) : L ≤ n := by
  obtain ⟨p, hp, h1, _⟩ := h
  have := ((good_iff.mp g).1 p hp).1
  omega
theorem good_hi {m : Mks} {L n : Nat} (g : GoodL L m) (h : inM m n) : n ≤ 999999 := by
  obtain ⟨p, hp, _, h2⟩ := h
  have := ((good_iff.mp g).1 p hp).2.2
  omega
theorem good_head {m : Mks} {L : Nat} {p : Nat × Nat} (g : GoodL L (p :: m)) {n : Nat} (h : inM (p :: m) n) : p.1 ≤ n := by
  rcases inM_cons.mp h with h | h
  · exact h.1
  · have := good_lo g.2.2.2 h
    have := g.2.1
    omega
theorem good_uniq : ∀ {m m' : Mks} {L L' : Nat}, GoodL L m → GoodL L' m' → (∀ n, inM m n ↔ inM m' n) → m = m'
  | [], [], _, _, _, _, _ => rfl
  | [], q :: r, _, _, _, g', h => absurd ((h q.1).mpr (inM_cons.mpr (.inl ⟨Nat.le_refl _, g'.2.1⟩))) inM_nil
  | p :: r, [], _, _, g, _, h => absurd ((h p.1).mp (inM_cons.mpr (.inl ⟨Nat.le_refl _, g.2.1⟩))) inM_nil
  | p :: r, q :: r', L, L', g, g', h => by
    have e1 : p.1 = q.1 := by
      have h1 := good_head g' ((h p.1).mp (inM_cons.mpr (.inl ⟨Nat.le_refl _, g.2.1⟩)))
      have h2 := good_head g ((h q.1).mpr (inM_cons.mpr (.inl ⟨Nat.le_refl _, g'.2.1⟩)))
      omega
    have key : ∀ {p q : Nat × Nat} {r r' : Mks} {L L' : Nat}, GoodL L (p :: r) → GoodL L' (q :: r') → p.1 = q.1 → (∀ n, inM (q :: r') n → inM (p :: r) n) → ¬ p.2 < q.2 := fun {p q r r' L L'} g g' e h lt => by
      have hn := h (p.2 + 1) (inM_cons.mpr (.inl ⟨by have := g.2.1; omega, lt⟩))
      rcases inM_cons.mp hn with k | k
      · omega
      · have := good_lo g.2.2.2 k; omega
    have e2 : p.2 = q.2 := by
      have a := key g g' e1 fun n k => (h n).mpr k
      have b := key g' g e1.symm fun n k => (h n).mp k
      omega
    have er : r = r' := good_uniq g.2.2.2 g'.2.2.2 fun n => by
      constructor
      · intro k
        have lo := good_lo g.2.2.2 k
        rcases inM_cons.mp ((h n).mp (inM_cons.mpr (.inr k))) with z | z
        · omega
        · exact z
      · intro k
        have lo := good_lo g'.2.2.2 k
        rcases inM_cons.mp ((h n).mpr (inM_cons.mpr (.inr k))) with z | z
        · omega
        · exact z
    rw [er, Prod.ext e1 e2]
theorem nil_or_snoc {α : Type} (l : List α) : l = [] ∨ ∃ i x, l = i ++ [x] := by
  cases l with
  | nil => exact .inl rfl
  | cons a r => exact .inr ⟨(a :: r).dropLast, (a :: r).getLast (by simp), (List.dropLast_concat_getLast (by simp)).symm⟩
/-- the last is made longer -/
theorem good_grow {i : Mks} {l : Nat × Nat} {y : Nat} (g : GoodL 1 (i ++ [l])) (h1 : l.2 ≤ y) (h2 : y ≤ 999999) : GoodL 1 (i ++ [(l.1, y)]) := by
  obtain ⟨k1, k2⟩ := good_iff.mp g
  obtain ⟨p1, _, p3⟩ := List.pairwise_append.mp k2
  refine good_iff.mpr ⟨fun x hx => ?_, List.pairwise_append.mpr ⟨p1, by simp, fun a ha b hb => ?_⟩⟩
  · rcases List.mem_append.mp hx with h | h
    · exact k1 x (List.mem_append_left _ h)
    · rw [List.mem_singleton.mp h]
      have := k1 l (by simp)
      exact ⟨this.1, Nat.le_trans this.2.1 h1, h2⟩
  · rw [List.mem_singleton.mp hb]; exact p3 a ha l (by simp)
theorem good_init {i : Mks} {l : Nat × Nat} (g : GoodL 1 (i ++ [l])) : GoodL 1 i := by
  obtain ⟨k1, k2⟩ := good_iff.mp g
  exact good_iff.mpr ⟨fun x hx => k1 x (List.mem_append_left _ hx), (List.pairwise_append.mp k2).1⟩
theorem good_cat {a b : Mks} (ga : GoodL 1 a) (gb : GoodL 1 b) (h : ∀ x ∈ a, ∀ y ∈ b, x.2 + 2 ≤ y.1) : GoodL 1 (a ++ b) := by
  obtain ⟨a1, a2⟩ := good_iff.mp ga
  obtain ⟨b1, b2⟩ := good_iff.mp gb
  exact good_iff.mpr ⟨fun x hx => (List.mem_append.mp hx).elim (a1 x) (b1 x), List.pairwise_append.mpr ⟨a2, b2, h⟩⟩
/-! ### marks joined -/
/-- the last takes p in -/
theorem jn_in {i : Mks} {l p : Nat × Nat} (g : GoodL 1 (i ++ [l])) (le : l.1 ≤ p.1) (c : p.1 ≤ l.2 + 1) (h2 : p.1 ≤ p.2) (h3 : p.2 ≤ 999999) :
    GoodL 1 (i ++ [(l.1, max l.2 p.2)]) ∧ (∀ n, inM (i ++ [(l.1, max l.2 p.2)]) n ↔ inM (i ++ [l]) n ∨ (p.1 ≤ n ∧ n ≤ p.2)) := by
  have gl := ((good_iff.mp g).1 l (by simp))
  refine ⟨good_grow g (Nat.le_max_left _ _) (by omega), fun n => ?_⟩
  rw [inM_app, inM_app, inM_one, inM_one]
  show inM i n ∨ (l.1 ≤ n ∧ n ≤ max l.2 p.2) ↔ _
  constructor
  · rintro (h | ⟨k1, k2⟩)
    · exact .inl (.inl h)
    · by_cases z : n ≤ l.2
      · exact .inl (.inr ⟨k1, z⟩)
      · exact .inr ⟨by omega, by omega⟩
  · rintro ((h | h) | h)
    · exact .inl h
    · exact .inr ⟨h.1, by omega⟩
    · exact .inr ⟨by omega, by omega⟩
theorem jn_out {m : Mks} {p : Nat × Nat} (g : GoodL 1 m) (c : ∀ l, m.getLast? = some l → l.2 + 1 < p.1) (h1 : 1 ≤ p.1) (h2 : p.1 ≤ p.2) (h3 : p.2 ≤ 999999) : GoodL 1 (m ++ [p]) := by
  refine good_snoc g (fun x hx => ?_) h1 h2 h3
  rcases nil_or_snoc m with e | ⟨i, l, rfl⟩
  · rw [e] at hx; cases hx
  · have cl := c l (by rw [List.getLast?_concat])
    rcases List.mem_append.mp hx with h | h
    · have := (List.pairwise_append.mp (good_iff.mp g).2).2.2 x h l (by simp)
      have := (good_iff.mp g).1 l (by simp)
      omega
    · rw [List.mem_singleton.mp h]; omega
/-! ### a range without marks -/
structure RWI (a b : Nat) (R : Mks) (f : Nat) (D T : Mks) : Prop where
  g : GoodL 1 R
  lo : a ≤ f
  b1 : ∀ x ∈ R, a ≤ x.1 ∧ x.2 + 2 ≤ f ∧ x.2 ≤ b
  s : ∀ n, (inM R n ∨ (f ≤ n ∧ n ≤ b)) ↔ (a ≤ n ∧ n ≤ b ∧ ¬ inM D n)
  t : ∀ x ∈ R, ∀ p ∈ T, x.2 < p.1
theorem RWI.start {a b : Nat} {T : Mks} : RWI a b [] a [] T := ⟨trivial, Nat.le_refl _, (fun _ h => by cases h), fun n => ⟨fun h => h.elim (fun k => absurd k inM_nil) fun k => ⟨k.1, k.2, inM_nil⟩, fun h => .inr ⟨h.1, h.2.1⟩⟩, fun _ h => by cases h⟩
theorem RWI.skip {a b f : Nat} {R D T : Mks} {p : Nat × Nat} (h : RWI a b R f D (p :: T)) (c : ¬ (p.1 ≤ b ∧ f ≤ p.2)) : RWI a b R f (D ++ [p]) T := by
  refine ⟨h.g, h.lo, h.b1, fun n => ?_, fun x hx q hq => h.t x hx q (List.mem_cons_of_mem _ hq)⟩
  rw [h.s, inM_app, inM_one]
  constructor
  · rintro ⟨k1, k2, k3⟩
    refine ⟨k1, k2, fun z => z.elim k3 fun z => ?_⟩
    rcases (h.s n).mpr ⟨k1, k2, k3⟩ with ⟨x, hx, _, w⟩ | w
    · have := h.t x hx p (by simp); omega
    · exact c ⟨by omega, by omega⟩
  · rintro ⟨k1, k2, k3⟩
    exact ⟨k1, k2, fun z => k3 (.inl z)⟩
theorem RWI.cut {a b f : Nat} {R D T : Mks} {p : Nat × Nat} (h : RWI a b R f D (p :: T)) (c : p.1 ≤ b ∧ f ≤ p.2) (pl : p.1 ≤ p.2) (h1 : 1 ≤ a) (h9 : b ≤ 999999) (ts : ∀ q ∈ T, p.2 + 2 ≤ q.1) : RWI a b (if f < p.1 then R ++ [(f, p.1 - 1)] else R) (p.2 + 1) (D ++ [p]) T := by
  by_cases k : f < p.1
  · rw [if_pos k]
    refine ⟨good_snoc h.g (fun x hx => (h.b1 x hx).2.1) (by have := h.lo; omega) (by omega) (by omega), by have := h.lo; omega, fun x hx => ?_, fun n => ?_, fun x hx q hq => ?_⟩
    · rcases List.mem_append.mp hx with z | z
      · have := h.b1 x z; exact ⟨this.1, by omega, this.2.2⟩
      · rw [List.mem_singleton.mp z]; exact ⟨h.lo, by show p.1 - 1 + 2 ≤ _; omega, by show p.1 - 1 ≤ b; omega⟩
    · rw [inM_app, inM_app, inM_one, inM_one]
      have hs := h.s n
      constructor
      · rintro ((z | z) | z)
        · obtain ⟨k1, k2, k3⟩ := hs.mp (.inl z)
          obtain ⟨x, hx, _, w⟩ := z
          have := h.t x hx p (by simp)
          exact ⟨k1, k2, fun y => y.elim k3 fun y => by omega⟩
        · have z : f ≤ n ∧ n ≤ p.1 - 1 := z
          obtain ⟨k1, k2, k3⟩ := hs.mp (.inr ⟨z.1, by omega⟩)
          exact ⟨k1, k2, fun y => y.elim k3 fun y => by omega⟩
        · obtain ⟨k1, k2, k3⟩ := hs.mp (.inr ⟨by omega, z.2⟩)
          exact ⟨k1, k2, fun y => y.elim k3 fun y => by omega⟩
      · rintro ⟨k1, k2, k3⟩
        rcases hs.mpr ⟨k1, k2, fun z => k3 (.inl z)⟩ with z | z
        · exact .inl (.inl z)
        · by_cases w : n < p.1
          · exact .inl (.inr ⟨z.1, by show n ≤ p.1 - 1; omega⟩)
          · have : ¬ n ≤ p.2 := fun y => k3 (.inr ⟨by omega, y⟩)
            exact .inr ⟨by omega, k2⟩
    · rcases List.mem_append.mp hx with z | z
      · exact h.t x z q (List.mem_cons_of_mem _ hq)
      · rw [List.mem_singleton.mp z]
        have := ts q hq
        show p.1 - 1 < q.1; omega
  · rw [if_neg k]
    refine ⟨h.g, by have := h.lo; omega, fun x hx => ?_, fun n => ?_, fun x hx q hq => h.t x hx q (List.mem_cons_of_mem _ hq)⟩
    · have := h.b1 x hx; exact ⟨this.1, by omega, this.2.2⟩
    · rw [inM_app, inM_one]
      have hs := h.s n
      constructor
      · rintro (z | z)
        · obtain ⟨k1, k2, k3⟩ := hs.mp (.inl z)
          obtain ⟨x, hx, _, w⟩ := z
          have := h.t x hx p (by simp)
          exact ⟨k1, k2, fun y => y.elim k3 fun y => by omega⟩
        · obtain ⟨k1, k2, k3⟩ := hs.mp (.inr ⟨by omega, z.2⟩)
          exact ⟨k1, k2, fun y => y.elim k3 fun y => by omega⟩
      · rintro ⟨k1, k2, k3⟩
        rcases hs.mpr ⟨k1, k2, fun z => k3 (.inl z)⟩ with z | z
        · exact .inl z
        · have : ¬ n ≤ p.2 := fun y => k3 (.inr ⟨by omega, y⟩)
          exact .inr ⟨by omega, k2⟩
/-- what is left of a range -/
def RwOk (a b : Nat) (O R : Mks) : Prop := GoodL 1 R ∧ (∀ x ∈ R, a ≤ x.1 ∧ x.2 ≤ b) ∧ ∀ n, inM R n ↔ (a ≤ n ∧ n ≤ b ∧ ¬ inM O n)
theorem RWI.fin {a b f : Nat} {R O : Mks} (h : RWI a b R f O []) (h1 : 1 ≤ a) (h9 : b ≤ 999999) : RwOk a b O (if f ≤ b then R ++ [(f, b)] else R) := by
  by_cases k : f ≤ b
  · rw [if_pos k]
    refine ⟨good_snoc h.g (fun x hx => (h.b1 x hx).2.1) (by have := h.lo; omega) k h9, fun x hx => ?_, fun n => ?_⟩
    · rcases List.mem_append.mp hx with z | z
      · have := h.b1 x z; exact ⟨this.1, this.2.2⟩
      · rw [List.mem_singleton.mp z]; exact ⟨h.lo, Nat.le_refl _⟩
    · rw [inM_app, inM_one]; exact h.s n
  · rw [if_neg k]
    refine ⟨h.g, fun x hx => by have := h.b1 x hx; exact ⟨this.1, this.2.2⟩, fun n => ?_⟩
    rw [← h.s n]
    exact ⟨.inl, fun z => z.elim id fun z => by omega⟩
/-! ### deeds -/
abbrev Deed := Bool × Mks
def leftB (ds : List Deed) (n : Nat) : Bool := ds.foldl (fun acc d => if inB d.2 n = true then d.1 else acc) false
theorem left_snoc (ds : List Deed) (d : Deed) (n : Nat) : leftB (ds ++ [d]) n = if inB d.2 n = true then d.1 else leftB ds n := by
  unfold leftB
  rw [List.foldl_append]; rfl
theorem left_const {ds : List Deed} {n a : Nat} (h : ∀ d ∈ ds, inB d.2 n = inB d.2 a) : leftB ds n = leftB ds a := by
  have key : ∀ (ds : List Deed) (acc : Bool), (∀ d ∈ ds, inB d.2 n = inB d.2 a) → ds.foldl (fun acc d => if inB d.2 n = true then d.1 else acc) acc = ds.foldl (fun acc d => if inB d.2 a = true then d.1 else acc) acc := by
    intro ds
    induction ds with
    | nil => intro _ _; rfl
    | cons d ds ih =>
      intro acc h
      rw [List.foldl_cons, List.foldl_cons, h d (by simp), ih _ fun e he => h e (List.mem_cons_of_mem _ he)]
  exact key ds false h
theorem left_some {ds : List Deed} {n : Nat} (h : leftB ds n = true) : ∃ d ∈ ds, inM d.2 n := by
  have key : ∀ (ds : List Deed) (acc : Bool), ds.foldl (fun acc d => if inB d.2 n = true then d.1 else acc) acc = true → acc = true ∨ ∃ d ∈ ds, inM d.2 n := by
    intro ds
    induction ds with
    | nil => intro acc h; exact .inl h
    | cons d ds ih =>
      intro acc h
      rw [List.foldl_cons] at h
      rcases ih _ h with k | ⟨e, he, k⟩
      · by_cases c : inB d.2 n = true
        · exact .inr ⟨d, by simp, inB_iff.mp c⟩
        · rw [if_neg c] at k; exact .inl k
      · exact .inr ⟨e, List.mem_cons_of_mem _ he, k⟩
  exact (key ds false h).elim (fun z => by cases z) id
def DsOk (ds : List Deed) : Prop := ∀ d ∈ ds, GoodL 1 d.2
/-- the marks of what is left -/
def DueOk (ds : List Deed) (m : Mks) : Prop := GoodL 1 m ∧ ∀ n, inM m n ↔ leftB ds n = true
theorem DueOk.one {ds : List Deed} {m m' : Mks} (a : DueOk ds m) (b : DueOk ds m') : m = m' := good_uniq a.1 b.1 fun n => by rw [a.2, b.2]
theorem inB_same {d : Mks} {n a : Nat} (h : ∀ p ∈ d, (p.1 ≤ n ↔ p.1 ≤ a) ∧ (n ≤ p.2 ↔ a ≤ p.2)) : inB d n = inB d a := by
  rw [Bool.eq_iff_iff, inB_iff, inB_iff]
  refine exists_congr fun p => ⟨fun ⟨hp, k⟩ => ⟨hp, (h p hp).1.mp k.1, (h p hp).2.mp k.2⟩, fun ⟨hp, k⟩ => ⟨hp, (h p hp).1.mpr k.1, (h p hp).2.mpr k.2⟩⟩
/-- the ends, sorted -/
structure Ends67 (ds : List Deed) (E : List Nat) : Prop where
  so : E.Pairwise (· ≤ ·)
  one : 1 ∈ E
  big : 1000000 ∈ E
  lo : ∀ x ∈ E, 1 ≤ x ∧ x ≤ 1000000
  en : ∀ d ∈ ds, ∀ p ∈ d.2, p.1 ∈ E ∧ p.2 + 1 ∈ E
theorem sorted_get {E : List Nat} (so : E.Pairwise (· ≤ ·)) {i j a b : Nat} (hi : E[i]? = some a) (hj : E[j]? = some b) (le : i ≤ j) : a ≤ b := by
  rcases Nat.lt_or_eq_of_le le with h | h
  · obtain ⟨l1, e1⟩ := List.getElem?_eq_some_iff.mp hi
    obtain ⟨l2, e2⟩ := List.getElem?_eq_some_iff.mp hj
    have := List.pairwise_iff_getElem.mp so i j l1 l2 h
    rw [e1, e2] at this; exact this
  · rw [h, hj] at hi
    rw [Option.some.inj hi]; exact Nat.le_refl _
theorem ends_gap {E : List Nat} (so : E.Pairwise (· ≤ ·)) {k a b x : Nat} (ha : E[k]? = some a) (hb : E[k + 1]? = some b) (hx : x ∈ E) : x ≤ a ∨ b ≤ x := by
  obtain ⟨j, hj⟩ := List.getElem?_of_mem hx
  by_cases c : j ≤ k
  · exact .inl (sorted_get so hj ha c)
  · exact .inr (sorted_get so hb hj (by omega))
theorem left_flat {ds : List Deed} {E : List Nat} (e : Ends67 ds E) {k a b n : Nat} (ha : E[k]? = some a) (hb : E[k + 1]? = some b) (h1 : a ≤ n) (h2 : n < b) : leftB ds n = leftB ds a := by
  refine left_const fun d hd => inB_same fun p hp => ?_
  obtain ⟨e1, e2⟩ := e.en d hd p hp
  rcases ends_gap e.so ha hb e1 with k1 | k1 <;> rcases ends_gap e.so ha hb e2 with k2 | k2 <;> omega
/-- the ends up to a are done -/
structure DuI (ds : List Deed) (m : Mks) (a : Nat) : Prop where
  g : GoodL 1 m
  b : ∀ x ∈ m, x.2 < a
  s : ∀ n, inM m n ↔ (1 ≤ n ∧ n < a ∧ leftB ds n = true)
theorem DuI.skip {ds : List Deed} {m : Mks} {E : List Nat} {k a b : Nat} (h : DuI ds m a) (e : Ends67 ds E) (ha : E[k]? = some a) (hb : E[k + 1]? = some b) (c : ¬ (a < b ∧ leftB ds a = true)) : DuI ds m b := by
  have le := sorted_get e.so ha hb (Nat.le_succ _)
  refine ⟨h.g, fun x hx => Nat.lt_of_lt_of_le (h.b x hx) le, fun n => ?_⟩
  rw [h.s]
  refine ⟨fun k => ⟨k.1, by omega, k.2.2⟩, fun k => ⟨k.1, ?_, k.2.2⟩⟩
  by_cases z : n < a
  · exact z
  · exact absurd ⟨by omega, by rw [← left_flat e ha hb (by omega) k.2.1]; exact k.2.2⟩ c
theorem du_set {ds : List Deed} {m m' : Mks} {E : List Nat} {k a b : Nat} (h : DuI ds m a) (e : Ends67 ds E) (ha : E[k]? = some a) (hb : E[k + 1]? = some b) (c : a < b ∧ leftB ds a = true) (hm : ∀ n, inM m' n ↔ inM m n ∨ (a ≤ n ∧ n ≤ b - 1)) : ∀ n, inM m' n ↔ (1 ≤ n ∧ n < b ∧ leftB ds n = true) := fun n => by
  have a1 := (e.lo a (List.mem_of_getElem? ha)).1
  rw [hm, h.s]
  constructor
  · rintro (k | k)
    · exact ⟨k.1, by omega, k.2.2⟩
    · exact ⟨by omega, by omega, by rw [left_flat e ha hb k.1 (by omega)]; exact c.2⟩
  · rintro ⟨k1, k2, k3⟩
    by_cases z : n < a
    · exact .inl ⟨k1, z, k3⟩
    · exact .inr ⟨by omega, by omega⟩
theorem DuI.put {ds : List Deed} {m : Mks} {E : List Nat} {k a b : Nat} (h : DuI ds m a) (e : Ends67 ds E) (ha : E[k]? = some a) (hb : E[k + 1]? = some b) (c : a < b ∧ leftB ds a = true) (l : ∀ x, m.getLast? = some x → x.2 ≠ a - 1) : DuI ds (m ++ [(a, b - 1)]) b := by
  have a1 := (e.lo a (List.mem_of_getElem? ha)).1
  have b1 := (e.lo b (List.mem_of_getElem? hb)).2
  refine ⟨jn_out h.g (fun x hx => ?_) a1 (by show a ≤ b - 1; omega) (by show b - 1 ≤ _; omega), fun x hx => ?_, du_set h e ha hb c fun n => by rw [inM_app, inM_one]⟩
  · have := l x hx
    have := h.b x (List.mem_of_getLast? hx)
    show x.2 + 1 < a; omega
  · rcases List.mem_append.mp hx with z | z
    · have := h.b x z; omega
    · rw [List.mem_singleton.mp z]; show b - 1 < b; omega
theorem DuI.grow {ds : List Deed} {i : Mks} {l : Nat × Nat} {E : List Nat} {k a b : Nat} (h : DuI ds (i ++ [l]) a) (e : Ends67 ds E) (ha : E[k]? = some a) (hb : E[k + 1]? = some b) (c : a < b ∧ leftB ds a = true) (le : l.2 = a - 1) : DuI ds (i ++ [(l.1, b - 1)]) b := by
  have a1 := (e.lo a (List.mem_of_getElem? ha)).1
  have b1 := (e.lo b (List.mem_of_getElem? hb)).2
  have gl := (good_iff.mp h.g).1 l (by simp)
  refine ⟨good_grow h.g (by omega) (by omega), fun x hx => ?_, du_set h e ha hb c fun n => ?_⟩
  · rcases List.mem_append.mp hx with z | z
    · have := h.b x (List.mem_append_left _ z); omega
    · rw [List.mem_singleton.mp z]; show b - 1 < b; omega
  · rw [inM_app, inM_app, inM_one, inM_one]
    show inM i n ∨ (l.1 ≤ n ∧ n ≤ b - 1) ↔ _
    constructor
    · rintro (z | z)
      · exact .inl (.inl z)
      · by_cases w : n ≤ l.2
        · exact .inl (.inr ⟨z.1, w⟩)
        · exact .inr ⟨by omega, z.2⟩
    · rintro ((z | z) | z)
      · exact .inl z
      · exact .inr ⟨z.1, by omega⟩
      · exact .inr ⟨by omega, z.2⟩
theorem DuI.start {ds : List Deed} : DuI ds [] 1 := ⟨trivial, (fun _ h => by cases h), fun n => ⟨fun h => absurd h inM_nil, fun h => by omega⟩⟩
theorem DuI.fin {ds : List Deed} {m : Mks} (h : DuI ds m 1000000) (ok : DsOk ds) : DueOk ds m := by
  refine ⟨h.g, fun n => ?_⟩
  rw [h.s]
  refine ⟨fun k => k.2.2, fun k => ?_⟩
  obtain ⟨d, hd, w⟩ := left_some k
  have := good_lo (ok d hd) w
  have := good_hi (ok d hd) w
  exact ⟨by omega, by omega, k⟩
/-! ### the next one that is not in -/
def IsNext (m : Mks) (n t : Nat) : Prop := n < t ∧ ¬ inM m t ∧ ∀ u, n < u → u < t → inM m u
theorem IsNext.one {m : Mks} {n s t : Nat} (a : IsNext m n s) (b : IsNext m n t) : s = t := by
  rcases Nat.lt_trichotomy s t with h | h | h
  · exact absurd (b.2.2 s a.1 h) a.2.1
  · exact h
  · exact absurd (a.2.2 t b.1 h) b.2.1
theorem next_in {m : Mks} {n : Nat} {p : Nat × Nat} (g : GoodL 1 m) (hp : p ∈ m) (h : p.1 ≤ n + 1 ∧ n + 1 ≤ p.2) : IsNext m n (p.2 + 1) := by
  refine ⟨by omega, fun ⟨q, hq, k1, k2⟩ => ?_, fun u h1 h2 => ⟨p, hp, by omega, by omega⟩⟩
  obtain ⟨g1, g2⟩ := good_iff.mp g
  obtain ⟨i, hi⟩ := List.getElem?_of_mem hp
  obtain ⟨j, hj⟩ := List.getElem?_of_mem hq
  obtain ⟨l1, e1⟩ := List.getElem?_eq_some_iff.mp hi
  obtain ⟨l2, e2⟩ := List.getElem?_eq_some_iff.mp hj
  rcases Nat.lt_trichotomy i j with c | c | c
  · have := List.pairwise_iff_getElem.mp g2 i j l1 l2 c
    rw [e1, e2] at this; omega
  · subst c
    rw [hi] at hj
    have := Option.some.inj hj
    rw [this] at k2 h; omega
  · have := List.pairwise_iff_getElem.mp g2 j i l2 l1 c
    rw [e1, e2] at this
    have := g1 p hp
    omega
theorem next_no {m : Mks} {n : Nat} (h : ¬ inM m (n + 1)) : IsNext m n (n + 1) := ⟨by omega, h, fun u h1 h2 => by omega⟩
theorem next_ex {m : Mks} (g : GoodL 1 m) (n : Nat) : ∃ t, IsNext m n t ∧ (t = n + 1 ∨ ∃ p ∈ m, t = p.2 + 1) := by
  cases c : inB m (n + 1) with
  | false => exact ⟨n + 1, next_no (inB_no.mp c), .inl rfl⟩
  | true =>
    obtain ⟨p, hp, h⟩ := inB_iff.mp c
    exact ⟨p.2 + 1, next_in g hp h, .inr ⟨p, hp, rfl⟩⟩
end Z
namespace Z
open PySem PySem.Spec PyProof.Rows L2 SX
/-! ### text.rpartition(sign) -/
theorem mt_rpartition {X : Cx} : MtR X "str.rpartition" (fun x xs H Q => ∃ a b, x = .str a ∧ xs = [.str b] ∧ (b.length == 0) = false ∧ a.length ≤ sizeLine ∧
    ∀ p, H p = none → Q (.ref p) (upd H p (.tup [.str (Txt.rpartition a b).1, .str (Txt.rpartition a b).2.1, .str (Txt.rpartition a b).2.2]))) := by
  intro pins s σ H x xs v us Q I rx rs h
  obtain ⟨a, b, rfl, rfl, hb, hz, h⟩ := h
  obtain ⟨t, rfl⟩ := rx
  cases rs with
  | cons r1 rs =>
    cases rs
    obtain ⟨u, rfl⟩ := r1
    refine call_meets PySem.F.slot_str_rpartition (typeIs_str _ _ _) PySem.F.entry_str_rpartition (PySem.F.args_str_rpartition_2 _ _) (meets_str_rpartition a b t u hb hz) ?_
    unfold Txt.rpartition at h
    revert h
    cases Builtin.Str.lastOccurrence a b 0 a.length with
    | none => intro h; exact laid_parts I h
    | some i => intro h; exact laid_parts I h
end Z
namespace Z
open PySem L2 SX
theorem at67 {x : Str} {c i : Nat} : StrLaws.At x (S [c]) x.length i ↔ (tl x)[i]? = some c := StrLaws.subAt_one x c i
theorem rpart_no {x : Str} {c : Nat} (h : c ∉ tl x) : Txt.rpartition x (S [c]) = (S [], S [], x) := by
  unfold Txt.rpartition
  rcases StrLaws.last_spec x (S [c]) with ⟨h0, hn⟩ | ⟨i, h0, hi, hn⟩
  · rw [h0]; rfl
  · exact absurd (List.mem_of_getElem? (at67.mp hi)) h
theorem rpart_at {x : Str} {c : Nat} {p t : List Nat} (e : tl x = p ++ c :: t) (h : c ∉ t) : Txt.rpartition x (S [c]) = (S p, S [c], S t) := by
  unfold Txt.rpartition
  have hp : (tl x)[p.length]? = some c := by rw [e, List.getElem?_append_right (Nat.le_refl _), Nat.sub_self]; rfl
  rcases StrLaws.last_spec x (S [c]) with ⟨h0, hn⟩ | ⟨i, h0, hi, hn⟩
  · exact absurd (at67.mpr hp) (hn p.length)
  · have hi := at67.mp hi
    have ip : i = p.length := by
      rcases Nat.lt_trichotomy i p.length with k | k | k
      · exact absurd (at67.mpr hp) (hn _ k)
      · exact k
      · rw [e, List.getElem?_append_right (by omega)] at hi
        obtain ⟨j, hj⟩ : ∃ j, i - p.length = j + 1 := ⟨i - p.length - 1, by omega⟩
        rw [hj, List.getElem?_cons_succ] at hi
        exact absurd (List.mem_of_getElem? hi) h
    subst ip
    rw [h0]
    have e1 : PySem.Builtin.Str.strSub x 0 p.length = S p := TL.ext_tl (by rw [TL.tl_strSub, show TL.tl x = p ++ c :: t from e, List.drop_zero, Nat.sub_zero, List.take_left])
    have e2 : PySem.Builtin.Str.strSub x (p.length + (S [c]).length) x.length = S t := TL.ext_tl (by
      rw [TL.tl_strSub_end, show TL.tl x = p ++ c :: t from e, show p.length + (S [c]).length = p.length + 1 from rfl, ← List.drop_drop, List.drop_left]; rfl)
    show (PySem.Builtin.Str.strSub x 0 p.length, S [c], PySem.Builtin.Str.strSub x (p.length + (S [c]).length) x.length) = _
    rw [e1, e2]
/-! ### marks as data -/
def prD (p : Nat × Nat) : D := .tup [.int (p.1 : Int), .int (p.2 : Int)]
def mksD (m : List (Nat × Nat)) : D := .tup (m.map prD)
def PrI (K : PySem.W.Frag) (H : Hp) (p : Nat × Nat) (w : V) : Prop := ∃ c, w = .ref c ∧ SqT K H c [.int (p.1 : Int), .int (p.2 : Int)]
theorem PrI.tk {K : PySem.W.Frag} {H H' : Hp} (T : TK K H H') (p : Nat × Nat) (w : V) (h : PrI K H p w) : PrI K H' p w := by
  obtain ⟨c, e, h1⟩ := h
  exact ⟨c, e, T _ _ h1⟩
theorem PrI.dv {K : PySem.W.Frag} {H : Hp} (p : Nat × Nat) (w : V) (h : PrI K H p w) : DV K H (prD p) w := by
  obtain ⟨c, e, h1⟩ := h
  exact ⟨c, _, e, h1, dlc (dli _) (dlc (dli _) dln)⟩
theorem dv_pr {K : PySem.W.Frag} {H : Hp} {p : Nat × Nat} {w : V} (h : DV K H (prD p) w) : PrI K H p w := by
  obtain ⟨c, us, rfl, hC, d⟩ := h
  obtain ⟨u0, r0, rfl, d0, d⟩ := d
  obtain ⟨u1, r1, rfl, d1, d⟩ := d
  unfold DV at d0 d1
  unfold DVs at d
  subst d0; subst d1; subst d
  exact ⟨c, rfl, hC⟩
theorem dv_mks {K : PySem.W.Frag} {H : Hp} {m : List (Nat × Nat)} {v : V} (h : DV K H (mksD m) v) : ∃ c us, v = .ref c ∧ SqT K H c us ∧ DVs K H (m.map prD) us := h
theorem mks_dl (m : List (Nat × Nat)) (h : m.length ≤ 1000000) : DL 3 (mksD m) := ⟨by rw [List.length_map]; exact h, fun x hx => by
  obtain ⟨p, _, rfl⟩ := List.mem_map.mp hx
  exact ⟨by show 2 ≤ 1000000; decide, fun y hy => by
    have : y = .int (p.1 : Int) ∨ y = .int (p.2 : Int) := by simpa using hy
    rcases this with e | e <;> rw [e] <;> trivial⟩⟩
def wholeD : Option (List (Nat × Nat)) → D
  | none => .non
  | some m => mksD m
def due67 (l : List Nat) (k : Nat) : D := match whole67 l with
  | some m => .tup [.str (Str.ofString "marks"), mksD m]
  | none => .tup [.str (Str.ofString "bad"), .int (k : Int)]
theorem joinN67 : ∀ (ws : List (List Nat)), (∀ w ∈ ws, w ≠ []) → ws.length ≤ (TL.joinL [44] ws).length
  | [], _ => Nat.le_refl _
  | [w], h => by
    have := List.length_pos_iff.mpr (h w (by simp))
    show 1 ≤ w.length; omega
  | w :: q :: r, h => by
    have := List.length_pos_iff.mpr (h w (by simp))
    have ih := joinN67 (q :: r) fun z hz => h z (List.mem_cons_of_mem _ hz)
    show (q :: r).length + 1 ≤ (w ++ ([44] ++ TL.joinL [44] (q :: r))).length
    rw [List.length_append, List.length_append]
    show _ ≤ w.length + (1 + _)
    omega
theorem textL_len (m : List (Nat × Nat)) : m.length ≤ (textL m).length := by
  have := joinN67 (m.map wordL) fun w hw => by
    obtain ⟨p, _, rfl⟩ := List.mem_map.mp hw
    exact wordL_ne p
  rw [List.length_map] at this
  exact this
theorem whole_len {l : List Nat} {m : List (Nat × Nat)} (h : whole67 l = some m) : m.length ≤ l.length := by
  rw [whole_back h]; exact textL_len m
theorem due_dl {l : List Nat} {k : Nat} (h : l.length ≤ 1000000) : DL 4 (due67 l k) := by
  unfold due67
  cases e : whole67 l with
  | some m =>
    have ml := whole_len e
    exact ⟨by show 2 ≤ 1000000; decide, fun y hy => by
      have : y = .str (Str.ofString "marks") ∨ y = mksD m := by simpa using hy
      rcases this with e | e <;> rw [e]
      · trivial
      · exact mks_dl m (by omega)⟩
  | none => exact ⟨by show 2 ≤ 1000000; decide, fun y hy => by
      have : y = .str (Str.ofString "bad") ∨ y = .int (k : Int) := by simpa using hy
      rcases this with e | e <;> rw [e] <;> trivial⟩
/-! ### the reader's object -/
def fV : Option Nat → V
  | none => .non
  | some n => .int (n : Int)
def rdF (mk : Addr) (L : Nat) (d : List Nat) (f : Option Nat) : List (Str × V) := [("marks", .ref mk), ("least", .int (L : Int)), ("digits", .str (S d)), ("first", fV f)]
structure RdAt (K : PySem.W.Frag) (C : Addr) (H : Hp) (o mk : Addr) (st : St67) : Prop where
  ob : ∃ dx, H o = some (.ins C dx (rdF mk st.L st.d st.f))
  ls : ∃ us, H mk = some (.lst us) ∧ RL (PrI K H) st.M us
def sp67_init (K : PySem.W.Frag) (C : Addr) : Sp := fun vs H Q _ => ∃ (o dx : Addr), vs = [.ref o] ∧ H o = some (.ins C dx []) ∧ ∀ (mk : Addr) (H' : Hp), H mk = none → ExtL [o] H H' → RdAt K C H' o mk s067 → Q .non H'
def sp67_isnum (K : PySem.W.Frag) (C : Addr) : Sp := fun vs H Q _ => ∃ (o mk : Addr) (st : St67), vs = [.ref o] ∧ RdAt K C H o mk st ∧ GSt st ∧ Q (.bl (numB st.d st.L)) H
def sp67_may (K : PySem.W.Frag) (C : Addr) : Sp := fun vs H Q _ => ∃ (o mk : Addr) (st : St67) (c : Nat), vs = [.ref o, .str (S [c])] ∧ RdAt K C H o mk st ∧ GSt st ∧ Q (.bl (stp st c).isSome) H
def sp67_end (K : PySem.W.Frag) (C : Addr) : Sp := fun vs H Q _ => ∃ (o mk : Addr) (st : St67), vs = [.ref o] ∧ RdAt K C H o mk st ∧ GSt st ∧ numB st.d st.L = true ∧ st.M.length ≤ 5000 ∧
  ∀ H', ExtL [o, mk] H H' → TK K H H' → RdAt K C H' o mk ⟨st.M ++ [(st.f.getD (dv st.d), dv st.d)], dv st.d + 2, [], none⟩ → Q .non H'
def sp67_read (K : PySem.W.Frag) (C : Addr) : Sp := fun vs H Q _ => ∃ (o mk : Addr) (st st' : St67) (c : Nat), vs = [.ref o, .str (S [c])] ∧ RdAt K C H o mk st ∧ GSt st ∧ stp st c = some st' ∧ st.M.length ≤ 5000 ∧
  ∀ H', ExtL [o, mk] H H' → TK K H H' → RdAt K C H' o mk st' → Q .non H'
def sp67_greatest : Sp := fun vs H Q _ => ∃ (x : Str), vs = [.str x] ∧ (tl x).length ≤ 6 ∧ (tl x).all dg = true ∧ Q (.int (cap (tl x) : Nat)) H
def sp67_marks (K : PySem.W.Frag) (C : Addr) : Sp := fun vs H Q E => ∃ (x : Str), vs = [.str x] ∧ (tl x).length ≤ 2000 ∧
  (∀ (m : List (Nat × Nat)) (u : V) (H1 : Hp), whole67 (tl x) = some m → Same H H1 → DV K H1 (mksD m) u → Q u H1) ∧
  (∀ (k : Nat) (dd : Addr) (H1 : Hp), whole67 (tl x) = none → BadAt (tl x) k → Same H H1 → H1 dd = some (.xd [("at", .int (k : Int))]) → E (.ref C) (some dd) H1)
def sp67_rtext : Sp := fun vs H Q _ => ∃ (a b : Nat), vs = [.int (a : Int), .int (b : Int)] ∧ a ≤ 999999 ∧ b ≤ 999999 ∧ ∀ y : Str, tl y = wordL (a, b) → Q (.str y) H
def MkOk (m : List (Nat × Nat)) : Prop := (∀ p ∈ m, p.1 ≤ 999999 ∧ p.2 ≤ 999999) ∧ m.length ≤ 2000
def sp67_write (K : PySem.W.Frag) : Sp := fun vs H Q _ => ∃ (v : V) (m : List (Nat × Nat)), vs = [v] ∧ DV K H (mksD m) v ∧ MkOk m ∧ ∀ (y : Str) (H' : Hp), tl y = textL m → Same H H' → Q (.str y) H'
def sp67_ranges (K : PySem.W.Frag) : Sp := fun vs H Q _ => ∃ (s a : Addr) (n : Int) (c : Nat), vs = [.ref s, .int n] ∧ 0 < n ∧ n ≤ 41 ∧ Src H s a (c + 300) ∧ ∀ (u : V) (m : List (Nat × Nat)) (H' : Hp), DV K H' (mksD m) u → GoodL 1 m → m.length ≤ 41 → Ext s H H' → Src H' s a c → Q u H'
def sp67_near : Sp := fun vs H Q _ => ∃ (s a : Addr) (c : Nat), vs = [.ref s] ∧ Src H s a (c + 40) ∧ ∀ (y : Str) (H' : Hp), (tl y).length ≤ 100 → Ext s H H' → Src H' s a c → Q (.str y) H'
def sp67_bent : Sp := fun vs H Q _ => ∃ (s a : Addr) (x : Str) (c : Nat), vs = [.ref s, .str x] ∧ (tl x).length ≤ 1500 ∧ Src H s a (c + 3) ∧ ∀ (y : Str) (H' : Hp), (tl y).length ≤ (tl x).length + 61 → Ext s H H' → Src H' s a c → Q (.str y) H'
def sp67_can : Sp := fun vs H Q _ => ∃ (x : Str) (L : Nat), vs = [.str x, .int (L : Int)] ∧ (tl x).length ≤ 2000 ∧ ∀ H', Same H H' → Q (.bl (canB (tl x) L)) H'
def sp67_number : Sp := fun vs H Q _ => ∃ (x : Str) (L : Nat), vs = [.str x, .int (L : Int)] ∧ (tl x).length ≤ 2000 ∧ ∀ H', Same H H' → Q (.int (numN (tl x) L : Nat)) H'
def sp67_whole (K : PySem.W.Frag) : Sp := fun vs H Q _ => ∃ (x : Str), vs = [.str x] ∧ (tl x).length ≤ 2000 ∧ ∀ (u : V) (H' : Hp), Same H H' → DV K H' (wholeD (whole67 (tl x))) u → Q u H'
def sp67_begins (K : PySem.W.Frag) : Sp := fun vs H Q _ => ∃ (x : Str), vs = [.str x] ∧ (tl x).length ≤ 2000 ∧ ∀ (H' : Hp), Same H H' → Q (.bl (run67 s067 (tl x)).isSome) H'
def sp67_due (K : PySem.W.Frag) : Sp := fun vs H Q _ => ∃ (x : Str), vs = [.str x] ∧ (tl x).length ≤ 2000 ∧ ∀ (u : V) (k : Nat) (H' : Hp), Same H H' → DV K H' (due67 (tl x) k) u → (whole67 (tl x) = none → BadAt (tl x) k) → Q u H'
def sp67_texts (K : PySem.W.Frag) : Sp := fun vs H Q _ => ∃ (s a : Addr) (x : Str) (c : Nat), vs = [.ref s, .str x] ∧ (tl x).length ≤ 600 ∧ Src H s a (c + 500) ∧ ∀ (u : Addr) (us : List Str) (H' : Hp), H u = none → H' u = some (.lst (us.map V.str)) → 4 ≤ us.length → us.length ≤ 20 → (∀ y ∈ us, (tl y).length ≤ 1500) → Ext s H H' → Src H' s a c → Q (.ref u) H'
end Z
namespace Z
open PySem PySem.Spec PyProof.Rows PySem.W PySem.Calls L2
/-! ### a def that raises, where it does not raise -/
section
variable {P : Program} {w : World} {K : PySem.W.Frag} {mg : Str → Option Value} {base : Heap}
theorem calmX {k : Nat} {f : Addr} {fd : FuncData} {ps : List Str} {sp : Sp} (F : FnOk P w K mg base (L2.CX P w) k f fd ps sp) : FnOk P w K mg base CX0 k f fd ps (fun vs H Q _ => sp vs H Q fun _ _ _ => False) :=
  ⟨fun vs H Q E h => F.len _ _ _ _ h, fun A outer s H args us vs Q E hr e0 hb r h => codeAny_mono (F.run A outer s H args us vs Q (fun _ _ _ => False) hr e0 hb r h) fun r s' hq => by
    cases r with
    | error e =>
      obtain ⟨_, _, _, _, _, z⟩ := hq
      exact z.2.2.2.2.2.2.2.elim
    | ok fl => cases fl <;> exact hq⟩
end
/-! ### sorted(a tuple of data) -/
section
variable {X : Cx}
def rSortDT (K : Frag) : List V → Hp → VK → Prop := fun vs H Q => ∃ (a : Addr) (us : List V) (β : Type) (l : List β) (f : β → D), vs = [.ref a] ∧ SqT K H a us ∧ DVs K H (l.map f) us ∧ AllAlike (l.map fun b => py (f b)) ∧ Sortable (l.map fun b => py (f b)) ∧ (∀ b ∈ l, (py (f b)).depth ≤ 60) ∧
  ∀ (ys : List V) (p : Addr), H p = none → DVs K H ((l.mergeSort (dle f)).map f) ys → Q (.ref p) (upd H p (.lst ys))
theorem cr_sortDT (hu : X.A.units + 65 < cLine) : CallR X (.builtin "sorted") (rSortDT X.K) := by
  intro pins s σ H vs us Q I r h
  obtain ⟨a, xs, β, l, f, rfl, hs, hd, hal, hsb, hdp, q⟩ := h
  obtain ⟨its, rv, pl, hz⟩ := I.tuple hs
  obtain ⟨u, rfl, ru⟩ := vals1 r
  obtain rfl : u = Value.ref a := ru
  have e := dvs_each hd rv
  have hlen := vals_len rv
  have hlen2 := e.length
  obtain ⟨o, ho, hc, n, hdt⟩ := pl
  refine sorted_by (enc := fun b => py (f b)) (bs := l) (C := fun h' vs => vs = its ∧ ∀ b o, s.heap.get? b = some o → h'.get? b = some o)
    (fun {R'} k => wpAny_collect_seq a (.inr rfl) ho hc hdt (fun h' kp => by
      rw [List.toList_toArray]
      exact k h' s.toks its kp ⟨rfl, kp⟩) (by rw [List.size_toArray]; omega))
    (fun h' vs c => by
      rw [c.1]
      exact (each_reads I e).mono fun v b ⟨as, r⟩ => ⟨as, PyProof.Rows.Reads.keeps c.2 r⟩) hal hsb (by omega) (fun b m => hu_big hu (hdp b m)) fun h1 h' tk b vs out n c kp1 kp2 eb hb lo' eo => ?_
  have ng : s.heap.get? b = none := by rw [← eb]; exact no_get kp1
  have fr : H b = none := I.hok.gone ng
  obtain ⟨cv, _⟩ := c
  subst cv
  have eo' : EachIs (fun u b => ∃ v, RelV v u ∧ DV X.K H (f b) v) out (l.mergeSort (dataLe false fun b => py (f b))) := eo.mono fun v b ⟨j, g1, g2⟩ => by
    obtain ⟨b', hb', rr⟩ := each_get e g1
    rw [g2] at hb'
    obtain rfl := Option.some.inj hb'
    exact rr
  obtain ⟨ys, dy, ry⟩ := each_dvs eo'
  refine ⟨.ref b, upd H b (.lst ys), I.laidN (t' := tk) (fun b o g => kp2 b o (kp1 b o g)) ng fr ⟨?_, out, n, ry, hb⟩, rfl, q ys b fr dy⟩
  rw [vals_len ry]; omega
theorem cr_sortDTQ {K : Frag} (h : X.K = K) (hu : X.A.units + 65 < cLine) : CallR X (.builtin "sorted") (rSortDT K) := by subst h; exact cr_sortDT hu
end
/-- pairs, by what comes first -/
theorem pr_lt {p q : Nat × Nat} (h : p.1 < q.1) : dataLt (py (prD p)) (py (prD q)) = true := by
  have e1 : keyToks (py (prD p)) = .inl 1 :: .inl (p.1 : Int) :: .inl 1 :: .inl (p.2 : Int) :: [.inl 0] := by simp [prD, py, pys, keyToks, keyToksAll]
  have e2 : keyToks (py (prD q)) = .inl 1 :: .inl (q.1 : Int) :: .inl 1 :: .inl (q.2 : Int) :: [.inl 0] := by simp [prD, py, pys, keyToks, keyToksAll]
  unfold dataLt
  rw [e1, e2, lex_self (O := itemOrd), lex_diff (O := itemOrd) (fun z => by injection z with z; omega)]
  show decide ((p.1 : Int) < (q.1 : Int)) = true
  exact decide_eq_true (by omega)
theorem pr_le {p q : Nat × Nat} (h : dle prD p q = true) : p.1 ≤ q.1 := by
  by_cases c : q.1 < p.1
  · have := pr_lt c
    have e : dle prD p q = !dataLt (py (prD q)) (py (prD p)) := rfl
    rw [e, this] at h
    cases h
  · omega
theorem pr_sorted (l : List (Nat × Nat)) : (l.mergeSort (dle prD)).Pairwise fun p q => p.1 ≤ q.1 := by
  have tt : TotalLe (dle prD) := sortLe_total (listOrd itemOrd) false _
  exact (List.pairwise_mergeSort tt.trans (fun a b => by rw [Bool.or_eq_true]; exact tt.total a b) l).imp fun {p q} h => pr_le h
end Z
namespace Z
open PySem L2 SX
/-! ### promises -/
def MkOk8 (m : Mks) : Prop := GoodL 1 m ∧ m.length ≤ 1000
def sp68_joined (K : PySem.W.Frag) : Sp := fun vs H Q _ => ∃ (v u : V) (a b : Mks), vs = [v, u] ∧ DV K H (mksD a) v ∧ DV K H (mksD b) u ∧ MkOk8 a ∧ MkOk8 b ∧ ∀ (r : V) (m : Mks) (H' : Hp), Same H H' → DV K H' (mksD m) r → GoodL 1 m → m.length ≤ a.length + b.length → (∀ n, inM m n ↔ inM a n ∨ inM b n) → Q r H'
def sp68_range (K : PySem.W.Frag) : Sp := fun vs H Q _ => ∃ (u : V) (a b : Nat) (O : Mks), vs = [.int (a : Int), .int (b : Int), u] ∧ DV K H (mksD O) u ∧ MkOk8 O ∧ 1 ≤ a ∧ a ≤ b ∧ b ≤ 999999 ∧ ∀ (p : Addr) (R : Mks) (us : List V) (H' : Hp), H p = none → Same H H' → H' p = some (.lst us) → RL (PrI K H') R us → RwOk a b O R → R.length ≤ O.length + 1 → Q (.ref p) H'
def sp68_without (K : PySem.W.Frag) : Sp := fun vs H Q _ => ∃ (v u : V) (a b : Mks), vs = [v, u] ∧ DV K H (mksD a) v ∧ DV K H (mksD b) u ∧ MkOk8 a ∧ MkOk8 b ∧ ∀ (r : V) (m : Mks) (H' : Hp), Same H H' → DV K H' (mksD m) r → GoodL 1 m → (∀ n, inM m n ↔ inM a n ∧ ¬ inM b n) → Q r H'
def RgOk (K : PySem.W.Frag) (H : Hp) (m : Mks) (n : Nat) (r : V) : Prop := (r = .non ∧ ¬ inM m n) ∨ ∃ p ∈ m, p.1 ≤ n ∧ n ≤ p.2 ∧ PrI K H p r
def sp68_rangeof (K : PySem.W.Frag) : Sp := fun vs H Q _ => ∃ (v : V) (m : Mks) (n : Nat), vs = [v, .int (n : Int)] ∧ DV K H (mksD m) v ∧ ∀ (r : V) (H' : Hp), Same H H' → RgOk K H' m n r → Q r H'
def sp68_marked (K : PySem.W.Frag) : Sp := fun vs H Q _ => ∃ (v : V) (m : Mks) (n : Nat), vs = [v, .int (n : Int)] ∧ DV K H (mksD m) v ∧ ∀ (H' : Hp), Same H H' → Q (.bl (inB m n)) H'
def sp68_next (K : PySem.W.Frag) : Sp := fun vs H Q _ => ∃ (v : V) (m : Mks) (n : Nat), vs = [v, .int (n : Int)] ∧ DV K H (mksD m) v ∧ MkOk8 m ∧ ∀ (t : Nat) (H' : Hp), Same H H' → IsNext m n t → Q (.int (t : Int)) H'
def sp68_ranges (K : PySem.W.Frag) : Sp := fun vs H Q _ => ∃ (s a : Addr) (z : Int) (c : Nat), vs = [.ref s, .int z] ∧ 0 ≤ z ∧ z < 4 ∧ Src H s a (c + 30) ∧ ∀ (u : V) (m : Mks) (H' : Hp), DV K H' (mksD m) u → GoodL 1 m → m.length ≤ 4 → Ext s H H' → Src H' s a c → Q u H'
def sp68_other (K : PySem.W.Frag) : Sp := fun vs H Q _ => ∃ (s a : Addr) (z : Int) (t : Bool) (v : V) (m : Mks) (c : Nat), vs = [.ref s, .int z, .bl t, v] ∧ 0 ≤ z ∧ z < 4 ∧ DV K H (mksD m) v ∧ MkOk8 m ∧ Src H s a (c + 50) ∧ ∀ (u : V) (m : Mks) (H' : Hp), DV K H' (mksD m) u → GoodL 1 m → m.length ≤ 4 → Ext s H H' → Src H' s a c → Q u H'
def DeAt (K : PySem.W.Frag) (H : Hp) (d : Deed) (w : V) : Prop := ∃ T u, w = .ref T ∧ SqT K H T [.bl d.1, u] ∧ DV K H (mksD d.2) u
theorem DeAt.tk {K : PySem.W.Frag} {H H' : Hp} (T : TK K H H') (d : Deed) (w : V) (h : DeAt K H d w) : DeAt K H' d w := by
  obtain ⟨t, u, e, h1, h2⟩ := h
  exact ⟨t, u, e, T _ _ h1, h2.tk T⟩
def tot (ds : List Deed) : Nat := (ds.map fun d => d.2.length).sum
def DesAt (K : PySem.W.Frag) (H : Hp) (ds : List Deed) (p : Addr) : Prop := ∃ us, H p = some (.lst us) ∧ RL (DeAt K H) ds us
def sp68_left (K : PySem.W.Frag) : Sp := fun vs H Q _ => ∃ (p : Addr) (ds : List Deed) (n : Nat), vs = [.ref p, .int (n : Int)] ∧ DesAt K H ds p ∧ ∀ (H' : Hp), Same H H' → Q (.bl (leftB ds n)) H'
def sp68_due (K : PySem.W.Frag) : Sp := fun vs H Q _ => ∃ (p : Addr) (ds : List Deed), vs = [.ref p] ∧ DesAt K H ds p ∧ DsOk ds ∧ tot ds ≤ 5000 ∧ ∀ (r : V) (m : Mks) (H' : Hp), Same H H' → DV K H' (mksD m) r → DueOk ds m → m.length ≤ 2 + 2 * tot ds → Q r H'
def sp68_points (K : PySem.W.Frag) : Sp := fun vs H Q _ => ∃ (v : V) (m : Mks), vs = [v] ∧ DV K H (mksD m) v ∧ m.length ≤ 3000 ∧ (∀ p ∈ m, 1 ≤ p.1) ∧ ∀ (p : Addr) (ns : List Nat) (H' : Hp), Same H H' → H' p = some (.lst (ns.map fun n : Nat => V.int (n : Int))) → (∀ n ∈ ns, 1 ≤ n ∧ n ≤ 999999) → Q (.ref p) H'
def sp68_asked (K : PySem.W.Frag) : Sp := fun vs H Q _ => ∃ (v u : V) (m : Mks) (p : Addr) (ns : List Nat), vs = [v, u, .ref p] ∧ DV K H (mksD m) v ∧ DV K H (mksD m) u ∧ MkOk8 m ∧ m.length ≤ 130 ∧ H p = some (.lst (ns.map fun n : Nat => V.int (n : Int))) ∧ (∀ n ∈ ns, n ≤ 9999999) ∧ ∀ (H' : Hp), Same H H' → Q (.bl true) H'
def sp68_both (K : PySem.W.Frag) : Sp := fun vs H Q _ => ∃ (v u : V) (a b : Mks) (p : Addr) (ds : List Deed) (us : List V), vs = [v, u, .ref p] ∧ DV K H (mksD a) v ∧ DV K H (mksD b) u ∧ DueOk ds a ∧ GoodL 1 b ∧ a.length ≤ 200 ∧ b.length ≤ 200 ∧ H p = some (.lst us) ∧ RL (DeAt K H) ds us ∧ DsOk ds ∧ ds.length ≤ 100 ∧ tot ds ≤ 1000 ∧ ∀ (H' : Hp), Same H H' → Q (.bl true) H'
def sp68_pair (K : PySem.W.Frag) : Sp := fun vs H Q _ => ∃ (v u : V) (m : Mks) (n : Nat), vs = [v, u, .int (n : Int)] ∧ DV K H (mksD m) v ∧ DV K H (mksD m) u ∧ MkOk8 m ∧ n ≤ 9999999 ∧ ∀ (r : V) (o : Mks) (H' : Hp), Same H H' → DV K H' (mksD o) r → (o = [] ∨ ∃ t, o = [(t, t)] ∧ 1 ≤ t ∧ t ≤ 999999) → Q r H'
end Z
namespace Z
open PySem L2
section
variable {P : Program} {w : World} {K : PySem.W.Frag} {mg : Str → Option Value} {base : Heap}
theorem ok__law_mix (D : Df K mg "_law_mix" s__law_mix ["seed", "turn"]) (T : Tx mg) : Cal P w K mg base "_law_mix" ["seed", "turn"] 1 sp__law_mix := by
  obtain ⟨f, fd, F, gf, bf⟩ := D
  refine ⟨f, fd, F.ok sc__law_mix (fun vs H Q E h => ?_) (fun cdv A outer s H vs Q E hr h => ?_), gf, F.kp, bf⟩
  · obtain ⟨x, y, rfl, _⟩ := h; rfl
  · obtain ⟨x, y, rfl, x0, x1, y0, y1, q⟩ := h
    refine ⟨_, (pss_cons (ps_set (i := 2) sc__law_mix.nd rfl (Or.inl rfl) (pe_op op_mod (pe_callTy call_int1 (by rfl) T.n_int (by decide +kernel) (pa_cons (pe_op op_add (pe_op op_add (pe_op op_mul (pv 0) pe_int) (pe_op op_mul (pv 1) pe_int)) pe_int) pa_nil)) pe_int))
      (pss_cons (ps_set (i := 2) sc__law_mix.nd rfl (Or.inl rfl) (pe_op op_mod (pe_callTy call_int1 (by rfl) T.n_int (by decide +kernel) (pa_cons (pe_op op_add (pe_op op_add (pe_op op_mul (pv 2) (pv 2)) (pe_op op_mul (pv 1) pe_int)) pe_int) pa_nil)) pe_int))
      (pss_cons (ps_set (i := 2) sc__law_mix.nd rfl (Or.inl rfl) (pe_op op_mod (pe_callTy call_int1 (by rfl) T.n_int (by decide +kernel) (pa_cons (pe_op op_add (pe_op op_add (pe_op op_mul (pv 2) pe_int) (pe_op op_mul (pe_op op_mul (pv 1) (pv 1)) pe_int)) pe_int) pa_nil)) pe_int))
      (pss_one (ps_ret (pv 2)))))), ?_⟩

    refine ⟨_, rfl, _, _, rfl, rfl, .inr (by decide), _, rfl, _, _, rfl, rfl, .inr (by decide), _, _, rfl, rfl, _, _, rfl, rfl, .inl ⟨_, rfl, _, _, rfl, rfl, (by show (0 : Int) < _; decide), ?_⟩⟩
    refine ⟨_, rfl, _, rfl, _, _, rfl, rfl, .inl ⟨by omega, by omega⟩, _, rfl, _, _, rfl, rfl, .inr (by decide), _, _, rfl, rfl, _, _, rfl, rfl, .inl ⟨_, rfl, _, _, rfl, rfl, (by show (0 : Int) < _; decide), ?_⟩⟩
    refine ⟨_, rfl, _, _, rfl, rfl, .inr (by decide), _, rfl, _, rfl, _, _, rfl, rfl, .inl ⟨by omega, by omega⟩, _, _, rfl, rfl, .inr (by decide), _, _, rfl, rfl, _, _, rfl, rfl, .inl ⟨_, rfl, _, _, rfl, rfl, (by show (0 : Int) < _; decide), ?_⟩⟩
    exact ⟨_, rfl, q _ (Int.emod_nonneg _ (by decide)) (by omega)⟩
end
end Z
namespace Z
open PySem L2
section
variable {P : Program} {w : World} {K : PySem.W.Frag} {mg : Str → Option Value} {base : Heap}
theorem ok__law_source (D : Df K mg "_law_source" s__law_source ["script"]) (T : Tx mg) (C__law_mix : Cal P w K mg base "_law_mix" ["seed", "turn"] 1 sp__law_mix) : Cal P w K mg base "_law_source" ["script"] 2 (sp__law_source K) := by
  obtain ⟨f__law_mix, fd__law_mix, G__law_mix, g__law_mix, k__law_mix, b__law_mix⟩ := C__law_mix
  obtain ⟨f, fd, F, gf, bf⟩ := D
  refine ⟨f, fd, F.ok sc__law_source (fun vs H Q E h => ?_) (fun cdv A outer s H vs Q E hr h => ?_), gf, F.kp, bf⟩
  · obtain ⟨a, ns, rfl, _⟩ := h; rfl
  · obtain ⟨a, ns, rfl, hS, hlen, q⟩ := h
    refine ⟨_, (pss_cons (ps_set (i := 1) sc__law_source.nd rfl (Or.inl rfl) pe_int)
      (pss_cons (ps_for PassesOwn.never rfl (pi_range1 (by rfl) T.n_range (pa_cons (pe_callB call_len_seq (by rfl) T.n_len PySem.boot_len (pa_cons (pv 0) pa_nil)) pa_nil)) (pg_name (i := 2) sc__law_source.nd rfl (Or.inl rfl))
      (pss_one (ps_set (i := 1) sc__law_source.nd rfl (Or.inl rfl) (pe_call G__law_mix (hr.mono (by decide)) (by rfl) g__law_mix k__law_mix b__law_mix .nil pass0 (pa_cons (pe_op op_add (pv 1) (pe_op op_mod (pe_callTy call_int1 (by rfl) T.n_int (by decide +kernel) (pa_cons (pe_ix ix_list (pv 0) (pv 2) (fun _ _ => rfl)) pa_nil)) pe_int)) (pa_cons (pv 2) pa_nil))))))
      (pss_one (ps_ret (pe_lst (pa_cons (pe_callTy call_list_of (by rfl) T.n_list (by decide +kernel) (pa_cons (pv 0) pa_nil)) (pa_cons pe_int (pa_cons pe_int (pa_cons (pv 1) (pa_cons pe_int pa_nil)))))))))), ?_⟩
    refine ⟨_, rfl, a, _, rfl, .inl hS, _, rfl, by rw [List.length_map]; omega, by rw [List.length_map]; omega, ?_⟩
    refine for_range (lo := 0) (n := (((ns.map V.int).length : Int)).toNat) (fun i σ H' => ∃ (e : Int) (v : Option V), σ = [some (.ref a), some (.int e), v] ∧ H' = H ∧ 0 ≤ e ∧ e < 2147483647) ⟨17, none, rfl, rfl, by decide, by decide⟩ ?_ ?_
    · rintro i σ H' hi ⟨e, v, rfl, rfl, e0, e1⟩
      rw [List.length_map] at hi
      have hi' : i < ns.length := by omega
      refine ⟨_, rfl, _, rfl, _, rfl, a, _, _, .int ns[i], rfl, rfl, hS, ?_, .inl ⟨_, rfl, _, _, rfl, rfl, (by show (0 : Int) < _; decide), _, _, rfl, rfl, _, rfl, ?_⟩⟩
      · rw [Int.zero_add]
        exact atI_nat (by rw [List.getElem?_map, List.getElem?_eq_getElem hi']; rfl)
      · refine ⟨_, _, rfl, ?_, ?_, ?_, ?_, fun v v0 v1 => ?_⟩
        · have := Int.emod_nonneg ns[i] (by decide : (2147483647 : Int) ≠ 0); omega
        · have := Int.emod_lt_of_pos ns[i] (by decide : (0 : Int) < 2147483647); omega
        · omega
        · omega
        · exact ⟨v, _, rfl, rfl, v0, v1⟩
    · rintro σ H' ⟨e, v, rfl, rfl, e0, e1⟩
      refine ⟨_, rfl, a, _, rfl, .inl hS, fun l hl => ?_⟩
      refine ⟨_, rfl, by show 5 ≤ sizeLine; decide, fun s hs => ?_⟩
      have hsl : s ≠ l := fun z => by rw [z, upd_same] at hs; cases hs
      have hs0 : H' s = none := by rw [upd_ne hsl] at hs; exact hs
      refine q s l _ hs0 ((same_new hl).trans (same_new hs)) ⟨ns, 0, 0, e, 0, upd_same, by rw [upd_ne hsl.symm, upd_same], hsl.symm, hlen, by decide, by decide, by decide, e0, e1, by decide, by decide⟩
end
end Z
namespace Z
open PySem L2
section
variable {P : Program} {w : World} {K : PySem.W.Frag} {mg : Str → Option Value} {base : Heap}
theorem ok__law_draw (D : Df K mg "_law_draw" s__law_draw ["source", "many"]) (T : Tx mg) (C__law_mix : Cal P w K mg base "_law_mix" ["seed", "turn"] 1 sp__law_mix) : Cal P w K mg base "_law_draw" ["source", "many"] 2 sp__law_draw := by
  obtain ⟨f__law_mix, fd__law_mix, G__law_mix, g__law_mix, k__law_mix, b__law_mix⟩ := C__law_mix
  obtain ⟨f, fd, F, gf, bf⟩ := D
  refine ⟨f, fd, F.ok sc__law_draw (fun vs H Q E h => ?_) (fun cdv A outer s H vs Q E hr h => ?_), gf, F.kp, bf⟩
  · obtain ⟨s, a, m, c, rfl, _⟩ := h; rfl
  · obtain ⟨s, a, m, c, rfl, m0, m1, hS, q⟩ := h
    refine ⟨_, (C8.pss_cut (ps_if (PW.pt (pw_and (pt_cmpR op_eq (pe_ix ix_list (pv 0) pe_int (fun _ _ => rfl)) pe_int (nomark _)) (pw_and (pt_cmpR op_lt (pe_ix ix_list (pv 0) pe_int (fun _ _ => rfl)) (pe_callB call_len_seq (by rfl) T.n_len PySem.boot_len (pa_cons (pe_ix ix_list (pv 0) pe_int (fun _ _ => rfl)) pa_nil)) (nomark _)) (pw_and1 (pt_cmpR op_eq (pe_op op_mod (pe_callTy call_int1 (by rfl) T.n_int (by decide +kernel) (pa_cons (pe_ix ix_list (pv 0) pe_int (fun _ _ => rfl)) pa_nil)) pe_int) pe_int (nomark _))))))
      (pss_cons (ps_set (i := 2) sc__law_draw.nd rfl (Or.inl rfl) (pe_ix ix_list (pe_ix ix_list (pv 0) pe_int (fun _ _ => rfl)) (pe_ix ix_list (pv 0) pe_int (fun _ _ => rfl)) (fun _ _ => rfl)))
        (pss_cons (ps_asg (pe_op op_add (pe_ix ix_list (pv 0) pe_int (fun _ _ => rfl)) pe_int) (pg_sub (pv 0) pe_int set_list))
        (pss_one (ps_if (pt_cmpR op_ge (pe_callB call_abs (by rfl) T.n_abs (by decide +kernel) (pa_cons (pv 2) pa_nil)) (pe_op op_pow pe_int pe_int) (nomark _))
        (pss_one (ps_asg (pe_op op_and (pe_callB call_abs (by rfl) T.n_abs (by decide +kernel) (pa_cons (pv 2) pa_nil)) (pe_op op_sub (pe_op op_shl pe_int pe_int) pe_int)) (pg_sub (pv 0) pe_int set_list)))
        (pss_one (ps_asg (pe_call G__law_mix (hr.mono (by decide)) (by rfl) g__law_mix k__law_mix b__law_mix .nil pass0 (pa_cons (pe_op op_add (pe_ix ix_list (pv 0) pe_int (fun _ _ => rfl)) (pe_op op_mod (pe_callTy call_int1 (by rfl) T.n_int (by decide +kernel) (pa_cons (pv 2) pa_nil)) pe_int)) (pa_cons (pe_ix ix_list (pv 0) pe_int (fun _ _ => rfl)) pa_nil))) (pg_sub (pv 0) pe_int set_list)))))))
      pss_nil)
      (pss_cons (ps_if (pt_cmpR op_gt (pe_ix ix_list (pv 0) pe_int (fun _ _ => rfl)) pe_int (nomark _))
      (pss_cons (ps_set (i := 3) sc__law_draw.nd rfl (Or.inl rfl) (pe_op op_mod (pe_callTy call_int1 (by rfl) T.n_int (by decide +kernel) (pa_cons (pe_ix ix_list (pv 0) pe_int (fun _ _ => rfl)) pa_nil)) (pv 1)))
        (pss_cons (ps_asg (pe_op op_fdivN (pe_callTy call_int1 (by rfl) T.n_int (by decide +kernel) (pa_cons (pe_ix ix_list (pv 0) pe_int (fun _ _ => rfl)) pa_nil)) (pv 1)) (pg_sub (pv 0) pe_int set_list))
        (pss_one (ps_ret (pv 3)))))
      pss_nil)
      (pss_cons (ps_asg (pe_op op_add (pe_ix ix_list (pv 0) pe_int (fun _ _ => rfl)) pe_int) (pg_sub (pv 0) pe_int set_list))
      (pss_one (ps_ret (pe_op op_mod (pe_callTy call_int1 (by rfl) T.n_int (by decide +kernel) (pa_cons (pe_op op_fdiv (pe_call G__law_mix (hr.mono (by decide)) (by rfl) g__law_mix k__law_mix b__law_mix .nil pass0 (pa_cons (pe_ix ix_list (pv 0) pe_int (fun _ _ => rfl)) (pa_cons (pe_ix ix_list (pv 0) pe_int (fun _ _ => rfl)) pa_nil))) pe_int) pa_nil)) (pv 1))))))), ?_⟩
    refine ⟨fun σ' H' => (∃ v2 v3, σ' = [some (.ref s), some (.int m), v2, v3]) ∧ Src H' s a (c + 1) ∧ Ext s H H', ?_, ?_⟩
    · obtain ⟨ns, i, b, e, t, h1, h2, as, h4, h5, h6, h7, h8, h9, h10, h11⟩ := id hS
      have hL : SqL K H s [.ref a, .int i, .int b, .int e, .int t] := SqL.of h1
      refine ⟨_, rfl, _, _, _, _, rfl, rfl, hL, rfl, rfl, _, rfl, ite2 (fun c1 => ?_) (fun c1 => iteF ⟨⟨_, _, rfl⟩, hS, Ext.refl _ _⟩)⟩
      refine ⟨_, rfl, _, _, _, _, rfl, rfl, hL, rfl, _, rfl, _, _, _, _, rfl, rfl, hL, rfl, a, _, rfl, .inl (SqL.of h2), _, _, rfl, rfl, _, rfl, ite2 (fun c2 => ?_) (fun c2 => iteF ⟨⟨_, _, rfl⟩, hS, Ext.refl _ _⟩)⟩
      refine ⟨_, rfl, _, _, _, _, rfl, rfl, hL, rfl, .inl ⟨_, rfl, _, _, rfl, rfl, (by show (0 : Int) < 6; decide), rfl, _, rfl, ite2 (fun c3 => ?_) (fun c3 => ⟨⟨_, _, rfl⟩, hS, Ext.refl _ _⟩)⟩⟩
      have hi : i < ns.length := by
        have := of_decide_eq_true c2
        rw [List.length_map] at this
        exact this
      have hi' : i.toNat < ns.length := by omega
      -- cell = source[0][source[1]]
      refine ⟨_, rfl, _, _, _, _, rfl, rfl, hL, rfl, _, rfl, _, _, _, _, rfl, rfl, hL, rfl, a, _, _, .int ns[i.toNat], rfl, rfl, SqL.of h2, at_of (j := i.toNat) (by omega) (by rw [List.getElem?_map, List.getElem?_eq_getElem hi']; rfl), ?_⟩
      -- source[1] = source[1] + 1
      refine ⟨_, rfl, _, _, _, _, rfl, rfl, hL, rfl, _, _, rfl, rfl, _, rfl, _, _, _, 1, rfl, rfl, h1, rfl, ?_⟩
      refine ⟨_, rfl, _, rfl, _, _, rfl, rfl, ⟨by decide, by decide, by decide⟩, _, _, rfl, rfl, _, rfl, ite2 (fun c4 => ?_) (fun c4 => ?_)⟩
      · refine ⟨_, rfl, _, rfl, _, _, rfl, rfl, ⟨by decide, by decide, by decide⟩, _, _, rfl, rfl, _, _, rfl, rfl, _, rfl, _, _, _, 2, rfl, rfl, upd_same, rfl, ?_⟩
        refine ⟨⟨_, _, rfl⟩, ?_, ?_⟩
        · refine ⟨ns, i + 1, _, e, t, upd_same, by rw [upd_ne as, upd_ne as]; exact h2, as, h4, by omega, by omega, ?_, h8, h9, h10, h11⟩
          exact and_nn (by split <;> omega) _
        · exact Ext.put.trans Ext.put
      · refine ⟨_, rfl, _, _, _, _, rfl, rfl, SqL.of upd_same, rfl, _, rfl, .inl ⟨_, rfl, _, _, rfl, rfl, (by show (0 : Int) < 2147483647; decide), _, _, rfl, rfl, _, rfl, _, _, _, _, rfl, rfl, SqL.of upd_same, rfl, _, _, rfl, ?_, ?_, ?_, ?_, fun v v0 v1 => ?_⟩⟩
        · have := Int.emod_nonneg ns[i.toNat] (by decide : (2147483647 : Int) ≠ 0); omega
        · have := Int.emod_lt_of_pos ns[i.toNat] (by decide : (0 : Int) < 2147483647); omega
        · omega
        · omega
        · refine ⟨_, rfl, _, _, _, 3, rfl, rfl, upd_same, rfl, ⟨_, _, rfl⟩, ?_, Ext.put.trans Ext.put⟩
          exact ⟨ns, i + 1, b, v, t, upd_same, by rw [upd_ne as, upd_ne as]; exact h2, as, h4, by omega, by omega, h7, v0, v1, h10, h11⟩
    · rintro σ' H' ⟨⟨v2, v3, rfl⟩, hS', hx⟩
      obtain ⟨ns, i, b, e, t, h1, h2, as, h4, h5, h6, h7, h8, h9, h10, h11⟩ := id hS'
      have hL : SqL K H' s [.ref a, .int i, .int b, .int e, .int t] := SqL.of h1
      refine ⟨_, rfl, _, _, _, _, rfl, rfl, hL, rfl, _, _, rfl, rfl, _, rfl, ite2 (fun c1 => ?_) (fun c1 => ?_)⟩
      · refine ⟨_, rfl, _, _, _, _, rfl, rfl, hL, rfl, .inl ⟨_, rfl, _, rfl, _, _, rfl, rfl, m0, ?_⟩⟩
        refine ⟨_, rfl, _, _, _, _, rfl, rfl, hL, rfl, .inl ⟨_, rfl, _, rfl, _, _, rfl, rfl, ⟨by omega, by omega⟩, _, rfl, _, _, _, 2, rfl, rfl, h1, rfl, ?_⟩⟩
        refine ⟨_, rfl, q _ _ (Int.emod_nonneg _ (by omega)) (Int.emod_lt_of_pos _ m0) (hx.trans Ext.put) ?_⟩
        refine ⟨ns, i, _, e, t, upd_same, by rw [upd_ne as]; exact h2, as, h4, h5, h6, ?_, h8, h9, h10, by omega⟩
        exact Int.fdiv_nonneg h7 (by omega)
      · refine ⟨_, rfl, _, _, _, _, rfl, rfl, hL, rfl, _, _, rfl, rfl, _, rfl, _, _, _, 4, rfl, rfl, h1, rfl, ?_⟩
        refine ⟨_, rfl, _, _, _, _, rfl, rfl, SqL.of upd_same, rfl, _, rfl, _, _, _, _, rfl, rfl, SqL.of upd_same, rfl, _, _, rfl, h8, by omega, by omega, by omega, fun v v0 v1 => ?_⟩
        refine ⟨_, _, rfl, rfl, ⟨by decide, by decide⟩, .inl ⟨_, rfl, _, rfl, _, _, rfl, rfl, m0, ?_⟩⟩
        refine q _ _ (Int.emod_nonneg _ (by omega)) (Int.emod_lt_of_pos _ m0) (hx.trans Ext.put) ?_
        exact ⟨ns, i, b, e, t + 1, upd_same, by rw [upd_ne as]; exact h2, as, h4, h5, h6, h7, h8, h9, by omega, by omega⟩
end
end Z
namespace Z
open PySem L2
section
variable {P : Program} {w : World} {K : PySem.W.Frag} {mg : Str → Option Value} {base : Heap}
theorem ok__law_is_int (D : Df K mg "_law_is_int" s__law_is_int ["value"]) (T : Tx mg)  : Cal P w K mg base "_law_is_int" ["value"] 1 (sp__law_is_int K) := by
  obtain ⟨f, fd, F, gf, bf⟩ := D
  refine ⟨f, fd, F.ok sc__law_is_int (fun vs H Q E h => ?_) (fun cdv A outer s H vs Q E hr h => ?_), gf, F.kp, bf⟩
  · obtain ⟨i, rfl, _⟩ := h; rfl
  · obtain ⟨i, rfl, q⟩ := h
    refine ⟨_, (pss_one (ps_ret (pe_and (pe_callB call_isi (by rfl) T.n_isinstance (by decide +kernel) (pa_cons (pv 0) (pa_cons (pe_bltn (v := .ty "int") (by rfl) T.n_int (by decide +kernel) rfl) pa_nil))) (pe_one (pe_not (pe_callB call_isi (by rfl) T.n_isinstance (by decide +kernel) (pa_cons (pv 0) (pa_cons (pe_bltn (v := .ty "bool") (by rfl) T.n_bool (by decide +kernel) rfl) pa_nil)))))))), ?_⟩
    refine ⟨_, rfl, _, _, _, _, true, rfl, .ty _, .base (.int i), kit_ty (by decide +kernel), _, rfl, ?_⟩
    refine iteT ⟨_, rfl, _, _, _, _, false, rfl, .ty _, .base (.int i), kit_ty (by decide +kernel), _, rfl, q⟩

theorem ok__law_same (D : Df K mg "_law_same" s__law_same ["actual", "due"]) (T : Tx mg) (C__law_is_int : Cal P w K mg base "_law_is_int" ["value"] 1 (sp__law_is_int K)) : ∀ n, Cal P w K mg base "_law_same" ["actual", "due"] (n + 1) (sp__law_same K n)
  | 0 => by
    obtain ⟨f, fd, F, gf, bf⟩ := D
    exact ⟨f, fd, ⟨fun vs H Q E h => by obtain ⟨_, _, _, _, _, _, h, _⟩ := h; exact h.elim, fun A outer s H args us vs Q E _ _ _ _ h => by obtain ⟨_, _, _, _, _, _, h, _⟩ := h; exact h.elim⟩, gf, F.kp, bf⟩
  | n + 1 => by
    obtain ⟨f__law_same, fd__law_same, G__law_same, g__law_same, k__law_same, b__law_same⟩ := ok__law_same D T C__law_is_int n
    obtain ⟨f__law_is_int, fd__law_is_int, G__law_is_int, g__law_is_int, k__law_is_int, b__law_is_int⟩ := C__law_is_int
    obtain ⟨f, fd, F, gf, bf⟩ := D
    refine ⟨f, fd, F.ok sc__law_same (fun vs H Q E h => ?_) (fun cdv A outer s H vs Q E hr h => ?_), gf, F.kp, bf⟩
    · obtain ⟨d, v, u, rfl, _⟩ := h; rfl
    · obtain ⟨d, v, u, rfl, hv, hu, hd, q⟩ := h
      refine ⟨_, (pss_cons (ps_if (pt_val (pe_callB call_isi (by rfl) T.n_isinstance (by decide +kernel) (pa_cons (pv 1) (pa_cons (pe_bltn (v := .ty "tuple") (by rfl) T.n_tuple (by decide +kernel) rfl) pa_nil))))
      (pss_cons (ps_if (PW.pt (pw_or (pt_not (pt_val (pe_callB call_isi (by rfl) T.n_isinstance (by decide +kernel) (pa_cons (pv 0) (pa_cons (pe_bltn (v := .ty "tuple") (by rfl) T.n_tuple (by decide +kernel) rfl) pa_nil))))) (pw_or1 (pt_cmpR op_ne (pe_callB call_len_seq (by rfl) T.n_len PySem.boot_len (pa_cons (pv 0) pa_nil)) (pe_callB call_len_seq (by rfl) T.n_len PySem.boot_len (pa_cons (pv 1) pa_nil)) (nomark _)))))
        (pss_one (ps_ret pe_bl))
        pss_nil)
        (pss_cons (ps_for PassesOwn.never rfl (pi_range1 (by rfl) T.n_range (pa_cons (pe_callB call_len_seq (by rfl) T.n_len PySem.boot_len (pa_cons (pv 1) pa_nil)) pa_nil)) (pg_name (i := 2) sc__law_same.nd rfl (Or.inl rfl))
        (pss_one (ps_if (pt_not (pt_val (pe_call G__law_same hr (by rfl) g__law_same k__law_same b__law_same .nil pass0 (pa_cons (pe_ix ix_tup (pv 0) (pv 2) (fun _ _ => rfl)) (pa_cons (pe_ix ix_tup (pv 1) (pv 2) (fun _ _ => rfl)) pa_nil)))))
          (pss_one (ps_ret pe_bl))
          pss_nil)))
        (pss_one (ps_ret pe_bl))))
      pss_nil)
      (pss_cons (ps_if (pt_cmpR op_isN (pv 1) pe_non (nomark _))
      (pss_one (ps_ret (pe_cmpR op_isN (pv 0) pe_non (nomark _))))
      pss_nil)
      (pss_cons (ps_if (pt_val (pe_callB call_isi (by rfl) T.n_isinstance (by decide +kernel) (pa_cons (pv 1) (pa_cons (pe_bltn (v := .ty "bool") (by rfl) T.n_bool (by decide +kernel) rfl) pa_nil))))
      (pss_one (ps_ret (pe_and (pe_callB call_isi (by rfl) T.n_isinstance (by decide +kernel) (pa_cons (pv 0) (pa_cons (pe_bltn (v := .ty "bool") (by rfl) T.n_bool (by decide +kernel) rfl) pa_nil))) (pe_one (pe_cmpR op_eq (pv 0) (pv 1) (nomark _))))))
      pss_nil)
      (pss_cons (ps_if (pt_val (pe_callB call_isi (by rfl) T.n_isinstance (by decide +kernel) (pa_cons (pv 1) (pa_cons (pe_bltn (v := .ty "int") (by rfl) T.n_int (by decide +kernel) rfl) pa_nil))))
      (pss_one (ps_ret (pe_and (pe_call G__law_is_int (hr.mono (by omega)) (by rfl) g__law_is_int k__law_is_int b__law_is_int .nil pass0 (pa_cons (pv 0) pa_nil)) (pe_one (pe_cmpR op_eq (pv 0) (pv 1) (nomark _))))))
      pss_nil)
      (pss_one (ps_ret (pe_and (pe_callB call_isi (by rfl) T.n_isinstance (by decide +kernel) (pa_cons (pv 0) (pa_cons (pe_bltn (v := .ty "str") (by rfl) T.n_str (by decide +kernel) rfl) pa_nil))) (pe_one (pe_cmpR op_eq (pv 0) (pv 1) (nomark _)))))))))), ?_⟩
      cases d with
      | non =>
        unfold DV at hv hu; subst hv hu
        refine ⟨_, rfl, _, _, _, _, false, rfl, .ty _, .base .non, kit_ty (by decide +kernel), _, rfl, iteF ?_⟩
        exact ⟨_, rfl, rfl, _, rfl, iteT ⟨_, rfl, rfl, q⟩⟩
      | bl b =>
        unfold DV at hv hu; subst hv hu
        refine ⟨_, rfl, _, _, _, _, false, rfl, .ty _, .base (.bl b), kit_ty (by decide +kernel), _, rfl, iteF ?_⟩
        refine ⟨_, rfl, rfl, _, rfl, iteF ?_⟩
        refine ⟨_, rfl, _, _, _, _, true, rfl, .ty _, .base (.bl b), kit_ty (by decide +kernel), _, rfl, iteT ?_⟩
        refine ⟨_, rfl, _, _, _, _, true, rfl, .ty _, .base (.bl b), kit_ty (by decide +kernel), _, rfl, iteT ?_⟩
        refine ⟨_, rfl, _, rfl, rfl, ?_⟩
        rw [decide_eq_true rfl]; exact q
      | int b =>
        unfold DV at hv hu; subst hv hu
        refine ⟨_, rfl, _, _, _, _, false, rfl, .ty _, .base (.int b), kit_ty (by decide +kernel), _, rfl, iteF ?_⟩
        refine ⟨_, rfl, rfl, _, rfl, iteF ?_⟩
        refine ⟨_, rfl, _, _, _, _, false, rfl, .ty _, .base (.int b), kit_ty (by decide +kernel), _, rfl, iteF ?_⟩
        refine ⟨_, rfl, _, _, _, _, true, rfl, .ty _, .base (.int b), kit_ty (by decide +kernel), _, rfl, iteT ?_⟩
        refine ⟨_, rfl, _, rfl, _, rfl, iteT ?_⟩
        refine ⟨_, rfl, _, rfl, rfl, ?_⟩
        rw [decide_eq_true rfl]; exact q
      | str b =>
        unfold DV at hv hu; subst hv hu
        refine ⟨_, rfl, _, _, _, _, false, rfl, .ty _, .base (.str b), kit_ty (by decide +kernel), _, rfl, iteF ?_⟩
        refine ⟨_, rfl, rfl, _, rfl, iteF ?_⟩
        refine ⟨_, rfl, _, _, _, _, false, rfl, .ty _, .base (.str b), kit_ty (by decide +kernel), _, rfl, iteF ?_⟩
        refine ⟨_, rfl, _, _, _, _, false, rfl, .ty _, .base (.str b), kit_ty (by decide +kernel), _, rfl, iteF ?_⟩
        refine ⟨_, rfl, _, _, _, _, true, rfl, .ty _, .base (.str b), kit_ty (by decide +kernel), _, rfl, iteT ?_⟩
        refine ⟨_, rfl, _, rfl, rfl, ?_⟩
        rw [decide_eq_true rfl]; exact q
      | tup ds =>
        unfold DV at hv hu
        obtain ⟨a, vs, rfl, ha, hvs⟩ := hv
        obtain ⟨b, us, rfl, hb, hus⟩ := hu
        have hl := hvs.len
        have hm := hus.len
        refine ⟨_, rfl, _, _, _, _, true, rfl, .ty _, TyX.ofT hb, kit_ty (by decide +kernel), _, rfl, iteT ?_⟩
        refine ⟨_, rfl, _, _, _, _, true, rfl, .ty _, TyX.ofT ha, kit_ty (by decide +kernel), _, rfl, iteF ?_⟩
        refine ⟨_, rfl, a, _, rfl, .inr ha, _, rfl, b, _, rfl, .inr hb, rfl, _, rfl, iteNS (by rw [hl, hm]) ?_⟩
        refine ⟨_, rfl, b, _, rfl, .inr hb, _, rfl, by omega, by have := hd.1; omega, ?_⟩
        refine for_range (lo := 0) (n := ((us.length : Int)).toNat) (fun i σ H' => ∃ (x : Option V), σ = [some (.ref a), some (.ref b), x] ∧ H' = H) ⟨none, rfl, rfl⟩ ?_ ?_
        · rintro i σ H' hi ⟨x, rfl, rfl⟩
          have hi' : i < us.length := by omega
          have hi2 : i < ds.length := by omega
          obtain ⟨v1, e1, q1⟩ := hvs.get (List.getElem?_eq_getElem hi2)
          obtain ⟨v2, e2, q2⟩ := hus.get (List.getElem?_eq_getElem hi2)
          refine ⟨_, rfl, _, rfl, a, _, _, v1, rfl, rfl, ha, at_of (j := i) (by omega) e1, _, rfl, _, rfl, b, _, _, v2, rfl, rfl, hb, at_of (j := i) (by omega) e2, ?_⟩
          refine ⟨ds[i], v1, v2, rfl, q1, q2, hd.2 _ (List.getElem_mem hi2), _, rfl, iteF ?_⟩
          exact ⟨_, rfl, rfl⟩
        · rintro σ H' ⟨x, rfl, rfl⟩
          exact q
end
end Z
namespace Z
open PySem L2 SX
theorem nodup_le : ∀ {l us : List (List Nat)}, l.Nodup → (∀ x ∈ l, x ∈ us) → l.length ≤ us.length
  | [], us, _, _ => Nat.zero_le _
  | x :: l, us, h, k => by
    have hh := List.nodup_cons.mp h
    have m := k x (by simp)
    have := nodup_le (us := us.erase x) hh.2 fun y hy => (List.mem_erase_of_ne (fun e : y = x => hh.1 (by rw [e] at hy; exact hy))).mpr (k y (List.mem_cons_of_mem _ hy))
    rw [List.length_erase_of_mem m] at this
    have p := List.length_pos_of_mem m
    rw [List.length_cons]; omega
def sfxL (j : Nat) : List Nat := if j = 0 then [] else [48 + j]
theorem sfx_nodup : ((List.range 10).map sfxL).Nodup := by decide +kernel
theorem tried_nodup (p : List Nat) {m : Nat} (h : m ≤ 10) : ((List.range m).map fun j => p ++ sfxL j).Nodup := by
  have h1 : ((List.range m).map sfxL).Nodup := by
    have e : List.range m = (List.range 10).take m := by rw [List.take_range, Nat.min_eq_left h]
    rw [e, List.map_take]
    exact sfx_nodup.sublist (List.take_sublist _ _)
  rw [List.nodup_iff_pairwise_ne, List.pairwise_map] at h1 ⊢
  exact h1.imp fun ne e => ne (List.append_cancel_left e)
section
variable {P : Program} {w : World} {K : PySem.W.Frag} {mg : Str → Option Value} {base : Heap}
theorem ok__law_pick (D : Df K mg "_law_pick" s__law_pick ["source", "row"]) (T : Tx mg)  (C__law_draw : Cal P w K mg base "_law_draw" ["source", "many"] 2 sp__law_draw) : Cal P w K mg base "_law_pick" ["source", "row"] 3 (sp3__law_pick K) := by
  obtain ⟨f__law_draw, fd__law_draw, G__law_draw, g__law_draw, k__law_draw, b__law_draw⟩ := C__law_draw
  obtain ⟨f, fd, F, gf, bf⟩ := D
  refine ⟨f, fd, F.ok sc__law_pick (fun vs H Q E h => ?_) (fun cdv A outer s₀ H vs Q E hr h => ?_), gf, F.kp, bf⟩
  · rcases h with ⟨s, a, r, xs, c, rfl, _⟩ | ⟨s, a, x, c, rfl, _⟩ | ⟨s, a, r, xs, c, rfl, _⟩ <;> rfl
  · refine ⟨_, (pss_one (ps_ret (pe_ix ix_seq (pv 1) (pe_call G__law_draw (hr.mono (by decide)) (by rfl) g__law_draw k__law_draw b__law_draw .nil pass0 (pa_cons (pv 0) (pa_cons (pe_callB call_len (by rfl) T.n_len PySem.boot_len (pa_cons (pv 1) pa_nil)) pa_nil))) (fun _ _ => rfl)))), ?_⟩
    rcases h with ⟨s, a, r, xs, c, rfl, hR, rs, ne, hl, hS, q⟩ | ⟨s, a, x, c, rfl, ne, hl, hS, q⟩ | ⟨s, a, r, xs, c, rfl, hR, ne, hl, hS, q⟩
    · have n0 : 0 < xs.length := List.length_pos_iff.mpr ne
      refine ⟨_, rfl, _, rfl, _, rfl, _, _, rfl, .inl ⟨xs, hR, rfl⟩, s, a, (xs.length : Int), c, rfl, by omega, by omega, hS, fun v H' v0 v1 hE hS' => ?_⟩
      have hv : v.toNat < xs.length := by omega
      exact .inl ⟨r, xs, v, xs[v.toNat], rfl, rfl, hE.seqL rs hR, atI_pos v0 (List.getElem?_eq_getElem hv), q _ _ (List.getElem_mem hv) hE hS'⟩
    · have n0 : 0 < (tl x).length := List.length_pos_iff.mpr ne
      have hx := tl_len x
      refine ⟨_, rfl, _, rfl, _, rfl, _, x.length, rfl, ⟨by rw [hx]; exact Nat.le_trans hl (by decide), rfl⟩, s, a, (x.length : Int), c, rfl, by omega, by omega, hS, fun v H' v0 v1 hE hS' => ?_⟩
      have hv : v.toNat < (tl x).length := by omega
      exact .inr (.inr ⟨x, v, (tl x)[v.toNat], rfl, rfl, by rw [hx]; exact Nat.le_trans hl (by decide), atI_pos v0 (List.getElem?_eq_getElem hv), q _ _ (List.getElem_mem hv) hE hS'⟩)
    · have n0 : 0 < xs.length := List.length_pos_iff.mpr ne
      refine ⟨_, rfl, _, rfl, _, rfl, _, _, rfl, .inr ⟨xs, hR, rfl⟩, s, a, (xs.length : Int), c, rfl, by omega, by omega, hS, fun v H' v0 v1 hE hS' => ?_⟩
      have hv : v.toNat < xs.length := by omega
      exact .inr (.inl ⟨r, xs, v, xs[v.toNat], rfl, rfl, TK.ext hE hS _ _ hR, atI_pos v0 (List.getElem?_eq_getElem hv), q _ _ (List.getElem_mem hv) hE hS'⟩)
end

end Z
namespace Z
open PySem L2 SX
theorem S_str (x : Str) : x = S (tl x) := TL.ext_tl rfl
theorem dg_in (c : Nat) : decide (c ∈ (("0123456789" : Str)).cps.toList) = dg c := by
  have e : (("0123456789" : Str)).cps.toList = [48, 49, 50, 51, 52, 53, 54, 55, 56, 57] := by decide
  rw [e, Bool.eq_iff_iff, decide_eq_true_iff, dg_iff]
  simp only [List.mem_cons, List.not_mem_nil, or_false]
  omega
theorem int67 {d : List Nat} (h : d.all dg = true) (ne : d ≠ []) (hl : d.length ≤ 4300) : PySem.intText? (S d) = some ((dv d : Nat) : Int) :=
  int_S (List.all_eq_true.mpr fun c m => List.all_eq_true.mp h c m) ne hl
theorem rep57 : ∀ k : Nat, rep k [57] = List.replicate k 57
  | 0 => rfl
  | k + 1 => by
    show [57] ++ rep k [57] = _
    rw [rep57 k]; rfl
theorem nine_tl : tl (Str.ofString "9") = [57] := by decide
theorem emp_iff {d : List Nat} : decide (V.str (S d) = V.str (Str.ofString "")) = decide (d = []) := by
  refine decide_eq_decide.mpr ⟨fun h => ?_, fun h => by rw [h]; rfl⟩
  injection h with h
  exact congrArg tl h
theorem num_dec {d : List Nat} {L : Nat} (h : canB d L = true) (ne : d ≠ []) : numB d L = decide ((L : Int) ≤ (dv d : Int)) := by
  unfold numB
  rw [decide_eq_true ne, h, Bool.true_and, Bool.true_and]
  exact decide_eq_decide.mpr (by omega)
theorem num_emp {L : Nat} : numB [] L = false := rfl
section
variable {P : Program} {w : World} {K : PySem.W.Frag} {mg : Str → Option Value} {base : Heap}
theorem ok_MarksReader____init__ {A_MarksReader : Addr} (D : DfI K A_MarksReader "MarksReader.__init__" s_MarksReader____init__ ["self"]) (T : Tx mg) (O : To K mg A_MarksReader)   : CalI P w K mg base A_MarksReader ["self"] 1 (sp67_init K A_MarksReader) := by
  obtain ⟨f, fd, F, gf, bf⟩ := D
  refine ⟨f, fd, F.ok sc_MarksReader____init__ (fun vs H Q E h => ?_) (fun cdv A outer s₀ H vs Q E hr h => ?_), gf, bf⟩
  · obtain ⟨o, dx, rfl, _⟩ := h; rfl
  · obtain ⟨o, dx, rfl, hp, q⟩ := h
    refine ⟨_, (pss_cons (ps_fld (pv 0) (pe_lst pa_nil) rfl)
      (pss_cons (ps_fld (pv 0) pe_int rfl)
      (pss_cons (ps_fld (pv 0) pe_str rfl)
      (pss_one (ps_fld (pv 0) pe_non rfl))))), ?_⟩
    refine ⟨Nat.zero_le _, fun mk hmk => ?_⟩
    have om : o ≠ mk := fun e => by rw [← e, hp] at hmk; cases hmk
    refine ⟨_, rfl, o, A_MarksReader, dx, [], rfl, by rw [upd_ne om]; exact hp, O.c_MarksReader, O.n_MarksReader_marks, by decide, ?_⟩
    refine ⟨_, rfl, o, A_MarksReader, dx, _, rfl, upd_same, O.c_MarksReader, O.n_MarksReader_least, by show (1 : Nat) < 1000; decide, ?_⟩
    rw [upd_upd]
    refine ⟨_, rfl, o, A_MarksReader, dx, _, rfl, upd_same, O.c_MarksReader, O.n_MarksReader_digits, by show (2 : Nat) < 1000; decide, ?_⟩
    rw [upd_upd]
    refine ⟨_, rfl, o, A_MarksReader, dx, _, rfl, upd_same, O.c_MarksReader, O.n_MarksReader_first, by show (3 : Nat) < 1000; decide, ?_⟩
    rw [upd_upd]
    refine q mk _ hmk (fun b u nb hb => ?_) ⟨⟨dx, upd_same⟩, ⟨[], by rw [upd_ne om.symm]; exact upd_same, rfl⟩⟩
    rw [upd_ne (fun e => nb (by rw [e]; simp)), upd_ne (ne_of_none hb hmk)]; exact hb
end
section
variable {P : Program} {w : World} {K : PySem.W.Frag} {mg : Str → Option Value} {base : Heap}
theorem ok_MarksReader__is_number {A_MarksReader : Addr} (D : DfM K A_MarksReader "is_number" "MarksReader.is_number" s_MarksReader__is_number ["self"]) (T : Tx mg) (O : To K mg A_MarksReader)   : CalM P w K mg base A_MarksReader "is_number" ["self"] 1 (sp67_isnum K A_MarksReader) := by
  obtain ⟨f, fd, F, gf, bf⟩ := D
  refine ⟨f, fd, F.ok sc_MarksReader__is_number (fun vs H Q E h => ?_) (fun cdv A outer s₀ H vs Q E hr h => ?_), gf, bf⟩
  · obtain ⟨o, mk, st, rfl, _⟩ := h; rfl
  · obtain ⟨o, mk, st, rfl, hR, g, q⟩ := h
    refine ⟨_, (pss_one (ps_ret (pe_and (pe_cmpR op_ne (pe_fld (pv 0) rfl) pe_str (nomark _)) (pe_one (pe_cmpR op_ge (pe_callTy call_int_str (by rfl) T.n_int (by decide +kernel) (pa_cons (pe_fld (pv 0) rfl) pa_nil)) (pe_fld (pv 0) rfl) (nomark _)))))), ?_⟩
    obtain ⟨dx, ob⟩ := hR.ob
    refine ⟨_, rfl, o, A_MarksReader, dx, _, _, rfl, ob, O.c_MarksReader, O.n_MarksReader_digits, rfl, rfl, _, rfl, ?_⟩
    rw [emp_iff]
    by_cases ne : st.d = []
    · rw [decide_eq_true ne]
      rw [ne, num_emp] at q
      exact iteF q
    · rw [decide_eq_false ne]
      obtain ⟨c1, c2, c3, c4⟩ := can_iff.mp g.can
      refine iteT ⟨_, rfl, o, A_MarksReader, dx, _, _, rfl, ob, O.c_MarksReader, O.n_MarksReader_digits, rfl, S st.d, _, rfl, int67 c3 ne (by omega), by show st.d.length ≤ 640; omega, _, rfl, o, A_MarksReader, dx, _, _, rfl, ob, O.c_MarksReader, O.n_MarksReader_least, rfl, _, _, rfl, rfl, ?_⟩
      rw [num_dec g.can ne] at q
      exact q
end
section
variable {P : Program} {w : World} {K : PySem.W.Frag} {mg : Str → Option Value} {base : Heap}
theorem ok_greatest_of (D : Df K mg "greatest_of" s_greatest_of ["digits"]) (T : Tx mg)   : Cal P w K mg base "greatest_of" ["digits"] 1 sp67_greatest := by
  obtain ⟨t_MOST_DIGITS, h_MOST_DIGITS⟩ := T.c_MOST_DIGITS
  obtain ⟨f, fd, F, gf, bf⟩ := D
  refine ⟨f, fd, F.ok sc_greatest_of (fun vs H Q E h => ?_) (fun cdv A outer s₀ H vs Q E hr h => ?_), gf, F.kp, bf⟩
  · obtain ⟨x, rfl, _⟩ := h; rfl
  · obtain ⟨x, rfl, xl, xd, q⟩ := h
    refine ⟨_, (pss_one (ps_ret (pe_callTy call_int_str (by rfl) T.n_int (by decide +kernel) (pa_cons (pe_op op_add_str (pv 0) (pe_op op_mul_str pe_str (pe_op op_sub (pe_glob (v := .int 6) (by rfl) h_MOST_DIGITS ⟨_, rfl⟩) (pe_callB call_lenS (by rfl) T.n_len PySem.boot_len (pa_cons (pv 0) pa_nil))))) pa_nil)))), ?_⟩
    have lx := tl_len x
    refine ⟨_, rfl, _, rfl, x, rfl, Nat.le_trans (show x.length ≤ 6 by omega) (by decide), _, _, rfl, rfl, Str.ofString "9", _, rfl, rfl, by omega, by omega, ?_, fun r hr => ?_⟩
    · rw [nine_tl]
      show 1 * _ ≤ _
      omega
    have er : tl r = List.replicate (6 - (tl x).length) 57 := by
      rw [hr, nine_tl, rep57]
      congr 1; omega
    have exr : x ++ r = S ((tl x ++ List.replicate 6 57).take 6) := TL.ext_tl (by
      rw [cap_take xl]
      show tl (x ++ r) = _
      rw [tl_app, er])
    have dr : (tl x ++ List.replicate (6 - (tl x).length) 57).all dg = true := by
      rw [List.all_append, xd, Bool.true_and]
      exact List.all_eq_true.mpr fun c hc => by rw [(List.mem_replicate.mp hc).2]; decide
    have lr : (tl x ++ List.replicate (6 - (tl x).length) 57).length = 6 := by rw [List.length_append, List.length_replicate]; omega
    have hi : PySem.intText? (x ++ r) = some ((cap (tl x) : Nat) : Int) := by
      rw [exr]
      unfold cap
      refine int67 ?_ (fun e => ?_) ?_ <;> rw [cap_take xl] at *
      · exact dr
      · rw [e] at lr; cases lr
      · rw [lr]; decide
    have ll : (x ++ r).length = 6 := by
      rw [tl_len, tl_app, er]; exact lr
    have lr2 : x.length + r.length = 6 := by
      rw [tl_len x, tl_len r, er]
      rw [List.length_append] at lr; exact lr
    exact ⟨x, r, rfl, rfl, by rw [lr2]; decide, x ++ r, _, rfl, hi, by rw [ll]; decide, q⟩
end
theorem sg_dec {c k : Nat} : decide (V.str (S [c]) = V.str (S [k])) = decide (c = k) := by
  refine decide_eq_decide.mpr ⟨fun h => ?_, fun h => by rw [h]⟩
  injection h with h
  have := congrArg tl h
  exact (List.cons.inj this).1
theorem isSome_ite {α : Type} {p : Prop} [Decidable p] {x : α} : (if p then some x else none).isSome = decide p := by
  by_cases h : p
  · rw [if_pos h, decide_eq_true h]; rfl
  · rw [if_neg h, decide_eq_false h]; rfl
section
variable {P : Program} {w : World} {K : PySem.W.Frag} {mg : Str → Option Value} {base : Heap}
theorem ok_MarksReader__may_stand {A_MarksReader : Addr} (D : DfM K A_MarksReader "may_stand" "MarksReader.may_stand" s_MarksReader__may_stand ["self", "sign"]) (T : Tx mg) (O : To K mg A_MarksReader)  (C_MarksReader__is_number : CalM P w K mg base A_MarksReader "is_number" ["self"] 1 (sp67_isnum K A_MarksReader)) (C_greatest_of : Cal P w K mg base "greatest_of" ["digits"] 1 sp67_greatest) : CalM P w K mg base A_MarksReader "may_stand" ["self", "sign"] 2 (sp67_may K A_MarksReader) := by
  obtain ⟨f_MarksReader__is_number, fd_MarksReader__is_number, G_MarksReader__is_number, h_MarksReader__is_number, b_MarksReader__is_number⟩ := C_MarksReader__is_number
  obtain ⟨f_greatest_of, fd_greatest_of, G_greatest_of, g_greatest_of, k_greatest_of, b_greatest_of⟩ := C_greatest_of
  obtain ⟨t_DIGITS, h_DIGITS⟩ := T.c_DIGITS
  obtain ⟨t_LAST_MARK, h_LAST_MARK⟩ := T.c_LAST_MARK
  obtain ⟨t_MOST_DIGITS, h_MOST_DIGITS⟩ := T.c_MOST_DIGITS
  obtain ⟨f, fd, F, gf, bf⟩ := D
  refine ⟨f, fd, F.ok sc_MarksReader__may_stand (fun vs H Q E h => ?_) (fun cdv A outer s₀ H vs Q E hr h => ?_), gf, bf⟩
  · obtain ⟨o, mk, st, c, rfl, _⟩ := h; rfl
  · obtain ⟨o, mk, st, c, rfl, hR, g, q⟩ := h
    refine ⟨_, (pss_cons (ps_if (pt_cmpR op_in_sign (pv 1) (pe_glob (v := .str ("0123456789")) (by rfl) h_DIGITS ⟨_, rfl⟩) (by rfl))
      (pss_cons (ps_set (i := 2) sc_MarksReader__may_stand.nd rfl (Or.inl rfl) (pe_op op_add_str (pe_fld (pv 0) rfl) (pv 1)))
        (pss_one (ps_ret (pe_and (pe_cmpR op_ne (pe_item_str (pv 2) pe_int (fun _ _ => rfl)) pe_str (nomark _)) (pe_and (pe_cmpR op_le (pe_callB call_lenS (by rfl) T.n_len PySem.boot_len (pa_cons (pv 2) pa_nil)) (pe_glob (v := .int 6) (by rfl) h_MOST_DIGITS ⟨_, rfl⟩) (nomark _)) (pe_one (pe_cmpR op_ge (pe_call G_greatest_of (hr.mono (by decide)) (by rfl) g_greatest_of k_greatest_of b_greatest_of .nil pass0 (pa_cons (pv 2) pa_nil)) (pe_fld (pv 0) rfl) (nomark _))))))))
      pss_nil)
      (pss_cons (ps_if (pt_cmpR op_eq (pv 1) pe_str (nomark _))
      (pss_one (ps_ret (pe_and (pe_cmpR op_isN (pe_fld (pv 0) rfl) pe_non (nomark _)) (pe_and (pe_meth0 (pv 0) O.c_MarksReader h_MarksReader__is_number G_MarksReader__is_number (hr.mono (by decide)) b_MarksReader__is_number .nil pass0) (pe_one (pe_cmpR op_lt (pe_callTy call_int_str (by rfl) T.n_int (by decide +kernel) (pa_cons (pe_fld (pv 0) rfl) pa_nil)) (pe_glob (v := .int 999999) (by rfl) h_LAST_MARK ⟨_, rfl⟩) (nomark _)))))))
      pss_nil)
      (pss_one (ps_ret (pe_and (pe_cmpR op_eq (pv 1) pe_str (nomark _)) (pe_and (pe_meth0 (pv 0) O.c_MarksReader h_MarksReader__is_number G_MarksReader__is_number (hr.mono (by decide)) b_MarksReader__is_number .nil pass0) (pe_one (pe_cmpR op_le (pe_op op_add (pe_callTy call_int_str (by rfl) T.n_int (by decide +kernel) (pa_cons (pe_fld (pv 0) rfl) pa_nil)) pe_int) (pe_glob (v := .int 999999) (by rfl) h_LAST_MARK ⟨_, rfl⟩) (nomark _))))))))), ?_⟩
    obtain ⟨dx, ob⟩ := hR.ob
    obtain ⟨c1, c2, c3, c4⟩ := can_iff.mp g.can
    refine ⟨_, rfl, c, _, rfl, rfl, _, rfl, ?_⟩
    rw [dg_in]
    by_cases k : dg c = true
    · have q : Q (V.bl (canB (st.d ++ [c]) st.L)) H := by
        unfold stp at q
        rw [if_pos k] at q
        by_cases z : canB (st.d ++ [c]) st.L = true
        · rw [if_pos z] at q; rw [z]; exact q
        · rw [if_neg z] at q; rw [Bool.eq_false_iff.mpr z]; exact q
      have ad : (st.d ++ [c]).all dg = true := by rw [List.all_append, c3]; show (true && (dg c && true)) = true; rw [k]; rfl
      have ed : S st.d ++ S [c] = S (st.d ++ [c]) := TL.ext_tl (by show tl (S st.d ++ S [c]) = _; rw [tl_app])
      have ll : (st.d ++ [c]).length = st.d.length + 1 := by rw [List.length_append]; rfl
      obtain ⟨c0, h0⟩ : ∃ c0, (st.d ++ [c]).head? = some c0 := by
        cases st.d with
        | nil => exact ⟨_, rfl⟩
        | cons x r => exact ⟨_, rfl⟩
      refine iG k ?_
      refine ⟨_, rfl, o, A_MarksReader, dx, _, _, rfl, ob, O.c_MarksReader, O.n_MarksReader_digits, rfl, _, rfl, S st.d, S [c], rfl, rfl, Nat.le_trans (show st.d.length + 1 ≤ 7 by omega) (by decide), ?_⟩
      rw [ed]
      refine ⟨_, rfl, S (st.d ++ [c]), 0, c0, rfl, rfl, by decide, by decide, by show (0 : Int) < ((st.d ++ [c]).length : Nat); omega, by show (st.d ++ [c]).toArray[0]? = _; rw [List.getElem?_toArray, ← List.head?_eq_getElem?, h0], rfl, _, rfl, ?_⟩
      rw [show decide (V.str ⟨#[c0]⟩ = V.str (Str.ofString "0")) = decide (c0 = 48) from sg_dec (c := c0) (k := 48)]
      by_cases k0 : c0 = 48
      · rw [decide_eq_true k0]
        have : canB (st.d ++ [c]) st.L = false := by
          rw [Bool.eq_false_iff]; intro z
          exact (can_iff.mp z).2.1 (by rw [h0, k0])
        rw [this] at q
        exact iteF q
      rw [decide_eq_false k0]
      refine iteT ⟨_, rfl, S (st.d ++ [c]), rfl, Nat.le_trans (show (st.d ++ [c]).length ≤ 7 by omega) (by decide), _, _, rfl, rfl, _, rfl, ?_⟩
      by_cases k6 : (st.d ++ [c]).length ≤ 6
      · refine iG (decide_eq_true (show (((st.d ++ [c]).length : Nat) : Int) ≤ 6 by omega)) ⟨_, rfl, S (st.d ++ [c]), rfl, k6, ad, _, rfl, o, A_MarksReader, dx, _, _, rfl, ob, O.c_MarksReader, O.n_MarksReader_least, rfl, _, _, rfl, rfl, ?_⟩
        have : canB (st.d ++ [c]) st.L = decide ((st.L : Int) ≤ (cap (st.d ++ [c]) : Nat)) := by
          rw [Bool.eq_iff_iff, decide_eq_true_iff, can_iff]
          exact ⟨fun z => by have := z.2.2.2; omega, fun z => ⟨k6, fun y => k0 (by rw [h0] at y; exact Option.some.inj y), ad, by omega⟩⟩
        rw [this] at q
        exact q
      · have : canB (st.d ++ [c]) st.L = false := by
          rw [Bool.eq_false_iff]; intro z
          exact k6 (can_iff.mp z).1
        rw [this] at q
        exact iN (decide_eq_false (show ¬ (((st.d ++ [c]).length : Nat) : Int) ≤ 6 by omega)) q
    refine iN (by rw [Bool.eq_false_iff.mpr k]) ?_
    unfold stp at q
    rw [if_neg k] at q
    have num3 : numB st.d st.L = true → st.d ≠ [] := fun h => (num_iff.mp h).1
    refine ⟨_, rfl, rfl, _, rfl, ?_⟩
    rw [show decide (V.str (S [c]) = V.str (Str.ofString "-")) = decide (c = 45) from sg_dec (c := c) (k := 45)]
    by_cases k2 : c = 45
    · rw [if_pos k2, isSome_ite] at q
      refine iG (decide_eq_true k2) ?_
      refine ⟨_, rfl, o, A_MarksReader, dx, _, _, rfl, ob, O.c_MarksReader, O.n_MarksReader_first, rfl, rfl, _, rfl, ?_⟩
      by_cases kf : st.f = none
      · refine iG (by rw [kf]; rfl) ⟨_, rfl, o, dx, _, rfl, ob, rfl, o, mk, st, rfl, hR, g, _, rfl, ?_⟩
        by_cases kn : numB st.d st.L = true
        · refine iG kn ⟨_, rfl, o, A_MarksReader, dx, _, _, rfl, ob, O.c_MarksReader, O.n_MarksReader_digits, rfl, S st.d, _, rfl, int67 c3 (num3 kn) (by omega), by show st.d.length ≤ 640; omega, _, _, rfl, rfl, ?_⟩
          rw [show decide (st.f = none ∧ numB st.d st.L = true ∧ dv st.d < 999999) = decide (((dv st.d : Nat) : Int) < 999999) from decide_eq_decide.mpr ⟨fun z => by have := z.2.2; omega, fun z => ⟨kf, kn, by omega⟩⟩] at q
          exact q
        · rw [decide_eq_false (fun z => kn z.2.1)] at q
          exact iN (Bool.eq_false_iff.mpr kn) q
      · rw [decide_eq_false (fun z => kf z.1)] at q
        refine iN ?_ q
        cases e : st.f with
        | none => exact absurd e kf
        | some n => rfl
    rw [if_neg k2, isSome_ite] at q
    refine iN (decide_eq_false k2) ⟨_, rfl, rfl, _, rfl, ?_⟩
    rw [show decide (V.str (S [c]) = V.str (Str.ofString ",")) = decide (c = 44) from sg_dec (c := c) (k := 44)]
    by_cases k3 : c = 44
    · refine iG (decide_eq_true k3) ⟨_, rfl, o, dx, _, rfl, ob, rfl, o, mk, st, rfl, hR, g, _, rfl, ?_⟩
      by_cases kn : numB st.d st.L = true
      · refine iG kn ⟨_, rfl, o, A_MarksReader, dx, _, _, rfl, ob, O.c_MarksReader, O.n_MarksReader_digits, rfl, S st.d, _, rfl, int67 c3 (num3 kn) (by omega), by show st.d.length ≤ 640; omega, _, _, rfl, rfl, _, _, rfl, rfl, ?_⟩
        rw [show decide (c = 44 ∧ numB st.d st.L = true ∧ dv st.d + 2 ≤ 999999) = decide (((dv st.d : Nat) : Int) + 2 ≤ 999999) from decide_eq_decide.mpr ⟨fun z => by have := z.2.2; omega, fun z => ⟨k3, kn, by omega⟩⟩] at q
        exact q
      · rw [decide_eq_false (fun z => kn z.2.1)] at q
        exact iN (Bool.eq_false_iff.mpr kn) q
    · rw [decide_eq_false (fun z => k3 z.1)] at q
      exact iN (decide_eq_false k3) q
end
section
variable {P : Program} {w : World} {K : PySem.W.Frag} {mg : Str → Option Value} {base : Heap}
theorem ok_MarksReader__end_range {A_MarksReader : Addr} (D : DfM K A_MarksReader "end_range" "MarksReader.end_range" s_MarksReader__end_range ["self"]) (T : Tx mg) (O : To K mg A_MarksReader)   : CalM P w K mg base A_MarksReader "end_range" ["self"] 1 (sp67_end K A_MarksReader) := by
  obtain ⟨f, fd, F, gf, bf⟩ := D
  refine ⟨f, fd, F.ok sc_MarksReader__end_range (fun vs H Q E h => ?_) (fun cdv A outer s₀ H vs Q E hr h => ?_), gf, bf⟩
  · obtain ⟨o, mk, st, rfl, _⟩ := h; rfl
  · obtain ⟨o, mk, st, rfl, hR, g, hn, ml, q⟩ := h
    refine ⟨_, (pss_cons (ps_set (i := 1) sc_MarksReader__end_range.nd rfl (Or.inl rfl) (pe_callTy call_int_str (by rfl) T.n_int (by decide +kernel) (pa_cons (pe_fld (pv 0) rfl) pa_nil)))
      (pss_cons (ps_expr (pe_bm PySem.F.plainAttrs_list PySem.F.slot_list_append PySem.F.type_list_append mt_append (pe_fld (pv 0) rfl) (pa_cons (pe_tup (pa_cons (pe_ifExp (pt_cmpR op_isN (pe_fld (pv 0) rfl) pe_non (nomark _)) (pv 1) (pe_fld (pv 0) rfl)) (pa_cons (pv 1) pa_nil))) pa_nil)))
      (pss_cons (ps_fld (pv 0) (pe_op op_add (pv 1) pe_int) rfl)
      (pss_cons (ps_fld (pv 0) pe_str rfl)
      (pss_one (ps_fld (pv 0) pe_non rfl)))))), ?_⟩
    have big : ∀ {n : Nat}, n ≤ 30000 → n < sizeLine := fun h => Nat.lt_of_le_of_lt h (by decide)
    obtain ⟨dx, ob⟩ := hR.ob
    obtain ⟨us, hu, ru⟩ := hR.ls
    have ul := ru.len
    obtain ⟨c1, c2, c3, c4⟩ := can_iff.mp g.can
    have ne := (num_iff.mp hn).1
    have om : o ≠ mk := fun e => by rw [e, hu] at ob; cases ob
    refine ⟨_, rfl, o, A_MarksReader, dx, _, _, rfl, ob, O.c_MarksReader, O.n_MarksReader_digits, rfl, S st.d, _, rfl, int67 c3 ne (by omega), by show st.d.length ≤ 640; omega, ?_⟩
    refine ⟨_, rfl, o, A_MarksReader, dx, _, _, rfl, ob, O.c_MarksReader, O.n_MarksReader_marks, rfl, .inl ⟨rfl, _, SqL.of hu⟩, ?_⟩
    refine ⟨_, rfl, o, A_MarksReader, dx, _, _, rfl, ob, O.c_MarksReader, O.n_MarksReader_first, rfl, rfl, _, rfl, ?_⟩
    cases kf : st.f with
    | none =>
      refine iG rfl ⟨_, rfl, _, rfl, by show 2 ≤ sizeLine; decide, fun T hT => ?_⟩
      have nT := same_new (o := HO.tup [V.int (dv st.d : Nat), V.int ((dv st.d : Nat) : Int)]) hT
      have hu1 := nT _ _ hu
      have ob1 := nT _ _ ob
      have hT1 : (upd H T (.tup [V.int (dv st.d : Nat), V.int ((dv st.d : Nat) : Int)])) T = some (.tup [V.int (dv st.d : Nat), V.int ((dv st.d : Nat) : Int)]) := upd_same
      have T1 := TK.same (K := K) nT
      refine ⟨mk, us, _, rfl, rfl, hu1, big (by omega), ?_⟩
      generalize upd H T (.tup [V.int (dv st.d : Nat), V.int ((dv st.d : Nat) : Int)]) = H1 at nT hu1 ob1 hT1 T1 ⊢
      have T2 : TK K H1 (upd H1 mk (.lst (us ++ [V.ref T]))) := tk_put hu1
      have ob2 : (upd H1 mk (.lst (us ++ [V.ref T]))) o = some (.ins A_MarksReader dx (rdF mk st.L st.d st.f)) := by rw [upd_ne om]; exact ob1
      have hu2 : (upd H1 mk (.lst (us ++ [V.ref T]))) mk = some (.lst (us ++ [V.ref T])) := upd_same
      have r2 : RL (PrI K (upd H1 mk (.lst (us ++ [V.ref T])))) (st.M ++ [(st.f.getD (dv st.d), dv st.d)]) (us ++ [V.ref T]) := ((ru.mono (PrI.tk T1)).mono (PrI.tk T2)).snoc ⟨T, rfl, T2 _ _ (SqT.of (by rw [hT1, kf]; rfl))⟩
      have x2 : ExtL [o, mk] H (upd H1 mk (.lst (us ++ [V.ref T]))) := (ExtL.of nT).trans (ExtL.put (by simp))
      have T02 := T1.trans T2
      generalize upd H1 mk (.lst (us ++ [V.ref T])) = H2 at T2 ob2 hu2 r2 x2 T02 ⊢
      refine ⟨_, rfl, _, _, rfl, rfl, _, rfl, o, A_MarksReader, dx, _, rfl, ob2, O.c_MarksReader, O.n_MarksReader_least, by show (4 : Nat) < 1000; decide, ?_⟩
      refine ⟨_, rfl, o, A_MarksReader, dx, _, rfl, upd_same, O.c_MarksReader, O.n_MarksReader_digits, by show (4 : Nat) < 1000; decide, ?_⟩
      rw [upd_upd]
      refine ⟨_, rfl, o, A_MarksReader, dx, _, rfl, upd_same, O.c_MarksReader, O.n_MarksReader_first, by show (4 : Nat) < 1000; decide, ?_⟩
      rw [upd_upd]
      have T3 : TK K H2 (upd H2 o (.ins A_MarksReader dx (rdF mk (dv st.d + 2) [] none))) := tk_upd ob2 (fun _ e => by cases e) (fun _ _ e => by cases e)
      exact q _ (x2.trans (ExtL.put (by simp))) (T02.trans T3) ⟨⟨dx, upd_same⟩, ⟨_, by rw [upd_ne om.symm]; exact hu2, r2.mono (PrI.tk T3)⟩⟩
    | some n =>
      refine iN rfl ⟨_, rfl, o, A_MarksReader, dx, _, _, rfl, (show H o = some (.ins A_MarksReader dx (rdF mk st.L st.d (some n))) by rw [← kf]; exact ob), O.c_MarksReader, O.n_MarksReader_first, rfl, _, rfl, by show 2 ≤ sizeLine; decide, fun T hT => ?_⟩
      rw [show fV (some n) = V.int ((n : Nat) : Int) from rfl]
      have nT := same_new (o := HO.tup [V.int (n : Nat), V.int ((dv st.d : Nat) : Int)]) hT
      have hu1 := nT _ _ hu
      have ob1 := nT _ _ ob
      have hT1 : (upd H T (.tup [V.int (n : Nat), V.int ((dv st.d : Nat) : Int)])) T = some (.tup [V.int (n : Nat), V.int ((dv st.d : Nat) : Int)]) := upd_same
      have T1 := TK.same (K := K) nT
      refine ⟨mk, us, _, rfl, rfl, hu1, big (by omega), ?_⟩
      generalize upd H T (.tup [V.int (n : Nat), V.int ((dv st.d : Nat) : Int)]) = H1 at nT hu1 ob1 hT1 T1 ⊢
      have T2 : TK K H1 (upd H1 mk (.lst (us ++ [V.ref T]))) := tk_put hu1
      have ob2 : (upd H1 mk (.lst (us ++ [V.ref T]))) o = some (.ins A_MarksReader dx (rdF mk st.L st.d st.f)) := by rw [upd_ne om]; exact ob1
      have hu2 : (upd H1 mk (.lst (us ++ [V.ref T]))) mk = some (.lst (us ++ [V.ref T])) := upd_same
      have r2 : RL (PrI K (upd H1 mk (.lst (us ++ [V.ref T])))) (st.M ++ [(st.f.getD (dv st.d), dv st.d)]) (us ++ [V.ref T]) := ((ru.mono (PrI.tk T1)).mono (PrI.tk T2)).snoc ⟨T, rfl, T2 _ _ (SqT.of (by rw [hT1, kf]; rfl))⟩
      have x2 : ExtL [o, mk] H (upd H1 mk (.lst (us ++ [V.ref T]))) := (ExtL.of nT).trans (ExtL.put (by simp))
      have T02 := T1.trans T2
      generalize upd H1 mk (.lst (us ++ [V.ref T])) = H2 at T2 ob2 hu2 r2 x2 T02 ⊢
      refine ⟨_, rfl, _, _, rfl, rfl, _, rfl, o, A_MarksReader, dx, _, rfl, ob2, O.c_MarksReader, O.n_MarksReader_least, by show (4 : Nat) < 1000; decide, ?_⟩
      refine ⟨_, rfl, o, A_MarksReader, dx, _, rfl, upd_same, O.c_MarksReader, O.n_MarksReader_digits, by show (4 : Nat) < 1000; decide, ?_⟩
      rw [upd_upd]
      refine ⟨_, rfl, o, A_MarksReader, dx, _, rfl, upd_same, O.c_MarksReader, O.n_MarksReader_first, by show (4 : Nat) < 1000; decide, ?_⟩
      rw [upd_upd]
      have T3 : TK K H2 (upd H2 o (.ins A_MarksReader dx (rdF mk (dv st.d + 2) [] none))) := tk_upd ob2 (fun _ e => by cases e) (fun _ _ e => by cases e)
      exact q _ (x2.trans (ExtL.put (by simp))) (T02.trans T3) ⟨⟨dx, upd_same⟩, ⟨_, by rw [upd_ne om.symm]; exact hu2, r2.mono (PrI.tk T3)⟩⟩
end
section
variable {P : Program} {w : World} {K : PySem.W.Frag} {mg : Str → Option Value} {base : Heap}
theorem ok_MarksReader__read_sign {A_MarksReader : Addr} (D : DfM K A_MarksReader "read_sign" "MarksReader.read_sign" s_MarksReader__read_sign ["self", "sign"]) (T : Tx mg) (O : To K mg A_MarksReader)  (C_MarksReader__end_range : CalM P w K mg base A_MarksReader "end_range" ["self"] 1 (sp67_end K A_MarksReader)) : CalM P w K mg base A_MarksReader "read_sign" ["self", "sign"] 2 (sp67_read K A_MarksReader) := by
  obtain ⟨f_MarksReader__end_range, fd_MarksReader__end_range, G_MarksReader__end_range, h_MarksReader__end_range, b_MarksReader__end_range⟩ := C_MarksReader__end_range
  obtain ⟨t_DIGITS, h_DIGITS⟩ := T.c_DIGITS
  obtain ⟨f, fd, F, gf, bf⟩ := D
  refine ⟨f, fd, F.ok sc_MarksReader__read_sign (fun vs H Q E h => ?_) (fun cdv A outer s₀ H vs Q E hr h => ?_), gf, bf⟩
  · obtain ⟨o, mk, st, st', c, rfl, _⟩ := h; rfl
  · obtain ⟨o, mk, st, st', c, rfl, hR, g, hs, ml, q⟩ := h
    refine ⟨_, (pss_one (ps_if (pt_cmpR op_in_sign (pv 1) (pe_glob (v := .str ("0123456789")) (by rfl) h_DIGITS ⟨_, rfl⟩) (by rfl))
      (pss_one (ps_fld (pv 0) (pe_op op_add_str (pe_fld (pv 0) rfl) (pv 1)) rfl))
      (pss_one (ps_if (pt_cmpR op_eq (pv 1) pe_str (nomark _))
        (pss_cons (ps_fld (pv 0) (pe_callTy call_int_str (by rfl) T.n_int (by decide +kernel) (pa_cons (pe_fld (pv 0) rfl) pa_nil)) rfl)
          (pss_cons (ps_fld (pv 0) (pe_op op_add (pe_fld (pv 0) rfl) pe_int) rfl)
          (pss_one (ps_fld (pv 0) pe_str rfl))))
        (pss_one (ps_expr (pe_meth0 (pv 0) O.c_MarksReader h_MarksReader__end_range G_MarksReader__end_range (hr.mono (by decide)) b_MarksReader__end_range .nil pass0))))))), ?_⟩
    obtain ⟨dx, ob⟩ := hR.ob
    obtain ⟨us, hu, ru⟩ := hR.ls
    have om : o ≠ mk := fun e => by rw [e, hu] at ob; cases ob
    obtain ⟨c1, c2, c3, c4⟩ := can_iff.mp g.can
    refine ⟨_, rfl, c, _, rfl, rfl, _, rfl, ?_⟩
    rw [dg_in]
    have T1 : ∀ {H1 : Hp} {u o'} , H1 o = some (.ins A_MarksReader dx u) → TK K H1 (upd H1 o (.ins A_MarksReader dx o')) := fun h => tk_upd h (fun _ e => by cases e) (fun _ _ e => by cases e)
    have fin : ∀ s : St67, s.M = st.M → s = st' → Q .non (upd H o (.ins A_MarksReader dx (rdF mk s.L s.d s.f))) := fun s e1 e2 => by
      refine q _ (ExtL.put (by simp)) (T1 ob) ?_
      rw [← e2]
      exact ⟨⟨dx, upd_same⟩, ⟨us, by rw [upd_ne om.symm]; exact hu, by rw [e1]; exact ru.mono (PrI.tk (T1 ob))⟩⟩
    unfold stp at hs
    by_cases k : dg c = true
    · rw [if_pos k] at hs
      split at hs
      · refine iG k ⟨_, rfl, o, A_MarksReader, dx, _, _, rfl, ob, O.c_MarksReader, O.n_MarksReader_digits, rfl, _, rfl, S st.d, S [c], rfl, rfl, Nat.le_trans (show st.d.length + 1 ≤ 7 by omega) (by decide), _, rfl, o, A_MarksReader, dx, _, rfl, ob, O.c_MarksReader, O.n_MarksReader_digits, by show (4 : Nat) < 1000; decide, ?_⟩
        rw [show S st.d ++ S [c] = S (st.d ++ [c]) from TL.ext_tl (by show tl (S st.d ++ S [c]) = _; rw [tl_app])]
        exact fin { st with d := st.d ++ [c] } rfl (Option.some.inj hs)
      · cases hs
    rw [if_neg k] at hs
    refine iN (by rw [Bool.eq_false_iff.mpr k]) ⟨_, rfl, rfl, _, rfl, ?_⟩
    rw [show decide (V.str (S [c]) = V.str (Str.ofString "-")) = decide (c = 45) from sg_dec (c := c) (k := 45)]
    by_cases k2 : c = 45
    · rw [if_pos k2] at hs
      split at hs
      · rename_i hh
        obtain ⟨kf, kn, k9⟩ := hh
        have ne := (num_iff.mp kn).1
        refine iG (decide_eq_true k2) ⟨_, rfl, o, A_MarksReader, dx, _, _, rfl, ob, O.c_MarksReader, O.n_MarksReader_digits, rfl, S st.d, _, rfl, int67 c3 ne (by omega), by show st.d.length ≤ 640; omega, _, rfl, o, A_MarksReader, dx, _, rfl, ob, O.c_MarksReader, O.n_MarksReader_first, by show (4 : Nat) < 1000; decide, ?_⟩
        refine ⟨_, rfl, o, A_MarksReader, dx, _, _, rfl, upd_same, O.c_MarksReader, O.n_MarksReader_first, rfl, _, _, rfl, rfl, _, rfl, o, A_MarksReader, dx, _, rfl, upd_same, O.c_MarksReader, O.n_MarksReader_least, by show (4 : Nat) < 1000; decide, ?_⟩
        rw [upd_upd]
        refine ⟨_, rfl, o, A_MarksReader, dx, _, rfl, upd_same, O.c_MarksReader, O.n_MarksReader_digits, by show (4 : Nat) < 1000; decide, ?_⟩
        rw [upd_upd]
        exact fin ⟨st.M, dv st.d + 1, [], some (dv st.d)⟩ rfl (Option.some.inj hs)
      · cases hs
    rw [if_neg k2] at hs
    split at hs
    · rename_i hh
      refine iN (decide_eq_false k2) ⟨_, rfl, o, dx, _, rfl, ob, rfl, o, mk, st, rfl, hR, g, hh.2.1, ml, fun H' x' T' hR' => ?_⟩
      rw [Option.some.inj hs] at hR'
      exact q H' x' T' hR'
    · cases hs
end

end Z
namespace Z
open PySem L2 SX
theorem stp_len {st s : St67} {c : Nat} (h : stp st c = some s) : s.M.length ≤ st.M.length + 1 := by
  unfold stp at h
  split at h
  · split at h
    · cases h; exact Nat.le_succ _
    · cases h
  · split at h
    · split at h
      · cases h; exact Nat.le_succ _
      · cases h
    · split at h
      · cases h; show (st.M ++ [_]).length ≤ _; rw [List.length_append]; exact Nat.le_refl _
      · cases h
theorem rd_same {K : PySem.W.Frag} {C : Addr} {H H' : Hp} {o mk : Addr} {st : St67} (h : RdAt K C H o mk st) (m : Same H H') : RdAt K C H' o mk st := by
  obtain ⟨⟨dx, ob⟩, us, hu, ru⟩ := h
  exact ⟨⟨dx, m _ _ ob⟩, us, m _ _ hu, ru.mono (PrI.tk (TK.same m))⟩
theorem emp_x {x : Str} : decide (V.str x = V.str (Str.ofString "")) = decide (tl x = []) := by
  rw [show x = S (tl x) from TL.ext_tl rfl]
  exact emp_iff
section
variable {P : Program} {w : World} {K : PySem.W.Frag} {mg : Str → Option Value} {base : Heap}
theorem ok_read_marks (D : Df K mg "read_marks" s_read_marks ["text"]) (T : Tx mg) {A_MarksReader : Addr} (O : To K mg A_MarksReader) {A_MootError A_TextError A_BadMarks : Addr} (Y : Tc K mg A_MootError A_TextError A_BadMarks) (C_MarksReader____init__ : CalI P w K mg base A_MarksReader ["self"] 1 (sp67_init K A_MarksReader)) (C_MarksReader__end_range : CalM P w K mg base A_MarksReader "end_range" ["self"] 1 (sp67_end K A_MarksReader)) (C_MarksReader__is_number : CalM P w K mg base A_MarksReader "is_number" ["self"] 1 (sp67_isnum K A_MarksReader)) (C_MarksReader__may_stand : CalM P w K mg base A_MarksReader "may_stand" ["self", "sign"] 2 (sp67_may K A_MarksReader)) (C_MarksReader__read_sign : CalM P w K mg base A_MarksReader "read_sign" ["self", "sign"] 2 (sp67_read K A_MarksReader)) : CalX P w K mg base "read_marks" ["text"] 3 (sp67_marks K A_BadMarks) := by
  obtain ⟨f_MarksReader____init__, fd_MarksReader____init__, G_MarksReader____init__, h_MarksReader____init__, b_MarksReader____init__⟩ := C_MarksReader____init__
  obtain ⟨f_MarksReader__end_range, fd_MarksReader__end_range, G_MarksReader__end_range, h_MarksReader__end_range, b_MarksReader__end_range⟩ := C_MarksReader__end_range
  obtain ⟨f_MarksReader__is_number, fd_MarksReader__is_number, G_MarksReader__is_number, h_MarksReader__is_number, b_MarksReader__is_number⟩ := C_MarksReader__is_number
  obtain ⟨f_MarksReader__may_stand, fd_MarksReader__may_stand, G_MarksReader__may_stand, h_MarksReader__may_stand, b_MarksReader__may_stand⟩ := C_MarksReader__may_stand
  obtain ⟨f_MarksReader__read_sign, fd_MarksReader__read_sign, G_MarksReader__read_sign, h_MarksReader__read_sign, b_MarksReader__read_sign⟩ := C_MarksReader__read_sign
  obtain ⟨fI_BadMarks, fdI_BadMarks, FI_BadMarks, iC_BadMarks, tI_BadMarks, bI_BadMarks⟩ := Y.i_BadMarks
  obtain ⟨f, fd, F, gf, bf⟩ := D
  refine ⟨f, fd, F.okX sc_read_marks (fun vs H Q E h => ?_) (fun cdv A outer s₀ H vs Q E hr h => ?_), gf, F.kp, bf⟩
  · obtain ⟨x, rfl, _⟩ := h; rfl
  · obtain ⟨x, rfl, xl, qn, qe⟩ := h
    refine ⟨_, (pss_cons (ps_set (i := 1) sc_read_marks.nd rfl (Or.inl rfl) (pe_make0 h_MarksReader____init__ G_MarksReader____init__ (hr.mono (by decide)) (by rfl) O.g_MarksReader b_MarksReader____init__ .nil pass0))
      (pss_cons (ps_for (passes_of rfl) rfl (pi_enumS (by rfl) T.n_enumerate (pa_cons (pv 0) pa_nil)) (pg_tup rfl (pgs_cons (pg_name (i := 2) sc_read_marks.nd rfl (Or.inl rfl)) (pgs_cons (pg_name (i := 3) sc_read_marks.nd rfl (Or.inl rfl)) pgs_nil)))
      (pss_cons (ps_if (pt_not (pt_val (pe_meth (pv 1) O.c_MarksReader h_MarksReader__may_stand G_MarksReader__may_stand (hr.mono (by decide)) b_MarksReader__may_stand .nil pass0 (pa_cons (pv 3) pa_nil))))
        (pss_one (ps_raise rfl (takes_of rfl rfl rfl rfl) (pmk_oex (dvs := []) Y.e_BadMarks.o iC_BadMarks tI_BadMarks (ok_init_BadMarks (C := A_BadMarks) FI_BadMarks) (hr.mono (by decide)) bI_BadMarks .nil pass0 (by rfl) Y.g_BadMarks (pa_cons (pv 2) pa_nil))))
        pss_nil)
        (pss_one (ps_expr (pe_meth (pv 1) O.c_MarksReader h_MarksReader__read_sign G_MarksReader__read_sign (hr.mono (by decide)) b_MarksReader__read_sign .nil pass0 (pa_cons (pv 3) pa_nil))))))
      (C8.pss_cut (ps_if (pt_cmpR op_ne (pv 0) pe_str (nomark _))
      (pss_cons (ps_if (pt_not (pt_val (pe_meth0 (pv 1) O.c_MarksReader h_MarksReader__is_number G_MarksReader__is_number (hr.mono (by decide)) b_MarksReader__is_number .nil pass0)))
        (pss_one (ps_raise rfl (takes_of rfl rfl rfl rfl) (pmk_oex (dvs := []) Y.e_BadMarks.o iC_BadMarks tI_BadMarks (ok_init_BadMarks (C := A_BadMarks) FI_BadMarks) (hr.mono (by decide)) bI_BadMarks .nil pass0 (by rfl) Y.g_BadMarks (pa_cons (pe_callB call_lenS (by rfl) T.n_len PySem.boot_len (pa_cons (pv 0) pa_nil)) pa_nil))))
        pss_nil)
        (pss_one (ps_expr (pe_meth0 (pv 1) O.c_MarksReader h_MarksReader__end_range G_MarksReader__end_range (hr.mono (by decide)) b_MarksReader__end_range .nil pass0))))
      pss_nil)
      (pss_one (ps_ret (pe_callTy call_tuple_of (by rfl) T.n_tuple (by decide +kernel) (pa_cons (pe_fld (pv 1) rfl) pa_nil))))))), ?_⟩
    have big : ∀ {n : Nat}, n ≤ 30000 → n < sizeLine := fun h => Nat.lt_of_le_of_lt h (by decide)
    refine fun o dx ho hdx do1 => ?_
    have i1 := same_new (o := HO.own o) hdx
    have i2 := same_new (o := HO.ins A_MarksReader dx []) (show (upd H dx (.own o)) o = none by rw [upd_ne do1.symm]; exact ho)
    refine ⟨o, dx, rfl, upd_same, fun mk H2 hmk x2 r2 => ⟨rfl, ?_⟩⟩
    have m2 : Same H H2 := fun b u hb => x2 b u (fun z => by rw [List.mem_singleton.mp z, ho] at hb; cases hb) ((i1.trans i2) b u hb)
    have hmk0 : H mk = none := Same.free (i1.trans i2) hmk
    refine ⟨_, rfl, x, rfl, ?_⟩
    refine for_enumS (l := tl x) (fun i σ H' => ∃ (st : St67) (v2 v3 : Option V), σ = [some (.str x), some (.ref o), v2, v3] ∧ RdAt K A_MarksReader H' o mk st ∧ run67 s067 ((tl x).take i) = some st ∧ GSt st ∧ Same H H' ∧ st.M.length ≤ i) ⟨s067, _, _, rfl, r2, rfl, s067_g, m2, Nat.le_refl _⟩ ?_ ?_
    · rintro i c T σ H1 hi ⟨st, v2, v3, rfl, hR, hr', g, m1, ml⟩ hT
      have il := (List.getElem?_eq_some_iff.mp hi).1
      have mT := same_new (o := HO.tup [V.int ((i : Nat) : Int), .str (S [c])]) hT
      refine ⟨T, _, rfl, SqT.of upd_same, rfl, _, _, rfl, _, _, rfl, rfl, ?_⟩
      have hR1 := rd_same hR mT
      have m3 := m1.trans mT
      generalize upd H1 T (.tup [V.int ((i : Nat) : Int), .str (S [c])]) = H3 at hR1 m3 ⊢
      obtain ⟨dx', ob⟩ := hR1.ob
      refine ⟨_, rfl, o, dx', _, rfl, ob, rfl, _, rfl, o, mk, st, c, rfl, hR1, g, _, rfl, ?_⟩
      cases e : stp st c with
      | none =>
        obtain ⟨ba, bn⟩ := BadAt.of hr' hi e
        have wn : whole67 (tl x) = none := by rw [whole_run (fun z => by rw [z] at il; cases il), bn]; rfl
        refine iteT ⟨_, rfl, by show 1 ≤ 1000; decide, fun a ha => ⟨a, _, rfl, Y.e_BadMarks.o, Y.n_BadMarks_at, upd_same, fun dd n ne => ⟨rfl, dd, _, upd_same, by rw [upd_ne ne]; exact upd_same, by rw [upd_ne ne] at n; exact n, ?_⟩⟩⟩
        rw [upd_ne ne] at n
        exact qe i dd _ wn ba (m3.trans (made_same ha n)) upd_same
      | some s =>
        refine iteF ⟨_, rfl, o, dx', _, rfl, ob, rfl, _, rfl, o, mk, st, s, c, rfl, hR1, g, e, by omega, fun H4 x4 T4 hR4 => ?_⟩
        have sl := stp_len e
        have m4 : Same H H4 := fun b u hb => x4 b u (fun z => by
          rcases List.mem_cons.mp z with z | z
          · rw [z, ho] at hb; cases hb
          · rw [List.mem_singleton.mp z, hmk0] at hb; cases hb) (m3 b u hb)
        exact ⟨s, _, _, rfl, hR4, by rw [run_step hr' hi, e], stp_g g e, m4, by omega⟩
    rintro σ H3 ⟨st, v2, v3, rfl, hR, hr', g, m3, ml⟩
    rw [List.take_length] at hr'
    obtain ⟨dx', ob⟩ := hR.ob
    refine ⟨fun σ' H' => ∃ (st : St67) (v2 v3 : Option V), σ' = [some (.str x), some (.ref o), v2, v3] ∧ RdAt K A_MarksReader H' o mk st ∧ whole67 (tl x) = some st.M ∧ Same H H', ?_, ?_⟩
    rotate_left
    · rintro σ' H4 ⟨st', v2, v3, rfl, ⟨⟨dx4, ob4⟩, us, hu, ru⟩, wh, m4⟩
      refine ⟨_, rfl, o, A_MarksReader, dx4, _, _, rfl, ob4, O.c_MarksReader, O.n_MarksReader_marks, rfl, mk, us, rfl, .inl ⟨SqL.of hu, fun l hl => ?_⟩⟩
      have nl := same_new (o := HO.tup us) hl
      exact qn st'.M _ _ wh (m4.trans nl) ⟨l, us, rfl, SqT.of upd_same, RL.dvs (fun p w h => PrI.dv p w h) (ru.mono (PrI.tk (TK.same nl)))⟩
    refine ⟨_, rfl, rfl, _, rfl, ?_⟩
    rw [emp_x]
    by_cases ne : tl x = []
    · rw [decide_eq_true ne]
      refine iteF ⟨st, _, _, rfl, hR, ?_, m3⟩
      rw [ne] at hr' ⊢
      have : s067 = st := Option.some.inj hr'
      rw [← this]; rfl
    have wr := whole_run ne
    rw [hr'] at wr
    have wr : whole67 (tl x) = fin67 st := wr
    unfold fin67 at wr
    rw [decide_eq_false ne]
    refine iteT ⟨_, rfl, o, dx', _, rfl, ob, rfl, o, mk, st, rfl, hR, g, _, rfl, ?_⟩
    by_cases kn : numB st.d st.L = true
    · rw [if_pos kn] at wr
      rw [kn]
      refine iteF ⟨_, rfl, o, dx', _, rfl, ob, rfl, o, mk, st, rfl, hR, g, kn, by omega, fun H4 x4 T4 hR4 => ?_⟩
      have m4 : Same H H4 := fun b u hb => x4 b u (fun z => by
        rcases List.mem_cons.mp z with z | z
        · rw [z, ho] at hb; cases hb
        · rw [List.mem_singleton.mp z, hmk0] at hb; cases hb) (m3 b u hb)
      exact ⟨_, _, _, rfl, hR4, wr, m4⟩
    · rw [if_neg kn] at wr
      rw [Bool.eq_false_iff.mpr kn]
      refine iteT ⟨_, rfl, x, rfl, Nat.le_trans (show x.length ≤ 2000 by rw [tl_len]; exact xl) (by decide), by show 1 ≤ 1000; decide, fun a ha => ⟨a, _, rfl, Y.e_BadMarks.o, Y.n_BadMarks_at, upd_same, fun dd n ne2 => ⟨rfl, dd, _, upd_same, by rw [upd_ne ne2]; exact upd_same, by rw [upd_ne ne2] at n; exact n, ?_⟩⟩⟩
      rw [upd_ne ne2] at n
      refine qe (tl x).length dd _ wr (BadAt.full hr') (m3.trans (made_same ha n)) ?_
      rw [← tl_len]; exact upd_same
end

end Z
namespace Z
open PySem L2 SX
theorem log67 {n : Nat} (h : n ≤ 9999999) : (Int.natAbs (n : Int)).log2 < 1920 := by
  rw [Int.natAbs_natCast]
  by_cases e : n = 0
  · rw [e]; decide
  · have : n.log2 < 30 := (Nat.log2_lt e).mpr (by
      have : (2 : Nat) ^ 30 = 1073741824 := by decide
      omega)
    omega
theorem wordL_len {p : Nat × Nat} (h1 : p.1 ≤ 999999) (h2 : p.2 ≤ 999999) : (wordL p).length ≤ 13 := by
  have a := TL.numL_len (n := p.1) (k := 6) (by decide) (by omega)
  have b := TL.numL_len (n := p.2) (k := 6) (by decide) (by omega)
  unfold wordL
  split
  · omega
  · rw [List.length_append, List.length_cons]; omega
theorem num_tl (n : Nat) : tl (Str.ofString (toString (n : Int))) = TL.numL n := TL.tl_num n
theorem sum67 {n : Nat} : ∀ {xs : List Str}, (∀ x ∈ xs, (tl x).length ≤ n) → (xs.map (·.length)).sum ≤ xs.length * n
  | [], _ => by simp
  | x :: xs, h => by
    have := h x (by simp)
    have ih := sum67 (n := n) (xs := xs) (fun y m => h y (List.mem_cons_of_mem _ m))
    rw [List.map_cons, List.sum_cons, List.length_cons, Nat.succ_mul, tl_len]; omega
theorem tl_join67 (s : Str) (xs : List Str) : tl (Txt.join s xs) = TL.joinL (tl s) (xs.map tl) := by
  rw [TL.join_eq]; exact TL.tl_join s xs
section
variable {P : Program} {w : World} {K : PySem.W.Frag} {mg : Str → Option Value} {base : Heap}
theorem ok_range_text (D : Df K mg "range_text" s_range_text ["first", "last"]) (T : Tx mg)   : Cal P w K mg base "range_text" ["first", "last"] 1 sp67_rtext := by
  obtain ⟨f, fd, F, gf, bf⟩ := D
  refine ⟨f, fd, F.ok sc_range_text (fun vs H Q E h => ?_) (fun cdv A outer s₀ H vs Q E hr h => ?_), gf, F.kp, bf⟩
  · obtain ⟨a, b, rfl, _⟩ := h; rfl
  · obtain ⟨a, b, rfl, ha, hb, q⟩ := h
    refine ⟨_, (pss_one (ps_ret (pe_ifExp (pt_cmpR op_eq (pv 0) (pv 1) (nomark _)) (pe_callTy call_str_int (by rfl) T.n_str (by decide +kernel) (pa_cons (pv 0) pa_nil)) (pe_joined (.cons (pe_fmt (pv 0)) (.cons pe_str (.cons (pe_fmt (pv 1)) .nil))))))), ?_⟩
    have small : ∀ n : Nat, n ≤ 30000 → n ≤ sizeLine := fun n h => Nat.le_trans h (by decide)
    have la := TL.numL_len (n := a) (k := 6) (by decide) (by omega)
    have lb := TL.numL_len (n := b) (k := 6) (by decide) (by omega)
    refine ⟨_, rfl, _, rfl, rfl, _, rfl, ?_⟩
    by_cases e : a = b
    · refine iG (by rw [e]; exact decide_eq_true rfl) ⟨_, rfl, (a : Int), rfl, log67 (by omega), q _ ?_⟩
      show tl (Str.ofString (toString (a : Int))) = _
      unfold wordL
      rw [if_pos e, num_tl]
    refine iN (decide_eq_false (fun h => e (by injection h with h; omega))) ?_
    refine ⟨_, rfl, .inr ⟨(a : Int), rfl, log67 (by omega), _, rfl, ?_, _, rfl, ?_, _, rfl, .inr ⟨(b : Int), rfl, log67 (by omega), _, rfl, ?_, ?_⟩⟩⟩
    · rw [tl_len, tl_app, List.length_append, num_tl]; exact small _ (by show 0 + _ ≤ _; omega)
    · rw [tl_len, tl_app, tl_app, List.length_append, List.length_append, num_tl]; exact small _ (by show (0 + _) + 1 ≤ _; omega)
    · rw [tl_len, tl_app, tl_app, tl_app, List.length_append, List.length_append, List.length_append, num_tl, num_tl]; exact small _ (by show ((0 + _) + 1) + _ ≤ _; omega)
    · refine q _ ?_
      rw [tl_app, tl_app, tl_app, num_tl, num_tl]
      unfold wordL
      rw [if_neg e]
      show ([] ++ TL.numL a ++ [45]) ++ TL.numL b = _
      rw [List.nil_append, List.append_assoc]; rfl
end
section
variable {P : Program} {w : World} {K : PySem.W.Frag} {mg : Str → Option Value} {base : Heap}
theorem ok_write_marks (D : Df K mg "write_marks" s_write_marks ["marks"]) (T : Tx mg)  (C_range_text : Cal P w K mg base "range_text" ["first", "last"] 1 sp67_rtext) : Cal P w K mg base "write_marks" ["marks"] 2 (sp67_write K) := by
  obtain ⟨f_range_text, fd_range_text, G_range_text, g_range_text, k_range_text, b_range_text⟩ := C_range_text
  obtain ⟨f, fd, F, gf, bf⟩ := D
  refine ⟨f, fd, F.ok sc_write_marks (fun vs H Q E h => ?_) (fun cdv A outer s₀ H vs Q E hr h => ?_), gf, F.kp, bf⟩
  · obtain ⟨v, m, rfl, _⟩ := h; rfl
  · obtain ⟨v, m, rfl, hv, ok, q⟩ := h
    refine ⟨_, (pss_one (ps_ret (pe_join pe_str (pe_lc (own := [("first", 1), ("last", 2)]) (g := gTup K 2 (gCons (gName 1) (gCons (gName 2) gNil))) (tt := tYes) rfl sc_write_marks.nd (pi_tup (pv 0)) (blkOk_by (own := [("first", 1), ("last", 2)]) (N := N_write_marks) (sc := defScope s_write_marks) (by decide +kernel)) (fun _ _ _ _ _ => (pg_tup rfl (pgs_cons (pg_name (i := 1) sc_write_marks.nd rfl (Or.inl rfl)) (pgs_cons (pg_name (i := 2) sc_write_marks.nd rfl (Or.inl rfl)) pgs_nil)))) (fun _ _ _ _ _ => pts_nil) (fun _ _ _ _ _ => (pe_call G_range_text (hr.mono (by decide)) (by rfl) g_range_text k_range_text b_range_text .nil pass0 (pa_cons (pv 1) (pa_cons (pv 2) pa_nil)))))))), ?_⟩
    have small : ∀ n : Nat, n ≤ 30000 → n < sizeLine := fun n h => Nat.lt_of_le_of_lt h (by decide)
    obtain ⟨c, us, rfl, hC, hus⟩ := dv_mks hv
    have ul := hus.map_len
    obtain ⟨okp, ml⟩ := ok
    refine ⟨⟨_, rfl⟩, _, rfl, c, rfl, ⟨_, hC⟩, fun D hD => ?_⟩
    refine lc_tup (K := K) (a := c) (xs := us) (fun i H' => H' D = some (.lst (((m.take i).map fun p => S (wordL p)).map V.str)) ∧ Same H H') ⟨upd_same, same_new hD⟩ (fun i H' _ h => h.2.tup hC) ?_ ?_
    · rintro i x H' hi ⟨h1, h2⟩
      obtain ⟨p, hp, dx⟩ := hus.map_get hi
      have il := (List.getElem?_eq_some_iff.mp hp).1
      obtain ⟨pc, rfl, hpc⟩ := dv_pr (dx.tk (TK.same h2))
      have pk := okp p (List.mem_of_getElem? hp)
      have et : m.take (i + 1) = m.take i ++ [p] := by rw [List.take_add_one, hp]; rfl
      refine ⟨pc, _, rfl, hpc, rfl, _, _, rfl, _, _, rfl, rfl, rfl, _, rfl, _, rfl, p.1, p.2, rfl, pk.1, pk.2, fun y hy => ?_⟩
      have ey : y = S (wordL p) := tl_ext hy
      subst ey
      refine ⟨_, h1, by rw [List.length_map, List.length_map, List.length_take]; exact small _ (by omega), by rw [upd_same, et, List.map_append, List.map_append]; rfl, fun bb o hh => ?_⟩
      rw [upd_ne (ne_of_none hh hD)]; exact h2 _ _ hh
    rintro H' ⟨h1, h2⟩
    rw [ul, List.take_length] at h1
    have jA : ∀ x ∈ m.map fun p => S (wordL p), (tl x).length ≤ 13 := fun x hx => by
      obtain ⟨p, hp, rfl⟩ := List.mem_map.mp hx
      exact wordL_len (okp p hp).1 (okp p hp).2
    have js := sum67 jA
    refine ⟨Str.ofString ",", D, m.map fun p => S (wordL p), rfl, rfl, .inl (SqL.of h1), ?_, ?_⟩
    · rw [List.length_map] at js ⊢
      show _ + m.length * 1 ≤ _
      omega
    refine q _ H' ?_ h2
    rw [tl_join67, List.map_map]; rfl
end
section
variable {P : Program} {w : World} {K : PySem.W.Frag} {mg : Str → Option Value} {base : Heap}
theorem ok__law_text (D : Df K mg "_law_text" s__law_text ["marks"]) (T : Tx mg)   : Cal P w K mg base "_law_text" ["marks"] 1 (sp67_write K) := by
  obtain ⟨f, fd, F, gf, bf⟩ := D
  refine ⟨f, fd, F.ok sc__law_text (fun vs H Q E h => ?_) (fun cdv A outer s₀ H vs Q E hr h => ?_), gf, F.kp, bf⟩
  · obtain ⟨v, m, rfl, _⟩ := h; rfl
  · obtain ⟨v, m, rfl, hv, ok, q⟩ := h
    refine ⟨_, (pss_cons (ps_set (i := 1) sc__law_text.nd rfl (Or.inl rfl) (pe_lst pa_nil))
      (pss_cons (ps_for PassesOwn.never rfl (pi_tup (pv 0)) (pg_name (i := 2) sc__law_text.nd rfl (Or.inl rfl))
      (pss_one (ps_if (pt_cmpR op_eq (pe_ix ix_tup (pv 2) pe_int (fun _ _ => rfl)) (pe_ix ix_tup (pv 2) pe_int (fun _ _ => rfl)) (nomark _))
        (pss_one (ps_expr (pe_bm PySem.F.plainAttrs_list PySem.F.slot_list_append PySem.F.type_list_append mt_append (pv 1) (pa_cons (pe_callTy call_str_int (by rfl) T.n_str (by decide +kernel) (pa_cons (pe_ix ix_tup (pv 2) pe_int (fun _ _ => rfl)) pa_nil)) pa_nil))))
        (pss_one (ps_expr (pe_bm PySem.F.plainAttrs_list PySem.F.slot_list_append PySem.F.type_list_append mt_append (pv 1) (pa_cons (pe_op op_add_str (pe_op op_add_str (pe_callTy call_str_int (by rfl) T.n_str (by decide +kernel) (pa_cons (pe_ix ix_tup (pv 2) pe_int (fun _ _ => rfl)) pa_nil)) pe_str) (pe_callTy call_str_int (by rfl) T.n_str (by decide +kernel) (pa_cons (pe_ix ix_tup (pv 2) pe_int (fun _ _ => rfl)) pa_nil))) pa_nil)))))))
      (pss_one (ps_ret (pe_join pe_str (pv 1)))))), ?_⟩
    have small : ∀ n : Nat, n ≤ 30000 → n < sizeLine := fun n h => Nat.lt_of_le_of_lt h (by decide)
    obtain ⟨c, us, rfl, hC, hus⟩ := dv_mks hv
    have ul := hus.map_len
    obtain ⟨okp, ml⟩ := ok
    refine ⟨Nat.zero_le _, fun D hD => ?_⟩
    have n1 := same_new (o := HO.lst []) hD
    refine ⟨_, rfl, c, rfl, ⟨_, n1.tup hC⟩, ?_⟩
    refine for_tup (K := K) (a := c) (xs := us) (fun i σ H' => ∃ v2, σ = [some (.ref c), some (.ref D), v2] ∧ H' D = some (.lst (((m.take i).map fun p => S (wordL p)).map V.str)) ∧ Same H H') ⟨_, rfl, upd_same, n1⟩ (fun i σ H' _ h => by obtain ⟨_, _, _, h⟩ := h; exact h.tup hC) ?_ ?_
    · rintro i x σ H' hi ⟨v2, rfl, h1, h2⟩
      obtain ⟨p, hp, dx⟩ := hus.map_get hi
      have il := (List.getElem?_eq_some_iff.mp hp).1
      obtain ⟨pc, rfl, hpc⟩ := dv_pr (dx.tk (TK.same h2))
      have pk := okp p (List.mem_of_getElem? hp)
      have la := TL.numL_len (n := p.1) (k := 6) (by decide) (by omega)
      have lb := TL.numL_len (n := p.2) (k := 6) (by decide) (by omega)
      have et : m.take (i + 1) = m.take i ++ [p] := by rw [List.take_add_one, hp]; rfl
      have fin : ∀ y : Str, tl y = wordL p → ∃ v2, [some (V.ref c), some (.ref D), some (.ref pc)] = [some (V.ref c), some (.ref D), v2] ∧ (upd H' D (.lst ((((m.take i).map fun p => S (wordL p)).map V.str) ++ [V.str y]))) D = some (.lst (((m.take (i + 1)).map fun p => S (wordL p)).map V.str)) ∧ Same H (upd H' D (.lst ((((m.take i).map fun p => S (wordL p)).map V.str) ++ [V.str y]))) := fun y hy => by
        have ey : y = S (wordL p) := tl_ext hy
        subst ey
        exact ⟨_, rfl, by rw [upd_same, et, List.map_append, List.map_append]; rfl, sput h2 hD⟩
      have lim : (((m.take i).map fun p => S (wordL p)).map V.str).length < sizeLine := by rw [List.length_map, List.length_map, List.length_take]; exact small _ (by omega)
      refine ⟨_, rfl, pc, _, 0, _, rfl, rfl, hpc, atI_nat (j := 0) rfl, _, rfl, pc, _, 1, _, rfl, rfl, hpc, atI_nat (j := 1) rfl, rfl, _, rfl, ?_⟩
      by_cases e : p.1 = p.2
      · refine iG (by rw [e]; exact decide_eq_true rfl) ⟨_, rfl, .inl ⟨rfl, _, SqL.of h1⟩, _, rfl, pc, _, 0, _, rfl, rfl, hpc, atI_nat (j := 0) rfl, (p.1 : Int), rfl, log67 (by omega), D, _, _, rfl, rfl, h1, lim, fin _ ?_⟩
        show tl (Str.ofString (toString (p.1 : Int))) = _
        unfold wordL
        rw [if_pos e, num_tl]
      · refine iN (decide_eq_false (fun h => e (by injection h with h; omega))) ⟨_, rfl, .inl ⟨rfl, _, SqL.of h1⟩, _, rfl, pc, _, 0, _, rfl, rfl, hpc, atI_nat (j := 0) rfl, (p.1 : Int), rfl, log67 (by omega), _, _, rfl, rfl, ?_, _, rfl, pc, _, 1, _, rfl, rfl, hpc, atI_nat (j := 1) rfl, (p.2 : Int), rfl, log67 (by omega), _, _, rfl, rfl, ?_, D, _, _, rfl, rfl, h1, lim, fin _ ?_⟩
        · rw [tl_len, num_tl]; exact Nat.le_of_lt (small _ (by show _ + 1 ≤ _; omega))
        · rw [tl_len, tl_len, tl_app, List.length_append, num_tl, num_tl]; exact Nat.le_of_lt (small _ (by show (_ + 1) + _ ≤ _; omega))
        · rw [tl_app, tl_app, num_tl, num_tl]
          unfold wordL
          rw [if_neg e]
          show (TL.numL p.1 ++ [45]) ++ TL.numL p.2 = _
          rw [List.append_assoc]; rfl
    rintro σ H' ⟨v2, rfl, h1, h2⟩
    rw [ul, List.take_length] at h1
    have jA : ∀ x ∈ m.map fun p => S (wordL p), (tl x).length ≤ 13 := fun x hx => by
      obtain ⟨p, hp, rfl⟩ := List.mem_map.mp hx
      exact wordL_len (okp p hp).1 (okp p hp).2
    have js := sum67 jA
    refine ⟨⟨_, rfl⟩, _, rfl, Str.ofString ",", D, m.map fun p => S (wordL p), rfl, rfl, .inl (SqL.of h1), ?_, ?_⟩
    · rw [List.length_map] at js ⊢
      show _ + m.length * 1 ≤ _
      omega
    refine q _ H' ?_ h2
    rw [tl_join67, List.map_map]; rfl
end

end Z
namespace Z
open PySem L2 SX
theorem map_tk8 {K : PySem.W.Frag} {H H' : Hp} {us : List V} {m : Mks} (h : DVs K H (m.map prD) us) (t : Same H H') : DVs K H' (m.map prD) us := h.tk (TK.same t)
section
variable {P : Program} {w : World} {K : PySem.W.Frag} {mg : Str → Option Value} {base : Heap}
theorem ok_range_of (D : Df K mg "range_of" s_range_of ["marks", "number"]) (T : Tx mg)   : Cal P w K mg base "range_of" ["marks", "number"] 1 (sp68_rangeof K) := by
  obtain ⟨f, fd, F, gf, bf⟩ := D
  refine ⟨f, fd, F.ok sc_range_of (fun vs H Q E h => ?_) (fun cdv A outer s₀ H vs Q E hr h => ?_), gf, F.kp, bf⟩
  · obtain ⟨v, m, n, rfl, _⟩ := h; rfl
  · obtain ⟨v, m, n, rfl, hv, q⟩ := h
    refine ⟨_, (pss_cons (ps_for PassesOwn.never rfl (pi_tup (pv 0)) (pg_tup rfl (pgs_cons (pg_name (i := 2) sc_range_of.nd rfl (Or.inl rfl)) (pgs_cons (pg_name (i := 3) sc_range_of.nd rfl (Or.inl rfl)) pgs_nil)))
      (pss_one (ps_if (pt_chain op_le op_le (pv 2) (pv 1) (pv 3))
        (pss_one (ps_ret (pe_tup (pa_cons (pv 2) (pa_cons (pv 3) pa_nil)))))
        pss_nil)))
      (pss_one (ps_ret pe_non))), ?_⟩
    obtain ⟨c, us, rfl, hC, hus⟩ := dv_mks hv
    have ul := hus.map_len
    refine ⟨_, rfl, c, rfl, ⟨_, hC⟩, ?_⟩
    refine for_tup (K := K) (a := c) (xs := us) (fun i σ H' => (∃ v2 v3, σ = [some (.ref c), some (.int (n : Int)), v2, v3]) ∧ Same H H' ∧ ¬ inM (m.take i) n) ⟨⟨_, _, rfl⟩, .refl _, by rw [List.take_zero]; exact inM_nil⟩ (fun i σ H' _ h => h.2.1.tup hC) ?_ ?_
    · rintro i x σ H1 hi ⟨⟨v2, v3, rfl⟩, m1, no⟩
      obtain ⟨p, hp, dx⟩ := hus.map_get hi
      obtain ⟨pc, rfl, hpc⟩ := dv_pr (dx.tk (TK.same m1))
      refine ⟨pc, _, rfl, hpc, rfl, _, _, rfl, _, _, rfl, rfl, ?_⟩
      have tk : ∀ z, inM (m.take (i + 1)) z ↔ inM (m.take i) z ∨ (p.1 ≤ z ∧ z ≤ p.2) := fun z => by rw [List.take_add_one, hp, inM_app]; exact or_congr Iff.rfl inM_one
      refine ⟨_, rfl, _, rfl, _, _, rfl, rfl, _, rfl, ?_⟩
      by_cases k1 : p.1 ≤ n
      · refine iG (decide_eq_true (by omega)) ⟨_, rfl, _, _, rfl, rfl, _, rfl, ?_⟩
        by_cases k2 : n ≤ p.2
        · refine iG (decide_eq_true (by omega)) ⟨_, rfl, _, rfl, by show 2 ≤ sizeLine; decide, fun T hT => ?_⟩
          exact q (.ref T) _ (m1.trans (same_new hT)) (.inr ⟨p, List.mem_of_getElem? hp, k1, k2, T, rfl, SqT.of upd_same⟩)
        · exact iN (decide_eq_false (by omega)) ⟨⟨_, _, rfl⟩, m1, fun z => by
            rcases (tk n).mp z with z | z
            · exact no z
            · omega⟩
      · exact iN (decide_eq_false (by omega)) ⟨_, rfl, iteF ⟨⟨_, _, rfl⟩, m1, fun z => by
          rcases (tk n).mp z with z | z
          · exact no z
          · omega⟩⟩
    rintro σ H1 ⟨⟨v2, v3, rfl⟩, m1, no⟩
    rw [ul, List.take_length] at no
    exact q .non H1 m1 (.inl ⟨rfl, no⟩)
end
section
variable {P : Program} {w : World} {K : PySem.W.Frag} {mg : Str → Option Value} {base : Heap}
theorem ok_marked (D : Df K mg "marked" s_marked ["marks", "number"]) (T : Tx mg)  (C_range_of : Cal P w K mg base "range_of" ["marks", "number"] 1 (sp68_rangeof K)) : Cal P w K mg base "marked" ["marks", "number"] 2 (sp68_marked K) := by
  obtain ⟨f_range_of, fd_range_of, G_range_of, g_range_of, k_range_of, b_range_of⟩ := C_range_of
  obtain ⟨f, fd, F, gf, bf⟩ := D
  refine ⟨f, fd, F.ok sc_marked (fun vs H Q E h => ?_) (fun cdv A outer s₀ H vs Q E hr h => ?_), gf, F.kp, bf⟩
  · obtain ⟨v, m, n, rfl, _⟩ := h; rfl
  · obtain ⟨v, m, n, rfl, hv, q⟩ := h
    refine ⟨_, (pss_one (ps_ret (pe_cmpR op_notN (pe_call G_range_of (hr.mono (by decide)) (by rfl) g_range_of k_range_of b_range_of .nil pass0 (pa_cons (pv 0) (pa_cons (pv 1) pa_nil))) pe_non (nomark _)))), ?_⟩
    refine ⟨_, rfl, _, rfl, v, m, n, rfl, hv, fun r H1 m1 hr => ?_⟩
    rcases hr with ⟨rfl, no⟩ | ⟨p, hp, h1, h2, c, rfl, hc⟩
    · refine ⟨rfl, ?_⟩
      have := q H1 m1
      rw [inB_no.mpr no] at this
      exact this
    · refine ⟨rfl, ?_⟩
      have := q H1 m1
      rw [inB_iff.mpr ⟨p, hp, h1, h2⟩] at this
      exact this
end
section
variable {P : Program} {w : World} {K : PySem.W.Frag} {mg : Str → Option Value} {base : Heap}
theorem ok_next_new (D : Df K mg "next_new" s_next_new ["marks", "number"]) (T : Tx mg)  (C_range_of : Cal P w K mg base "range_of" ["marks", "number"] 1 (sp68_rangeof K)) : Cal P w K mg base "next_new" ["marks", "number"] 2 (sp68_next K) := by
  obtain ⟨f_range_of, fd_range_of, G_range_of, g_range_of, k_range_of, b_range_of⟩ := C_range_of
  obtain ⟨f, fd, F, gf, bf⟩ := D
  refine ⟨f, fd, F.ok sc_next_new (fun vs H Q E h => ?_) (fun cdv A outer s₀ H vs Q E hr h => ?_), gf, F.kp, bf⟩
  · obtain ⟨v, m, n, rfl, _⟩ := h; rfl
  · obtain ⟨v, m, n, rfl, hv, ok, q⟩ := h
    refine ⟨_, (pss_cons (ps_set (i := 2) sc_next_new.nd rfl (Or.inl rfl) (pe_call G_range_of (hr.mono (by decide)) (by rfl) g_range_of k_range_of b_range_of .nil pass0 (pa_cons (pv 0) (pa_cons (pe_op op_add (pv 1) pe_int) pa_nil))))
      (pss_one (ps_ret (pe_ifExp (pt_cmpR op_isN (pv 2) pe_non (nomark _)) (pe_op op_add (pv 1) pe_int) (pe_op op_add (pe_ix ix_tup (pv 2) pe_int (fun _ _ => rfl)) pe_int))))), ?_⟩
    refine ⟨_, rfl, _, rfl, _, _, rfl, rfl, v, m, n + 1, rfl, hv, fun r H1 m1 hr => ?_⟩
    rcases hr with ⟨rfl, no⟩ | ⟨p, hp, h1, h2, c, rfl, hc⟩
    · refine ⟨_, rfl, rfl, _, rfl, iG rfl ⟨_, rfl, _, _, rfl, rfl, ?_⟩⟩
      exact q (n + 1) H1 m1 (next_no no)
    · refine ⟨_, rfl, rfl, _, rfl, iN rfl ⟨_, rfl, c, _, 1, _, rfl, rfl, hc, atI_nat (j := 1) rfl, _, _, rfl, rfl, ?_⟩⟩
      exact q (p.2 + 1) H1 m1 (next_in ok.1 hp ⟨h1, h2⟩)
end
section
variable {P : Program} {w : World} {K : PySem.W.Frag} {mg : Str → Option Value} {base : Heap}
theorem ok__law_in (D : Df K mg "_law_in" s__law_in ["marks", "number"]) (T : Tx mg)   : Cal P w K mg base "_law_in" ["marks", "number"] 1 (sp68_marked K) := by
  obtain ⟨f, fd, F, gf, bf⟩ := D
  refine ⟨f, fd, F.ok sc__law_in (fun vs H Q E h => ?_) (fun cdv A outer s₀ H vs Q E hr h => ?_), gf, F.kp, bf⟩
  · obtain ⟨v, m, n, rfl, _⟩ := h; rfl
  · obtain ⟨v, m, n, rfl, hv, q⟩ := h
    refine ⟨_, (pss_cons (ps_for PassesOwn.never rfl (pi_tup (pv 0)) (pg_name (i := 2) sc__law_in.nd rfl (Or.inl rfl))
      (pss_one (ps_if (pt_chain op_le op_le (pe_ix ix_tup (pv 2) pe_int (fun _ _ => rfl)) (pv 1) (pe_ix ix_tup (pv 2) pe_int (fun _ _ => rfl)))
        (pss_one (ps_ret pe_bl))
        pss_nil)))
      (pss_one (ps_ret pe_bl))), ?_⟩
    obtain ⟨c, us, rfl, hC, hus⟩ := dv_mks hv
    have ul := hus.map_len
    refine ⟨_, rfl, c, rfl, ⟨_, hC⟩, ?_⟩
    refine for_tup (K := K) (a := c) (xs := us) (fun i σ H' => (∃ v2, σ = [some (.ref c), some (.int (n : Int)), v2]) ∧ Same H H' ∧ ¬ inM (m.take i) n) ⟨⟨_, rfl⟩, .refl _, by rw [List.take_zero]; exact inM_nil⟩ (fun i σ H' _ h => h.2.1.tup hC) ?_ ?_
    · rintro i x σ H1 hi ⟨⟨v2, rfl⟩, m1, no⟩
      obtain ⟨p, hp, dx⟩ := hus.map_get hi
      obtain ⟨pc, rfl, hpc⟩ := dv_pr (dx.tk (TK.same m1))
      have tk : ∀ z, inM (m.take (i + 1)) z ↔ inM (m.take i) z ∨ (p.1 ≤ z ∧ z ≤ p.2) := fun z => by rw [List.take_add_one, hp, inM_app]; exact or_congr Iff.rfl inM_one
      refine ⟨_, rfl, pc, _, 0, _, rfl, rfl, hpc, atI_nat (j := 0) rfl, _, rfl, _, _, rfl, rfl, _, rfl, ?_⟩
      by_cases k1 : p.1 ≤ n
      · refine iG (decide_eq_true (by omega)) ⟨_, rfl, pc, _, 1, _, rfl, rfl, hpc, atI_nat (j := 1) rfl, _, _, rfl, rfl, _, rfl, ?_⟩
        by_cases k2 : n ≤ p.2
        · refine iG (decide_eq_true (by omega)) ?_
          have := q H1 m1
          rw [inB_iff.mpr ⟨p, List.mem_of_getElem? hp, k1, k2⟩] at this
          exact this
        · exact iN (decide_eq_false (by omega)) ⟨⟨_, rfl⟩, m1, fun z => by
            rcases (tk n).mp z with z | z
            · exact no z
            · omega⟩
      · exact iN (decide_eq_false (by omega)) ⟨_, rfl, iteF ⟨⟨_, rfl⟩, m1, fun z => by
          rcases (tk n).mp z with z | z
          · exact no z
          · omega⟩⟩
    rintro σ H1 ⟨⟨v2, rfl⟩, m1, no⟩
    rw [ul, List.take_length] at no
    have := q H1 m1
    rw [inB_no.mpr no] at this
    exact this
end
section
variable {P : Program} {w : World} {K : PySem.W.Frag} {mg : Str → Option Value} {base : Heap}
theorem ok__law_left (D : Df K mg "_law_left" s__law_left ["deeds", "number"]) (T : Tx mg)  (C__law_in : Cal P w K mg base "_law_in" ["marks", "number"] 1 (sp68_marked K)) : Cal P w K mg base "_law_left" ["deeds", "number"] 2 (sp68_left K) := by
  obtain ⟨f__law_in, fd__law_in, G__law_in, g__law_in, k__law_in, b__law_in⟩ := C__law_in
  obtain ⟨f, fd, F, gf, bf⟩ := D
  refine ⟨f, fd, F.ok sc__law_left (fun vs H Q E h => ?_) (fun cdv A outer s₀ H vs Q E hr h => ?_), gf, F.kp, bf⟩
  · obtain ⟨a, ds, n, rfl, _⟩ := h; rfl
  · obtain ⟨a, ds, n, rfl, hds, q⟩ := h
    refine ⟨_, (pss_cons (ps_set (i := 2) sc__law_left.nd rfl (Or.inl rfl) pe_bl)
      (pss_cons (ps_for PassesOwn.never rfl (pi_list (pv 0)) (pg_name (i := 3) sc__law_left.nd rfl (Or.inl rfl))
      (pss_one (ps_if (pt_val (pe_call G__law_in (hr.mono (by decide)) (by rfl) g__law_in k__law_in b__law_in .nil pass0 (pa_cons (pe_ix ix_tup (pv 3) pe_int (fun _ _ => rfl)) (pa_cons (pv 1) pa_nil))))
        (pss_one (ps_set (i := 2) sc__law_left.nd rfl (Or.inl rfl) (pe_ix ix_tup (pv 3) pe_int (fun _ _ => rfl))))
        pss_nil)))
      (pss_one (ps_ret (pv 2))))), ?_⟩
    obtain ⟨us, hU, ru⟩ := hds
    have ul := ru.len
    refine ⟨_, rfl, a, rfl, ⟨_, SqL.of hU⟩, ?_⟩
    refine for_list (K := K) (a := a) (xs := us) (fun i σ H' => (∃ v3, σ = [some (.ref a), some (.int (n : Int)), some (.bl (leftB (ds.take i) n)), v3]) ∧ Same H H') ⟨⟨_, rfl⟩, .refl _⟩ (fun i σ H' _ h => SqL.of (h.2 _ _ hU)) ?_ ?_
    · rintro i x σ H1 hi ⟨⟨v3, rfl⟩, m1⟩
      obtain ⟨d, hd, hx⟩ := ru.get hi
      obtain ⟨T, u, rfl, hT, du⟩ := DeAt.tk (TK.same m1) d x hx
      have et : leftB (ds.take (i + 1)) n = if inB d.2 n = true then d.1 else leftB (ds.take i) n := by
        rw [List.take_add_one, hd]; exact left_snoc _ d n
      refine ⟨_, rfl, T, _, 1, _, rfl, rfl, hT, atI_nat (j := 1) rfl, _, rfl, u, d.2, n, rfl, du, fun H2 m2 => ⟨_, rfl, ?_⟩⟩
      cases c : inB d.2 n with
      | true =>
        refine iteT ⟨_, rfl, T, _, 0, _, rfl, rfl, m2.tup hT, atI_nat (j := 0) rfl, ?_⟩
        rw [c, if_pos rfl] at et
        exact ⟨⟨_, by rw [et]; rfl⟩, m1.trans m2⟩
      | false =>
        rw [c, if_neg Bool.false_ne_true] at et
        exact iteF ⟨⟨_, by rw [et]; rfl⟩, m1.trans m2⟩
    rintro σ H1 ⟨⟨v3, rfl⟩, m1⟩
    rw [ul, List.take_length]
    exact ⟨_, rfl, q H1 m1⟩
end

end Z
namespace Z
open PySem L2 SX
theorem drop_cons {m : Mks} {i : Nat} {p : Nat × Nat} (h : m[i]? = some p) : m.drop i = p :: m.drop (i + 1) := by
  have il := (List.getElem?_eq_some_iff.mp h).1
  rw [List.drop_eq_getElem_cons il, (List.getElem?_eq_some_iff.mp h).2]
theorem take_snoc {α : Type} {m : List α} {i : Nat} {p : α} (h : m[i]? = some p) : m.take (i + 1) = m.take i ++ [p] := by rw [List.take_add_one, h]; rfl
theorem good_after {m : Mks} {i : Nat} {p : Nat × Nat} (g : GoodL 1 m) (h : m[i]? = some p) : ∀ q ∈ m.drop (i + 1), p.2 + 2 ≤ q.1 := fun q hq => by
  have g2 := (good_iff.mp g).2
  rw [← List.take_append_drop i m, drop_cons h] at g2
  have := (List.pairwise_append.mp g2).2.1
  exact (List.pairwise_cons.mp this).1 q hq
section
variable {P : Program} {w : World} {K : PySem.W.Frag} {mg : Str → Option Value} {base : Heap}
theorem ok_range_without (D : Df K mg "range_without" s_range_without ["first", "last", "other"]) (T : Tx mg)   : Cal P w K mg base "range_without" ["first", "last", "other"] 1 (sp68_range K) := by
  obtain ⟨f, fd, F, gf, bf⟩ := D
  refine ⟨f, fd, F.ok sc_range_without (fun vs H Q E h => ?_) (fun cdv A outer s₀ H vs Q E hr h => ?_), gf, F.kp, bf⟩
  · obtain ⟨u, a, b, O', rfl, _⟩ := h; rfl
  · obtain ⟨u, a, b, O', rfl, hu, ok, h1, hab, h9, q⟩ := h
    refine ⟨_, (pss_cons (ps_set (i := 3) sc_range_without.nd rfl (Or.inl rfl) (pe_lst pa_nil))
      (pss_cons (ps_for PassesOwn.never rfl (pi_tup (pv 2)) (pg_tup rfl (pgs_cons (pg_name (i := 4) sc_range_without.nd rfl (Or.inl rfl)) (pgs_cons (pg_name (i := 5) sc_range_without.nd rfl (Or.inl rfl)) pgs_nil)))
      (pss_one (ps_if (PW.pt (pw_and (pt_cmpR op_le (pv 4) (pv 1) (nomark _)) (pw_and1 (pt_cmpR op_ge (pv 5) (pv 0) (nomark _)))))
        (C8.pss_cut (ps_if (pt_cmpR op_lt (pv 0) (pv 4) (nomark _))
          (pss_one (ps_expr (pe_bm PySem.F.plainAttrs_list PySem.F.slot_list_append PySem.F.type_list_append mt_append (pv 3) (pa_cons (pe_tup (pa_cons (pv 0) (pa_cons (pe_op op_sub (pv 4) pe_int) pa_nil))) pa_nil))))
          pss_nil)
          (pss_one (ps_set (i := 0) sc_range_without.nd rfl (Or.inl rfl) (pe_op op_add (pv 5) pe_int))))
        pss_nil)))
      (C8.pss_cut (ps_if (pt_cmpR op_le (pv 0) (pv 1) (nomark _))
      (pss_one (ps_expr (pe_bm PySem.F.plainAttrs_list PySem.F.slot_list_append PySem.F.type_list_append mt_append (pv 3) (pa_cons (pe_tup (pa_cons (pv 0) (pa_cons (pv 1) pa_nil))) pa_nil))))
      pss_nil)
      (pss_one (ps_ret (pv 3)))))), ?_⟩
    have big : ∀ {n : Nat}, n ≤ 30000 → n < sizeLine := fun h => Nat.lt_of_le_of_lt h (by decide)
    obtain ⟨c, os, rfl, hC, hos⟩ := dv_mks hu
    have ol := hos.map_len
    obtain ⟨gO, lO⟩ := ok
    refine ⟨Nat.zero_le _, fun F hF => ?_⟩
    have n1 := same_new (o := HO.lst []) hF
    refine ⟨_, rfl, c, rfl, ⟨_, n1.tup hC⟩, ?_⟩
    refine for_tup (K := K) (a := c) (xs := os) (fun i σ H' => ∃ (R : Mks) (us : List V) (f : Nat) (v4 v5 : Option V), σ = [some (.int (f : Int)), some (.int (b : Int)), some (.ref c), some (.ref F), v4, v5] ∧ H' F = some (.lst us) ∧ RL (PrI K H') R us ∧ Same H H' ∧ RWI a b R f (O'.take i) (O'.drop i) ∧ R.length ≤ i) ⟨[], [], a, _, _, rfl, upd_same, rfl, n1, RWI.start, Nat.le_refl _⟩ (fun i σ H' _ h => by obtain ⟨_, _, _, _, _, _, _, _, h, _⟩ := h; exact h.tup hC) ?_ ?_
    · rintro i x σ H1 hi ⟨R, us, f, v4, v5, rfl, hF1, ru, m1, rw1, rl⟩
      obtain ⟨p, hp, dx⟩ := hos.map_get hi
      obtain ⟨pc, rfl, hpc⟩ := dv_pr (dx.tk (TK.same m1))
      have gp := (good_iff.mp gO).1 p (List.mem_of_getElem? hp)
      have il := (List.getElem?_eq_some_iff.mp hp).1
      have ul := ru.len
      have rw1 := rw1
      rw [drop_cons hp] at rw1
      have ts := good_after gO hp
      refine ⟨pc, _, rfl, hpc, rfl, _, _, rfl, _, _, rfl, rfl, ?_⟩
      have skip : ¬ (p.1 ≤ b ∧ f ≤ p.2) → RWI a b R f (O'.take (i + 1)) (O'.drop (i + 1)) := fun c => by rw [take_snoc hp]; exact rw1.skip c
      refine ⟨_, rfl, _, rfl, _, _, rfl, rfl, _, rfl, ?_⟩
      by_cases k1 : p.1 ≤ b
      · refine iG (decide_eq_true (by omega)) ⟨_, rfl, _, rfl, _, _, rfl, rfl, _, rfl, ?_⟩
        by_cases k2 : f ≤ p.2
        · have cut := rw1.cut ⟨k1, k2⟩ gp.2.1 h1 h9 ts
          rw [← take_snoc hp] at cut
          refine iG (decide_eq_true (by omega)) ?_
          refine ⟨fun σ' H' => ∃ us', σ' = [some (.int (f : Int)), some (.int (b : Int)), some (.ref c), some (.ref F), some (.int (p.1 : Int)), some (.int (p.2 : Int))] ∧ H' F = some (.lst us') ∧ RL (PrI K H') (if f < p.1 then R ++ [(f, p.1 - 1)] else R) us' ∧ Same H H', ?_, ?_⟩
          · refine ⟨_, rfl, _, rfl, _, _, rfl, rfl, _, rfl, ?_⟩
            by_cases k3 : f < p.1
            · refine iG (decide_eq_true (by omega)) ⟨_, rfl, .inl ⟨rfl, _, SqL.of hF1⟩, _, rfl, _, rfl, _, _, rfl, rfl, by show 2 ≤ sizeLine; decide, fun T hT => ?_⟩
              have nT := same_new (o := HO.tup [V.int (f : Int), V.int ((p.1 : Int) - 1)]) hT
              have hF2 := nT _ _ hF1
              have hT2 : (upd H1 T (.tup [V.int (f : Int), V.int ((p.1 : Int) - 1)])) T = some (.tup [V.int (f : Int), V.int ((p.1 - 1 : Nat) : Int)]) := by
                rw [upd_same, show ((p.1 - 1 : Nat) : Int) = (p.1 : Int) - 1 by omega]
              have T2 := TK.same (K := K) nT
              have m2 := m1.trans nT
              generalize upd H1 T (.tup [V.int (f : Int), V.int ((p.1 : Int) - 1)]) = H2 at hF2 hT2 T2 m2 ⊢
              have T3 : TK K H2 (upd H2 F (.lst (us ++ [V.ref T]))) := tk_put hF2
              refine ⟨F, us, _, rfl, rfl, hF2, big (by omega), us ++ [.ref T], rfl, upd_same, ?_, sput m2 hF⟩
              rw [if_pos k3]
              exact ((ru.mono (PrI.tk T2)).mono (PrI.tk T3)).snoc ⟨T, rfl, T3 _ _ (SqT.of hT2)⟩
            · exact iN (decide_eq_false (by omega)) ⟨us, rfl, hF1, by rw [if_neg k3]; exact ru, m1⟩
          rintro σ2 H2 ⟨us', rfl, hF2, ru2, m2⟩
          refine ⟨_, rfl, _, _, rfl, rfl, _, us', p.2 + 1, _, _, rfl, hF2, ru2, m2, cut, ?_⟩
          split
          · rw [List.length_append]; show _ + 1 ≤ _; omega
          · omega
        · exact iN (decide_eq_false (by omega)) ⟨R, us, f, _, _, rfl, hF1, ru, m1, skip fun z => k2 z.2, by omega⟩
      · exact iN (decide_eq_false (by omega)) (iteF ⟨R, us, f, _, _, rfl, hF1, ru, m1, skip fun z => k1 z.1, by omega⟩)
    rintro σ H1 ⟨R, us, f, v4, v5, rfl, hF1, ru, m1, rw1, rl⟩
    have ul := ru.len
    rw [ol, List.take_length, List.drop_length] at rw1
    have fin := rw1.fin h1 h9
    refine ⟨fun σ' H' => ∃ (R' : Mks) (us' : List V) (v0 v1 v2 v4 v5 : Option V), σ' = [v0, v1, v2, some (.ref F), v4, v5] ∧ H' F = some (.lst us') ∧ RL (PrI K H') R' us' ∧ Same H H' ∧ RwOk a b O' R' ∧ R'.length ≤ O'.length + 1, ?_, ?_⟩
    rotate_left
    · rintro σ' H2 ⟨R', us', v0, v1, v2, v4, v5, rfl, hF2, ru2, m2, rok, rl2⟩
      exact ⟨_, rfl, q F R' us' H2 hF m2 hF2 ru2 rok rl2⟩
    refine ⟨_, rfl, _, rfl, _, _, rfl, rfl, _, rfl, ?_⟩
    by_cases k3 : f ≤ b
    · rw [if_pos k3] at fin
      refine iG (decide_eq_true (by omega)) ⟨_, rfl, .inl ⟨rfl, _, SqL.of hF1⟩, _, rfl, _, rfl, by show 2 ≤ sizeLine; decide, fun T hT => ?_⟩
      have nT := same_new (o := HO.tup [V.int (f : Int), V.int (b : Int)]) hT
      have hF2 := nT _ _ hF1
      have hT2 : (upd H1 T (.tup [V.int (f : Int), V.int (b : Int)])) T = some (.tup [V.int (f : Int), V.int (b : Int)]) := upd_same
      have T2 := TK.same (K := K) nT
      have m2 := m1.trans nT
      generalize upd H1 T (.tup [V.int (f : Int), V.int (b : Int)]) = H2 at hF2 hT2 T2 m2 ⊢
      have T3 : TK K H2 (upd H2 F (.lst (us ++ [V.ref T]))) := tk_put hF2
      exact ⟨F, us, _, rfl, rfl, hF2, big (by omega), _, us ++ [.ref T], _, _, _, _, _, rfl, upd_same, ((ru.mono (PrI.tk T2)).mono (PrI.tk T3)).snoc ⟨T, rfl, T3 _ _ (SqT.of hT2)⟩, sput m2 hF, fin, by rw [List.length_append]; show _ + 1 ≤ _; omega⟩
    · rw [if_neg k3] at fin
      exact iN (decide_eq_false (by omega)) ⟨R, us, _, _, _, _, _, rfl, hF1, ru, m1, fin, by omega⟩
end

end Z
namespace Z
open PySem L2 SX
theorem rl_app8 {α : Type} {R : α → V → Prop} {ys : List α} {vs : List V} (k : RL R ys vs) : ∀ {xs : List α} {us : List V}, RL R xs us → RL R (xs ++ ys) (us ++ vs)
  | [], us, h => by
    have e : us = [] := h
    rw [e]; exact k
  | x :: xs, us, h => by
    obtain ⟨v, t, rfl, h1, h2⟩ := h
    exact ⟨v, t ++ vs, rfl, h1, rl_app8 k h2⟩
section
variable {P : Program} {w : World} {K : PySem.W.Frag} {mg : Str → Option Value} {base : Heap}
theorem ok_marks_without (D : Df K mg "marks_without" s_marks_without ["marks", "other"]) (T : Tx mg)  (C_range_without : Cal P w K mg base "range_without" ["first", "last", "other"] 1 (sp68_range K)) : Cal P w K mg base "marks_without" ["marks", "other"] 2 (sp68_without K) := by
  obtain ⟨f_range_without, fd_range_without, G_range_without, g_range_without, k_range_without, b_range_without⟩ := C_range_without
  obtain ⟨f, fd, F, gf, bf⟩ := D
  refine ⟨f, fd, F.ok sc_marks_without (fun vs H Q E h => ?_) (fun cdv A outer s₀ H vs Q E hr h => ?_), gf, F.kp, bf⟩
  · obtain ⟨v, u, A, O', rfl, _⟩ := h; rfl
  · obtain ⟨v, u, A, O', rfl, hv, hu, okA, okO, q⟩ := h
    refine ⟨_, (pss_cons (ps_set (i := 2) sc_marks_without.nd rfl (Or.inl rfl) (pe_lst pa_nil))
      (pss_cons (ps_for PassesOwn.never rfl (pi_tup (pv 0)) (pg_tup rfl (pgs_cons (pg_name (i := 3) sc_marks_without.nd rfl (Or.inl rfl)) (pgs_cons (pg_name (i := 4) sc_marks_without.nd rfl (Or.inl rfl)) pgs_nil)))
      (pss_one (ps_expr (pe_bm PySem.F.plainAttrs_list PySem.F.slot_list_extend PySem.F.type_list_extend mt_extend (pv 2) (pa_cons (pe_call G_range_without (hr.mono (by decide)) (by rfl) g_range_without k_range_without b_range_without .nil pass0 (pa_cons (pv 3) (pa_cons (pv 4) (pa_cons (pv 1) pa_nil)))) pa_nil)))))
      (pss_one (ps_ret (pe_callTy call_tuple_of (by rfl) T.n_tuple (by decide +kernel) (pa_cons (pv 2) pa_nil)))))), ?_⟩
    obtain ⟨c, as, rfl, hC, has⟩ := dv_mks hv
    have al := has.map_len
    obtain ⟨gA, lA⟩ := okA
    refine ⟨Nat.zero_le _, fun F hF => ?_⟩
    have n1 := same_new (o := HO.lst []) hF
    refine ⟨_, rfl, c, rfl, ⟨_, n1.tup hC⟩, ?_⟩
    refine for_tup (K := K) (a := c) (xs := as) (fun i σ H' => ∃ (R : Mks) (us : List V) (v3 v4 : Option V), σ = [some (.ref c), some u, some (.ref F), v3, v4] ∧ H' F = some (.lst us) ∧ RL (PrI K H') R us ∧ Same H H' ∧ GoodL 1 R ∧ (∀ n, inM R n ↔ inM (A.take i) n ∧ ¬ inM O' n) ∧ (∀ x ∈ R, ∀ p ∈ A.drop i, x.2 + 2 ≤ p.1) ∧ R.length ≤ i * (O'.length + 1)) ⟨[], [], _, _, rfl, upd_same, rfl, n1, trivial, (fun n => ⟨fun h => absurd h inM_nil, fun h => absurd h.1 (by rw [List.take_zero]; exact inM_nil)⟩), (fun _ h => by cases h), Nat.zero_le _⟩ (fun i σ H' _ h => by obtain ⟨_, _, _, _, _, _, _, h, _⟩ := h; exact h.tup hC) ?_ ?_
    · rintro i x σ H1 hi ⟨R, us, v3, v4, rfl, hF1, ru, m1, gR, sR, aR, lR⟩
      obtain ⟨p, hp, dx⟩ := has.map_get hi
      obtain ⟨pc, rfl, hpc⟩ := dv_pr (dx.tk (TK.same m1))
      have gp := (good_iff.mp gA).1 p (List.mem_of_getElem? hp)
      have il := (List.getElem?_eq_some_iff.mp hp).1
      have ul := ru.len
      refine ⟨pc, _, rfl, hpc, rfl, _, _, rfl, _, _, rfl, rfl, ?_⟩
      refine ⟨_, rfl, .inl ⟨rfl, _, SqL.of hF1⟩, _, rfl, _, rfl, _, rfl, u, p.1, p.2, O', rfl, hu.tk (TK.same m1), okO, gp.1, gp.2.1, gp.2.2, fun P2 R2 us2 H2 hP2 m2 hq2 ru2 rok rl2 => ?_⟩
      have hF2 := m2 _ _ hF1
      have T3 : TK K H2 (upd H2 F (.lst (us ++ us2))) := tk_put hF2
      have ul2 := ru2.len
      obtain ⟨g2, b2, s2⟩ := rok
      have e1 : (i + 1) * (O'.length + 1) = i * (O'.length + 1) + (O'.length + 1) := Nat.succ_mul _ _
      have e2 : i * (O'.length + 1) ≤ 1000 * 1001 := Nat.mul_le_mul (by omega) (by have := okO.2; omega)
      have o2 := okO.2
      refine ⟨F, P2, us, us2, rfl, rfl, hF2, hq2, ?_, R ++ R2, us ++ us2, _, _, rfl, upd_same, rl_app8 (ru2.mono (PrI.tk T3)) ((ru.mono (PrI.tk (TK.same m2))).mono (PrI.tk T3)), sput (m1.trans m2) hF, good_cat gR g2 (fun x hx y hy => ?_), fun n => ?_, fun x hx z hz => ?_, ?_⟩
      · exact Nat.le_trans (show _ ≤ 2000000 by omega) (by decide)
      · have := aR x hx p (by rw [drop_cons hp]; simp)
        have := (b2 y hy).1
        omega
      · rw [inM_app, sR, s2, take_snoc hp, inM_app, inM_one]
        constructor
        · rintro (h | h)
          · exact ⟨.inl h.1, h.2⟩
          · exact ⟨.inr ⟨h.1, h.2.1⟩, h.2.2⟩
        · rintro ⟨h | h, k⟩
          · exact .inl ⟨h, k⟩
          · exact .inr ⟨h.1, h.2, k⟩
      · rcases List.mem_append.mp hx with h | h
        · exact aR x h z (by rw [drop_cons hp]; exact List.mem_cons_of_mem _ hz)
        · have := (b2 x h).2
          have := good_after gA hp z hz
          omega
      · rw [List.length_append, e1]; omega
    rintro σ H1 ⟨R, us, v3, v4, rfl, hF1, ru, m1, gR, sR, aR, lR⟩
    rw [al, List.take_length] at sR
    refine ⟨_, rfl, F, us, rfl, .inl ⟨SqL.of hF1, fun t ht => ?_⟩⟩
    have nt := same_new (o := HO.tup us) ht
    exact q _ R _ (m1.trans nt) ⟨t, us, rfl, SqT.of upd_same, RL.dvs (fun p w h => PrI.dv p w h) (ru.mono (PrI.tk (TK.same nt)))⟩ gR sR
end
theorem dv_app8 {K : PySem.W.Frag} {H : Hp} : ∀ {ds es : List D} {us ws : List V}, DVs K H ds us → DVs K H es ws → DVs K H (ds ++ es) (us ++ ws)
  | [], es, us, ws, h, k => by
    unfold DVs at h
    rw [h]; exact k
  | d :: ds, es, us, ws, h, k => by
    obtain ⟨v, r, rfl, h1, h2⟩ := h
    exact ⟨v, r ++ ws, rfl, h1, dv_app8 h2 k⟩
theorem alike_pr (b c : Nat × Nat) : PySem.W.alike (py (prD b)) (py (prD c)) = true := by simp [prD, py, pys, PySem.W.alike, PySem.W.alikeAll]
theorem depth_pr (b : Nat × Nat) : (py (prD b)).depth ≤ 60 := by simp [prD, py, pys, PyData.depth, PyData.depthAll]
theorem rl_inv8 {α : Type} {R : α → V → Prop} {x : α} : ∀ {xs : List α} {us : List V}, RL R (xs ++ [x]) us → ∃ vs w, us = vs ++ [w] ∧ RL R xs vs ∧ R x w
  | [], us, h => by
    obtain ⟨v, t, rfl, h1, h2⟩ := h
    have e : t = [] := h2
    exact ⟨[], v, by rw [e]; rfl, rfl, h1⟩
  | y :: xs, us, h => by
    obtain ⟨v, t, rfl, h1, h2⟩ := h
    obtain ⟨vs, w, rfl, h3, h4⟩ := rl_inv8 h2
    exact ⟨v :: vs, w, rfl, ⟨v, vs, rfl, h1, h3⟩, h4⟩
section
variable {P : Program} {w : World} {K : PySem.W.Frag} {mg : Str → Option Value} {base : Heap}
theorem ok_joined_marks (D : Df K mg "joined_marks" s_joined_marks ["marks", "other"]) (T : Tx mg)   : Cal P w K mg base "joined_marks" ["marks", "other"] 1 (sp68_joined K) := by
  obtain ⟨f, fd, F, gf, bf⟩ := D
  refine ⟨f, fd, F.ok sc_joined_marks (fun vs H Q E h => ?_) (fun cdv A outer s₀ H vs Q E hr h => ?_), gf, F.kp, bf⟩
  · obtain ⟨v, u, A, B, rfl, _⟩ := h; rfl
  · obtain ⟨v, u, A, B, rfl, hv, hu, okA, okB, q⟩ := h
    refine ⟨_, (pss_cons (ps_set (i := 2) sc_joined_marks.nd rfl (Or.inl rfl) (pe_lst pa_nil))
      (pss_cons (ps_for PassesOwn.never rfl (pi_list (pe_callB (cr_sortDTQ (K := K) rfl (room65 hr)) (by rfl) T.n_sorted (by decide +kernel) (pa_cons (pe_op (op_cat (K := K) rfl) (pv 0) (pv 1)) pa_nil))) (pg_tup rfl (pgs_cons (pg_name (i := 3) sc_joined_marks.nd rfl (Or.inl rfl)) (pgs_cons (pg_name (i := 4) sc_joined_marks.nd rfl (Or.inl rfl)) pgs_nil)))
      (pss_one (ps_if (PW.pt (pw_and (pt_truth (pv 2) (by intro _; rfl)) (pw_and1 (pt_cmpR op_le (pv 3) (pe_op op_add (pe_ix ix_tup (pe_ix ix_list (pv 2) (pe_un un_neg pe_int) (fun _ _ => rfl)) pe_int (fun _ _ => rfl)) pe_int) (nomark _)))))
        (pss_one (ps_asg (pe_tup (pa_cons (pe_ix ix_tup (pe_ix ix_list (pv 2) (pe_un un_neg pe_int) (fun _ _ => rfl)) pe_int (fun _ _ => rfl)) (pa_cons (pe_callB (call_max2 rfl) (by rfl) T.n_max (by decide +kernel) (pa_cons (pe_ix ix_tup (pe_ix ix_list (pv 2) (pe_un un_neg pe_int) (fun _ _ => rfl)) pe_int (fun _ _ => rfl)) (pa_cons (pv 4) pa_nil))) pa_nil))) (pg_sub (pv 2) (pe_un un_neg pe_int) set_list)))
        (pss_one (ps_expr (pe_bm PySem.F.plainAttrs_list PySem.F.slot_list_append PySem.F.type_list_append mt_append (pv 2) (pa_cons (pe_tup (pa_cons (pv 3) (pa_cons (pv 4) pa_nil))) pa_nil)))))))
      (pss_one (ps_ret (pe_callTy call_tuple_of (by rfl) T.n_tuple (by decide +kernel) (pa_cons (pv 2) pa_nil)))))), ?_⟩
    have big : ∀ {n : Nat}, n ≤ 30000 → n < sizeLine := fun h => Nat.lt_of_le_of_lt h (by decide)
    obtain ⟨c, as, rfl, hC, has⟩ := dv_mks hv
    obtain ⟨d, bs, rfl, hD, hbs⟩ := dv_mks hu
    have al := has.map_len
    have bl := hbs.map_len
    obtain ⟨gA, lA⟩ := okA
    obtain ⟨gB, lB⟩ := okB
    refine ⟨Nat.zero_le _, fun F hF => ?_⟩
    have n1 := same_new (o := HO.lst []) hF
    have qF : (upd H F (.lst [])) F = some (.lst []) := upd_same
    refine ⟨_, rfl, _, rfl, c, d, as, bs, rfl, rfl, n1.tup hC, n1.tup hD, Nat.le_of_lt (big (by omega)), fun e H1 m1 hE => ?_⟩
    have m01 := n1.trans m1
    have dd : DVs K H1 ((A ++ B).map prD) (as ++ bs) := by
      rw [List.map_append]
      exact dv_app8 (has.tk (TK.same m01)) (hbs.tk (TK.same m01))
    refine ⟨e, as ++ bs, Nat × Nat, A ++ B, prD, rfl, hE, dd, aa_of alike_pr, so_tup (fun l => ⟨_, _, rfl⟩), (fun l _ => depth_pr l), fun ys p hp dys => ?_⟩
    have np := same_new (o := HO.lst ys) hp
    have qp : (upd H1 p (.lst ys)) p = some (.lst ys) := upd_same
    have hF1 := np _ _ (m1 _ _ qF)
    have pF : p ≠ F := fun z => by rw [z, m1 _ _ qF] at hp; cases hp
    have m02 := m01.trans np
    have dys := dys.tk (TK.same np)
    have pm : ((A ++ B).mergeSort (dle prD)).Perm (A ++ B) := List.mergeSort_perm _ _
    have so := pr_sorted (A ++ B)
    generalize (A ++ B).mergeSort (dle prD) = S at dys pm so
    generalize upd H1 p (.lst ys) = H2 at qp hF1 m02 dys ⊢
    have yl := dys.map_len
    have Sl : S.length = A.length + B.length := by rw [pm.length_eq, List.length_append]
    have Sok : ∀ x ∈ S, 1 ≤ x.1 ∧ x.1 ≤ x.2 ∧ x.2 ≤ 999999 := fun x hx => (List.mem_append.mp (pm.mem_iff.mp hx)).elim ((good_iff.mp gA).1 x) ((good_iff.mp gB).1 x)
    refine ⟨p, rfl, ⟨_, SqL.of qp⟩, ?_⟩
    refine for_list (K := K) (a := p) (xs := ys) (fun i σ H' => ∃ (m : Mks) (us : List V) (v3 v4 : Option V), σ = [some (.ref c), some (.ref d), some (.ref F), v3, v4] ∧ H' F = some (.lst us) ∧ RL (PrI K H') m us ∧ H' p = some (.lst ys) ∧ Same H H' ∧ TK K H2 H' ∧ GoodL 1 m ∧ (∀ n, inM m n ↔ inM (S.take i) n) ∧ (∀ x ∈ m, ∀ y ∈ S.drop i, x.1 ≤ y.1) ∧ m.length ≤ i) ⟨[], [], _, _, rfl, hF1, rfl, qp, m02, TK.same (.refl _), trivial, (fun n => by rw [List.take_zero]), (fun _ h => by cases h), Nat.le_refl _⟩ (fun i σ H' _ h => by obtain ⟨_, _, _, _, _, _, _, h, _⟩ := h; exact SqL.of h) ?_ ?_
    rotate_left
    · rintro σ H3 ⟨m, us, v3, v4, rfl, hF3, ru, hp3, m3, T3, gm, sm, _, lm⟩
      rw [yl, List.take_length] at sm
      refine ⟨_, rfl, F, us, rfl, .inl ⟨SqL.of hF3, fun t ht => ?_⟩⟩
      have nt := same_new (o := HO.tup us) ht
      refine q _ m _ (m3.trans nt) ⟨t, us, rfl, SqT.of upd_same, RL.dvs (fun p w h => PrI.dv p w h) (ru.mono (PrI.tk (TK.same nt)))⟩ gm (by omega) fun n => ?_
      rw [sm, ← inM_app]
      exact exists_congr fun x => and_congr pm.mem_iff Iff.rfl
    rintro i x σ H3 hi ⟨m, us, v3, v4, rfl, hF3, ru, hp3, m3, T3, gm, sm, am, lm⟩
    obtain ⟨r, hr', dx⟩ := dys.map_get hi
    obtain ⟨pc, rfl, hpc⟩ := dv_pr (dx.tk T3)
    have il := (List.getElem?_eq_some_iff.mp hr').1
    obtain ⟨r1, r2, r9⟩ := Sok r (List.mem_of_getElem? hr')
    have hd := drop_cons hr'
    have tk := take_snoc hr'
    have after : ∀ y ∈ S.drop (i + 1), r.1 ≤ y.1 := fun y hy => by
      have s2 := so
      rw [← List.take_append_drop i S, hd] at s2
      exact (List.pairwise_cons.mp (List.pairwise_append.mp s2).2.1).1 y hy
    have le : ∀ x ∈ m, x.1 ≤ r.1 := fun x hx => am x hx r (by rw [hd]; simp)
    have ul := ru.len
    refine ⟨pc, _, rfl, hpc, rfl, _, _, rfl, _, _, rfl, rfl, ?_⟩
    rcases nil_or_snoc m with me | ⟨i0, l, me⟩
    · have u0 : us = [] := by rw [me] at ru; exact ru
      refine ⟨_, rfl, false, .inl ⟨us, SqL.of hF3, by rw [u0]; rfl⟩, iteF ⟨_, rfl, .inl ⟨rfl, _, SqL.of hF3⟩, _, rfl, _, rfl, by show 2 ≤ sizeLine; decide, fun T hT => ?_⟩⟩
      have nT := same_new (o := HO.tup [V.int (r.1 : Int), V.int (r.2 : Int)]) hT
      have hF4 := nT _ _ hF3
      have hp4 := nT _ _ hp3
      have hT4 : (upd H3 T (.tup [V.int (r.1 : Int), V.int (r.2 : Int)])) T = some (.tup [V.int (r.1 : Int), V.int (r.2 : Int)]) := upd_same
      have T4 := TK.same (K := K) nT
      have m4 := m3.trans nT
      have T24 := T3.trans T4
      generalize upd H3 T (.tup [V.int (r.1 : Int), V.int (r.2 : Int)]) = H4 at hF4 hp4 hT4 T4 m4 T24 ⊢
      have T5 : TK K H4 (upd H4 F (.lst (us ++ [V.ref T]))) := tk_put hF4
      refine ⟨F, us, _, rfl, rfl, hF4, big (by omega), m ++ [r], us ++ [.ref T], _, _, rfl, upd_same, ((ru.mono (PrI.tk T4)).mono (PrI.tk T5)).snoc ⟨T, rfl, T5 _ _ (SqT.of hT4)⟩, by rw [upd_ne pF]; exact hp4, sput m4 hF, T24.trans T5, jn_out gm (fun l hl => by rw [me] at hl; cases hl) r1 r2 r9, fun n => ?_, fun x hx y hy => ?_, by rw [List.length_append]; show _ + 1 ≤ _; omega⟩
      · rw [inM_app, sm, tk, inM_app]
      · rcases List.mem_append.mp hx with h | h
        · exact am x h y (by rw [hd]; exact List.mem_cons_of_mem _ hy)
        · rw [List.mem_singleton.mp h]; exact after y hy
    · obtain ⟨vs0, w, ue, rv, lw⟩ := rl_inv8 (xs := i0) (x := l) (by rw [← me]; exact ru)
      obtain ⟨lc, rfl, hlc⟩ := lw
      have atl : atI us (-1) = some (.ref lc) := by rw [ue]; exact atI_last _ _
      have lin : l ∈ m := by rw [me]; simp
      have gl := (good_iff.mp gm).1 l lin
      refine ⟨_, rfl, true, .inl ⟨us, SqL.of hF3, by rw [ue]; simp⟩, iteT ⟨_, rfl, _, rfl, 1, rfl, F, us, _, .ref lc, rfl, rfl, SqL.of hF3, atl, lc, _, 1, .int (l.2 : Int), rfl, rfl, hlc, atI_nat (j := 1) rfl, _, _, rfl, rfl, _, _, rfl, rfl, _, rfl, ?_⟩⟩
      by_cases k : r.1 ≤ l.2 + 1
      · refine iG (decide_eq_true (by omega)) ⟨_, rfl, 1, rfl, F, us, _, .ref lc, rfl, rfl, SqL.of hF3, atl, lc, _, 0, .int (l.1 : Int), rfl, rfl, hlc, atI_nat (j := 0) rfl, _, rfl, 1, rfl, F, us, _, .ref lc, rfl, rfl, SqL.of hF3, atl, lc, _, 1, .int (l.2 : Int), rfl, rfl, hlc, atI_nat (j := 1) rfl, _, rfl, _, _, rfl, by show 2 ≤ sizeLine; decide, fun T hT => ?_⟩
        have emx : (if (r.2 : Int) > (l.2 : Int) then (r.2 : Int) else (l.2 : Int)) = ((max l.2 r.2 : Nat) : Int) := by split <;> omega
        rw [emx]
        have nT := same_new (o := HO.tup [V.int (l.1 : Int), V.int ((max l.2 r.2 : Nat) : Int)]) hT
        have hF4 := nT _ _ hF3
        have hp4 := nT _ _ hp3
        have hT4 : (upd H3 T (.tup [V.int (l.1 : Int), V.int ((max l.2 r.2 : Nat) : Int)])) T = some (.tup [V.int (l.1 : Int), V.int ((max l.2 r.2 : Nat) : Int)]) := upd_same
        have T4 := TK.same (K := K) nT
        have m4 := m3.trans nT
        have T24 := T3.trans T4
        generalize upd H3 T (.tup [V.int (l.1 : Int), V.int ((max l.2 r.2 : Nat) : Int)]) = H4 at hF4 hp4 hT4 T4 m4 T24 ⊢
        have ixl : ixN us.length (-1) = some vs0.length := by
          rw [ue, List.length_append]
          unfold ixN
          rw [if_neg (by decide), if_pos (by show -(((vs0.length + 1 : Nat) : Int)) ≤ -1; omega)]
          congr 1
          show (-1 + ((vs0.length + 1 : Nat) : Int)).toNat = _
          omega
        have est : us.set vs0.length (.ref T) = vs0 ++ [V.ref T] := by rw [ue]; simp
        refine ⟨_, rfl, 1, rfl, F, us, _, _, rfl, rfl, hF4, ixl, ?_⟩
        rw [est]
        have T5 : TK K H4 (upd H4 F (.lst (vs0 ++ [V.ref T]))) := tk_put hF4
        have jn := jn_in (i := i0) (l := l) (p := r) (by rw [← me]; exact gm) (le l lin) k r2 r9
        refine ⟨i0 ++ [(l.1, max l.2 r.2)], vs0 ++ [.ref T], _, _, rfl, upd_same, ((rv.mono (PrI.tk T4)).mono (PrI.tk T5)).snoc ⟨T, rfl, T5 _ _ (SqT.of hT4)⟩, by rw [upd_ne pF]; exact hp4, sput m4 hF, T24.trans T5, jn.1, fun n => ?_, fun x hx y hy => ?_, ?_⟩
        · rw [jn.2, ← me, sm, tk, inM_app, inM_one]
        · rcases List.mem_append.mp hx with h | h
          · exact am x (by rw [me]; exact List.mem_append_left _ h) y (by rw [hd]; exact List.mem_cons_of_mem _ hy)
          · rw [List.mem_singleton.mp h]
            exact am l lin y (by rw [hd]; exact List.mem_cons_of_mem _ hy)
        · rw [me, List.length_append] at lm
          rw [List.length_append]
          show _ + 1 ≤ _
          have : i0.length + 1 ≤ i := lm
          omega
      · refine iN (decide_eq_false (by omega)) ⟨_, rfl, .inl ⟨rfl, _, SqL.of hF3⟩, _, rfl, _, rfl, by show 2 ≤ sizeLine; decide, fun T hT => ?_⟩
        have nT := same_new (o := HO.tup [V.int (r.1 : Int), V.int (r.2 : Int)]) hT
        have hF4 := nT _ _ hF3
        have hp4 := nT _ _ hp3
        have hT4 : (upd H3 T (.tup [V.int (r.1 : Int), V.int (r.2 : Int)])) T = some (.tup [V.int (r.1 : Int), V.int (r.2 : Int)]) := upd_same
        have T4 := TK.same (K := K) nT
        have m4 := m3.trans nT
        have T24 := T3.trans T4
        generalize upd H3 T (.tup [V.int (r.1 : Int), V.int (r.2 : Int)]) = H4 at hF4 hp4 hT4 T4 m4 T24 ⊢
        have T5 : TK K H4 (upd H4 F (.lst (us ++ [V.ref T]))) := tk_put hF4
        refine ⟨F, us, _, rfl, rfl, hF4, big (by omega), m ++ [r], us ++ [.ref T], _, _, rfl, upd_same, ((ru.mono (PrI.tk T4)).mono (PrI.tk T5)).snoc ⟨T, rfl, T5 _ _ (SqT.of hT4)⟩, by rw [upd_ne pF]; exact hp4, sput m4 hF, T24.trans T5, jn_out gm (fun l' hl => by
          rw [me, List.getLast?_concat] at hl
          rw [← Option.some.inj hl]; omega) r1 r2 r9, fun n => ?_, fun x hx y hy => ?_, by rw [List.length_append]; show _ + 1 ≤ _; omega⟩
        · rw [inM_app, sm, tk, inM_app]
        · rcases List.mem_append.mp hx with h | h
          · exact am x h y (by rw [hd]; exact List.mem_cons_of_mem _ hy)
          · rw [List.mem_singleton.mp h]; exact after y hy
end

end Z
namespace Z
open PySem L2 SX
theorem perm_nat {ns : List Int} {E : List Nat} (h : ns.Perm (E.map fun n : Nat => (n : Int))) : ∃ E' : List Nat, ns = E'.map (fun n : Nat => (n : Int)) ∧ E'.Perm E := by
  have hn : ∀ x ∈ ns, 0 ≤ x := fun x hx => by
    obtain ⟨n, _, rfl⟩ := List.mem_map.mp (h.mem_iff.mp hx)
    omega
  refine ⟨ns.map Int.toNat, ?_, ?_⟩
  · rw [List.map_map]
    conv => lhs; rw [← List.map_id ns]
    refine List.map_congr_left fun x hx => ?_
    have := hn x hx
    show x = ((x.toNat : Nat) : Int)
    omega
  · have := h.map Int.toNat
    rw [List.map_map] at this
    refine this.trans (List.Perm.of_eq ?_)
    conv => rhs; rw [← List.map_id E]
    exact List.map_congr_left fun x _ => rfl
theorem tot_snoc (ds : List Deed) (d : Deed) : tot (ds ++ [d]) = tot ds + d.2.length := by unfold tot; simp
abbrev vN (E : List Nat) : List V := E.map fun n : Nat => V.int (n : Int)
theorem vN_int (E : List Nat) : vN E = (E.map fun n : Nat => (n : Int)).map V.int := by rw [List.map_map]; rfl
structure EnI (D : List Deed) (X : Mks) (E : List Nat) : Prop where
  one : 1 ∈ E
  big : 1000000 ∈ E
  lo : ∀ x ∈ E, 1 ≤ x ∧ x ≤ 1000000
  en : ∀ d ∈ D, ∀ p ∈ d.2, p.1 ∈ E ∧ p.2 + 1 ∈ E
  ex : ∀ p ∈ X, p.1 ∈ E ∧ p.2 + 1 ∈ E
section
variable {P : Program} {w : World} {K : PySem.W.Frag} {mg : Str → Option Value} {base : Heap}
theorem ok__law_due (D : Df K mg "_law_due" s__law_due ["deeds"]) (T : Tx mg)  (C__law_left : Cal P w K mg base "_law_left" ["deeds", "number"] 2 (sp68_left K)) : Cal P w K mg base "_law_due" ["deeds"] 3 (sp68_due K) := by
  obtain ⟨f__law_left, fd__law_left, G__law_left, g__law_left, k__law_left, b__law_left⟩ := C__law_left
  obtain ⟨f, fd, F, gf, bf⟩ := D
  refine ⟨f, fd, F.ok sc__law_due (fun vs H Q E h => ?_) (fun cdv A outer s₀ H vs Q E hr h => ?_), gf, F.kp, bf⟩
  · obtain ⟨a, ds, rfl, _⟩ := h; rfl
  · obtain ⟨a, ds, rfl, hds, ok, tl5, q⟩ := h
    refine ⟨_, (pss_cons (ps_set (i := 1) sc__law_due.nd rfl (Or.inl rfl) (pe_lst (pa_cons pe_int (pa_cons pe_int pa_nil))))
      (pss_cons (ps_for PassesOwn.never rfl (pi_list (pv 0)) (pg_name (i := 2) sc__law_due.nd rfl (Or.inl rfl))
      (pss_one (ps_for PassesOwn.never rfl (pi_tup (pe_ix ix_tup (pv 2) pe_int (fun _ _ => rfl))) (pg_name (i := 3) sc__law_due.nd rfl (Or.inl rfl))
        (pss_one (ps_set (i := 1) sc__law_due.nd rfl (Or.inl rfl) (pe_op L2.op_cat (pv 1) (pe_lst (pa_cons (pe_ix ix_tup (pv 3) pe_int (fun _ _ => rfl)) (pa_cons (pe_op op_add (pe_ix ix_tup (pv 3) pe_int (fun _ _ => rfl)) pe_int) pa_nil)))))))))
      (pss_cons (ps_set (i := 1) sc__law_due.nd rfl (Or.inl rfl) (pe_callB cr_sortedI (by rfl) T.n_sorted (by decide +kernel) (pa_cons (pv 1) pa_nil)))
      (pss_cons (ps_set (i := 4) sc__law_due.nd rfl (Or.inl rfl) (pe_lst pa_nil))
      (pss_cons (ps_for PassesOwn.never rfl (pi_range2 (by rfl) T.n_range (pa_cons pe_int (pa_cons (pe_callB call_len_seq (by rfl) T.n_len PySem.boot_len (pa_cons (pv 1) pa_nil)) pa_nil))) (pg_name (i := 5) sc__law_due.nd rfl (Or.inl rfl))
      (pss_cons (ps_set (i := 6) sc__law_due.nd rfl (Or.inl rfl) (pe_ix ix_list (pv 1) (pe_op op_sub (pv 5) pe_int) (fun _ _ => rfl)))
        (pss_one (ps_if (PW.pt (pw_and (pt_cmpR op_lt (pv 6) (pe_ix ix_list (pv 1) (pv 5) (fun _ _ => rfl)) (nomark _)) (pw_and1 (pt_val (pe_call G__law_left (hr.mono (by decide)) (by rfl) g__law_left k__law_left b__law_left .nil pass0 (pa_cons (pv 0) (pa_cons (pv 6) pa_nil)))))))
        (C8.pss_cut (ps_if (PW.pt (pw_and (pt_cmpR op_gt (pe_callB call_len_seq (by rfl) T.n_len PySem.boot_len (pa_cons (pv 4) pa_nil)) pe_int (nomark _)) (pw_and1 (pt_cmpR op_eq (pe_ix ix_tup (pe_ix ix_list (pv 4) (pe_op op_sub (pe_callB call_len_seq (by rfl) T.n_len PySem.boot_len (pa_cons (pv 4) pa_nil)) pe_int) (fun _ _ => rfl)) pe_int (fun _ _ => rfl)) (pe_op op_sub (pv 6) pe_int) (nomark _)))))
          (pss_one (ps_set (i := 6) sc__law_due.nd rfl (Or.inl rfl) (pe_ix ix_tup (pe_bm0 PySem.F.plainAttrs_list PySem.F.slot_list_pop PySem.F.type_list_pop mt_pop (pv 4)) pe_int (fun _ _ => rfl))))
          pss_nil)
          (pss_one (ps_expr (pe_bm PySem.F.plainAttrs_list PySem.F.slot_list_append PySem.F.type_list_append mt_append (pv 4) (pa_cons (pe_tup (pa_cons (pv 6) (pa_cons (pe_op op_sub (pe_ix ix_list (pv 1) (pv 5) (fun _ _ => rfl)) pe_int) pa_nil))) pa_nil)))))
        pss_nil))))
      (pss_one (ps_ret (pe_callTy call_tuple_of (by rfl) T.n_tuple (by decide +kernel) (pa_cons (pv 4) pa_nil))))))))), ?_⟩
    have big : ∀ {n : Nat}, n ≤ 30000 → n < sizeLine := fun h => Nat.lt_of_le_of_lt h (by decide)
    obtain ⟨us, hU, ru⟩ := hds
    have ul := ru.len
    refine ⟨by show 2 ≤ sizeLine; decide, fun A0 hA0 => ?_⟩
    have n1 := same_new (o := HO.lst [V.int 1, .int 1000000]) hA0
    refine ⟨_, rfl, a, rfl, ⟨_, SqL.of (n1 _ _ hU)⟩, ?_⟩
    refine for_list (K := K) (a := a) (xs := us) (fun i σ H' => ∃ (E : List Nat) (A : Addr) (v2 v3 : Option V), σ = [some (.ref a), some (.ref A), v2, v3, none, none, none] ∧ H' A = some (.lst (vN E)) ∧ EnI (ds.take i) [] E ∧ Same H H' ∧ E.length = 2 + 2 * tot (ds.take i)) ⟨[1, 1000000], A0, _, _, rfl, upd_same, ⟨by simp, by simp, (fun x hx => by
        simp only [List.mem_cons, List.not_mem_nil, or_false] at hx
        omega), (fun d hd => by rw [List.take_zero] at hd; cases hd), (fun p hp => by cases hp)⟩, n1, by rw [List.take_zero]; rfl⟩ (fun i σ H' _ h => by obtain ⟨_, _, _, _, _, _, _, h, _⟩ := h; exact SqL.of (h _ _ hU)) ?_ ?_
    · rintro i x σ H1 hi ⟨E, A, v2, v3, rfl, hA, en, m1, El⟩
      obtain ⟨d, hd, hx⟩ := ru.get hi
      obtain ⟨T, u, rfl, hT, du⟩ := DeAt.tk (TK.same m1) d x hx
      obtain ⟨c, ps, rfl, hC, hps⟩ := dv_mks du
      have pl := hps.map_len
      have dm := List.mem_of_getElem? hd
      have tk := take_snoc hd
      have tl1 : tot (ds.take (i + 1)) ≤ tot ds := by
        conv => rhs; rw [← List.take_append_drop (i + 1) ds]
        unfold tot
        rw [List.map_append, List.sum_append]
        omega
      rw [tk, tot_snoc] at tl1
      refine ⟨_, rfl, T, _, 1, .ref c, rfl, rfl, hT, atI_nat (j := 1) rfl, c, rfl, ⟨_, hC⟩, ?_⟩
      refine for_tup (K := K) (a := c) (xs := ps) (fun j σ H' => ∃ (E : List Nat) (A : Addr) (v3 : Option V), σ = [some (.ref a), some (.ref A), some (.ref T), v3, none, none, none] ∧ H' A = some (.lst (vN E)) ∧ EnI (ds.take i) (d.2.take j) E ∧ Same H H' ∧ Same H1 H' ∧ E.length = 2 + 2 * tot (ds.take i) + 2 * j) ⟨E, A, _, rfl, hA, by rw [List.take_zero]; exact en, m1, .refl _, El⟩ (fun j σ H' _ h => by obtain ⟨_, _, _, _, _, _, _, h, _⟩ := h; exact h.tup hC) ?_ ?_
      rotate_left
      · rintro σ H2 ⟨E, A, v3, rfl, hA, en, m2, _, El⟩
        rw [pl, List.take_length] at en
        refine ⟨E, A, _, _, rfl, hA, ⟨en.one, en.big, en.lo, fun e he p hp => ?_, (fun p hp => by cases hp)⟩, m2, by rw [El, tk, tot_snoc, pl]; omega⟩
        rw [tk] at he
        rcases List.mem_append.mp he with h | h
        · exact en.en e h p hp
        · rw [List.mem_singleton.mp h] at hp; exact en.ex p hp
      rintro j y σ H2 hj ⟨E, A, v3, rfl, hA, en, m2, m12, El⟩
      obtain ⟨p, hp, dx⟩ := hps.map_get hj
      obtain ⟨pc, rfl, hpc⟩ := dv_pr (dx.tk (TK.same m12))
      have jl := (List.getElem?_eq_some_iff.mp hp).1
      have gp := (good_iff.mp (ok d dm)).1 p (List.mem_of_getElem? hp)
      refine ⟨_, rfl, _, rfl, pc, _, 0, _, rfl, rfl, hpc, atI_nat (j := 0) rfl, _, rfl, pc, _, 1, _, rfl, rfl, hpc, atI_nat (j := 1) rfl, _, _, rfl, rfl, by show 2 ≤ sizeLine; decide, fun L hL => ?_⟩
      have nL := same_new (o := HO.lst [V.int (p.1 : Int), V.int ((p.2 : Int) + 1)]) hL
      refine ⟨A, L, vN E, [V.int (p.1 : Int), V.int ((p.2 : Int) + 1)], rfl, rfl, nL _ _ hA, upd_same, Nat.le_of_lt (big (by rw [List.length_map]; show _ + 2 ≤ _; omega)), fun N hN => ?_⟩
      have nN := same_new (o := HO.lst (vN E ++ [V.int (p.1 : Int), V.int ((p.2 : Int) + 1)])) hN
      refine ⟨E ++ [p.1, p.2 + 1], N, _, rfl, ?_, ⟨List.mem_append_left _ en.one, List.mem_append_left _ en.big, fun x hx => ?_, fun e he z hz => ?_, fun z hz => ?_⟩, m2.trans (nL.trans nN), m12.trans (nL.trans nN), by rw [List.length_append, El]; show _ + 2 = _; omega⟩
      · rw [upd_same]; unfold vN; rw [List.map_append]; rfl
      · rcases List.mem_append.mp hx with h | h
        · exact en.lo x h
        · simp only [List.mem_cons, List.not_mem_nil, or_false] at h
          omega
      · have := en.en e he z hz
        exact ⟨List.mem_append_left _ this.1, List.mem_append_left _ this.2⟩
      · rw [take_snoc hp] at hz
        rcases List.mem_append.mp hz with h | h
        · have := en.ex z h
          exact ⟨List.mem_append_left _ this.1, List.mem_append_left _ this.2⟩
        · rw [List.mem_singleton.mp h]
          exact ⟨List.mem_append_right _ (by simp), List.mem_append_right _ (by simp)⟩
    rintro σ H1 ⟨E0, A, v2, v3, rfl, hA, en, m1, El⟩
    rw [ul, List.take_length] at en El
    refine ⟨_, rfl, A, E0.map (fun n : Nat => (n : Int)), rfl, by rw [← vN_int]; exact SqL.of hA, fun ns' S pm pw hS => ?_⟩
    obtain ⟨E, rfl, pmE⟩ := perm_nat pm
    rw [← vN_int]
    have nS := same_new (o := HO.lst (vN E)) hS
    have qS : (upd H1 S (.lst (vN E))) S = some (.lst (vN E)) := upd_same
    have m2 := m1.trans nS
    generalize upd H1 S (.lst (vN E)) = H2 at qS m2 ⊢
    have En : Ends67 ds E := by
      refine ⟨?_, pmE.mem_iff.mpr en.one, pmE.mem_iff.mpr en.big, fun x hx => en.lo x (pmE.mem_iff.mp hx), fun d hd p hp => ?_⟩
      · exact (List.pairwise_map.mp pw).imp fun h => by omega
      · have := en.en d hd p hp
        exact ⟨pmE.mem_iff.mpr this.1, pmE.mem_iff.mpr this.2⟩
    have Elen : E.length = 2 + 2 * tot ds := by rw [pmE.length_eq, El]
    clear pm pw pmE en El hA
    refine ⟨Nat.zero_le _, fun F hF => ?_⟩
    have nF := same_new (o := HO.lst []) hF
    have qF : (upd H2 F (.lst [])) F = some (.lst []) := upd_same
    have qS3 := nF _ _ qS
    have m3 := m2.trans nF
    have FS : F ≠ S := fun z => by rw [z, qS] at hF; cases hF
    have hF0 : H F = none := Same.free m2 hF
    generalize upd H2 F (.lst []) = H3 at qF qS3 m3 ⊢
    refine ⟨_, rfl, S, _, rfl, .inl (SqL.of qS3), ?_⟩
    refine ⟨1, _, rfl, ⟨by decide, by decide, by rw [List.length_map]; omega, by rw [List.length_map]; omega⟩, ?_⟩
    have e00 : E[0]? = some 1 := by
      obtain ⟨j, hj⟩ := List.getElem?_of_mem En.one
      have l0 : 0 < E.length := by omega
      have h0 : E[0]? = some E[0] := List.getElem?_eq_getElem l0
      have := sorted_get En.so h0 hj (Nat.zero_le _)
      have := (En.lo _ (List.mem_of_getElem? h0)).1
      rw [h0]; congr 1; omega
    have eZZ : E[E.length - 1]? = some 1000000 := by
      obtain ⟨j, hj⟩ := List.getElem?_of_mem En.big
      have jl := (List.getElem?_eq_some_iff.mp hj).1
      have hz : E[E.length - 1]? = some E[E.length - 1] := List.getElem?_eq_getElem (by omega)
      have := sorted_get En.so hj hz (by omega)
      have := (En.lo _ (List.mem_of_getElem? hz)).2
      rw [hz]; congr 1; omega
    refine for_range (lo := 1) (n := (((vN E).length : Int) - 1).toNat) (fun i σ H' => ∃ (m : Mks) (us : List V) (b0 : Nat) (v2 v3 v5 v6 : Option V), σ = [some (.ref a), some (.ref S), v2, v3, some (.ref F), v5, v6] ∧ H' F = some (.lst us) ∧ RL (PrI K H') m us ∧ H' S = some (.lst (vN E)) ∧ Same H H' ∧ E[i]? = some b0 ∧ DuI ds m b0 ∧ m.length ≤ i) ⟨[], [], 1, _, _, none, none, rfl, qF, rfl, qS3, m3, e00, DuI.start, Nat.le_refl _⟩ ?_ ?_
    rotate_left
    · rintro σ H4 ⟨m, us', b0, v2, v3, v5, v6, rfl, hF4, rum, hS4, m4, hb0, du, lm⟩
      rw [show (((vN E).length : Int) - 1).toNat = E.length - 1 by rw [List.length_map]; omega] at hb0 lm
      rw [eZZ] at hb0
      cases hb0
      refine ⟨_, rfl, F, us', rfl, .inl ⟨SqL.of hF4, fun t ht => ?_⟩⟩
      have nt := same_new (o := HO.tup us') ht
      exact q _ m _ (m4.trans nt) ⟨t, us', rfl, SqT.of upd_same, RL.dvs (fun p w h => PrI.dv p w h) (rum.mono (PrI.tk (TK.same nt)))⟩ (du.fin ok) (by omega)
    rintro i σ H4 hi ⟨m, us', a0, v2, v3, v5, v6, rfl, hF4, rum, hS4, m4, ha0, du, lm⟩
    have hi : i + 1 < E.length := by rw [List.length_map] at hi; omega
    obtain ⟨b0, hb0⟩ : ∃ b, E[i + 1]? = some b := ⟨_, List.getElem?_eq_getElem hi⟩
    have va : (vN E)[i]? = some (.int (a0 : Int)) := by rw [List.getElem?_map, ha0]; rfl
    have vb : (vN E)[i + 1]? = some (.int (b0 : Int)) := by rw [List.getElem?_map, hb0]; rfl
    have a1 := (En.lo a0 (List.mem_of_getElem? ha0)).1
    have b1 := (En.lo b0 (List.mem_of_getElem? hb0)).1
    have uml := rum.len
    refine ⟨_, rfl, _, rfl, _, _, rfl, rfl, S, _, _, _, rfl, rfl, SqL.of hS4, at_of (j := i) (by omega) va, ?_⟩
    refine ⟨_, rfl, _, rfl, _, rfl, S, _, _, _, rfl, rfl, SqL.of hS4, at_of (j := i + 1) (by omega) vb, _, _, rfl, rfl, _, rfl, ?_⟩
    by_cases k1 : a0 < b0
    rotate_left
    · exact iN (decide_eq_false (by omega)) (iteF ⟨m, us', b0, _, _, _, _, rfl, hF4, rum, hS4, m4, hb0, du.skip En ha0 hb0 fun z => k1 z.1, by omega⟩)
    refine iG (decide_eq_true (by omega)) ⟨_, rfl, _, rfl, a, ds, a0, rfl, ⟨us, m4 _ _ hU, ru.mono (DeAt.tk (TK.same m4))⟩, fun H5 m5 => ⟨_, rfl, ?_⟩⟩
    have hF5 := m5 _ _ hF4
    have hS5 := m5 _ _ hS4
    have rum5 := rum.mono (PrI.tk (TK.same m5))
    have m45 := m4.trans m5
    cases k2 : leftB ds a0 with
    | false => exact iteF ⟨m, us', b0, _, _, _, _, rfl, hF5, rum5, hS5, m45, hb0, du.skip En ha0 hb0 fun z => (by rw [k2] at z; cases z.2), by omega⟩
    | true =>
      refine iteT ?_
      refine ⟨fun σ' H' => ∃ (m0 : Mks) (us0 : List V) (lo : Nat), σ' = [some (.ref a), some (.ref S), v2, v3, some (.ref F), some (.int (1 + (i : Int))), some (.int (lo : Int))] ∧ H' F = some (.lst us0) ∧ RL (PrI K H') m0 us0 ∧ H' S = some (.lst (vN E)) ∧ Same H H' ∧ DuI ds (m0 ++ [(lo, b0 - 1)]) b0 ∧ m0.length ≤ i, ?_, ?_⟩
      rotate_left
      · rintro σ' H6 ⟨m0, us0, lo, rfl, hF6, ru6, hS6, m6, du6, l6⟩
        have ul6 := ru6.len
        refine ⟨_, rfl, .inl ⟨rfl, _, SqL.of hF6⟩, _, rfl, _, rfl, _, rfl, S, _, _, _, rfl, rfl, SqL.of hS6, at_of (j := i + 1) (by omega) vb, _, _, rfl, rfl, by show 2 ≤ sizeLine; decide, fun T hT => ?_⟩
        have nT := same_new (o := HO.tup [V.int (lo : Int), V.int ((b0 : Int) - 1)]) hT
        have hF7 := nT _ _ hF6
        have hS7 := nT _ _ hS6
        have hT7 : (upd H6 T (.tup [V.int (lo : Int), V.int ((b0 : Int) - 1)])) T = some (.tup [V.int (lo : Int), V.int ((b0 - 1 : Nat) : Int)]) := by
          rw [upd_same, show ((b0 - 1 : Nat) : Int) = (b0 : Int) - 1 by omega]
        have T7 := TK.same (K := K) nT
        have m7 := m6.trans nT
        generalize upd H6 T (.tup [V.int (lo : Int), V.int ((b0 : Int) - 1)]) = H7 at hF7 hS7 hT7 T7 m7 ⊢
        have T8 : TK K H7 (upd H7 F (.lst (us0 ++ [V.ref T]))) := tk_put hF7
        refine ⟨F, us0, _, rfl, rfl, hF7, big (by omega), m0 ++ [(lo, b0 - 1)], us0 ++ [.ref T], b0, _, _, _, _, rfl, upd_same, ((ru6.mono (PrI.tk T7)).mono (PrI.tk T8)).snoc ⟨T, rfl, T8 _ _ (SqT.of hT7)⟩, by rw [upd_ne FS.symm]; exact hS7, sput m7 hF0, hb0, du6, by rw [List.length_append]; show _ + 1 ≤ _; omega⟩
      refine ⟨_, rfl, F, _, rfl, .inl (SqL.of hF5), _, _, rfl, rfl, _, rfl, ?_⟩
      rcases nil_or_snoc m with me | ⟨i0, l, me⟩
      · have u0 : us' = [] := by rw [me] at rum; exact rum
        refine iN (by rw [u0]; rfl) (iteF ⟨m, us', a0, rfl, hF5, rum5, hS5, m45, du.put En ha0 hb0 ⟨k1, k2⟩ (fun x hx => by rw [me] at hx; cases hx), lm⟩)
      · obtain ⟨vs0, w, ue, rv, lw⟩ := rl_inv8 (xs := i0) (x := l) (by rw [← me]; exact rum5)
        obtain ⟨lc, rfl, hlc⟩ := lw
        have ull : us'.length = vs0.length + 1 := by rw [ue, List.length_append]; rfl
        have uat : us'[vs0.length]? = some (.ref lc) := by rw [ue]; simp
        refine iG (decide_eq_true (by omega)) ⟨_, rfl, _, rfl, F, _, rfl, .inl (SqL.of hF5), _, _, rfl, rfl, F, us', ((us'.length : Nat) : Int) - 1, .ref lc, rfl, rfl, SqL.of hF5, at_of (j := vs0.length) (by omega) uat, lc, _, 1, .int (l.2 : Int), rfl, rfl, hlc, atI_nat (j := 1) rfl, _, rfl, _, _, rfl, rfl, rfl, _, rfl, ?_⟩
        by_cases k3 : l.2 = a0 - 1
        · refine iG (decide_eq_true (show V.int (l.2 : Int) = V.int ((a0 : Int) - 1) by rw [show (a0 : Int) - 1 = (l.2 : Int) by omega])) ⟨_, rfl, .inl ⟨rfl, _, SqL.of hF5⟩, F, us', .ref lc, rfl, rfl, hF5, by rw [ull]; exact uat, lc, [V.int (l.1 : Int), V.int (l.2 : Int)], 0, .int (l.1 : Int), rfl, rfl, ?_⟩
          have T6 : TK K H5 (upd H5 F (.lst us'.dropLast)) := tk_put hF5
          have dl : us'.dropLast = vs0 := by rw [ue]; simp
          rw [me] at du lm
          have l0 : i0.length ≤ i := by rw [List.length_append] at lm; have : i0.length + 1 ≤ i := lm; omega
          exact ⟨T6 _ _ hlc, atI_nat (j := 0) rfl, i0, vs0, l.1, rfl, by rw [upd_same, dl], rv.mono (PrI.tk T6), by rw [upd_ne FS.symm]; exact hS5, sput m45 hF0, du.grow En ha0 hb0 ⟨k1, k2⟩ k3, l0⟩
        · refine iN (decide_eq_false (fun z => k3 (by injection z with z; omega))) ⟨m, us', a0, rfl, hF5, rum5, hS5, m45, du.put En ha0 hb0 ⟨k1, k2⟩ (fun x hx => by
            rw [me, List.getLast?_concat] at hx
            rw [← Option.some.inj hx]; exact k3), lm⟩
end

end Z
namespace Z
open PySem L2 SX
section
variable {P : Program} {w : World} {K : PySem.W.Frag} {mg : Str → Option Value} {base : Heap}
theorem ok__law_next (D : Df K mg "_law_next" s__law_next ["marks", "number"]) (T : Tx mg)  (C__law_in : Cal P w K mg base "_law_in" ["marks", "number"] 1 (sp68_marked K)) : Cal P w K mg base "_law_next" ["marks", "number"] 2 (sp68_next K) := by
  obtain ⟨f__law_in, fd__law_in, G__law_in, g__law_in, k__law_in, b__law_in⟩ := C__law_in
  obtain ⟨f, fd, F, gf, bf⟩ := D
  refine ⟨f, fd, F.ok sc__law_next (fun vs H Q E h => ?_) (fun cdv A outer s₀ H vs Q E hr h => ?_), gf, F.kp, bf⟩
  · obtain ⟨v, m, n, rfl, _⟩ := h; rfl
  · obtain ⟨v, m, n, rfl, hv, ok, q⟩ := h
    refine ⟨_, (pss_cons (ps_for PassesOwn.never rfl (pi_list (pe_callB cr_sortedI (by rfl) T.n_sorted (by decide +kernel) (pa_cons (pe_op L2.op_cat (pe_lst (pa_cons (pe_op op_add (pv 1) pe_int) pa_nil)) (pe_lc (own := [("pair", 3)]) (g := gName 3) (tt := tYes) rfl sc__law_next.nd (pi_tup (pv 0)) (blkOk_by (own := [("pair", 3)]) (N := N__law_next) (sc := defScope s__law_next) (by decide +kernel)) (fun _ _ _ _ _ => pg_name (i := 3) sc__law_next.nd rfl (Or.inl rfl)) (fun _ _ _ _ _ => pts_nil) (fun _ _ _ _ _ => (pe_op op_add (pe_ix (ix_tupQ (K := K) rfl) (pv 3) pe_int (fun _ _ => rfl)) pe_int)))) pa_nil))) (pg_name (i := 2) sc__law_next.nd rfl (Or.inl rfl))
      (pss_one (ps_if (PW.pt (pw_and (pt_cmpR op_gt (pv 2) (pv 1) (nomark _)) (pw_and1 (pt_not (pt_val (pe_call G__law_in (hr.mono (by decide)) (by rfl) g__law_in k__law_in b__law_in .nil pass0 (pa_cons (pv 0) (pa_cons (pv 2) pa_nil))))))))
        (pss_one (ps_ret (pv 2)))
        pss_nil)))
      (pss_one (ps_ret (pe_op op_add (pv 1) pe_int)))), ?_⟩
    have big : ∀ {n : Nat}, n ≤ 30000 → n < sizeLine := fun h => Nat.lt_of_le_of_lt h (by decide)
    obtain ⟨c, us, rfl, hC, hus⟩ := dv_mks hv
    have ul := hus.map_len
    obtain ⟨gm, lm⟩ := ok
    refine ⟨_, rfl, _, _, rfl, rfl, by show 1 ≤ sizeLine; decide, fun L hL => ?_⟩
    have n1 := same_new (o := HO.lst [V.int ((n : Int) + 1)]) hL
    refine ⟨_, rfl, c, rfl, ⟨_, n1.tup hC⟩, fun D hD => ?_⟩
    have qL : (upd H L (.lst [V.int ((n : Int) + 1)])) L = some (.lst [V.int ((n : Int) + 1)]) := upd_same
    refine lc_tup (K := K) (a := c) (xs := us) (fun i H' => H' D = some (.lst (vN ((m.take i).map fun p => p.2 + 1))) ∧ Same (upd H L (.lst [V.int ((n : Int) + 1)])) H') ⟨upd_same, same_new hD⟩ (fun i H' _ h => h.2.tup (n1.tup hC)) ?_ ?_
    · rintro i x H' hi ⟨h1, h2⟩
      obtain ⟨p, hp, dx⟩ := hus.map_get hi
      have il := (List.getElem?_eq_some_iff.mp hp).1
      obtain ⟨pc, rfl, hpc⟩ := dv_pr (dx.tk (TK.same (n1.trans h2)))
      refine ⟨rfl, _, rfl, pc, _, 1, _, rfl, rfl, hpc, atI_nat (j := 1) rfl, _, _, rfl, rfl, _, h1, by rw [List.length_map, List.length_map, List.length_take]; exact big (by omega), ?_, sput h2 hD⟩
      rw [upd_same, take_snoc hp, List.map_append]
      unfold vN
      rw [List.map_append]; rfl
    rintro H1 ⟨hD1, m1⟩
    rw [ul, List.take_length] at hD1
    have hL1 := m1 _ _ qL
    have m01 := n1.trans m1
    refine ⟨L, D, [V.int ((n : Int) + 1)], vN (m.map fun p => p.2 + 1), rfl, rfl, hL1, hD1, Nat.le_of_lt (big (by rw [List.length_map, List.length_map]; show 1 + _ ≤ _; omega)), fun p hp => ?_⟩
    have np := same_new (o := HO.lst ([V.int ((n : Int) + 1)] ++ vN (m.map fun p => p.2 + 1))) hp
    have qp : (upd H1 p (.lst ([V.int ((n : Int) + 1)] ++ vN (m.map fun p => p.2 + 1)))) p = some (.lst (vN ((n + 1) :: m.map fun p => p.2 + 1))) := upd_same
    have m2 := m01.trans np
    generalize upd H1 p (.lst ([V.int ((n : Int) + 1)] ++ vN (m.map fun p => p.2 + 1))) = H2 at qp m2 ⊢
    refine ⟨p, ((n + 1) :: m.map fun p => p.2 + 1).map (fun n : Nat => (n : Int)), rfl, by rw [← vN_int]; exact SqL.of qp, fun ns' S pm pw hS => ?_⟩
    obtain ⟨E, rfl, pmE⟩ := perm_nat pm
    rw [← vN_int]
    have nS := same_new (o := HO.lst (vN E)) hS
    have qS : (upd H2 S (.lst (vN E))) S = some (.lst (vN E)) := upd_same
    have m3 := m2.trans nS
    generalize upd H2 S (.lst (vN E)) = H3 at qS m3 ⊢
    have so : E.Pairwise (· ≤ ·) := (List.pairwise_map.mp pw).imp fun h => by omega
    obtain ⟨t, it, ht⟩ := next_ex gm n
    have tE : t ∈ E := pmE.mem_iff.mpr (by
      rcases ht with e | ⟨p, hp, e⟩ <;> rw [e]
      · simp
      · exact List.mem_cons_of_mem _ (List.mem_map_of_mem (f := fun p : Nat × Nat => p.2 + 1) hp))
    obtain ⟨jt, hjt⟩ := List.getElem?_of_mem tE
    clear pm pw pmE
    refine ⟨S, rfl, ⟨_, SqL.of qS⟩, ?_⟩
    refine for_list (K := K) (a := S) (xs := vN E) (fun i σ H' => (∃ v2, σ = [some (.ref c), some (.int (n : Int)), v2, none]) ∧ Same H H' ∧ H' S = some (.lst (vN E)) ∧ ∀ j x, j < i → E[j]? = some x → x ≤ n ∨ inM m x) ⟨⟨_, rfl⟩, m3, qS, fun j x h _ => by omega⟩ (fun i σ H' _ h => SqL.of h.2.2.1) ?_ ?_
    · rintro i y σ H4 hi ⟨⟨v2, rfl⟩, m4, hS4, al⟩
      rw [List.getElem?_map] at hi
      obtain ⟨x, hx, rfl⟩ := Option.map_eq_some_iff.mp hi
      refine ⟨_, rfl, _, rfl, _, _, rfl, rfl, _, rfl, ?_⟩
      have nxt : x ≤ n ∨ inM m x → ∀ j y, j < i + 1 → E[j]? = some y → y ≤ n ∨ inM m y := fun h j y hj hy => by
        by_cases z : j = i
        · subst z
          rw [hx] at hy
          rw [← Option.some.inj hy]; exact h
        · exact al j y (by omega) hy
      by_cases k1 : n < x
      · refine iG (decide_eq_true (by omega)) ⟨_, rfl, _, rfl, .ref c, m, x, rfl, hv.tk (TK.same m4), fun H5 m5 => ⟨_, rfl, ?_⟩⟩
        cases k2 : inB m x with
        | true => exact iteF ⟨⟨_, rfl⟩, m4.trans m5, m5 _ _ hS4, nxt (.inr (inB_iff.mp k2))⟩
        | false =>
          have nx := inB_no.mp k2
          have tx : t ≤ x := by
            by_cases z : t ≤ x
            · exact z
            · exact absurd (it.2.2 x k1 (by omega)) nx
          have ex : x = t := by
            by_cases z : jt < i
            · rcases al jt t z hjt with w | w
              · have := it.1; omega
              · exact absurd w it.2.1
            · have := sorted_get so hx hjt (by omega)
              omega
          refine iteT ⟨_, rfl, ?_⟩
          rw [ex]
          exact q t H5 (m4.trans m5) it
      · exact iN (decide_eq_false (by omega)) (iteF ⟨⟨_, rfl⟩, m4, hS4, nxt (.inl (by omega))⟩)
    rintro σ H4 ⟨⟨v2, rfl⟩, m4, hS4, al⟩
    rw [List.length_map] at al
    rcases al jt t (List.getElem?_eq_some_iff.mp hjt).1 hjt with w | w
    · have := it.1; omega
    · exact absurd w it.2.1
end
section
variable {P : Program} {w : World} {K : PySem.W.Frag} {mg : Str → Option Value} {base : Heap}
theorem ok__law_points (D : Df K mg "_law_points" s__law_points ["marks"]) (T : Tx mg)   : Cal P w K mg base "_law_points" ["marks"] 1 (sp68_points K) := by
  obtain ⟨f, fd, F, gf, bf⟩ := D
  refine ⟨f, fd, F.ok sc__law_points (fun vs H Q E h => ?_) (fun cdv A outer s₀ H vs Q E hr h => ?_), gf, F.kp, bf⟩
  · obtain ⟨v, m, rfl, _⟩ := h; rfl
  · obtain ⟨v, m, rfl, hv, lm, lo, q⟩ := h
    refine ⟨_, (pss_cons (ps_set (i := 1) sc__law_points.nd rfl (Or.inl rfl) (pe_lst (pa_cons pe_int (pa_cons pe_int pa_nil))))
      (pss_cons (ps_for PassesOwn.never rfl (pi_tup (pv 0)) (pg_name (i := 2) sc__law_points.nd rfl (Or.inl rfl))
      (pss_one (ps_set (i := 1) sc__law_points.nd rfl (Or.inl rfl) (pe_op L2.op_cat (pv 1) (pe_lst (pa_cons (pe_op op_sub (pe_ix ix_tup (pv 2) pe_int (fun _ _ => rfl)) pe_int) (pa_cons (pe_ix ix_tup (pv 2) pe_int (fun _ _ => rfl)) (pa_cons (pe_ix ix_tup (pv 2) pe_int (fun _ _ => rfl)) (pa_cons (pe_op op_add (pe_ix ix_tup (pv 2) pe_int (fun _ _ => rfl)) pe_int) pa_nil)))))))))
      (pss_one (ps_ret (pe_lc (own := [("point", 3)]) (g := gName 3) rfl sc__law_points.nd (pi_list (pv 1)) (blkOk_by (own := [("point", 3)]) (N := N__law_points) (sc := defScope s__law_points) (by decide +kernel)) (fun _ _ _ _ _ => pg_name (i := 3) sc__law_points.nd rfl (Or.inl rfl)) (fun _ _ _ _ _ => pts_one (pt_chain op_le op_le pe_int (pv 3) pe_int)) (fun _ _ _ _ _ => (pv 3))))))), ?_⟩
    have big : ∀ {n : Nat}, n ≤ 30000 → n < sizeLine := fun h => Nat.lt_of_le_of_lt h (by decide)
    obtain ⟨c, us, rfl, hC, hus⟩ := dv_mks hv
    have ul := hus.map_len
    refine ⟨by show 2 ≤ sizeLine; decide, fun A0 hA0 => ?_⟩
    have n1 := same_new (o := HO.lst [V.int 1, .int 999999]) hA0
    refine ⟨_, rfl, c, rfl, ⟨_, n1.tup hC⟩, ?_⟩
    refine for_tup (K := K) (a := c) (xs := us) (fun i σ H' => ∃ (E : List Nat) (A : Addr) (v2 : Option V), σ = [some (.ref c), some (.ref A), v2, none] ∧ H' A = some (.lst (vN E)) ∧ Same H H' ∧ E.length = 2 + 4 * i) ⟨[1, 999999], A0, _, rfl, upd_same, n1, rfl⟩ (fun i σ H' _ h => by obtain ⟨_, _, _, _, _, h, _⟩ := h; exact h.tup hC) ?_ ?_
    · rintro i x σ H1 hi ⟨E, A, v2, rfl, hA, m1, El⟩
      obtain ⟨p, hp, dx⟩ := hus.map_get hi
      have il := (List.getElem?_eq_some_iff.mp hp).1
      obtain ⟨pc, rfl, hpc⟩ := dv_pr (dx.tk (TK.same m1))
      have lp := lo p (List.mem_of_getElem? hp)
      refine ⟨_, rfl, _, rfl, pc, _, 0, _, rfl, rfl, hpc, atI_nat (j := 0) rfl, _, _, rfl, rfl, _, rfl, pc, _, 0, _, rfl, rfl, hpc, atI_nat (j := 0) rfl, _, rfl, pc, _, 1, _, rfl, rfl, hpc, atI_nat (j := 1) rfl, _, rfl, pc, _, 1, _, rfl, rfl, hpc, atI_nat (j := 1) rfl, _, _, rfl, rfl, by show 4 ≤ sizeLine; decide, fun L hL => ?_⟩
      have nL := same_new (o := HO.lst [V.int ((p.1 : Int) - 1), .int (p.1 : Int), .int (p.2 : Int), .int ((p.2 : Int) + 1)]) hL
      refine ⟨A, L, vN E, [V.int ((p.1 : Int) - 1), .int (p.1 : Int), .int (p.2 : Int), .int ((p.2 : Int) + 1)], rfl, rfl, nL _ _ hA, upd_same, Nat.le_of_lt (big (by rw [List.length_map]; show _ + 4 ≤ _; omega)), fun N hN => ?_⟩
      have nN := same_new (o := HO.lst (vN E ++ [V.int ((p.1 : Int) - 1), .int (p.1 : Int), .int (p.2 : Int), .int ((p.2 : Int) + 1)])) hN
      refine ⟨E ++ [p.1 - 1, p.1, p.2, p.2 + 1], N, _, rfl, ?_, m1.trans (nL.trans nN), by rw [List.length_append, El]; show _ + 4 = _; omega⟩
      rw [upd_same]
      unfold vN
      rw [List.map_append]
      show _ = some (HO.lst (_ ++ [V.int ((p.1 - 1 : Nat) : Int), .int (p.1 : Int), .int (p.2 : Int), .int ((p.2 + 1 : Nat) : Int)]))
      rw [show ((p.1 - 1 : Nat) : Int) = (p.1 : Int) - 1 by omega]; rfl
    rintro σ H1 ⟨E, A, v2, rfl, hA, m1, El⟩
    refine ⟨_, rfl, A, rfl, ⟨_, SqL.of hA⟩, fun D hD => ?_⟩
    refine lc_list (K := K) (a := A) (xs := vN E) (fun i H' => ∃ R : List Nat, H' D = some (.lst (vN R)) ∧ R.length ≤ i ∧ (∀ n ∈ R, 1 ≤ n ∧ n ≤ 999999) ∧ Same H1 H') ⟨[], upd_same, Nat.le_refl _, (fun _ h => by cases h), same_new hD⟩ (fun i H' _ h => by obtain ⟨_, _, _, _, h⟩ := h; exact SqL.of (h _ _ hA)) ?_ ?_
    · rintro i y H2 hi ⟨R, hD2, Rl, Rb, m2⟩
      rw [List.getElem?_map] at hi
      obtain ⟨x, hx, rfl⟩ := Option.map_eq_some_iff.mp hi
      have il := (List.getElem?_eq_some_iff.mp hx).1
      have skip : ∃ R : List Nat, H2 D = some (.lst (vN R)) ∧ R.length ≤ i + 1 ∧ (∀ n ∈ R, 1 ≤ n ∧ n ≤ 999999) ∧ Same H1 H2 := ⟨R, hD2, by omega, Rb, m2⟩
      refine ⟨rfl, _, rfl, _, _, rfl, rfl, _, rfl, ?_⟩
      by_cases k1 : 1 ≤ x
      · refine iG (decide_eq_true (by omega)) ⟨_, _, rfl, rfl, _, rfl, ?_⟩
        by_cases k2 : x ≤ 999999
        · refine iG (decide_eq_true (by omega)) ⟨_, rfl, vN R, hD2, by rw [List.length_map]; rw [El] at il; exact big (by omega), R ++ [x], ?_, by rw [List.length_append]; show _ + 1 ≤ _; omega, fun n hn => ?_, sput m2 hD⟩
          · rw [upd_same]; unfold vN; rw [List.map_append]; rfl
          · rcases List.mem_append.mp hn with h | h
            · exact Rb n h
            · rw [List.mem_singleton.mp h]; exact ⟨k1, k2⟩
        · exact iN (decide_eq_false (by omega)) skip
      · exact iN (decide_eq_false (by omega)) ⟨_, rfl, iteF skip⟩
    rintro H2 ⟨R, hD2, Rl, Rb, m2⟩
    exact q D R H2 (m1.trans m2) hD2 Rb
end
section
variable {P : Program} {w : World} {K : PySem.W.Frag} {mg : Str → Option Value} {base : Heap}
theorem ok__law_next_pair (D : Df K mg "_law_next_pair" s__law_next_pair ["value", "due", "number"]) (T : Tx mg)  (C__law_next : Cal P w K mg base "_law_next" ["marks", "number"] 2 (sp68_next K)) (C__law_same : Cal P w K mg base "_law_same" ["actual", "due"] 4 (sp__law_same K 3)) (C_next_new : Cal P w K mg base "next_new" ["marks", "number"] 2 (sp68_next K)) : Cal P w K mg base "_law_next_pair" ["value", "due", "number"] 5 (sp68_pair K) := by
  obtain ⟨f__law_next, fd__law_next, G__law_next, g__law_next, k__law_next, b__law_next⟩ := C__law_next
  obtain ⟨f__law_same, fd__law_same, G__law_same, g__law_same, k__law_same, b__law_same⟩ := C__law_same
  obtain ⟨f_next_new, fd_next_new, G_next_new, g_next_new, k_next_new, b_next_new⟩ := C_next_new
  obtain ⟨f, fd, F, gf, bf⟩ := D
  refine ⟨f, fd, F.ok sc__law_next_pair (fun vs H Q E h => ?_) (fun cdv A outer s₀ H vs Q E hr h => ?_), gf, F.kp, bf⟩
  · obtain ⟨v, u, m, n, rfl, _⟩ := h; rfl
  · obtain ⟨v, u, m, n, rfl, hv, hu, ok, n9, q⟩ := h
    refine ⟨_, (pss_cons (ps_set (i := 3) sc__law_next_pair.nd rfl (Or.inl rfl) (pe_call G_next_new (hr.mono (by decide)) (by rfl) g_next_new k_next_new b_next_new .nil pass0 (pa_cons (pv 0) (pa_cons (pv 2) pa_nil))))
      (pss_cons (ps_if (pt_not (pt_val (pe_call G__law_same (hr.mono (by decide)) (by rfl) g__law_same k__law_same b__law_same .nil pass0 (pa_cons (pv 3) (pa_cons (pe_call G__law_next (hr.mono (by decide)) (by rfl) g__law_next k__law_next b__law_next .nil pass0 (pa_cons (pv 1) (pa_cons (pv 2) pa_nil))) pa_nil)))))
      (pss_one (ps_ret pe_non))
      pss_nil)
      (pss_cons (ps_if (pt_cmpR op_gt (pv 3) pe_int (nomark _))
      (pss_one (ps_ret (pe_tup pa_nil)))
      pss_nil)
      (pss_one (ps_ret (pe_tup (pa_cons (pe_tup (pa_cons (pv 3) (pa_cons (pv 3) pa_nil))) pa_nil))))))), ?_⟩
    refine ⟨_, rfl, _, rfl, v, m, n, rfl, hv, ok, fun t H1 m1 it => ?_⟩
    refine ⟨_, rfl, _, rfl, _, rfl, u, m, n, rfl, hu.tk (TK.same m1), ok, fun t2 H2 m2 it2 => ?_⟩
    have et := it2.one it
    subst et
    have m12 := m1.trans m2
    refine ⟨.int (t2 : Int), _, _, rfl, dli _, dli _, True.intro, _, rfl, iteF ?_⟩
    refine ⟨_, rfl, _, _, rfl, rfl, _, rfl, ?_⟩
    by_cases k : 999999 < t2
    · refine iG (decide_eq_true (by omega)) ⟨Nat.zero_le _, fun T hT => ?_⟩
      exact q (.ref T) [] _ (m12.trans (same_new hT)) ⟨T, [], rfl, SqT.of upd_same, dln⟩ (.inl rfl)
    · refine iN (decide_eq_false (by omega)) ⟨_, rfl, _, rfl, by show 2 ≤ sizeLine; decide, fun T hT => ⟨by show 1 ≤ sizeLine; decide, fun N hN => ?_⟩⟩
      have nT := same_new (o := HO.tup [V.int (t2 : Int), V.int (t2 : Int)]) hT
      have nN := same_new (o := HO.tup [V.ref T]) hN
      refine q (.ref N) [(t2, t2)] _ (m12.trans (nT.trans nN)) ⟨N, [V.ref T], rfl, SqT.of upd_same, dlc (PrI.dv (t2, t2) _ ⟨T, rfl, SqT.of (nN _ _ upd_same)⟩) dln⟩ (.inr ⟨t2, rfl, by have := it2.1; omega, by omega⟩)
end
theorem joinU8 : ∀ (ws : List (List Nat)), (∀ w ∈ ws, w.length ≤ 13) → (TL.joinL [44] ws).length ≤ 14 * ws.length
  | [], _ => Nat.le_refl _
  | [w], h => by
    have := h w (by simp)
    show w.length ≤ 14; omega
  | w :: q :: r, h => by
    have := h w (by simp)
    have ih := joinU8 (q :: r) fun z hz => h z (List.mem_cons_of_mem _ hz)
    show (w ++ ([44] ++ TL.joinL [44] (q :: r))).length ≤ 14 * ((q :: r).length + 1)
    rw [List.length_append, List.length_append]
    show w.length + (1 + _) ≤ _
    omega
section
variable {P : Program} {w : World} {K : PySem.W.Frag} {mg : Str → Option Value} {base : Heap}
theorem ok__law_asked (D : Df K mg "_law_asked" s__law_asked ["value", "due", "points"]) (T : Tx mg)  (C__law_in : Cal P w K mg base "_law_in" ["marks", "number"] 1 (sp68_marked K)) (C__law_next : Cal P w K mg base "_law_next" ["marks", "number"] 2 (sp68_next K)) (C__law_same : Cal P w K mg base "_law_same" ["actual", "due"] 4 (sp__law_same K 3)) (C__law_text : Cal P w K mg base "_law_text" ["marks"] 1 (sp67_write K)) (C_marked : Cal P w K mg base "marked" ["marks", "number"] 2 (sp68_marked K)) (C_next_new : Cal P w K mg base "next_new" ["marks", "number"] 2 (sp68_next K)) (C_read_marks : CalX P w K mg base "read_marks" ["text"] 3 (sp67_marks K A_BadMarks)) (C_write_marks : Cal P w K mg base "write_marks" ["marks"] 2 (sp67_write K)) : Cal P w K mg base "_law_asked" ["value", "due", "points"] 5 (sp68_asked K) := by
  obtain ⟨f__law_in, fd__law_in, G__law_in, g__law_in, k__law_in, b__law_in⟩ := C__law_in
  obtain ⟨f__law_next, fd__law_next, G__law_next, g__law_next, k__law_next, b__law_next⟩ := C__law_next
  obtain ⟨f__law_same, fd__law_same, G__law_same, g__law_same, k__law_same, b__law_same⟩ := C__law_same
  obtain ⟨f__law_text, fd__law_text, G__law_text, g__law_text, k__law_text, b__law_text⟩ := C__law_text
  obtain ⟨f_marked, fd_marked, G_marked, g_marked, k_marked, b_marked⟩ := C_marked
  obtain ⟨f_next_new, fd_next_new, G_next_new, g_next_new, k_next_new, b_next_new⟩ := C_next_new
  obtain ⟨f_read_marks, fd_read_marks, G_read_marks, g_read_marks, k_read_marks, b_read_marks⟩ := C_read_marks
  obtain ⟨f_write_marks, fd_write_marks, G_write_marks, g_write_marks, k_write_marks, b_write_marks⟩ := C_write_marks
  obtain ⟨f, fd, F, gf, bf⟩ := D
  refine ⟨f, fd, F.ok sc__law_asked (fun vs H Q E h => ?_) (fun cdv A outer s₀ H vs Q E hr h => ?_), gf, F.kp, bf⟩
  · obtain ⟨v, u, m, p, ns, rfl, _⟩ := h; rfl
  · obtain ⟨v, u, m, p, ns, rfl, hv, hu, ok, lm, hp, nb, q⟩ := h
    refine ⟨_, (pss_cons (ps_if (PW.pt (pw_or (pt_not (pt_val (pe_call G__law_same (hr.mono (by decide)) (by rfl) g__law_same k__law_same b__law_same .nil pass0 (pa_cons (pv 0) (pa_cons (pv 1) pa_nil))))) (pw_or1 (pt_not (pt_val (pe_call G__law_same (hr.mono (by decide)) (by rfl) g__law_same k__law_same b__law_same .nil pass0 (pa_cons (pe_call G_next_new (hr.mono (by decide)) (by rfl) g_next_new k_next_new b_next_new .nil pass0 (pa_cons (pv 0) (pa_cons pe_int pa_nil))) (pa_cons (pe_call G__law_next (hr.mono (by decide)) (by rfl) g__law_next k__law_next b__law_next .nil pass0 (pa_cons (pv 1) (pa_cons pe_int pa_nil))) pa_nil))))))))
      (pss_one (ps_ret pe_bl))
      pss_nil)
      (pss_cons (ps_for PassesOwn.never rfl (pi_list (pv 2)) (pg_name (i := 3) sc__law_asked.nd rfl (Or.inl rfl))
      (pss_cons (ps_if (pt_not (pt_val (pe_call G__law_same (hr.mono (by decide)) (by rfl) g__law_same k__law_same b__law_same .nil pass0 (pa_cons (pe_call G_marked (hr.mono (by decide)) (by rfl) g_marked k_marked b_marked .nil pass0 (pa_cons (pv 0) (pa_cons (pv 3) pa_nil))) (pa_cons (pe_call G__law_in (hr.mono (by decide)) (by rfl) g__law_in k__law_in b__law_in .nil pass0 (pa_cons (pv 1) (pa_cons (pv 3) pa_nil))) pa_nil)))))
        (pss_one (ps_ret pe_bl))
        pss_nil)
        (pss_one (ps_if (pt_not (pt_val (pe_call G__law_same (hr.mono (by decide)) (by rfl) g__law_same k__law_same b__law_same .nil pass0 (pa_cons (pe_call G_next_new (hr.mono (by decide)) (by rfl) g_next_new k_next_new b_next_new .nil pass0 (pa_cons (pv 0) (pa_cons (pv 3) pa_nil))) (pa_cons (pe_call G__law_next (hr.mono (by decide)) (by rfl) g__law_next k__law_next b__law_next .nil pass0 (pa_cons (pv 1) (pa_cons (pv 3) pa_nil))) pa_nil)))))
        (pss_one (ps_ret pe_bl))
        pss_nil))))
      (pss_cons (ps_set (i := 4) sc__law_asked.nd rfl (Or.inl rfl) (pe_call G__law_text (hr.mono (by decide)) (by rfl) g__law_text k__law_text b__law_text .nil pass0 (pa_cons (pv 1) pa_nil)))
      (pss_one (ps_ret (pe_and (pe_call G__law_same (hr.mono (by decide)) (by rfl) g__law_same k__law_same b__law_same .nil pass0 (pa_cons (pe_call G_write_marks (hr.mono (by decide)) (by rfl) g_write_marks k_write_marks b_write_marks .nil pass0 (pa_cons (pv 0) pa_nil)) (pa_cons (pv 4) pa_nil))) (pe_one (pe_call G__law_same (hr.mono (by decide)) (by rfl) g__law_same k__law_same b__law_same .nil pass0 (pa_cons (pe_call (calmX G_read_marks) (hr.mono (by decide)) (by rfl) g_read_marks k_read_marks b_read_marks .nil pass0 (pa_cons (pv 4) pa_nil)) (pa_cons (pv 1) pa_nil)))))))))), ?_⟩
    have mk := mks_dl m (by have := ok.2; omega)
    refine ⟨_, rfl, _, rfl, mksD m, v, u, rfl, hv, hu, mk, _, rfl, iteF ?_⟩
    refine ⟨_, rfl, v, m, 0, rfl, hv, ok, fun t H1 m1 it => ⟨_, rfl, u, m, 0, rfl, hu.tk (TK.same m1), ok, fun t2 H2 m2 it2 => ?_⟩⟩
    have et := it2.one it
    subst et
    refine ⟨.int (t2 : Int), _, _, rfl, dli _, dli _, True.intro, _, rfl, iteF ?_⟩
    have m12 := m1.trans m2
    refine ⟨_, rfl, p, rfl, ⟨_, SqL.of (m12 _ _ hp)⟩, ?_⟩
    refine for_list (K := K) (a := p) (xs := vN ns) (fun i σ H' => (∃ v3, σ = [some v, some u, some (.ref p), v3, none]) ∧ Same H H') ⟨⟨_, rfl⟩, m12⟩ (fun i σ H' _ h => SqL.of (h.2 _ _ hp)) ?_ ?_
    · rintro i y σ H3 hi ⟨⟨v3, rfl⟩, m3⟩
      rw [List.getElem?_map] at hi
      obtain ⟨n, hn, rfl⟩ := Option.map_eq_some_iff.mp hi
      refine ⟨_, rfl, _, rfl, v, m, n, rfl, hv.tk (TK.same m3), fun H4 m4 => ⟨_, rfl, _, rfl, u, m, n, rfl, hu.tk (TK.same (m3.trans m4)), fun H5 m5 => ?_⟩⟩
      have m35 := m3.trans (m4.trans m5)
      refine ⟨.bl (inB m n), _, _, rfl, by unfold DV; rfl, by unfold DV; rfl, True.intro, _, rfl, iteF ?_⟩
      refine ⟨_, rfl, _, rfl, v, m, n, rfl, hv.tk (TK.same m35), ok, fun t H6 m6 it => ⟨_, rfl, _, rfl, u, m, n, rfl, hu.tk (TK.same (m35.trans m6)), ok, fun t2 H7 m7 it2 => ?_⟩⟩
      have et := it2.one it
      subst et
      exact ⟨.int (t2 : Int), _, _, rfl, dli _, dli _, True.intro, _, rfl, iteF ⟨⟨_, rfl⟩, m35.trans (m6.trans m7)⟩⟩
    rintro σ H3 ⟨⟨v3, rfl⟩, m3⟩
    have okp : MkOk m := ⟨fun x hx => by have := (good_iff.mp ok.1).1 x hx; omega, by omega⟩
    have tl' : (textL m).length ≤ 2000 := by
      have := joinU8 (m.map wordL) fun w hw => by
        obtain ⟨x, hx, rfl⟩ := List.mem_map.mp hw
        exact wordL_len (okp.1 x hx).1 (okp.1 x hx).2
      rw [List.length_map] at this
      unfold textL
      omega
    refine ⟨_, rfl, u, m, rfl, hu.tk (TK.same m3), okp, fun y H4 hy m4 => ?_⟩
    have m34 := m3.trans m4
    refine ⟨_, rfl, v, m, rfl, hv.tk (TK.same m34), okp, fun y2 H5 hy2 m5 => ?_⟩
    have ey : y2 = y := tl_ext (by rw [hy, hy2])
    subst ey
    have m35 := m34.trans m5
    refine ⟨_, rfl, .str y2, _, _, rfl, dls _, dls _, True.intro, _, rfl, iteT ?_⟩
    refine ⟨_, rfl, y2, rfl, by rw [hy]; exact tl', fun m' u' H6 w6 m6 d6 => ?_, fun k dd H6 w6 _ _ _ => ?_⟩
    · rw [hy, whole_text ok.1] at w6
      cases w6
      exact ⟨_, rfl, mksD m, _, _, rfl, d6, hu.tk (TK.same (m35.trans m6)), mk, q H6 (m35.trans m6)⟩
    · rw [hy, whole_text ok.1] at w6
      cases w6
end

end Z
namespace Z
open PySem L2 SX
theorem rl_rev8 {α : Type} {R : α → V → Prop} {xs : List α} {us : List V} {i : Nat} {v : V} (h : RL R xs us) (q : us.reverse[i]? = some v) : ∃ x, xs.reverse[i]? = some x ∧ R x v := by
  have il : i < us.length := by
    have := (List.getElem?_eq_some_iff.mp q).1
    rw [List.length_reverse] at this; exact this
  have hl := h.len
  rw [List.getElem?_reverse il] at q
  obtain ⟨x, hx, hr⟩ := h.get q
  exact ⟨x, by rw [List.getElem?_reverse (by omega), ← hl]; exact hx, hr⟩
theorem any_at (zs : List V) {v : Int} (h0 : 0 ≤ v) (h1 : v < (zs.length : Int)) : ∃ z, z ∈ zs ∧ atI zs v = some z := by
  have h : v.toNat < zs.length := by omega
  exact ⟨zs[v.toNat], List.getElem_mem h, at_of (j := v.toNat) (by omega) (List.getElem?_eq_getElem h)⟩
section
variable {P : Program} {w : World} {K : PySem.W.Frag} {mg : Str → Option Value} {base : Heap}
theorem ok__law_ranges (D : Df K mg "_law_ranges" s__law_ranges ["source", "zone"]) (T : Tx mg)  (C__law_draw : Cal P w K mg base "_law_draw" ["source", "many"] 2 sp__law_draw) : Cal P w K mg base "_law_ranges" ["source", "zone"] 3 (sp68_ranges K) := by
  obtain ⟨f__law_draw, fd__law_draw, G__law_draw, g__law_draw, k__law_draw, b__law_draw⟩ := C__law_draw
  obtain ⟨f, fd, F, gf, bf⟩ := D
  refine ⟨f, fd, F.ok sc__law_ranges (fun vs H Q E h => ?_) (fun cdv A outer s₀ H vs Q E hr h => ?_), gf, F.kp, bf⟩
  · obtain ⟨s, a, zo, c, rfl, _⟩ := h; rfl
  · obtain ⟨s, a, zo, c, rfl, z0, z4, hS, q⟩ := h
    refine ⟨_, (pss_cons (ps_set (i := 2) sc__law_ranges.nd rfl (Or.inl rfl) (pe_ix ix_list (pe_lst (pa_cons pe_int (pa_cons pe_int (pa_cons pe_int (pa_cons pe_int pa_nil))))) (pv 1) (fun _ _ => rfl)))
      (pss_cons (ps_set (i := 3) sc__law_ranges.nd rfl (Or.inl rfl) (pe_op op_add pe_int (pe_call G__law_draw (hr.mono (by decide)) (by rfl) g__law_draw k__law_draw b__law_draw .nil pass0 (pa_cons (pv 0) (pa_cons (pv 2) pa_nil)))))
      (pss_cons (ps_set (i := 4) sc__law_ranges.nd rfl (Or.inl rfl) (pe_lst pa_nil))
      (C8.pss_cut (ps_for PassesOwn.never rfl (pi_range1 (by rfl) T.n_range (pa_cons (pe_call G__law_draw (hr.mono (by decide)) (by rfl) g__law_draw k__law_draw b__law_draw .nil pass0 (pa_cons (pv 0) (pa_cons pe_int pa_nil))) pa_nil)) (pg_name (i := 5) sc__law_ranges.nd rfl (Or.inl rfl))
      (pss_cons (ps_set (i := 6) sc__law_ranges.nd rfl (Or.inl rfl) (pe_callB (call_min2 rfl) (by rfl) T.n_min (by decide +kernel) (pa_cons pe_int (pa_cons (pe_op op_add (pv 3) (pe_op op_mul (pe_call G__law_draw (hr.mono (by decide)) (by rfl) g__law_draw k__law_draw b__law_draw .nil pass0 (pa_cons (pv 0) (pa_cons (pv 2) pa_nil))) (pe_call G__law_draw (hr.mono (by decide)) (by rfl) g__law_draw k__law_draw b__law_draw .nil pass0 (pa_cons (pv 0) (pa_cons pe_int pa_nil))))) pa_nil))))
        (pss_cons (ps_expr (pe_bm PySem.F.plainAttrs_list PySem.F.slot_list_append PySem.F.type_list_append mt_append (pv 4) (pa_cons (pe_tup (pa_cons (pv 3) (pa_cons (pv 6) pa_nil))) pa_nil)))
        (pss_cons (ps_set (i := 3) sc__law_ranges.nd rfl (Or.inl rfl) (pe_op op_add (pe_op op_add (pv 6) pe_int) (pe_call G__law_draw (hr.mono (by decide)) (by rfl) g__law_draw k__law_draw b__law_draw .nil pass0 (pa_cons (pv 0) (pa_cons (pv 2) pa_nil)))))
        (pss_one (ps_if (pt_cmpR op_gt (pv 3) pe_int (nomark _))
        (pss_one ps_break)
        pss_nil))))))
      (pss_one (ps_ret (pe_callTy call_tuple_of (by rfl) T.n_tuple (by decide +kernel) (pa_cons (pv 4) pa_nil)))))))), ?_⟩
    have big : ∀ {n : Nat}, n ≤ 30000 → n < sizeLine := fun h => Nat.lt_of_le_of_lt h (by decide)
    refine ⟨by show 4 ≤ sizeLine; decide, fun l hl => ?_⟩
    have n1 := same_new (o := HO.lst [V.int 2, .int 4, .int 9, .int 200000]) hl
    have S1 := hS.ext n1
    obtain ⟨z, zm, hz⟩ := any_at [V.int 2, .int 4, .int 9, .int 200000] z0 z4
    obtain ⟨st, rfl, sb, sb2⟩ : ∃ st : Nat, z = .int (st : Int) ∧ 1 ≤ st ∧ st ≤ 400000 := by
      simp only [List.mem_cons, List.not_mem_nil, or_false] at zm
      rcases zm with e | e | e | e <;> rw [e]
      · exact ⟨2, rfl, by decide, by decide⟩
      · exact ⟨4, rfl, by decide, by decide⟩
      · exact ⟨9, rfl, by decide, by decide⟩
      · exact ⟨200000, rfl, by decide, by decide⟩
    refine ⟨_, rfl, l, _, zo, _, rfl, rfl, SqL.of upd_same, hz, ?_⟩
    have x01 : Ext s H (upd H l (.lst [V.int 2, .int 4, .int 9, .int 200000])) := Ext.of n1
    generalize upd H l (.lst [V.int 2, .int 4, .int 9, .int 200000]) = H1 at S1 x01 ⊢
    refine ⟨_, rfl, _, rfl, s, a, (st : Int), c + 29, rfl, by omega, by omega, S1.mono (by omega), fun d H2 d0 d1 x2 S2 => ⟨_, _, rfl, rfl, ?_⟩⟩
    obtain ⟨d, rfl⟩ := Int.eq_ofNat_of_zero_le d0
    refine ⟨Nat.zero_le _, fun F hF => ?_⟩
    have Fs := S2.ne hF
    have Fa := S2.nea hF
    have n3 := same_new (o := HO.lst []) hF
    have hF0 : H F = none := ext_free (x01.trans x2) S2 hF
    have x03 : Ext s H H2 := x01.trans x2
    refine ⟨fun σ' H' => ∃ (m : List (Nat × Nat)) (us : List V) (v3 v5 v6 : Option V), σ' = [some (.ref s), some (.int zo), some (.int (st : Int)), v3, some (.ref F), v5, v6] ∧ H' F = some (.lst us) ∧ RL (PrI K H') m us ∧ GoodL 1 m ∧ m.length ≤ 4 ∧ Ext s H H' ∧ Src H' s a c, ?_, ?_⟩
    · refine ⟨_, rfl, s, a, 5, c + 28, rfl, by decide, by decide, (S2.ext n3).mono (by omega), fun k H4 k0 k1 x4 S4 => ⟨k, rfl, by omega, by omega, ?_⟩⟩
      have hF4 : H4 F = some (.lst []) := x4 _ _ Fs upd_same
      refine for_range (lo := 0) (n := k.toNat) (fun i σ H' => ∃ (at' : Nat) (m : List (Nat × Nat)) (us : List V) (v5 v6 : Option V), σ = [some (.ref s), some (.int zo), some (.int (st : Int)), some (.int (at' : Int)), some (.ref F), v5, v6] ∧ H' F = some (.lst us) ∧ RL (PrI K H') m us ∧ GoodL 1 m ∧ (∀ p ∈ m, p.2 + 2 ≤ at') ∧ 1 ≤ at' ∧ at' ≤ 999999 ∧ m.length ≤ i ∧ Ext s H H' ∧ Src H' s a (c + 28 - 4 * i)) ⟨1 + d, [], [], none, none, ?_, hF4, rfl, trivial, (fun p hp => by cases hp), by omega, by omega, Nat.le_refl _, ?_, S4.mono (by omega)⟩ ?_ ?_
      · rw [show ((1 + d : Nat) : Int) = 1 + (d : Int) by omega]; rfl
      · exact x03.trans ((Ext.of n3).trans x4)
      · rintro i σ H5 hi ⟨at', m, us, v5, v6, rfl, hF5, ru, gm, bm, a1, a9, ml, x5, S5⟩
        have i41 : i < 4 := by omega
        have ul := ru.len
        refine ⟨_, rfl, _, rfl, _, rfl, s, a, (st : Int), c + 28 - 4 * i - 1, rfl, by omega, by omega, S5.mono (by omega), fun d1 H6 d10 d11 x6 S6 => ?_⟩
        refine ⟨_, rfl, s, a, 2, c + 28 - 4 * i - 2, rfl, by decide, by decide, S6.mono (by omega), fun d2 H7 d20 d21 x7 S7 => ?_⟩
        refine ⟨_, _, rfl, rfl, .inl ⟨by omega, by omega⟩, _, _, rfl, rfl, _, _, rfl, ?_⟩
        have dm : 0 ≤ d1 * d2 := Int.mul_nonneg d10 d20
        obtain ⟨w, hw, w1, w2⟩ : ∃ w : Nat, (if (at' : Int) + d1 * d2 < 999999 then (at' : Int) + d1 * d2 else 999999) = (w : Int) ∧ at' ≤ w ∧ w ≤ 999999 := by
          refine ⟨(if (at' : Int) + d1 * d2 < 999999 then (at' : Int) + d1 * d2 else 999999).toNat, ?_, ?_, ?_⟩ <;> split <;> omega
        rw [hw]
        have x57 := x6.trans x7
        have hF7 := x57 _ _ Fs hF5
        refine ⟨_, rfl, .inl ⟨rfl, _, SqL.of hF7⟩, _, rfl, _, rfl, by show 2 ≤ sizeLine; decide, fun T hT => ?_⟩
        have nT := same_new (o := HO.tup [V.int (at' : Int), V.int (w : Int)]) hT
        have hF8 := nT _ _ hF7
        have T5 := TT.ext (K := K) x57 S5
        have T8 := (T5.trans (TT.same (K := K) nT)).1
        have hT8 : (upd H7 T (.tup [V.int (at' : Int), V.int (w : Int)])) T = some (.tup [V.int (at' : Int), V.int (w : Int)]) := upd_same
        have S8 := S7.ext nT
        have x8 : Ext s H (upd H7 T (.tup [V.int (at' : Int), V.int (w : Int)])) := x5.trans (x57.trans (Ext.of nT))
        generalize upd H7 T (.tup [V.int (at' : Int), V.int (w : Int)]) = H8 at hF8 T8 hT8 S8 x8 ⊢
        refine ⟨F, us, _, rfl, rfl, hF8, big (by omega), ?_⟩
        have T9 : TK K H8 (upd H8 F (.lst (us ++ [V.ref T]))) := tk_put hF8
        have S9 := S8.put (o := HO.lst (us ++ [V.ref T])) Fs Fa
        have x9 : Ext s H (upd H8 F (.lst (us ++ [V.ref T]))) := fun b u nb hb => by
          rw [upd_ne (ne_of_none hb hF0)]; exact x8 _ _ nb hb
        have hF9 : (upd H8 F (.lst (us ++ [V.ref T]))) F = some (.lst (us ++ [V.ref T])) := upd_same
        have ru9 : RL (PrI K (upd H8 F (.lst (us ++ [V.ref T])))) (m ++ [(at', w)]) (us ++ [V.ref T]) := ((ru.mono (PrI.tk T8)).mono (PrI.tk T9)).snoc ⟨T, rfl, T9 _ _ (SqT.of hT8)⟩
        have g9 : GoodL 1 (m ++ [(at', w)]) := good_snoc gm bm a1 w1 w2
        generalize upd H8 F (.lst (us ++ [V.ref T])) = H9 at S9 x9 hF9 ru9 ⊢
        refine ⟨_, rfl, _, _, rfl, rfl, _, rfl, _, rfl, s, a, (st : Int), c + 28 - 4 * i - 3, rfl, by omega, by omega, S9.mono (by omega), fun d3 H10 d30 d31 x10 S10 => ⟨_, _, rfl, rfl, ?_⟩⟩
        obtain ⟨d3, rfl⟩ := Int.eq_ofNat_of_zero_le d30
        have e3 : (w : Int) + 2 + (d3 : Int) = ((w + 2 + d3 : Nat) : Int) := by omega
        rw [show (fun i j : Int => V.int (i + j)) ((w : Int) + 2) (d3 : Int) = V.int ((w + 2 + d3 : Nat) : Int) from congrArg V.int e3]
        have hF10 := x10 _ _ Fs hF9
        have ru10 := ru9.mono (PrI.tk (TT.ext (K := K) x10 S9).1)
        have ml10 : (m ++ [(at', w)]).length ≤ i + 1 := by rw [List.length_append]; show _ + 1 ≤ _; omega
        refine ⟨_, rfl, _, _, rfl, rfl, _, rfl, ite2 (fun _ => ?_) (fun cc => ?_)⟩
        · exact ⟨_, _, _, _, _, rfl, hF10, ru10, g9, by omega, x9.trans x10, S10.mono (by omega)⟩
        · have cc : ¬ ((999999 : Int) < ((w + 2 + d3 : Nat) : Int)) := fun z => cc (decide_eq_true z)
          refine ⟨w + 2 + d3, _, _, _, _, rfl, hF10, ru10, g9, fun p hp => ?_, by omega, by omega, ml10, x9.trans x10, S10.mono (by omega)⟩
          rcases List.mem_append.mp hp with h | h
          · have := bm p h; omega
          · rw [List.mem_singleton.mp h]; show w + 2 ≤ _; omega
      rintro σ H5 ⟨at', m, us, v5, v6, rfl, hF5, ru, gm, bm, a1, a9, ml, x5, S5⟩
      exact ⟨_, _, _, _, _, rfl, hF5, ru, gm, by omega, x5, S5.mono (by omega)⟩
    rintro σ H5 ⟨m, us, v3, v5, v6, rfl, hF5, ru, gm, ml, x5, S5⟩
    have ul := ru.len
    refine ⟨_, rfl, F, us, rfl, .inl ⟨SqL.of hF5, fun t ht => ?_⟩⟩
    have nt := same_new (o := HO.tup us) ht
    exact q _ m _ ⟨t, us, rfl, SqT.of upd_same, RL.dvs (fun p w h => PrI.dv p w h) (ru.mono (PrI.tk (TK.same nt)))⟩ gm ml (x5.trans (Ext.of nt)) (S5.ext nt)
end

end Z
namespace Z
open PySem L2 SX
theorem good_pair {x y : Nat} (h1 : 1 ≤ x) (h2 : x ≤ y) (h3 : y ≤ 999999) : GoodL 1 [(x, y)] := ⟨h1, h2, h3, trivial⟩
theorem dv_rev8 {K : PySem.W.Frag} {H : Hp} {xs : Mks} {us : List V} {i : Nat} {v : V} (h : DVs K H (xs.map prD) us) (q : us.reverse[i]? = some v) : ∃ x, xs.reverse[i]? = some x ∧ DV K H (prD x) v := by
  have il : i < us.length := by
    have := (List.getElem?_eq_some_iff.mp q).1
    rw [List.length_reverse] at this; exact this
  have hl := h.map_len
  rw [List.getElem?_reverse il] at q
  obtain ⟨x, hx, hr⟩ := h.map_get q
  exact ⟨x, by rw [List.getElem?_reverse (by omega), ← hl]; exact hx, hr⟩
section
variable {P : Program} {w : World} {K : PySem.W.Frag} {mg : Str → Option Value} {base : Heap}
theorem ok__law_other (D : Df K mg "_law_other" s__law_other ["source", "zone", "top", "marks"]) (T : Tx mg)  (C__law_draw : Cal P w K mg base "_law_draw" ["source", "many"] 2 sp__law_draw) (C__law_pick : Cal P w K mg base "_law_pick" ["source", "row"] 3 (sp3__law_pick K)) (C__law_ranges : Cal P w K mg base "_law_ranges" ["source", "zone"] 3 (sp68_ranges K)) : Cal P w K mg base "_law_other" ["source", "zone", "top", "marks"] 4 (sp68_other K) := by
  obtain ⟨f__law_draw, fd__law_draw, G__law_draw, g__law_draw, k__law_draw, b__law_draw⟩ := C__law_draw
  obtain ⟨f__law_pick, fd__law_pick, G__law_pick, g__law_pick, k__law_pick, b__law_pick⟩ := C__law_pick
  obtain ⟨f__law_ranges, fd__law_ranges, G__law_ranges, g__law_ranges, k__law_ranges, b__law_ranges⟩ := C__law_ranges
  obtain ⟨f, fd, F, gf, bf⟩ := D
  refine ⟨f, fd, F.ok sc__law_other (fun vs H Q E h => ?_) (fun cdv A outer s₀ H vs Q E hr h => ?_), gf, F.kp, bf⟩
  · obtain ⟨s, a, zo, tp, v, m, c, rfl, _⟩ := h; rfl
  · obtain ⟨s, a, zo, tp, v, m, c, rfl, z0, z4, hv, ok, hS, q⟩ := h
    refine ⟨_, (pss_cons (ps_set (i := 4) sc__law_other.nd rfl (Or.inl rfl) (pe_call G__law_draw (hr.mono (by decide)) (by rfl) g__law_draw k__law_draw b__law_draw .nil pass0 (pa_cons (pv 0) (pa_cons pe_int pa_nil))))
      (pss_cons (ps_if (PW.pt (pw_and (pt_cmpR op_lt (pv 4) pe_int (nomark _)) (pw_and1 (pt_cmpR op_gt (pe_callB call_len_seq (by rfl) T.n_len PySem.boot_len (pa_cons (pv 3) pa_nil)) pe_int (nomark _)))))
      (pss_cons (ps_set (i := 5) sc__law_other.nd rfl (Or.inl rfl) (pe_op op_sub (pe_op op_add (pe_ix ix_tup (pe_call G__law_pick (hr.mono (by decide)) (by rfl) g__law_pick k__law_pick b__law_pick .nil pass0 (pa_cons (pv 0) (pa_cons (pv 3) pa_nil))) (pe_call G__law_draw (hr.mono (by decide)) (by rfl) g__law_draw k__law_draw b__law_draw .nil pass0 (pa_cons (pv 0) (pa_cons pe_int pa_nil))) (fun _ _ => rfl)) (pe_call G__law_draw (hr.mono (by decide)) (by rfl) g__law_draw k__law_draw b__law_draw .nil pass0 (pa_cons (pv 0) (pa_cons pe_int pa_nil)))) pe_int))
        (pss_cons (ps_set (i := 5) sc__law_other.nd rfl (Or.inl rfl) (pe_callB (call_max2 rfl) (by rfl) T.n_max (by decide +kernel) (pa_cons pe_int (pa_cons (pe_callB (call_min2 rfl) (by rfl) T.n_min (by decide +kernel) (pa_cons pe_int (pa_cons (pv 5) pa_nil))) pa_nil))))
        (pss_one (ps_ret (pe_tup (pa_cons (pe_tup (pa_cons (pv 5) (pa_cons (pe_callB (call_min2 rfl) (by rfl) T.n_min (by decide +kernel) (pa_cons pe_int (pa_cons (pe_op op_add (pv 5) (pe_call G__law_draw (hr.mono (by decide)) (by rfl) g__law_draw k__law_draw b__law_draw .nil pass0 (pa_cons (pv 0) (pa_cons pe_int pa_nil)))) pa_nil))) pa_nil))) pa_nil))))))
      pss_nil)
      (pss_cons (ps_if (pt_cmpR op_eq (pv 4) pe_int (nomark _))
      (pss_one (ps_ret (pe_tup (pa_cons (pe_tup (pa_cons (pe_op op_add pe_int (pe_call G__law_draw (hr.mono (by decide)) (by rfl) g__law_draw k__law_draw b__law_draw .nil pass0 (pa_cons (pv 0) (pa_cons pe_int pa_nil)))) (pa_cons (pe_op op_sub pe_int (pe_call G__law_draw (hr.mono (by decide)) (by rfl) g__law_draw k__law_draw b__law_draw .nil pass0 (pa_cons (pv 0) (pa_cons pe_int pa_nil)))) pa_nil))) pa_nil))))
      pss_nil)
      (pss_cons (ps_set (i := 6) sc__law_other.nd rfl (Or.inl rfl) (pe_call G__law_ranges (hr.mono (by decide)) (by rfl) g__law_ranges k__law_ranges b__law_ranges .nil pass0 (pa_cons (pv 0) (pa_cons (pv 1) pa_nil))))
      (pss_cons (ps_if (pt_val (pv 2))
      (pss_one (ps_ret (pe_callTy call_tuple_of (by rfl) T.n_tuple (by decide +kernel) (pa_cons (pe_lc (own := [("pair", 7)]) (g := gName 7) (tt := tYes) rfl sc__law_other.nd (pi_tup (pe_revTu (pv 6))) (blkOk_by (own := [("pair", 7)]) (N := N__law_other) (sc := defScope s__law_other) (by decide +kernel)) (fun _ _ _ _ _ => pg_name (i := 7) sc__law_other.nd rfl (Or.inl rfl)) (fun _ _ _ _ _ => pts_nil) (fun _ _ _ _ _ => (pe_tup (pa_cons (pe_op op_sub pe_int (pe_ix (ix_tupQ (K := K) rfl) (pv 7) pe_int (fun _ _ => rfl))) (pa_cons (pe_op op_sub pe_int (pe_ix (ix_tupQ (K := K) rfl) (pv 7) pe_int (fun _ _ => rfl))) pa_nil))))) pa_nil))))
      pss_nil)
      (pss_one (ps_ret (pv 6)))))))), ?_⟩
    have big : ∀ {n : Nat}, n ≤ 30000 → n < sizeLine := fun h => Nat.lt_of_le_of_lt h (by decide)
    obtain ⟨mc, us, rfl, hC, hus⟩ := dv_mks hv
    have ul := hus.map_len
    obtain ⟨gm, lm⟩ := ok
    refine ⟨_, rfl, s, a, 9, c + 48, rfl, by decide, by decide, hS.mono (by omega), fun way H1 w0 w1 x1 S1 => ?_⟩
    have T1 := TT.ext (K := K) x1 hS
    refine ⟨_, rfl, _, _, rfl, rfl, _, rfl, ?_⟩
    have one : ∀ (lo d : Nat) (H' : Hp) (A B : Addr), 1 ≤ lo → lo ≤ d → d ≤ 999999 → Ext s H H' → Src H' s a c → H' A = none → (upd H' A (.tup [V.int (lo : Int), V.int (d : Int)])) B = none → Q (.ref B) (upd (upd H' A (.tup [V.int (lo : Int), V.int (d : Int)])) B (.tup [.ref A])) := fun lo d H' A B l1 l2 l3 x S hA hB => by
      have nA := same_new (o := HO.tup [V.int (lo : Int), V.int (d : Int)]) hA
      have nB := same_new (o := HO.tup [V.ref A]) hB
      exact q (.ref B) [(lo, d)] _ ⟨B, [V.ref A], rfl, SqT.of upd_same, dlc (PrI.dv (lo, d) _ ⟨A, rfl, SqT.of (nB _ _ upd_same)⟩) dln⟩ (good_pair l1 l2 l3) (by show 1 ≤ 4; decide) (x.trans (Ext.of (nA.trans nB))) ((S.ext nA).ext nB)
    by_cases k1 : way < 3 ∧ m ≠ []
    · have l1 : 1 ≤ m.length := List.length_pos_iff.mpr k1.2
      refine iG (decide_eq_true k1.1) ⟨_, rfl, mc, _, rfl, .inr (T1.1 _ _ hC), _, _, rfl, rfl, _, rfl, iG (decide_eq_true (by omega)) ?_⟩
      refine ⟨_, rfl, _, rfl, .inr (.inr ⟨s, a, mc, us, c + 47, rfl, T1.1 _ _ hC, (fun e => by rw [e] at ul; simp at ul; omega), by omega, S1.mono (by omega), fun w H2 wm x2 S2 => ?_⟩)⟩
      obtain ⟨wi, hwi⟩ := List.getElem?_of_mem wm
      obtain ⟨p, hp, dx⟩ := hus.map_get hwi
      have T2 := T1.trans (TT.ext (K := K) x2 S1)
      obtain ⟨pc, rfl, hpc⟩ := dv_pr (dx.tk T2.1)
      have gp := (good_iff.mp gm).1 p (List.mem_of_getElem? hp)
      refine ⟨_, rfl, s, a, 2, c + 46, rfl, by decide, by decide, S2.mono (by omega), fun k H3 k0 k1' x3 S3 => ?_⟩
      have hpc3 := (TT.ext (K := K) x3 S2).1 _ _ hpc
      obtain ⟨e, he, eb⟩ : ∃ e : Nat, atI [V.int (p.1 : Int), V.int (p.2 : Int)] k = some (.int (e : Int)) ∧ e ≤ 999999 := by
        have : k = 0 ∨ k = 1 := by omega
        rcases this with rfl | rfl
        · exact ⟨p.1, rfl, by omega⟩
        · exact ⟨p.2, rfl, by omega⟩
      refine ⟨pc, _, k, _, rfl, rfl, hpc3, he, _, rfl, s, a, 5, c + 45, rfl, by decide, by decide, S3.mono (by omega), fun d H4 d0 d1 x4 S4 => ?_⟩
      refine ⟨_, _, rfl, rfl, _, _, rfl, rfl, _, rfl, _, _, rfl, _, _, rfl, ?_⟩
      obtain ⟨lo, hlo, b1, b2⟩ : ∃ lo : Nat, (if (if (e : Int) + d - 2 < 999999 then (e : Int) + d - 2 else 999999) > 1 then (if (e : Int) + d - 2 < 999999 then (e : Int) + d - 2 else 999999) else 1) = (lo : Int) ∧ 1 ≤ lo ∧ lo ≤ 999999 := by
        refine ⟨(if (if (e : Int) + d - 2 < 999999 then (e : Int) + d - 2 else 999999) > 1 then (if (e : Int) + d - 2 < 999999 then (e : Int) + d - 2 else 999999) else 1).toNat, ?_, ?_, ?_⟩ <;> split <;> (try split) <;> omega
      rw [hlo]
      refine ⟨_, rfl, _, rfl, _, rfl, s, a, 4, c, rfl, by decide, by decide, S4.mono (by omega), fun d2 H5 d20 d21 x5 S5 => ⟨_, _, rfl, rfl, _, _, rfl, by show 2 ≤ sizeLine; decide, fun A hA => ⟨by show 1 ≤ sizeLine; decide, fun B hB => ?_⟩⟩⟩
      obtain ⟨hi, hhi, b3, b4⟩ : ∃ hi : Nat, (if (lo : Int) + d2 < 999999 then (lo : Int) + d2 else 999999) = (hi : Int) ∧ lo ≤ hi ∧ hi ≤ 999999 := by
        refine ⟨(if (lo : Int) + d2 < 999999 then (lo : Int) + d2 else 999999).toNat, ?_, ?_, ?_⟩ <;> split <;> omega
      have hB' := hB
      rw [hhi] at hB' ⊢
      exact one lo hi H5 A B b1 b3 b4 (x1.trans (x2.trans (x3.trans (x4.trans x5)))) S5 hA hB'
    rcases Decidable.em (way < 3) with kw | kw
    have m0 : m = [] := by
      by_cases z : m = []
      · exact z
      · exact absurd ⟨kw, z⟩ k1
    rw [m0] at ul
    refine iG (decide_eq_true kw) ⟨_, rfl, mc, _, rfl, .inr (T1.1 _ _ hC), _, _, rfl, rfl, _, rfl, iN (decide_eq_false (by rw [ul]; decide)) ?_⟩
    rotate_left
    refine iN (decide_eq_false kw) (iteF ?_)
    rotate_left
    all_goals
      refine ⟨_, rfl, rfl, _, rfl, ite2 (fun _ => ?_) (fun _ => ?_)⟩
      · refine ⟨_, rfl, s, a, 3, c + 1, rfl, by decide, by decide, S1.mono (by omega), fun d1 H2 d10 d11 x2 S2 => ⟨_, _, rfl, rfl, _, rfl, s, a, 3, c, rfl, by decide, by decide, S2, fun d2 H3 d20 d21 x3 S3 => ⟨_, _, rfl, rfl, by show 2 ≤ sizeLine; decide, fun A hA => ⟨by show 1 ≤ sizeLine; decide, fun B hB => ?_⟩⟩⟩⟩
        obtain ⟨d1, rfl⟩ := Int.eq_ofNat_of_zero_le d10
        obtain ⟨d2, rfl⟩ := Int.eq_ofNat_of_zero_le d20
        have e1 : (1 : Int) + (d1 : Int) = ((1 + d1 : Nat) : Int) := by omega
        have e2 : (999999 : Int) - (d2 : Int) = ((999999 - d2 : Nat) : Int) := by omega
        have hB' := hB
        dsimp only at hB' ⊢
        rw [e1, e2] at hB' ⊢
        exact one (1 + d1) (999999 - d2) H3 A B (by omega) (by omega) (by omega) (x1.trans (x2.trans x3)) S3 hA hB'
      · refine ⟨_, rfl, _, rfl, s, a, zo, c, rfl, z0, z4, S1.mono (by omega), fun u m' H2 du gm' lm' x2 S2 => ?_⟩
        have X2 := x1.trans x2
        cases tp with
        | false => exact ⟨_, rfl, _, rfl, iteF ⟨_, rfl, q u m' H2 du gm' lm' X2 S2⟩⟩
        | true =>
          obtain ⟨c2, us2, rfl, hC2, hus2⟩ := dv_mks du
          have ul2 := hus2.map_len
          refine ⟨_, rfl, _, rfl, iteT ⟨_, rfl, c2, us2, rfl, hC2, fun R hR => ?_⟩⟩
          have nR := same_new (o := HO.tup us2.reverse) hR
          have qR : (upd H2 R (.tup us2.reverse)) R = some (.tup us2.reverse) := upd_same
          have hus7 := hus2.tk (TK.same (K := K) nR)
          have S7 := S2.ext nR
          have x7 : Ext s H (upd H2 R (.tup us2.reverse)) := X2.trans (Ext.of nR)
          generalize upd H2 R (.tup us2.reverse) = H7 at qR hus7 S7 x7 ⊢
          refine ⟨R, rfl, ⟨_, SqT.of qR⟩, fun D hD => ?_⟩
          refine lc_tup (K := K) (a := R) (xs := us2.reverse) (fun i H' => ∃ ws : List V, H' D = some (.lst ws) ∧ RL (PrI K H') ((m'.reverse.take i).map flip67) ws ∧ Same H7 H') ⟨[], upd_same, rfl, same_new hD⟩ (fun i H' _ h => by obtain ⟨_, _, _, h⟩ := h; exact SqT.of (h _ _ qR)) ?_ ?_
          · rintro i y H8 hi ⟨ws, hD8, rw8, m8⟩
            obtain ⟨p, hp, hy⟩ := dv_rev8 hus7 hi
            obtain ⟨pc, rfl, hpc⟩ := PrI.tk (TK.same m8) p y (dv_pr hy)
            have pm := (good_iff.mp gm').1 p (List.mem_reverse.mp (List.mem_of_getElem? hp))
            have il := (List.getElem?_eq_some_iff.mp hp).1
            rw [List.length_reverse] at il
            have wl := rw8.len
            rw [List.length_map, List.length_take, List.length_reverse] at wl
            refine ⟨rfl, _, rfl, pc, _, 1, _, rfl, rfl, hpc, atI_nat (j := 1) rfl, _, _, rfl, rfl, _, rfl, pc, _, 0, _, rfl, rfl, hpc, atI_nat (j := 0) rfl, _, _, rfl, rfl, by show 2 ≤ sizeLine; decide, fun T hT => ?_⟩
            have nT := same_new (o := HO.tup [V.int (1000000 - (p.2 : Int)), V.int (1000000 - (p.1 : Int))]) hT
            have hD9 := nT _ _ hD8
            have hT9 : (upd H8 T (.tup [V.int (1000000 - (p.2 : Int)), V.int (1000000 - (p.1 : Int))])) T = some (.tup [V.int (((flip67 p).1 : Nat) : Int), V.int (((flip67 p).2 : Nat) : Int)]) := by
              rw [upd_same]
              unfold flip67
              rw [show ((1000000 - p.2 : Nat) : Int) = 1000000 - (p.2 : Int) by omega, show ((1000000 - p.1 : Nat) : Int) = 1000000 - (p.1 : Int) by omega]
            have T9 := TK.same (K := K) nT
            have m9 := m8.trans nT
            generalize upd H8 T (.tup [V.int (1000000 - (p.2 : Int)), V.int (1000000 - (p.1 : Int))]) = H9 at hD9 hT9 T9 m9 ⊢
            have T10 : TK K H9 (upd H9 D (.lst (ws ++ [V.ref T]))) := tk_put hD9
            refine ⟨ws, hD9, big (by omega), ws ++ [.ref T], upd_same, ?_, sput m9 hD⟩
            rw [List.take_add_one, hp, List.map_append]
            exact ((rw8.mono (PrI.tk T9)).mono (PrI.tk T10)).snoc ⟨T, rfl, T10 _ _ (SqT.of hT9)⟩
          rintro H8 ⟨ws, hD8, rw8, m8⟩
          rw [show us2.reverse.length = m'.reverse.length by rw [List.length_reverse, List.length_reverse, ul2], List.take_length] at rw8
          refine ⟨D, ws, rfl, .inl ⟨SqL.of hD8, fun t ht => ?_⟩⟩
          have nt := same_new (o := HO.tup ws) ht
          exact q _ _ _ ⟨t, ws, rfl, SqT.of upd_same, RL.dvs (fun p w h => PrI.dv p w h) (rw8.mono (PrI.tk (TK.same nt)))⟩ (good_rev gm') (by rw [List.length_map, List.length_reverse]; exact lm') (x7.trans (Ext.of (m8.trans nt))) ((S7.ext m8).ext nt)
end

end Z
namespace Z
open PySem L2 SX
theorem des_snoc {K : PySem.W.Frag} {H : Hp} {ds : List Deed} {us : List V} {b : Mks} {u : V} {bb : Bool} {T L N : Addr} (ru : RL (DeAt K H) ds us) (du : DV K H (mksD b) u) (hT : H T = none) (hL : (upd H T (.tup [.bl bb, u])) L = none) (hN : (upd (upd H T (.tup [.bl bb, u])) L (.lst [.ref T])) N = none) :
    Same H (upd (upd (upd H T (.tup [.bl bb, u])) L (.lst [.ref T])) N (.lst (us ++ [.ref T]))) ∧ DesAt K (upd (upd (upd H T (.tup [.bl bb, u])) L (.lst [.ref T])) N (.lst (us ++ [.ref T]))) (ds ++ [(bb, b)]) N := by
  have n1 := same_new (o := HO.tup [V.bl bb, u]) hT
  have n2 := same_new (o := HO.lst [V.ref T]) hL
  have n3 := same_new (o := HO.lst (us ++ [V.ref T])) hN
  have m := n1.trans (n2.trans n3)
  have tk := TK.same (K := K) m
  exact ⟨m, us ++ [.ref T], upd_same, (ru.mono (DeAt.tk tk)).snoc ⟨T, u, rfl, SqT.of (n3 _ _ (n2 _ _ upd_same)), du.tk tk⟩⟩
theorem rl_nil68 {α : Type} {R : α → V → Prop} : RL R [] [] := by first | exact True.intro | constructor
theorem des_two {K : PySem.W.Frag} {H : Hp} {a b : Mks} {v u : V} {T S L : Addr} (dv : DV K H (mksD a) v) (du : DV K H (mksD b) u) (hT : H T = none) (hS : (upd H T (.tup [.bl true, u])) S = none) (hL : (upd (upd H T (.tup [.bl true, u])) S (.tup [.bl false, v])) L = none) :
    Same H (upd (upd (upd H T (.tup [.bl true, u])) S (.tup [.bl false, v])) L (.lst [.ref T, .ref S])) ∧ DesAt K (upd (upd (upd H T (.tup [.bl true, u])) S (.tup [.bl false, v])) L (.lst [.ref T, .ref S])) [(true, b), (false, a)] L := by
  have n1 := same_new (o := HO.tup [V.bl true, u]) hT
  have n2 := same_new (o := HO.tup [V.bl false, v]) hS
  have n3 := same_new (o := HO.lst [V.ref T, V.ref S]) hL
  have m := n1.trans (n2.trans n3)
  have tk := TK.same (K := K) m
  have r0 : RL (DeAt K (upd (upd (upd H T (.tup [.bl true, u])) S (.tup [.bl false, v])) L (.lst [.ref T, .ref S]))) ([] ++ [(true, b)] ++ [(false, a)]) ([] ++ [.ref T] ++ [.ref S]) := (RL.snoc (x := ((false, a) : Deed)) (v := V.ref S) ⟨S, v, rfl, SqT.of (n3 _ _ upd_same), dv.tk tk⟩ (RL.snoc (x := ((true, b) : Deed)) (v := V.ref T) ⟨T, u, rfl, SqT.of (n3 _ _ (n2 _ _ upd_same)), du.tk tk⟩ rl_nil68))
  --⟨S, v, rfl, SqT.of (n3 _ _ upd_same), dv.tk tk⟩)
  exact ⟨m, [.ref T, .ref S], upd_same, r0⟩
theorem ds_snoc {ds : List Deed} {d : Deed} (ok : DsOk ds) (g : GoodL 1 d.2) : DsOk (ds ++ [d]) := fun e he => by
  rcases List.mem_append.mp he with h | h
  · exact ok e h
  · rw [List.mem_singleton.mp h]; exact g
theorem due_join {ds : List Deed} {a b m m' : Mks} (ha : DueOk ds a) (h : DueOk (ds ++ [(true, b)]) m) (g : GoodL 1 m') (e : ∀ n, inM m' n ↔ inM a n ∨ inM b n) : m' = m := good_uniq g h.1 fun n => by
  rw [e, h.2, left_snoc, ha.2]
  show _ ↔ (if inB b n = true then true else leftB ds n) = true
  rw [← inB_iff]
  cases inB b n <;> cases leftB ds n <;> simp
theorem due_cut {ds : List Deed} {a b m m' : Mks} (ha : DueOk ds a) (h : DueOk (ds ++ [(false, b)]) m) (g : GoodL 1 m') (e : ∀ n, inM m' n ↔ inM a n ∧ ¬ inM b n) : m' = m := good_uniq g h.1 fun n => by
  rw [e, h.2, left_snoc, ha.2]
  show _ ↔ (if inB b n = true then false else leftB ds n) = true
  rw [← inB_iff]
  cases inB b n <;> cases leftB ds n <;> simp
theorem due_one {b : Mks} (g : GoodL 1 b) : DueOk [(true, b)] b := ⟨g, fun n => by
  rw [show [(true, b)] = [] ++ [((true, b) : Deed)] from rfl, left_snoc]
  show _ ↔ (if inB b n = true then true else false) = true
  rw [← inB_iff]
  cases inB b n <;> simp⟩
set_option maxHeartbeats 400000
section
variable {P : Program} {w : World} {K : PySem.W.Frag} {mg : Str → Option Value} {base : Heap}
theorem ok__law_both (D : Df K mg "_law_both" s__law_both ["value", "other", "deeds"]) (T : Tx mg)  (C__law_due : Cal P w K mg base "_law_due" ["deeds"] 3 (sp68_due K)) (C__law_same : Cal P w K mg base "_law_same" ["actual", "due"] 4 (sp__law_same K 3)) (C_joined_marks : Cal P w K mg base "joined_marks" ["marks", "other"] 1 (sp68_joined K)) (C_marks_without : Cal P w K mg base "marks_without" ["marks", "other"] 2 (sp68_without K)) : Cal P w K mg base "_law_both" ["value", "other", "deeds"] 5 (sp68_both K) := by
  obtain ⟨f__law_due, fd__law_due, G__law_due, g__law_due, k__law_due, b__law_due⟩ := C__law_due
  obtain ⟨f__law_same, fd__law_same, G__law_same, g__law_same, k__law_same, b__law_same⟩ := C__law_same
  obtain ⟨f_joined_marks, fd_joined_marks, G_joined_marks, g_joined_marks, k_joined_marks, b_joined_marks⟩ := C_joined_marks
  obtain ⟨f_marks_without, fd_marks_without, G_marks_without, g_marks_without, k_marks_without, b_marks_without⟩ := C_marks_without
  obtain ⟨f, fd, F, gf, bf⟩ := D
  refine ⟨f, fd, F.ok sc__law_both (fun vs H Q E h => ?_) (fun cdv A outer s₀ H vs Q E hr h => ?_), gf, F.kp, bf⟩
  · obtain ⟨v, u, a, b, p, ds, us, rfl, _⟩ := h; rfl
  · obtain ⟨v, u, a, b, p, ds, us, rfl, hv, hu, ha, gb, la, lb, hp, ru, ok, dl, tl1, q⟩ := h
    refine ⟨_, (pss_cons (ps_set (i := 3) sc__law_both.nd rfl (Or.inl rfl) (pe_call G__law_due (hr.mono (by decide)) (by rfl) g__law_due k__law_due b__law_due .nil pass0 (pa_cons (pe_op L2.op_cat (pv 2) (pe_lst (pa_cons (pe_tup (pa_cons pe_bl (pa_cons (pv 1) pa_nil))) pa_nil))) pa_nil)))
      (pss_cons (ps_set (i := 4) sc__law_both.nd rfl (Or.inl rfl) (pe_call G__law_due (hr.mono (by decide)) (by rfl) g__law_due k__law_due b__law_due .nil pass0 (pa_cons (pe_op L2.op_cat (pv 2) (pe_lst (pa_cons (pe_tup (pa_cons pe_bl (pa_cons (pv 1) pa_nil))) pa_nil))) pa_nil)))
      (pss_cons (ps_set (i := 5) sc__law_both.nd rfl (Or.inl rfl) (pe_call G__law_due (hr.mono (by decide)) (by rfl) g__law_due k__law_due b__law_due .nil pass0 (pa_cons (pe_lst (pa_cons (pe_tup (pa_cons pe_bl (pa_cons (pv 1) pa_nil))) (pa_cons (pe_tup (pa_cons pe_bl (pa_cons (pv 0) pa_nil))) pa_nil))) pa_nil)))
      (pss_cons (ps_if (PW.pt (pw_or (pt_not (pt_val (pe_call G__law_same (hr.mono (by decide)) (by rfl) g__law_same k__law_same b__law_same .nil pass0 (pa_cons (pe_call G_joined_marks (hr.mono (by decide)) (by rfl) g_joined_marks k_joined_marks b_joined_marks .nil pass0 (pa_cons (pv 0) (pa_cons (pv 1) pa_nil))) (pa_cons (pv 3) pa_nil))))) (pw_or1 (pt_not (pt_val (pe_call G__law_same (hr.mono (by decide)) (by rfl) g__law_same k__law_same b__law_same .nil pass0 (pa_cons (pe_call G_joined_marks (hr.mono (by decide)) (by rfl) g_joined_marks k_joined_marks b_joined_marks .nil pass0 (pa_cons (pv 1) (pa_cons (pv 0) pa_nil))) (pa_cons (pv 3) pa_nil))))))))
      (pss_one (ps_ret pe_bl))
      pss_nil)
      (pss_one (ps_ret (pe_and (pe_call G__law_same (hr.mono (by decide)) (by rfl) g__law_same k__law_same b__law_same .nil pass0 (pa_cons (pe_call G_marks_without (hr.mono (by decide)) (by rfl) g_marks_without k_marks_without b_marks_without .nil pass0 (pa_cons (pv 0) (pa_cons (pv 1) pa_nil))) (pa_cons (pv 4) pa_nil))) (pe_one (pe_call G__law_same (hr.mono (by decide)) (by rfl) g__law_same k__law_same b__law_same .nil pass0 (pa_cons (pe_call G_marks_without (hr.mono (by decide)) (by rfl) g_marks_without k_marks_without b_marks_without .nil pass0 (pa_cons (pv 1) (pa_cons (pv 0) pa_nil))) (pa_cons (pv 5) pa_nil))))))))))), ?_⟩
    have big : ∀ {n : Nat}, n ≤ 30000 → n < sizeLine := fun h => Nat.lt_of_le_of_lt h (by decide)
    have ul := ru.len
    have okA : MkOk8 a := ⟨ha.1, by omega⟩
    have okB : MkOk8 b := ⟨gb, by omega⟩
    refine ⟨_, rfl, _, rfl, by show 2 ≤ sizeLine; decide, fun T1 hT1 => ⟨by show 1 ≤ sizeLine; decide, fun L1 hL1 => ⟨p, L1, us, [V.ref T1], rfl, rfl, (same_new hL1) _ _ ((same_new hT1) _ _ hp), upd_same, Nat.le_of_lt (big (by show _ + 1 ≤ _; omega)), fun N1 hN1 => ?_⟩⟩⟩
    obtain ⟨n1, de1⟩ := des_snoc ru hu hT1 hL1 hN1
    refine ⟨N1, ds ++ [(true, b)], rfl, de1, ds_snoc ok gb, by rw [tot_snoc]; show _ + b.length ≤ _; omega, fun w1 m1 H1 s1 d1 due1 l1 => ?_⟩
    rw [tot_snoc] at l1
    have l1 : m1.length ≤ 2 + 2 * (tot ds + b.length) := l1
    have x1 := n1.trans s1
    clear n1 de1 hT1 hL1 hN1 s1
    refine ⟨_, rfl, _, rfl, by show 2 ≤ sizeLine; decide, fun T1 hT1 => ⟨by show 1 ≤ sizeLine; decide, fun L1 hL1 => ⟨p, L1, us, [V.ref T1], rfl, rfl, (same_new hL1) _ _ ((same_new hT1) _ _ (x1 _ _ hp)), upd_same, Nat.le_of_lt (big (by show _ + 1 ≤ _; omega)), fun N1 hN1 => ?_⟩⟩⟩
    obtain ⟨n2, de2⟩ := des_snoc (ru.mono (DeAt.tk (TK.same x1))) (hu.tk (TK.same x1)) hT1 hL1 hN1
    refine ⟨N1, ds ++ [(false, b)], rfl, de2, ds_snoc ok gb, by rw [tot_snoc]; show _ + b.length ≤ _; omega, fun w2 m2 H2 s2 d2 due2 l2 => ?_⟩
    rw [tot_snoc] at l2
    have l2 : m2.length ≤ 2 + 2 * (tot ds + b.length) := l2
    have x12 := n2.trans s2
    have x2 := x1.trans x12
    have d12 := d1.tk (TK.same x12)
    clear n2 de2 hT1 hL1 hN1 s2
    refine ⟨_, rfl, by show 2 ≤ sizeLine; decide, fun T1 hT1 => ⟨_, rfl, by show 2 ≤ sizeLine; decide, fun S1 hS1 => ⟨by show 2 ≤ sizeLine; decide, fun L1 hL1 => ?_⟩⟩⟩
    obtain ⟨n3, de3⟩ := des_two (hv.tk (TK.same x2)) (hu.tk (TK.same x2)) hT1 hS1 hL1
    refine ⟨L1, [(true, b), (false, a)], rfl, de3, (fun d hd => by
      simp only [List.mem_cons, List.not_mem_nil, or_false] at hd
      rcases hd with e | e <;> rw [e]
      · exact gb
      · exact ha.1), by show b.length + (a.length + 0) ≤ _; omega, fun w3 m3 H3 s3 d3 due3 l3 => ?_⟩
    have l3 : m3.length ≤ 2 + 2 * (b.length + (a.length + 0)) := l3
    have x23 := n3.trans s3
    have x3 := x2.trans x23
    have d13 := d12.tk (TK.same x23)
    have d23 := d2.tk (TK.same x23)
    clear n3 de3 hT1 hS1 hL1 s3
    refine ⟨_, rfl, _, rfl, v, u, a, b, rfl, hv.tk (TK.same x3), hu.tk (TK.same x3), okA, okB, fun r4 e4 H4 s4 d4 g4 _ j4 => ?_⟩
    have E4 := due_join ha due1 g4 j4
    subst E4
    have x4 := x3.trans s4
    refine ⟨_, rfl, mksD e4, r4, w1, rfl, d4, d13.tk (TK.same s4), mks_dl e4 (by omega), _, rfl, iN rfl ?_⟩
    refine ⟨_, rfl, _, rfl, u, v, b, a, rfl, hu.tk (TK.same x4), hv.tk (TK.same x4), okB, okA, fun r5 e5 H5 s5 d5 g5 _ j5 => ?_⟩
    have E5 := due_join ha due1 g5 fun n => by rw [j5]; exact Or.comm
    subst E5
    have x5 := x4.trans s5
    refine ⟨_, rfl, mksD e5, r5, w1, rfl, d5, d13.tk (TK.same (s4.trans s5)), mks_dl e5 (by omega), _, rfl, iteF ?_⟩
    refine ⟨_, rfl, _, rfl, v, u, a, b, rfl, hv.tk (TK.same x5), hu.tk (TK.same x5), okA, okB, fun r6 e6 H6 s6 d6 g6 j6 => ?_⟩
    have E6 := due_cut ha due2 g6 j6
    subst E6
    have x6 := x5.trans s6
    refine ⟨_, rfl, mksD e6, r6, w2, rfl, d6, d23.tk (TK.same (s4.trans (s5.trans s6))), mks_dl e6 (by omega), _, rfl, iteT ?_⟩
    refine ⟨_, rfl, _, rfl, u, v, b, a, rfl, hu.tk (TK.same x6), hv.tk (TK.same x6), okB, okA, fun r7 e7 H7 s7 d7 g7 j7 => ?_⟩
    have E7 := due_cut (due_one gb) due3 g7 j7
    subst E7
    exact ⟨_, rfl, mksD e7, r7, w3, rfl, d7, d3.tk (TK.same (s4.trans (s5.trans (s6.trans s7)))), mks_dl e7 (by omega), q H7 (x6.trans s7)⟩
end

end Z
namespace Z
open PySem L2 SX
def sp68_walked (K : PySem.W.Frag) : Sp := fun vs H Q _ => ∃ (s a : Addr) (c : Nat) (v : V) (m : Mks) (p : Addr) (ds : List Deed) (us : List V) (n : Nat), vs = [.ref s, v, .ref p, .int (n : Int)] ∧ DV K H (mksD m) v ∧ DueOk ds m ∧ m.length ≤ 100 ∧ p ≠ s ∧ Src H s a (c + 1) ∧ H p = some (.lst us) ∧ RL (DeAt K H) ds us ∧ DsOk ds ∧ ds.length ≤ 10 ∧ tot ds ≤ 40 ∧ n ≤ 9999999 ∧ ∀ (H' : Hp), Q (.bl true) H'
set_option maxHeartbeats 400000
section
variable {P : Program} {w : World} {K : PySem.W.Frag} {mg : Str → Option Value} {base : Heap}
theorem ok__law_walked (D : Df K mg "_law_walked" s__law_walked ["source", "value", "deeds", "number"]) (T : Tx mg)  (C__law_asked : Cal P w K mg base "_law_asked" ["value", "due", "points"] 5 (sp68_asked K)) (C__law_draw : Cal P w K mg base "_law_draw" ["source", "many"] 2 sp__law_draw) (C__law_due : Cal P w K mg base "_law_due" ["deeds"] 3 (sp68_due K)) (C__law_next_pair : Cal P w K mg base "_law_next_pair" ["value", "due", "number"] 5 (sp68_pair K)) (C_joined_marks : Cal P w K mg base "joined_marks" ["marks", "other"] 1 (sp68_joined K)) : Cal P w K mg base "_law_walked" ["source", "value", "deeds", "number"] 6 (sp68_walked K) := by
  obtain ⟨f__law_asked, fd__law_asked, G__law_asked, g__law_asked, k__law_asked, b__law_asked⟩ := C__law_asked
  obtain ⟨f__law_draw, fd__law_draw, G__law_draw, g__law_draw, k__law_draw, b__law_draw⟩ := C__law_draw
  obtain ⟨f__law_due, fd__law_due, G__law_due, g__law_due, k__law_due, b__law_due⟩ := C__law_due
  obtain ⟨f__law_next_pair, fd__law_next_pair, G__law_next_pair, g__law_next_pair, k__law_next_pair, b__law_next_pair⟩ := C__law_next_pair
  obtain ⟨f_joined_marks, fd_joined_marks, G_joined_marks, g_joined_marks, k_joined_marks, b_joined_marks⟩ := C_joined_marks
  obtain ⟨f, fd, F, gf, bf⟩ := D
  refine ⟨f, fd, F.ok sc__law_walked (fun vs H Q E h => ?_) (fun cdv A outer s₀ H vs Q E hr h => ?_), gf, F.kp, bf⟩
  · obtain ⟨s, a, c, v, m, p, ds, us, n, rfl, _⟩ := h; rfl
  · obtain ⟨s, a, c, v, m, p, ds, us, n, rfl, hv, due0, lm0, ps, hS, hp, ru, ok, dl, tl1, n9, q⟩ := h
    refine ⟨_, (C8.pss_cut (ps_for PassesOwn.never rfl (pi_range1 (by rfl) T.n_range (pa_cons (pe_call G__law_draw (hr.mono (by decide)) (by rfl) g__law_draw k__law_draw b__law_draw .nil pass0 (pa_cons (pv 0) (pa_cons pe_int pa_nil))) pa_nil)) (pg_name (i := 4) sc__law_walked.nd rfl (Or.inl rfl))
      (pss_cons (ps_set (i := 5) sc__law_walked.nd rfl (Or.inl rfl) (pe_call G__law_next_pair (hr.mono (by decide)) (by rfl) g__law_next_pair k__law_next_pair b__law_next_pair .nil pass0 (pa_cons (pv 1) (pa_cons (pe_call G__law_due (hr.mono (by decide)) (by rfl) g__law_due k__law_due b__law_due .nil pass0 (pa_cons (pv 2) pa_nil)) (pa_cons (pv 3) pa_nil)))))
        (pss_cons (ps_if (pt_cmpR op_isN (pv 5) pe_non (nomark _))
        (pss_one (ps_ret pe_bl))
        pss_nil)
        (pss_cons (ps_set (i := 1) sc__law_walked.nd rfl (Or.inl rfl) (pe_call G_joined_marks (hr.mono (by decide)) (by rfl) g_joined_marks k_joined_marks b_joined_marks .nil pass0 (pa_cons (pv 1) (pa_cons (pv 5) pa_nil))))
        (pss_cons (ps_expr (pe_bm PySem.F.plainAttrs_list PySem.F.slot_list_append PySem.F.type_list_append mt_append (pv 2) (pa_cons (pe_tup (pa_cons pe_bl (pa_cons (pv 5) pa_nil))) pa_nil)))
        (pss_cons (ps_if (pt_cmpR (op_eqDDQ (K := K) rfl (room65 hr)) (pv 5) (pe_tup pa_nil) (nomark _))
        (pss_one ps_break)
        pss_nil)
        (pss_one (ps_set (i := 3) sc__law_walked.nd rfl (Or.inl rfl) (pe_ix ix_tup (pe_ix ix_tup (pv 5) pe_int (fun _ _ => rfl)) pe_int (fun _ _ => rfl))))))))))
      (pss_one (ps_ret (pe_call G__law_asked (hr.mono (by decide)) (by rfl) g__law_asked k__law_asked b__law_asked .nil pass0 (pa_cons (pv 1) (pa_cons (pe_call G__law_due (hr.mono (by decide)) (by rfl) g__law_due k__law_due b__law_due .nil pass0 (pa_cons (pv 2) pa_nil)) (pa_cons (pe_lst (pa_cons pe_int (pa_cons pe_int (pa_cons (pe_callB (call_max2 rfl) (by rfl) T.n_max (by decide +kernel) (pa_cons pe_int (pa_cons (pv 3) pa_nil))) pa_nil)))) pa_nil))))))), ?_⟩
    have big : ∀ {n : Nat}, n ≤ 30000 → n < sizeLine := fun h => Nat.lt_of_le_of_lt h (by decide)
    refine ⟨fun σ H' => ∃ (v' : V) (m' : Mks) (ds' : List Deed) (us' : List V) (n' : Nat) (x4 x5 : Option V), σ = [some (.ref s), some v', some (.ref p), some (.int (n' : Int)), x4, x5] ∧ DV K H' (mksD m') v' ∧ DueOk ds' m' ∧ m'.length ≤ 110 ∧ H' p = some (.lst us') ∧ RL (DeAt K H') ds' us' ∧ DsOk ds' ∧ tot ds' ≤ 50 ∧ n' ≤ 9999999, ?_, ?_⟩
    rotate_left
    · rintro σ H2 ⟨v', m', ds', us', n', x4, x5, rfl, hv2, due2, lm2, hp2, ru2, ok2, tl2, n92⟩
      refine ⟨_, rfl, _, rfl, p, ds', rfl, ⟨us', hp2, ru2⟩, ok2, by omega, fun r dm H3 m3 dr due3 l3 => ?_⟩
      have e3 := due2.one due3
      subst e3
      obtain ⟨y, hy, yb⟩ : ∃ y : Nat, (if (n' : Int) > 1 then (n' : Int) else 1) = (y : Int) ∧ y ≤ 9999999 := by
        refine ⟨max 1 n', ?_, by omega⟩
        split <;> omega
      refine ⟨_, rfl, _, _, rfl, by show 3 ≤ sizeLine; decide, fun L hL => ?_⟩
      rw [hy]
      have nL := same_new (o := HO.lst [V.int 1, V.int 999999, V.int (y : Int)]) hL
      have m2L := m3.trans nL
      exact ⟨v', r, m', L, [1, 999999, y], rfl, hv2.tk (TK.same m2L), dr.tk (TK.same nL), ⟨due2.1, by omega⟩, by omega, upd_same, (fun x hx => by
        simp only [List.mem_cons, List.not_mem_nil, or_false] at hx
        omega), fun H' _ => q H'⟩
    refine ⟨_, rfl, s, a, 6, c, rfl, by decide, by decide, hS, fun k H1 k0 k1 x1 S1 => ?_⟩
    have hp1 := x1 _ _ ps hp
    have T1 := TK.ext (K := K) x1 hS
    refine ⟨_, rfl, by omega, by omega, ?_⟩
    refine for_range (lo := 0) (n := k.toNat) (fun i σ H' => ∃ (v' : V) (m' : Mks) (ds' : List Deed) (us' : List V) (n' : Nat) (x4 x5 : Option V), σ = [some (.ref s), some v', some (.ref p), some (.int (n' : Int)), x4, x5] ∧ DV K H' (mksD m') v' ∧ DueOk ds' m' ∧ m'.length ≤ 100 + i ∧ H' p = some (.lst us') ∧ RL (DeAt K H') ds' us' ∧ DsOk ds' ∧ ds'.length ≤ 10 + i ∧ tot ds' ≤ 40 + i ∧ n' ≤ 9999999) ⟨v, m, ds, us, n, none, none, rfl, hv.tk T1, due0, lm0, hp1, ru.mono (DeAt.tk T1), ok, dl, tl1, n9⟩ ?_ ?_
    rotate_left
    · rintro σ H2 ⟨v', m', ds', us', n', x4, x5, rfl, hv2, due2, lm2, hp2, ru2, ok2, dl2, tl2, n92⟩
      exact ⟨v', m', ds', us', n', x4, x5, rfl, hv2, due2, by omega, hp2, ru2, ok2, by omega, n92⟩
    rintro i σ H2 hi ⟨v', m', ds', us', n', x4, x5, rfl, hv2, due2, lm2, hp2, ru2, ok2, dl2, tl2, n92⟩
    refine ⟨_, rfl, _, rfl, p, ds', rfl, ⟨us', hp2, ru2⟩, ok2, by omega, fun r dm H3 m3 dr due3 l3 => ?_⟩
    have e3 := due2.one due3
    subst e3
    have ok8 : MkOk8 m' := ⟨due2.1, by omega⟩
    refine ⟨_, rfl, v', r, m', n', rfl, hv2.tk (TK.same m3), dr, ok8, n92, fun o om H4 m4 dom hom => ?_⟩
    have m24 := m3.trans m4
    have hv4 := hv2.tk (TK.same m24)
    have gom : GoodL 1 om ∧ om.length ≤ 1 := by
      rcases hom with e | ⟨t, e, t1, t2⟩ <;> rw [e]
      · exact ⟨trivial, Nat.zero_le _⟩
      · exact ⟨⟨t1, Nat.le_refl _, t2, trivial⟩, Nat.le_refl _⟩
    obtain ⟨oa, ous, rfl, hO, hous⟩ := dv_mks dom
    refine ⟨_, rfl, rfl, _, rfl, iteF ?_⟩
    refine ⟨_, rfl, _, rfl, v', .ref oa, m', om, rfl, hv4, dom, ok8, ⟨gom.1, by omega⟩, fun rj jm H5 m5 drj gj jl je => ?_⟩
    have m25 := m24.trans m5
    refine ⟨_, rfl, .inl ⟨rfl, _, SqL.of (m25 _ _ hp2)⟩, _, rfl, by show 2 ≤ sizeLine; decide, fun T hT => ?_⟩
    have nT := same_new (o := HO.tup [V.bl true, V.ref oa]) hT
    have m26 := m25.trans nT
    have hp6 := m26 _ _ hp2
    have hT6 : (upd H5 T (.tup [V.bl true, V.ref oa])) T = some (.tup [V.bl true, V.ref oa]) := upd_same
    have drj6 := drj.tk (TK.same nT)
    have dom6 := dom.tk (TK.same (m5.trans nT))
    generalize upd H5 T (.tup [V.bl true, V.ref oa]) = H6 at m26 hp6 hT6 drj6 dom6 ⊢
    have T7 : TK K H6 (upd H6 p (.lst (us' ++ [V.ref T]))) := tk_put hp6
    have ul := ru2.len
    refine ⟨p, us', _, rfl, rfl, hp6, big (by omega), ?_⟩
    have dom7 := dom6.tk T7
    have drj7 := drj6.tk T7
    have ru7 : RL (DeAt K (upd H6 p (.lst (us' ++ [V.ref T])))) (ds' ++ [(true, om)]) (us' ++ [.ref T]) := (ru2.mono (DeAt.tk ((TK.same m26).trans T7))).snoc ⟨T, _, rfl, T7 _ _ (SqT.of hT6), dom7⟩
    have hp7 : (upd H6 p (.lst (us' ++ [V.ref T]))) p = some (.lst (us' ++ [V.ref T])) := upd_same
    generalize upd H6 p (.lst (us' ++ [V.ref T])) = H7 at dom7 drj7 ru7 hp7 ⊢
    have dueJ : DueOk (ds' ++ [(true, om)]) jm := ⟨gj, fun n => by
      rw [je, left_snoc, due2.2]
      show _ ↔ (if inB om n = true then true else leftB ds' n) = true
      rw [← inB_iff (m := om)]
      cases inB om n <;> cases leftB ds' n <;> simp⟩
    have okJ : DsOk (ds' ++ [(true, om)]) := fun d hd => by
      rcases List.mem_append.mp hd with h | h
      · exact ok2 d h
      · rw [List.mem_singleton.mp h]; exact gom.1
    have totJ : tot (ds' ++ [(true, om)]) = tot ds' + om.length := tot_snoc _ _
    have lenJ : (ds' ++ [((true, om) : Deed)]).length = ds'.length + 1 := List.length_append
    refine ⟨_, rfl, Nat.zero_le _, fun E0 hE0 => ?_⟩
    have nE := same_new (o := HO.tup []) hE0
    have qE : (upd H7 E0 (.tup [])) E0 = some (.tup []) := upd_same
    have hp8 := nE _ _ hp7
    have dom8 := dom7.tk (TK.same nE)
    have drj8 := drj7.tk (TK.same nE)
    have ru8 := ru7.mono (DeAt.tk (TK.same nE))
    generalize upd H7 E0 (.tup []) = H8 at qE hp8 dom8 drj8 ru8 ⊢
    refine ⟨mksD om, .tup [], dom8, ⟨E0, [], rfl, SqT.of qE, dln⟩, ?_, ?_, _, rfl, ?_⟩
    · rcases hom with e | ⟨t, e, _⟩ <;> rw [e] <;> exact fine_ok (n := 2) rfl
    · exact fine_ok (n := 2) rfl
    rcases hom with e | ⟨t, e, t1, t2⟩
    · subst e
      rw [show eqD (mksD []) (.tup []) = true by simp [eqD, mksD, py, pys, PyData.eqv, PyData.eqvAll]]
      refine iteT ?_
      exact ⟨rj, jm, _, _, n', _, _, rfl, drj8, dueJ, by omega, hp8, ru8, okJ, by omega, n92⟩
    · subst e
      rw [show eqD (mksD [(t, t)]) (.tup []) = false by simp [eqD, mksD, prD, py, pys, PyData.eqv, PyData.eqvAll]]
      refine iteF ?_
      obtain ⟨oc, os, e1, hO8, hos⟩ := dv_mks dom8
      cases e1
      obtain ⟨w, ws, rfl, hw, hws⟩ := hos
      obtain ⟨pc, rfl, hpc⟩ := dv_pr hw
      exact ⟨_, rfl, oa, _, 0, _, rfl, rfl, hO8, atI_nat (j := 0) rfl, pc, _, 0, _, rfl, rfl, hpc, atI_nat (j := 0) rfl, rj, jm, _, _, t, _, _, rfl, drj8, dueJ, by omega, hp8, ru8, okJ, by omega, by omega, by omega⟩
end

end Z
namespace Z
open PySem L2 SX
theorem src_put {H : Hp} {s a : Addr} {c : Nat} {d : Addr} {o : HO} (h : Src H s a c) (n1 : d ≠ s) (n2 : d ≠ a) : Src (upd H d o) s a c := by
  obtain ⟨ns, i, b, e, t, h1, h2, h3⟩ := h
  exact ⟨ns, i, b, e, t, by rw [upd_ne n1.symm]; exact h1, by rw [upd_ne n2.symm]; exact h2, h3⟩
theorem src_free {H : Hp} {s a : Addr} {c : Nat} {d : Addr} (h : Src H s a c) (n : H d = none) : d ≠ s ∧ d ≠ a := by
  obtain ⟨ns, i, b, e, t, h1, h2, h3⟩ := h
  exact ⟨fun z => (by rw [z, h1] at n; cases n), fun z => (by rw [z, h2] at n; cases n)⟩
theorem due_nil : DueOk [] [] := ⟨trivial, fun n => ⟨fun h => absurd h inM_nil, fun h => by cases h⟩⟩
set_option maxHeartbeats 1000000
section
variable {P : Program} {w : World} {K : PySem.W.Frag} {mg : Str → Option Value} {base : Heap}
theorem ok_law {f : Addr} {fd : FuncData} (F : Fun K "law" "law" s_law f fd) (T : Tx mg)  (C__law_asked : Cal P w K mg base "_law_asked" ["value", "due", "points"] 5 (sp68_asked K)) (C__law_both : Cal P w K mg base "_law_both" ["value", "other", "deeds"] 5 (sp68_both K)) (C__law_draw : Cal P w K mg base "_law_draw" ["source", "many"] 2 sp__law_draw) (C__law_due : Cal P w K mg base "_law_due" ["deeds"] 3 (sp68_due K)) (C__law_next_pair : Cal P w K mg base "_law_next_pair" ["value", "due", "number"] 5 (sp68_pair K)) (C__law_other : Cal P w K mg base "_law_other" ["source", "zone", "top", "marks"] 4 (sp68_other K)) (C__law_pick : Cal P w K mg base "_law_pick" ["source", "row"] 3 (sp3__law_pick K)) (C__law_points : Cal P w K mg base "_law_points" ["marks"] 1 (sp68_points K)) (C__law_source : Cal P w K mg base "_law_source" ["script"] 2 (sp__law_source K)) (C__law_walked : Cal P w K mg base "_law_walked" ["source", "value", "deeds", "number"] 6 (sp68_walked K)) (C_joined_marks : Cal P w K mg base "joined_marks" ["marks", "other"] 1 (sp68_joined K)) (C_marks_without : Cal P w K mg base "marks_without" ["marks", "other"] 2 (sp68_without K)) : FnOk P w K mg base CX0 7 f fd ["script"] (sp_law K) := by
  obtain ⟨f__law_asked, fd__law_asked, G__law_asked, g__law_asked, k__law_asked, b__law_asked⟩ := C__law_asked
  obtain ⟨f__law_both, fd__law_both, G__law_both, g__law_both, k__law_both, b__law_both⟩ := C__law_both
  obtain ⟨f__law_draw, fd__law_draw, G__law_draw, g__law_draw, k__law_draw, b__law_draw⟩ := C__law_draw
  obtain ⟨f__law_due, fd__law_due, G__law_due, g__law_due, k__law_due, b__law_due⟩ := C__law_due
  obtain ⟨f__law_next_pair, fd__law_next_pair, G__law_next_pair, g__law_next_pair, k__law_next_pair, b__law_next_pair⟩ := C__law_next_pair
  obtain ⟨f__law_other, fd__law_other, G__law_other, g__law_other, k__law_other, b__law_other⟩ := C__law_other
  obtain ⟨f__law_pick, fd__law_pick, G__law_pick, g__law_pick, k__law_pick, b__law_pick⟩ := C__law_pick
  obtain ⟨f__law_points, fd__law_points, G__law_points, g__law_points, k__law_points, b__law_points⟩ := C__law_points
  obtain ⟨f__law_source, fd__law_source, G__law_source, g__law_source, k__law_source, b__law_source⟩ := C__law_source
  obtain ⟨f__law_walked, fd__law_walked, G__law_walked, g__law_walked, k__law_walked, b__law_walked⟩ := C__law_walked
  obtain ⟨f_joined_marks, fd_joined_marks, G_joined_marks, g_joined_marks, k_joined_marks, b_joined_marks⟩ := C_joined_marks
  obtain ⟨f_marks_without, fd_marks_without, G_marks_without, g_marks_without, k_marks_without, b_marks_without⟩ := C_marks_without
  refine F.ok sc_law (fun vs H Q E h => ?_) (fun cdv A outer s₀ H vs Q E hr h => ?_)
  · obtain ⟨a, ns, rfl, _⟩ := h; rfl
  · obtain ⟨a, ns, rfl, hA, hlen, q⟩ := h
    refine ⟨_, (pss_cons (ps_set (i := 1) sc_law.nd rfl (Or.inl rfl) (pe_call G__law_source (hr.mono (by decide)) (by rfl) g__law_source k__law_source b__law_source .nil pass0 (pa_cons (pv 0) pa_nil)))
      (pss_cons (ps_set (i := 2) sc_law.nd rfl (Or.inl rfl) (pe_call G__law_draw (hr.mono (by decide)) (by rfl) g__law_draw k__law_draw b__law_draw .nil pass0 (pa_cons (pv 1) (pa_cons pe_int pa_nil))))
      (pss_cons (ps_set (i := 3) sc_law.nd rfl (Or.inl rfl) (pe_cmpR op_eq (pe_call G__law_draw (hr.mono (by decide)) (by rfl) g__law_draw k__law_draw b__law_draw .nil pass0 (pa_cons (pv 1) (pa_cons pe_int pa_nil))) pe_int (nomark _)))
      (pss_cons (ps_set (i := 4) sc_law.nd rfl (Or.inl rfl) (pe_tup pa_nil))
      (pss_cons (ps_set (i := 5) sc_law.nd rfl (Or.inl rfl) (pe_lst pa_nil))
      (pss_cons (ps_set (i := 6) sc_law.nd rfl (Or.inl rfl) pe_int)
      (pss_cons (ps_for PassesOwn.never rfl (pi_range1 (by rfl) T.n_range (pa_cons (pe_op op_add pe_int (pe_call G__law_draw (hr.mono (by decide)) (by rfl) g__law_draw k__law_draw b__law_draw .nil pass0 (pa_cons (pv 1) (pa_cons pe_int pa_nil)))) pa_nil)) (pg_name (i := 7) sc_law.nd rfl (Or.inl rfl))
      (pss_cons (ps_set (i := 8) sc_law.nd rfl (Or.inl rfl) (pe_call G__law_due (hr.mono (by decide)) (by rfl) g__law_due k__law_due b__law_due .nil pass0 (pa_cons (pv 5) pa_nil)))
        (pss_cons (ps_set (i := 9) sc_law.nd rfl (Or.inl rfl) (pe_call G__law_other (hr.mono (by decide)) (by rfl) g__law_other k__law_other b__law_other .nil pass0 (pa_cons (pv 1) (pa_cons (pv 2) (pa_cons (pv 3) (pa_cons (pv 8) pa_nil))))))
        (pss_cons (ps_set (i := 10) sc_law.nd rfl (Or.inl rfl) (pe_call G__law_draw (hr.mono (by decide)) (by rfl) g__law_draw k__law_draw b__law_draw .nil pass0 (pa_cons (pv 1) (pa_cons pe_int pa_nil))))
        (C8.pss_cut (ps_if (pt_cmpR op_eq (pv 10) pe_int (nomark _))
        (pss_cons (ps_set (i := 9) sc_law.nd rfl (Or.inl rfl) (pe_call G__law_next_pair (hr.mono (by decide)) (by rfl) g__law_next_pair k__law_next_pair b__law_next_pair .nil pass0 (pa_cons (pv 4) (pa_cons (pv 8) (pa_cons (pv 6) pa_nil)))))
          (pss_one (ps_if (pt_cmpR op_isN (pv 9) pe_non (nomark _))
          (pss_one (ps_ret pe_bl))
          pss_nil)))
        pss_nil)
        (pss_cons (ps_if (pt_not (pt_val (pe_call G__law_both (hr.mono (by decide)) (by rfl) g__law_both k__law_both b__law_both .nil pass0 (pa_cons (pv 4) (pa_cons (pv 9) (pa_cons (pv 5) pa_nil))))))
        (pss_one (ps_ret pe_bl))
        pss_nil)
        (C8.pss_cut (ps_if (pt_cmpR op_eq (pv 10) pe_int (nomark _))
        (pss_one (ps_set (i := 4) sc_law.nd rfl (Or.inl rfl) (pe_call G_marks_without (hr.mono (by decide)) (by rfl) g_marks_without k_marks_without b_marks_without .nil pass0 (pa_cons (pv 4) (pa_cons (pv 9) pa_nil)))))
        (pss_one (ps_set (i := 4) sc_law.nd rfl (Or.inl rfl) (pe_call G_joined_marks (hr.mono (by decide)) (by rfl) g_joined_marks k_joined_marks b_joined_marks .nil pass0 (pa_cons (pv 4) (pa_cons (pv 9) pa_nil))))))
        (pss_cons (ps_expr (pe_bm PySem.F.plainAttrs_list PySem.F.slot_list_append PySem.F.type_list_append mt_append (pv 5) (pa_cons (pe_tup (pa_cons (pe_cmpR op_ne (pv 10) pe_int (nomark _)) (pa_cons (pv 9) pa_nil))) pa_nil)))
        (pss_cons (ps_set (i := 8) sc_law.nd rfl (Or.inl rfl) (pe_call G__law_due (hr.mono (by decide)) (by rfl) g__law_due k__law_due b__law_due .nil pass0 (pa_cons (pv 5) pa_nil)))
        (pss_cons (ps_if (pt_not (pt_val (pe_call G__law_asked (hr.mono (by decide)) (by rfl) g__law_asked k__law_asked b__law_asked .nil pass0 (pa_cons (pv 4) (pa_cons (pv 8) (pa_cons (pe_call G__law_points (hr.mono (by decide)) (by rfl) g__law_points k__law_points b__law_points .nil pass0 (pa_cons (pe_op (op_cat (K := K) rfl) (pv 8) (pv 9)) pa_nil)) pa_nil))))))
        (pss_one (ps_ret pe_bl))
        pss_nil)
        (pss_one (ps_set (i := 6) sc_law.nd rfl (Or.inl rfl) (pe_call G__law_pick (hr.mono (by decide)) (by rfl) g__law_pick k__law_pick b__law_pick .nil pass0 (pa_cons (pv 1) (pa_cons (pe_op L2.op_cat (pe_lst (pa_cons pe_int pa_nil)) (pe_lc (own := [("pair", 11)]) (g := gName 11) (tt := tYes) rfl sc_law.nd (pi_tup (pv 8)) (blkOk_by (own := [("pair", 11)]) (N := N_law) (sc := defScope s_law) (by decide +kernel)) (fun _ _ _ _ _ => pg_name (i := 11) sc_law.nd rfl (Or.inl rfl)) (fun _ _ _ _ _ => pts_nil) (fun _ _ _ _ _ => (pe_ix (ix_tupQ (K := K) rfl) (pv 11) pe_int (fun _ _ => rfl))))) pa_nil)))))))))))))))
      (pss_one (ps_ret (pe_call G__law_walked (hr.mono (by decide)) (by rfl) g__law_walked k__law_walked b__law_walked .nil pass0 (pa_cons (pv 1) (pa_cons (pv 4) (pa_cons (pv 5) (pa_cons (pv 6) pa_nil)))))))))))))), ?_⟩
    have big : ∀ {n : Nat}, n ≤ 30000 → n < sizeLine := fun h => Nat.lt_of_le_of_lt h (by decide)
    refine ⟨_, rfl, a, ns, rfl, hA, hlen, fun s e H1 hs x1 S1 => ?_⟩
    refine ⟨_, rfl, s, e, 4, 20000, rfl, by decide, by decide, S1.mono (by decide), fun z H2 z0 z4 x2 S2 => ?_⟩
    refine ⟨_, rfl, s, e, 3, 19000, rfl, by decide, by decide, S2.mono (by decide), fun t H3 t0 t3 x3 S3 => ?_⟩
    refine ⟨rfl, Nat.zero_le _, fun V0 hV0 => ?_⟩
    generalize decide (V.int t = V.int 1) = tp
    have nV := same_new (o := HO.tup []) hV0
    have qV : (upd H3 V0 (.tup [])) V0 = some (.tup []) := upd_same
    have S4 := S3.ext nV
    generalize upd H3 V0 (.tup []) = H4 at qV S4 ⊢
    refine ⟨Nat.zero_le _, fun D0 hD0 => ?_⟩
    have nD := same_new (o := HO.lst []) hD0
    have qD : (upd H4 D0 (.lst [])) D0 = some (.lst []) := upd_same
    have qV5 := nD _ _ qV
    have S5 := S4.ext nD
    obtain ⟨Ds, De⟩ := src_free S4 hD0
    generalize upd H4 D0 (.lst []) = H5 at qD qV5 S5 ⊢
    refine ⟨_, rfl, s, e, 6, 18000, rfl, by decide, by decide, S5.mono (by decide), fun k H6 k0 k6 x6 S6 => ⟨_, _, rfl, rfl, _, rfl, by omega, by omega, ?_⟩⟩
    have T6 := TK.ext (K := K) x6 S5
    refine for_range (lo := 0) (n := (1 + k).toNat) (fun i σ H' => ∃ (v : V) (m : Mks) (ds : List Deed) (us : List V) (n : Nat) (x7 x8 x9 x10 : Option V), σ = [some (.ref a), some (.ref s), some (.int z), some (.bl tp), some v, some (.ref D0), some (.int (n : Int)), x7, x8, x9, x10, none] ∧ DV K H' (mksD m) v ∧ DueOk ds m ∧ m.length ≤ 100 ∧ H' D0 = some (.lst us) ∧ RL (DeAt K H') ds us ∧ DsOk ds ∧ ds.length ≤ i ∧ tot ds ≤ 4 * i ∧ n ≤ 999999 ∧ Src H' s e (17000 - 1000 * i)) ⟨.ref V0, [], [], [], 0, none, none, none, none, rfl, ⟨V0, [], rfl, T6 _ _ (SqT.of qV5), dln⟩, due_nil, Nat.zero_le _, x6 _ _ Ds qD, rl_nil68, (fun d hd => by cases hd), Nat.zero_le _, Nat.zero_le _, Nat.zero_le _, S6.mono (by decide)⟩ ?_ ?_
    rotate_left
    · rintro σ H7 ⟨v, m, ds, us, n, x7, x8, x9, x10, rfl, hv, due, lm, hD, ru, ok, dl, tl1, n9, S7⟩
      exact ⟨_, rfl, _, rfl, _, rfl, _, rfl, s, e, 17000 - 1000 * (1 + k).toNat - 1, v, m, D0, ds, us, n, rfl, hv, due, lm, Ds, S7.mono (by omega), hD, ru, ok, by omega, by omega, by omega, fun H' => q H'⟩
    rintro i σ H7 hi ⟨v, m, ds, us, n, x7, x8, x9, x10, rfl, hv, due, lm, hD, ru, ok, dl, tl1, n9, S7⟩
    have i6 : i < 6 := by omega
    refine ⟨_, rfl, D0, ds, rfl, ⟨us, hD, ru⟩, ok, by omega, fun r dm H8 m8 dr due8 l8 => ?_⟩
    have e8 := due.one due8
    subst e8
    have ok8 : MkOk8 m := ⟨due.1, by omega⟩
    have hv8 := hv.tk (TK.same m8)
    have hD8 := m8 _ _ hD
    have ru8 := ru.mono (DeAt.tk (TK.same m8))
    have S8 := S7.ext m8
    refine ⟨_, rfl, _, rfl, _, rfl, _, rfl, s, e, z, tp, r, m, 17000 - 1000 * i - 50, rfl, z0, z4, dr, ok8, S8.mono (by omega), fun o om H9 dom gom lom x9' S9 => ?_⟩
    have T9 := TK.ext (K := K) x9' S8
    refine ⟨_, rfl, s, e, 3, 17000 - 1000 * i - 51, rfl, by decide, by decide, S9.mono (by omega), fun w H10 w0 w3 x10' S10 => ?_⟩
    have T10 := TK.ext (K := K) x10' S9
    have T810 := T9.trans T10
    have hv10 := hv8.tk T810
    have dr10 := dr.tk T810
    have hD10 := x10' _ _ Ds (x9' _ _ Ds hD8)
    have ru10 := ru8.mono (DeAt.tk T810)
    have dom10 := dom.tk T10
    refine ⟨fun σ' H' => ∃ (o : V) (om : Mks), σ' = [some (.ref a), some (.ref s), some (.int z), some (.bl tp), some v, some (.ref D0), some (.int (n : Int)), some (.int (0 + (i : Int))), some r, some o, some (.int w), none] ∧ DV K H' (mksD om) o ∧ GoodL 1 om ∧ om.length ≤ 4 ∧ Same H10 H', ?_, ?_⟩
    · refine ⟨_, rfl, rfl, _, rfl, ite2 (fun _ => ?_) (fun _ => ⟨o, om, rfl, dom10, gom, lom, .refl _⟩)⟩
      refine ⟨_, rfl, _, rfl, _, rfl, v, r, m, n, rfl, hv10, dr10, ok8, by omega, fun o' om' H11 m11 dom' hom => ?_⟩
      have g : GoodL 1 om' ∧ om'.length ≤ 4 := by
        rcases hom with e | ⟨t, e, t1, t2⟩ <;> rw [e]
        · exact ⟨trivial, Nat.zero_le _⟩
        · exact ⟨⟨t1, Nat.le_refl _, t2, trivial⟩, by show 1 ≤ 4; decide⟩
      obtain ⟨oa, ous, rfl, hO, hous⟩ := dv_mks dom'
      exact ⟨_, rfl, rfl, _, rfl, iteF ⟨_, om', rfl, dom', g.1, g.2, m11⟩⟩
    clear dom dom10 gom lom
    rintro σ' H11 ⟨o, om, rfl, dom, gom, lom, m11⟩
    have hv11 := hv10.tk (TK.same m11)
    have hD11 := m11 _ _ hD10
    have ru11 := ru10.mono (DeAt.tk (TK.same m11))
    have S11 := S10.ext m11
    refine ⟨_, rfl, _, rfl, _, rfl, v, o, m, om, D0, ds, us, rfl, hv11, dom, due, gom, by omega, by omega, hD11, ru11, ok, by omega, by omega, fun H12 m12 => ⟨_, rfl, iteF ?_⟩⟩
    have hv12 := hv11.tk (TK.same m12)
    have dom12 := dom.tk (TK.same m12)
    have okO : MkOk8 om := ⟨gom, by omega⟩
    refine ⟨fun σ' H' => ∃ (v' : V) (m' : Mks), σ' = [some (.ref a), some (.ref s), some (.int z), some (.bl tp), some v', some (.ref D0), some (.int (n : Int)), some (.int (0 + (i : Int))), some r, some o, some (.int w), none] ∧ DV K H' (mksD m') v' ∧ DueOk (ds ++ [(!decide (V.int w = V.int 1), om)]) m' ∧ Same H12 H', ?_, ?_⟩
    · refine ⟨_, rfl, rfl, _, rfl, ite2 (fun k1 => ?_) (fun k1 => ?_)⟩
      · refine ⟨_, rfl, _, rfl, v, o, m, om, rfl, hv12, dom12, ok8, okO, fun v' m' H13 m13 d13 g13 e13 => ⟨v', m', rfl, d13, ⟨g13, fun x => ?_⟩, m13⟩⟩
        rw [e13, left_snoc, due.2, k1]
        show _ ↔ (if inB om x = true then false else leftB ds x) = true
        rw [← inB_iff (m := om)]
        cases inB om x <;> cases leftB ds x <;> simp
      · refine ⟨_, rfl, _, rfl, v, o, m, om, rfl, hv12, dom12, ok8, okO, fun v' m' H13 m13 d13 g13 _ e13 => ⟨v', m', rfl, d13, ⟨g13, fun x => ?_⟩, m13⟩⟩
        rw [e13, left_snoc, due.2, eq_false_of_ne_true k1]
        show _ ↔ (if inB om x = true then true else leftB ds x) = true
        rw [← inB_iff (m := om)]
        cases inB om x <;> cases leftB ds x <;> simp
    rintro σ' H13 ⟨v', m', rfl, hv13, dueJ, m13⟩
    have m1113 := m12.trans m13
    have hD13 := m1113 _ _ hD11
    have ru13 := ru11.mono (DeAt.tk (TK.same m1113))
    have dom13 := dom.tk (TK.same m1113)
    have S13 := S11.ext m1113
    clear hv hD ru m8 dr due8 l8 hv8 hD8 ru8 S8 x9' S9 T9 x10' S10 T10 T810 hv10 dr10 hD10 ru10 m11 hv11 hD11 ru11 S11 dom m12 hv12 dom12 m13 m1113
    obtain ⟨oa, ous, rfl, hO, hous⟩ := dv_mks dom13
    refine ⟨_, rfl, .inl ⟨rfl, _, SqL.of hD13⟩, _, rfl, rfl, _, rfl, by show 2 ≤ sizeLine; decide, fun T hT => ?_⟩
    try rw [show (decide (V.int w ≠ V.int 1)) = (!decide (V.int w = V.int 1)) by simp] at hT ⊢
    generalize (!decide (V.int w = V.int 1)) = bb at dueJ hT ⊢
    have nT := same_new (o := HO.tup [V.bl bb, V.ref oa]) hT
    have hD14 := nT _ _ hD13
    have hT14 : (upd H13 T (.tup [V.bl bb, V.ref oa])) T = some (.tup [V.bl bb, V.ref oa]) := upd_same
    have T14 := TK.same (K := K) nT
    have S14 := S13.ext nT
    generalize upd H13 T (.tup [V.bl bb, V.ref oa]) = H14 at hD14 hT14 T14 S14 ⊢
    have T15 : TK K H14 (upd H14 D0 (.lst (us ++ [V.ref T]))) := tk_put hD14
    have ul := ru13.len
    refine ⟨D0, us, _, rfl, rfl, hD14, big (by omega), ?_⟩
    have T1315 := T14.trans T15
    have ru15 : RL (DeAt K (upd H14 D0 (.lst (us ++ [V.ref T])))) (ds ++ [(bb, om)]) (us ++ [.ref T]) := (ru13.mono (DeAt.tk T1315)).snoc ⟨T, _, rfl, T15 _ _ (SqT.of hT14), dom13.tk T1315⟩
    have dom15 := dom13.tk T1315
    have hv15 := hv13.tk T1315
    have S15 := src_put (o := .lst (us ++ [V.ref T])) S14 Ds De
    have hD15 : (upd H14 D0 (.lst (us ++ [V.ref T]))) D0 = some (.lst (us ++ [V.ref T])) := upd_same
    generalize upd H14 D0 (.lst (us ++ [V.ref T])) = H15 at ru15 dom15 hv15 S15 hD15 ⊢
    clear hT hT14 hD14 T14 T15 T1315 nT S14 hD13 ru13 dom13 hv13 S13 hO hous
    have okJ : DsOk (ds ++ [(bb, om)]) := ds_snoc ok gom
    have totJ : tot (ds ++ [(bb, om)]) = tot ds + om.length := tot_snoc _ _
    have lenJ : (ds ++ [((bb, om) : Deed)]).length = ds.length + 1 := List.length_append
    refine ⟨_, rfl, D0, ds ++ [(bb, om)], rfl, ⟨_, hD15, ru15⟩, okJ, by omega, fun r2 dm2 H16 m16 dr2 due16 l16 => ?_⟩
    have e16 := dueJ.one due16
    subst e16
    have hv16 := hv15.tk (TK.same m16)
    have dom16 := dom15.tk (TK.same m16)
    have ru16 := ru15.mono (DeAt.tk (TK.same m16))
    have hD16 := m16 _ _ hD15
    have S16 := S15.ext m16
    clear hv15 dom15 ru15 hD15 S15 m16
    obtain ⟨ra, rus, rfl, hR, hrus⟩ := dv_mks dr2
    obtain ⟨oa', ous', eo, hO, hous⟩ := dv_mks dom16
    cases eo
    have rl := hrus.map_len
    have ol := hous.map_len
    refine ⟨_, rfl, _, rfl, _, rfl, _, rfl, ra, oa, rus, ous', rfl, rfl, hR, hO, Nat.le_of_lt (big (by omega)), fun C H17 m17 hC => ?_⟩
    refine ⟨.ref C, m' ++ om, rfl, ⟨C, _, rfl, hC, ?_⟩, by rw [List.length_append]; omega, fun x hx => ?_, fun pl ps H18 m18 hpl hps => ?_⟩
    · rw [List.map_append]
      exact dv_app8 (hrus.tk (TK.same m17)) (hous.tk (TK.same m17))
    · rcases List.mem_append.mp hx with h | h
      · exact ((good_iff.mp due16.1).1 x h).1
      · exact ((good_iff.mp gom).1 x h).1
    have m1618 := m17.trans m18
    have T18 := TK.same (K := K) m1618
    refine ⟨v', .ref ra, m', pl, ps, rfl, hv16.tk T18, dr2.tk T18, ⟨due16.1, by omega⟩, by omega, hpl, (fun x hx => by have := (hps x hx).2; omega), fun H19 m19 => ⟨_, rfl, iteF ?_⟩⟩
    have m1619 := m1618.trans m19
    have hv19 := hv16.tk (TK.same m1619)
    have dr19 := dr2.tk (TK.same m1619)
    have ru19 := ru16.mono (DeAt.tk (TK.same m1619))
    have hD19 := m1619 _ _ hD16
    have S19 := S16.ext m1619
    have hR19 := m1619.tup hR
    have hrus19 := hrus.tk (TK.same m1619)
    clear hv16 dom16 ru16 hD16 S16 m17 m18 m19 m1618 m1619 hO hous hR hrus hC hpl hps T18 dr2
    refine ⟨_, rfl, by show 1 ≤ sizeLine; decide, fun L hL => ?_⟩
    have n1 := same_new (o := HO.lst [V.int 0]) hL
    refine ⟨_, rfl, ra, rfl, ⟨_, n1.tup hR19⟩, fun D hD => ?_⟩
    have qL : (upd H19 L (.lst [V.int 0])) L = some (.lst [V.int 0]) := upd_same
    refine lc_tup (K := K) (a := ra) (xs := rus) (fun i H' => H' D = some (.lst (vN ((m'.take i).map fun p => p.2))) ∧ Same (upd H19 L (.lst [V.int 0])) H') ⟨upd_same, same_new hD⟩ (fun i H' _ h => h.2.tup (n1.tup hR19)) ?_ ?_
    · rintro j x H' hj ⟨h1, h2⟩
      obtain ⟨p, hp, dx⟩ := hrus19.map_get hj
      have jl := (List.getElem?_eq_some_iff.mp hp).1
      obtain ⟨pc, rfl, hpc⟩ := dv_pr (dx.tk (TK.same (n1.trans h2)))
      refine ⟨rfl, _, rfl, pc, _, 1, _, rfl, rfl, hpc, atI_nat (j := 1) rfl, _, h1, by rw [List.length_map, List.length_map, List.length_take]; exact big (by omega), ?_, sput h2 hD⟩
      rw [upd_same, take_snoc hp, List.map_append]
      unfold vN
      rw [List.map_append]; rfl
    rintro H20 ⟨hD20, m20⟩
    rw [rl, List.take_length] at hD20
    have hL20 := m20 _ _ qL
    have m1920 := n1.trans m20
    refine ⟨L, D, [V.int 0], vN (m'.map fun p => p.2), rfl, rfl, hL20, hD20, Nat.le_of_lt (big (by rw [List.length_map, List.length_map]; show 1 + _ ≤ _; omega)), fun p hp => ?_⟩
    have np := same_new (o := HO.lst ([V.int 0] ++ vN (m'.map fun p => p.2))) hp
    have qp : (upd H20 p (.lst ([V.int 0] ++ vN (m'.map fun p => p.2)))) p = some (.lst ([V.int 0] ++ vN (m'.map fun p => p.2))) := upd_same
    have S20 := (S19.ext m1920)
    have ps := (src_free S20 hp).1
    have m2 := m1920.trans np
    have S21 := S20.ext np
    generalize upd H20 p (.lst ([V.int 0] ++ vN (m'.map fun p => p.2))) = H21 at qp m2 S21 ⊢
    refine .inl ⟨s, e, p, _, 17000 - 1000 * (i + 1), rfl, SqL.of qp, ps, (fun z => by cases z), by rw [List.length_append, List.length_map, List.length_map]; show 1 + _ ≤ _; omega, S21.mono (by omega), fun v2 H22 hv2 x22 S22 => ?_⟩
    obtain ⟨n2, rfl, hn2⟩ : ∃ n2 : Nat, v2 = .int (n2 : Int) ∧ n2 ≤ 999999 := by
      rcases List.mem_append.mp hv2 with h | h
      · rw [List.mem_singleton.mp h]; exact ⟨0, rfl, by decide⟩
      · obtain ⟨n2, hn, rfl⟩ := List.mem_map.mp h
        obtain ⟨x, hx, rfl⟩ := List.mem_map.mp hn
        exact ⟨x.2, rfl, ((good_iff.mp due16.1).1 x hx).2.2⟩
    have T22 := (TK.same (K := K) m2).trans (TK.ext (K := K) x22 S21)
    exact ⟨v', m', _, _, n2, _, _, _, _, rfl, hv19.tk T22, due16, by omega, x22 _ _ Ds (m2 _ _ hD19), ru19.mono (DeAt.tk T22), okJ, by omega, by omega, hn2, S22⟩
end

end Z
namespace Z
open PySem L2 SX
set_option maxHeartbeats 0 in
theorem all_mk {l : PySem.W.OpenLaw} {w : World} {K : PySem.W.Frag} {h : Heap} {mg : Str → Option Value} {fa : Addr} (X : K.In h) (G : h.Ns mainGlobals mg) (hfa : mg "law" = some (.ref fa))
    {f0 : Addr} {od0 an0 : Option Addr} {sl0 : Array (Option Value)} {oc0 kV0 dc0 pm0 cd0 ct0 : Value}
    {f1 : Addr} {od1 an1 : Option Addr} {sl1 : Array (Option Value)} {oc1 kV1 dc1 pm1 cd1 ct1 : Value}
    {f2 : Addr} {od2 an2 : Option Addr} {sl2 : Array (Option Value)} {oc2 kV2 dc2 pm2 cd2 ct2 : Value}
    {f3 : Addr} {od3 an3 : Option Addr} {sl3 : Array (Option Value)} {oc3 kV3 dc3 pm3 cd3 ct3 : Value}
    {f4 : Addr} {od4 an4 : Option Addr} {sl4 : Array (Option Value)} {oc4 kV4 dc4 pm4 cd4 ct4 : Value}
    {f5 : Addr} {od5 an5 : Option Addr} {sl5 : Array (Option Value)} {oc5 kV5 dc5 pm5 cd5 ct5 : Value}
    {f6 : Addr} {od6 an6 : Option Addr} {sl6 : Array (Option Value)} {oc6 kV6 dc6 pm6 cd6 ct6 : Value}
    {f7 : Addr} {od7 an7 : Option Addr} {sl7 : Array (Option Value)} {oc7 kV7 dc7 pm7 cd7 ct7 : Value}
    {f8 : Addr} {od8 an8 : Option Addr} {sl8 : Array (Option Value)} {oc8 kV8 dc8 pm8 cd8 ct8 : Value}
    {f9 : Addr} {od9 an9 : Option Addr} {sl9 : Array (Option Value)} {oc9 kV9 dc9 pm9 cd9 ct9 : Value}
    {f10 : Addr} {od10 an10 : Option Addr} {sl10 : Array (Option Value)} {oc10 kV10 dc10 pm10 cd10 ct10 : Value}
    {f11 : Addr} {od11 an11 : Option Addr} {sl11 : Array (Option Value)} {oc11 kV11 dc11 pm11 cd11 ct11 : Value}
    {f12 : Addr} {od12 an12 : Option Addr} {sl12 : Array (Option Value)} {oc12 kV12 dc12 pm12 cd12 ct12 : Value}
    {f13 : Addr} {od13 an13 : Option Addr} {sl13 : Array (Option Value)} {oc13 kV13 dc13 pm13 cd13 ct13 : Value}
    {f14 : Addr} {od14 an14 : Option Addr} {sl14 : Array (Option Value)} {oc14 kV14 dc14 pm14 cd14 ct14 : Value}
    {f15 : Addr} {od15 an15 : Option Addr} {sl15 : Array (Option Value)} {oc15 kV15 dc15 pm15 cd15 ct15 : Value}
    {f16 : Addr} {od16 an16 : Option Addr} {sl16 : Array (Option Value)} {oc16 kV16 dc16 pm16 cd16 ct16 : Value}
    {f17 : Addr} {od17 an17 : Option Addr} {sl17 : Array (Option Value)} {oc17 kV17 dc17 pm17 cd17 ct17 : Value}
    {f18 : Addr} {od18 an18 : Option Addr} {sl18 : Array (Option Value)} {oc18 kV18 dc18 pm18 cd18 ct18 : Value}
    {f19 : Addr} {od19 an19 : Option Addr} {sl19 : Array (Option Value)} {oc19 kV19 dc19 pm19 cd19 ct19 : Value}
    {f20 : Addr} {od20 an20 : Option Addr} {sl20 : Array (Option Value)} {oc20 kV20 dc20 pm20 cd20 ct20 : Value}
    {f21 : Addr} {od21 an21 : Option Addr} {sl21 : Array (Option Value)} {oc21 kV21 dc21 pm21 cd21 ct21 : Value}
    {f22 : Addr} {od22 an22 : Option Addr} {sl22 : Array (Option Value)} {oc22 kV22 dc22 pm22 cd22 ct22 : Value}
    {f23 : Addr} {od23 an23 : Option Addr} {sl23 : Array (Option Value)} {oc23 kV23 dc23 pm23 cd23 ct23 : Value}
    {f24 : Addr} {od24 an24 : Option Addr} {sl24 : Array (Option Value)} {oc24 kV24 dc24 pm24 cd24 ct24 : Value}
    {f25 : Addr} {od25 an25 : Option Addr} {sl25 : Array (Option Value)} {oc25 kV25 dc25 pm25 cd25 ct25 : Value}
    {f26 : Addr} {od26 an26 : Option Addr} {sl26 : Array (Option Value)} {oc26 kV26 dc26 pm26 cd26 ct26 : Value}
    {f27 : Addr} {od27 an27 : Option Addr} {sl27 : Array (Option Value)} {oc27 kV27 dc27 pm27 cd27 ct27 : Value}
    {f28 : Addr} {od28 an28 : Option Addr} {sl28 : Array (Option Value)} {oc28 kV28 dc28 pm28 cd28 ct28 : Value}
    {f29 : Addr} {od29 an29 : Option Addr} {sl29 : Array (Option Value)} {oc29 kV29 dc29 pm29 cd29 ct29 : Value}
    {f30 : Addr} {od30 an30 : Option Addr} {sl30 : Array (Option Value)} {oc30 kV30 dc30 pm30 cd30 ct30 : Value}
    {f31 : Addr} {od31 an31 : Option Addr} {sl31 : Array (Option Value)} {oc31 kV31 dc31 pm31 cd31 ct31 : Value}
    {f32 : Addr} {od32 an32 : Option Addr} {sl32 : Array (Option Value)} {oc32 kV32 dc32 pm32 cd32 ct32 : Value}
    {f33 : Addr} {od33 an33 : Option Addr} {sl33 : Array (Option Value)} {oc33 kV33 dc33 pm33 cd33 ct33 : Value}
    {A_MarksReader : Addr}
    {A_MootError A_TextError A_BadMarks : Addr}
    {nm_BadMarks q_BadMarks : Str} {N_BadMarks fI_BadMarks : Addr} {bs_BadMarks bm_BadMarks : List Value} {sn_BadMarks : List Str} {sub_BadMarks : List Value} {ab_BadMarks : Bool} {col_BadMarks : Option Bool} {dd_BadMarks : Option Addr} {m0_BadMarks m1_BadMarks m2_BadMarks m3_BadMarks m5_BadMarks : Option Value} {oI_BadMarks kI0_BadMarks dI_BadMarks pI_BadMarks cdI_BadMarks ctI_BadMarks : Value} {odI_BadMarks anI_BadMarks : Option Addr} {slI_BadMarks : Array (Option Value)}
    (oG_MarksReader : PySem.W.nsIn K mainGlobals "MarksReader" = some (some (.ref A_MarksReader)))
    (oP_MarksReader : PySem.W.plainGet K A_MarksReader Str.empty = true)
    (oD_MarksReader : PySem.W.hasDictIn K A_MarksReader = true)
    (oO_MarksReader : PySem.W.plainOver K A_MarksReader = true)
    (oS_MarksReader : PySem.W.findIn K (.ref A_MarksReader) "__setattr__" = some (some (.builtin "object.__setattr__")))
    (oM_MarksReader : PySem.W.makesIn K A_MarksReader = true)
    (oK_MarksReader : PySem.W.keepIn K (.ref A_MarksReader) = true)
    (oN_MarksReader_marks : PySem.W.findIn K (.ref A_MarksReader) "marks" = some none)
    (oN_MarksReader_least : PySem.W.findIn K (.ref A_MarksReader) "least" = some none)
    (oN_MarksReader_digits : PySem.W.findIn K (.ref A_MarksReader) "digits" = some none)
    (oN_MarksReader_first : PySem.W.findIn K (.ref A_MarksReader) "first" = some none)
    (a0 : PySem.W.nsIn K mainGlobals "greatest_of" = some (some (.ref f0))) (l0 : K.lookup f0 = some ⟨oc0, od0, .func (PySem.W.fnOf "greatest_of" "greatest_of" (defArgs s_greatest_of) (defBody s_greatest_of) (defScope s_greatest_of) .none kV0 dc0 pm0 an0 cd0 ct0), sl0⟩) (c0 : PySem.W.codeIn K cd0 "greatest_of" = true) (k0 : PySem.W.keepIn K (.ref f0) = true)
    (a1 : PySem.W.findIn K (.ref A_MarksReader) "__init__" = some (some (.ref f1)))
    (i1 : PySem.W.isFn K (.ref f1) = true)
    (l1 : K.lookup f1 = some ⟨oc1, od1, .func (PySem.W.fnOf "__init__" "MarksReader.__init__" (defArgs s_MarksReader____init__) (defBody s_MarksReader____init__) (defScope s_MarksReader____init__) .none kV1 dc1 pm1 an1 cd1 ct1), sl1⟩)
    (c1 : PySem.W.codeIn K cd1 "MarksReader.__init__" = true)
    (k1 : PySem.W.keepIn K (.ref f1) = true)
    (a2 : PySem.W.findIn K (.ref A_MarksReader) "may_stand" = some (some (.ref f2)))
    (i2 : PySem.W.isFn K (.ref f2) = true)
    (l2 : K.lookup f2 = some ⟨oc2, od2, .func (PySem.W.fnOf "may_stand" "MarksReader.may_stand" (defArgs s_MarksReader__may_stand) (defBody s_MarksReader__may_stand) (defScope s_MarksReader__may_stand) .none kV2 dc2 pm2 an2 cd2 ct2), sl2⟩)
    (c2 : PySem.W.codeIn K cd2 "MarksReader.may_stand" = true)
    (k2 : PySem.W.keepIn K (.ref f2) = true)
    (a3 : PySem.W.findIn K (.ref A_MarksReader) "is_number" = some (some (.ref f3)))
    (i3 : PySem.W.isFn K (.ref f3) = true)
    (l3 : K.lookup f3 = some ⟨oc3, od3, .func (PySem.W.fnOf "is_number" "MarksReader.is_number" (defArgs s_MarksReader__is_number) (defBody s_MarksReader__is_number) (defScope s_MarksReader__is_number) .none kV3 dc3 pm3 an3 cd3 ct3), sl3⟩)
    (c3 : PySem.W.codeIn K cd3 "MarksReader.is_number" = true)
    (k3 : PySem.W.keepIn K (.ref f3) = true)
    (a4 : PySem.W.findIn K (.ref A_MarksReader) "read_sign" = some (some (.ref f4)))
    (i4 : PySem.W.isFn K (.ref f4) = true)
    (l4 : K.lookup f4 = some ⟨oc4, od4, .func (PySem.W.fnOf "read_sign" "MarksReader.read_sign" (defArgs s_MarksReader__read_sign) (defBody s_MarksReader__read_sign) (defScope s_MarksReader__read_sign) .none kV4 dc4 pm4 an4 cd4 ct4), sl4⟩)
    (c4 : PySem.W.codeIn K cd4 "MarksReader.read_sign" = true)
    (k4 : PySem.W.keepIn K (.ref f4) = true)
    (a5 : PySem.W.findIn K (.ref A_MarksReader) "end_range" = some (some (.ref f5)))
    (i5 : PySem.W.isFn K (.ref f5) = true)
    (l5 : K.lookup f5 = some ⟨oc5, od5, .func (PySem.W.fnOf "end_range" "MarksReader.end_range" (defArgs s_MarksReader__end_range) (defBody s_MarksReader__end_range) (defScope s_MarksReader__end_range) .none kV5 dc5 pm5 an5 cd5 ct5), sl5⟩)
    (c5 : PySem.W.codeIn K cd5 "MarksReader.end_range" = true)
    (k5 : PySem.W.keepIn K (.ref f5) = true)
    (a6 : PySem.W.nsIn K mainGlobals "read_marks" = some (some (.ref f6))) (l6 : K.lookup f6 = some ⟨oc6, od6, .func (PySem.W.fnOf "read_marks" "read_marks" (defArgs s_read_marks) (defBody s_read_marks) (defScope s_read_marks) .none kV6 dc6 pm6 an6 cd6 ct6), sl6⟩) (c6 : PySem.W.codeIn K cd6 "read_marks" = true) (k6 : PySem.W.keepIn K (.ref f6) = true)
    (a7 : PySem.W.nsIn K mainGlobals "range_text" = some (some (.ref f7))) (l7 : K.lookup f7 = some ⟨oc7, od7, .func (PySem.W.fnOf "range_text" "range_text" (defArgs s_range_text) (defBody s_range_text) (defScope s_range_text) .none kV7 dc7 pm7 an7 cd7 ct7), sl7⟩) (c7 : PySem.W.codeIn K cd7 "range_text" = true) (k7 : PySem.W.keepIn K (.ref f7) = true)
    (a8 : PySem.W.nsIn K mainGlobals "write_marks" = some (some (.ref f8))) (l8 : K.lookup f8 = some ⟨oc8, od8, .func (PySem.W.fnOf "write_marks" "write_marks" (defArgs s_write_marks) (defBody s_write_marks) (defScope s_write_marks) .none kV8 dc8 pm8 an8 cd8 ct8), sl8⟩) (c8 : PySem.W.codeIn K cd8 "write_marks" = true) (k8 : PySem.W.keepIn K (.ref f8) = true)
    (a9 : PySem.W.nsIn K mainGlobals "joined_marks" = some (some (.ref f9))) (l9 : K.lookup f9 = some ⟨oc9, od9, .func (PySem.W.fnOf "joined_marks" "joined_marks" (defArgs s_joined_marks) (defBody s_joined_marks) (defScope s_joined_marks) .none kV9 dc9 pm9 an9 cd9 ct9), sl9⟩) (c9 : PySem.W.codeIn K cd9 "joined_marks" = true) (k9 : PySem.W.keepIn K (.ref f9) = true)
    (a10 : PySem.W.nsIn K mainGlobals "range_without" = some (some (.ref f10))) (l10 : K.lookup f10 = some ⟨oc10, od10, .func (PySem.W.fnOf "range_without" "range_without" (defArgs s_range_without) (defBody s_range_without) (defScope s_range_without) .none kV10 dc10 pm10 an10 cd10 ct10), sl10⟩) (c10 : PySem.W.codeIn K cd10 "range_without" = true) (k10 : PySem.W.keepIn K (.ref f10) = true)
    (a11 : PySem.W.nsIn K mainGlobals "marks_without" = some (some (.ref f11))) (l11 : K.lookup f11 = some ⟨oc11, od11, .func (PySem.W.fnOf "marks_without" "marks_without" (defArgs s_marks_without) (defBody s_marks_without) (defScope s_marks_without) .none kV11 dc11 pm11 an11 cd11 ct11), sl11⟩) (c11 : PySem.W.codeIn K cd11 "marks_without" = true) (k11 : PySem.W.keepIn K (.ref f11) = true)
    (a12 : PySem.W.nsIn K mainGlobals "range_of" = some (some (.ref f12))) (l12 : K.lookup f12 = some ⟨oc12, od12, .func (PySem.W.fnOf "range_of" "range_of" (defArgs s_range_of) (defBody s_range_of) (defScope s_range_of) .none kV12 dc12 pm12 an12 cd12 ct12), sl12⟩) (c12 : PySem.W.codeIn K cd12 "range_of" = true) (k12 : PySem.W.keepIn K (.ref f12) = true)
    (a13 : PySem.W.nsIn K mainGlobals "marked" = some (some (.ref f13))) (l13 : K.lookup f13 = some ⟨oc13, od13, .func (PySem.W.fnOf "marked" "marked" (defArgs s_marked) (defBody s_marked) (defScope s_marked) .none kV13 dc13 pm13 an13 cd13 ct13), sl13⟩) (c13 : PySem.W.codeIn K cd13 "marked" = true) (k13 : PySem.W.keepIn K (.ref f13) = true)
    (a14 : PySem.W.nsIn K mainGlobals "next_new" = some (some (.ref f14))) (l14 : K.lookup f14 = some ⟨oc14, od14, .func (PySem.W.fnOf "next_new" "next_new" (defArgs s_next_new) (defBody s_next_new) (defScope s_next_new) .none kV14 dc14 pm14 an14 cd14 ct14), sl14⟩) (c14 : PySem.W.codeIn K cd14 "next_new" = true) (k14 : PySem.W.keepIn K (.ref f14) = true)
    (a15 : PySem.W.nsIn K mainGlobals "_law_mix" = some (some (.ref f15))) (l15 : K.lookup f15 = some ⟨oc15, od15, .func (PySem.W.fnOf "_law_mix" "_law_mix" (defArgs s__law_mix) (defBody s__law_mix) (defScope s__law_mix) .none kV15 dc15 pm15 an15 cd15 ct15), sl15⟩) (c15 : PySem.W.codeIn K cd15 "_law_mix" = true) (k15 : PySem.W.keepIn K (.ref f15) = true)
    (a16 : PySem.W.nsIn K mainGlobals "_law_source" = some (some (.ref f16))) (l16 : K.lookup f16 = some ⟨oc16, od16, .func (PySem.W.fnOf "_law_source" "_law_source" (defArgs s__law_source) (defBody s__law_source) (defScope s__law_source) .none kV16 dc16 pm16 an16 cd16 ct16), sl16⟩) (c16 : PySem.W.codeIn K cd16 "_law_source" = true) (k16 : PySem.W.keepIn K (.ref f16) = true)
    (a17 : PySem.W.nsIn K mainGlobals "_law_draw" = some (some (.ref f17))) (l17 : K.lookup f17 = some ⟨oc17, od17, .func (PySem.W.fnOf "_law_draw" "_law_draw" (defArgs s__law_draw) (defBody s__law_draw) (defScope s__law_draw) .none kV17 dc17 pm17 an17 cd17 ct17), sl17⟩) (c17 : PySem.W.codeIn K cd17 "_law_draw" = true) (k17 : PySem.W.keepIn K (.ref f17) = true)
    (a18 : PySem.W.nsIn K mainGlobals "_law_pick" = some (some (.ref f18))) (l18 : K.lookup f18 = some ⟨oc18, od18, .func (PySem.W.fnOf "_law_pick" "_law_pick" (defArgs s__law_pick) (defBody s__law_pick) (defScope s__law_pick) .none kV18 dc18 pm18 an18 cd18 ct18), sl18⟩) (c18 : PySem.W.codeIn K cd18 "_law_pick" = true) (k18 : PySem.W.keepIn K (.ref f18) = true)
    (a19 : PySem.W.nsIn K mainGlobals "_law_is_int" = some (some (.ref f19))) (l19 : K.lookup f19 = some ⟨oc19, od19, .func (PySem.W.fnOf "_law_is_int" "_law_is_int" (defArgs s__law_is_int) (defBody s__law_is_int) (defScope s__law_is_int) .none kV19 dc19 pm19 an19 cd19 ct19), sl19⟩) (c19 : PySem.W.codeIn K cd19 "_law_is_int" = true) (k19 : PySem.W.keepIn K (.ref f19) = true)
    (a20 : PySem.W.nsIn K mainGlobals "_law_same" = some (some (.ref f20))) (l20 : K.lookup f20 = some ⟨oc20, od20, .func (PySem.W.fnOf "_law_same" "_law_same" (defArgs s__law_same) (defBody s__law_same) (defScope s__law_same) .none kV20 dc20 pm20 an20 cd20 ct20), sl20⟩) (c20 : PySem.W.codeIn K cd20 "_law_same" = true) (k20 : PySem.W.keepIn K (.ref f20) = true)
    (a21 : PySem.W.nsIn K mainGlobals "_law_ranges" = some (some (.ref f21))) (l21 : K.lookup f21 = some ⟨oc21, od21, .func (PySem.W.fnOf "_law_ranges" "_law_ranges" (defArgs s__law_ranges) (defBody s__law_ranges) (defScope s__law_ranges) .none kV21 dc21 pm21 an21 cd21 ct21), sl21⟩) (c21 : PySem.W.codeIn K cd21 "_law_ranges" = true) (k21 : PySem.W.keepIn K (.ref f21) = true)
    (a22 : PySem.W.nsIn K mainGlobals "_law_other" = some (some (.ref f22))) (l22 : K.lookup f22 = some ⟨oc22, od22, .func (PySem.W.fnOf "_law_other" "_law_other" (defArgs s__law_other) (defBody s__law_other) (defScope s__law_other) .none kV22 dc22 pm22 an22 cd22 ct22), sl22⟩) (c22 : PySem.W.codeIn K cd22 "_law_other" = true) (k22 : PySem.W.keepIn K (.ref f22) = true)
    (a23 : PySem.W.nsIn K mainGlobals "_law_in" = some (some (.ref f23))) (l23 : K.lookup f23 = some ⟨oc23, od23, .func (PySem.W.fnOf "_law_in" "_law_in" (defArgs s__law_in) (defBody s__law_in) (defScope s__law_in) .none kV23 dc23 pm23 an23 cd23 ct23), sl23⟩) (c23 : PySem.W.codeIn K cd23 "_law_in" = true) (k23 : PySem.W.keepIn K (.ref f23) = true)
    (a24 : PySem.W.nsIn K mainGlobals "_law_left" = some (some (.ref f24))) (l24 : K.lookup f24 = some ⟨oc24, od24, .func (PySem.W.fnOf "_law_left" "_law_left" (defArgs s__law_left) (defBody s__law_left) (defScope s__law_left) .none kV24 dc24 pm24 an24 cd24 ct24), sl24⟩) (c24 : PySem.W.codeIn K cd24 "_law_left" = true) (k24 : PySem.W.keepIn K (.ref f24) = true)
    (a25 : PySem.W.nsIn K mainGlobals "_law_due" = some (some (.ref f25))) (l25 : K.lookup f25 = some ⟨oc25, od25, .func (PySem.W.fnOf "_law_due" "_law_due" (defArgs s__law_due) (defBody s__law_due) (defScope s__law_due) .none kV25 dc25 pm25 an25 cd25 ct25), sl25⟩) (c25 : PySem.W.codeIn K cd25 "_law_due" = true) (k25 : PySem.W.keepIn K (.ref f25) = true)
    (a26 : PySem.W.nsIn K mainGlobals "_law_next" = some (some (.ref f26))) (l26 : K.lookup f26 = some ⟨oc26, od26, .func (PySem.W.fnOf "_law_next" "_law_next" (defArgs s__law_next) (defBody s__law_next) (defScope s__law_next) .none kV26 dc26 pm26 an26 cd26 ct26), sl26⟩) (c26 : PySem.W.codeIn K cd26 "_law_next" = true) (k26 : PySem.W.keepIn K (.ref f26) = true)
    (a27 : PySem.W.nsIn K mainGlobals "_law_text" = some (some (.ref f27))) (l27 : K.lookup f27 = some ⟨oc27, od27, .func (PySem.W.fnOf "_law_text" "_law_text" (defArgs s__law_text) (defBody s__law_text) (defScope s__law_text) .none kV27 dc27 pm27 an27 cd27 ct27), sl27⟩) (c27 : PySem.W.codeIn K cd27 "_law_text" = true) (k27 : PySem.W.keepIn K (.ref f27) = true)
    (a28 : PySem.W.nsIn K mainGlobals "_law_points" = some (some (.ref f28))) (l28 : K.lookup f28 = some ⟨oc28, od28, .func (PySem.W.fnOf "_law_points" "_law_points" (defArgs s__law_points) (defBody s__law_points) (defScope s__law_points) .none kV28 dc28 pm28 an28 cd28 ct28), sl28⟩) (c28 : PySem.W.codeIn K cd28 "_law_points" = true) (k28 : PySem.W.keepIn K (.ref f28) = true)
    (a29 : PySem.W.nsIn K mainGlobals "_law_asked" = some (some (.ref f29))) (l29 : K.lookup f29 = some ⟨oc29, od29, .func (PySem.W.fnOf "_law_asked" "_law_asked" (defArgs s__law_asked) (defBody s__law_asked) (defScope s__law_asked) .none kV29 dc29 pm29 an29 cd29 ct29), sl29⟩) (c29 : PySem.W.codeIn K cd29 "_law_asked" = true) (k29 : PySem.W.keepIn K (.ref f29) = true)
    (a30 : PySem.W.nsIn K mainGlobals "_law_both" = some (some (.ref f30))) (l30 : K.lookup f30 = some ⟨oc30, od30, .func (PySem.W.fnOf "_law_both" "_law_both" (defArgs s__law_both) (defBody s__law_both) (defScope s__law_both) .none kV30 dc30 pm30 an30 cd30 ct30), sl30⟩) (c30 : PySem.W.codeIn K cd30 "_law_both" = true) (k30 : PySem.W.keepIn K (.ref f30) = true)
    (a31 : PySem.W.nsIn K mainGlobals "_law_next_pair" = some (some (.ref f31))) (l31 : K.lookup f31 = some ⟨oc31, od31, .func (PySem.W.fnOf "_law_next_pair" "_law_next_pair" (defArgs s__law_next_pair) (defBody s__law_next_pair) (defScope s__law_next_pair) .none kV31 dc31 pm31 an31 cd31 ct31), sl31⟩) (c31 : PySem.W.codeIn K cd31 "_law_next_pair" = true) (k31 : PySem.W.keepIn K (.ref f31) = true)
    (a32 : PySem.W.nsIn K mainGlobals "_law_walked" = some (some (.ref f32))) (l32 : K.lookup f32 = some ⟨oc32, od32, .func (PySem.W.fnOf "_law_walked" "_law_walked" (defArgs s__law_walked) (defBody s__law_walked) (defScope s__law_walked) .none kV32 dc32 pm32 an32 cd32 ct32), sl32⟩) (c32 : PySem.W.codeIn K cd32 "_law_walked" = true) (k32 : PySem.W.keepIn K (.ref f32) = true)
    (a33 : PySem.W.nsIn K mainGlobals "law" = some (some (.ref f33))) (l33 : K.lookup f33 = some ⟨oc33, od33, .func (PySem.W.fnOf "law" "law" (defArgs s_law) (defBody s_law) (defScope s_law) .none kV33 dc33 pm33 an33 cd33 ct33), sl33⟩) (c33 : PySem.W.codeIn K cd33 "law" = true) (k33 : PySem.W.keepIn K (.ref f33) = true)
    (z_abs : PySem.W.nsIn K mainGlobals "abs" = some none)
    (z_bool : PySem.W.nsIn K mainGlobals "bool" = some none)
    (z_enumerate : PySem.W.nsIn K mainGlobals "enumerate" = some none)
    (z_int : PySem.W.nsIn K mainGlobals "int" = some none)
    (z_isinstance : PySem.W.nsIn K mainGlobals "isinstance" = some none)
    (z_len : PySem.W.nsIn K mainGlobals "len" = some none)
    (z_list : PySem.W.nsIn K mainGlobals "list" = some none)
    (z_max : PySem.W.nsIn K mainGlobals "max" = some none)
    (z_min : PySem.W.nsIn K mainGlobals "min" = some none)
    (z_range : PySem.W.nsIn K mainGlobals "range" = some none)
    (z_sorted : PySem.W.nsIn K mainGlobals "sorted" = some none)
    (z_str : PySem.W.nsIn K mainGlobals "str" = some none)
    (z_tuple : PySem.W.nsIn K mainGlobals "tuple" = some none)
    {t_DIGITS : Tok} (v_DIGITS : PySem.W.nsIn K mainGlobals "DIGITS" = some (some (.str ("0123456789") t_DIGITS)))
    {t_LAST_MARK : Tok} (v_LAST_MARK : PySem.W.nsIn K mainGlobals "LAST_MARK" = some (some (.int 999999 t_LAST_MARK)))
    {t_MOST_DIGITS : Tok} (v_MOST_DIGITS : PySem.W.nsIn K mainGlobals "MOST_DIGITS" = some (some (.int 6 t_MOST_DIGITS)))
    (aC_MootError : PySem.W.nsIn K mainGlobals "MootError" = some (some (.ref A_MootError)))
    (aC_TextError : PySem.W.nsIn K mainGlobals "TextError" = some (some (.ref A_TextError)))
    (aC_BadMarks : PySem.W.nsIn K mainGlobals "BadMarks" = some (some (.ref A_BadMarks)))
    (hn_ : PySem.W.specialIn K (.builtin "object.__class__") "__get__" = some (some (.builtin "getset_descriptor.__get__")))
    (ht_ : PySem.W.takesIn K (.builtin "object.__class__") = some true)
    (xL_BadMarks : K.lookup A_BadMarks = some (excClassObj nm_BadMarks q_BadMarks A_BadMarks N_BadMarks bs_BadMarks bm_BadMarks true sn_BadMarks sub_BadMarks ab_BadMarks col_BadMarks dd_BadMarks m0_BadMarks m1_BadMarks m2_BadMarks m3_BadMarks m5_BadMarks "ValueError.__new__"))
    (rb_BadMarks : PySem.HandSPX.refsVE bm_BadMarks = true)
    (sa_BadMarks : PySem.W.findIn K (.ref A_BadMarks) "__setattr__" = some (some (.builtin "object.__setattr__")))
    (ex_BadMarks : PySem.W.subIn K (.ref A_BadMarks) (.type "BaseException") = some true)
    (ty_BadMarks : PySem.W.typeIn K (.ref A_BadMarks) = some (.type "type"))
    (kC_BadMarks : PySem.W.keepIn K (.ref A_BadMarks) = true)
    (hg_BadMarks : PySem.W.findIn K (.ref A_BadMarks) "__getattribute__" = some (some (.builtin "BaseException.__getattribute__")))
    (hk_BadMarks : PySem.W.findIn K (.ref A_BadMarks) "__getattr__" = some none)
    (hd_BadMarks : PySem.W.hasDictIn K A_BadMarks = true)
    (ha_BadMarks : PySem.W.findIn K (.ref A_BadMarks) "__class__" = some (some (.builtin "object.__class__")))
    (hm_BadMarks : PySem.W.mroIn K A_BadMarks (.type "object") = some true)
    (nf_BadMarks_at : PySem.W.findIn K (.ref A_BadMarks) "at" = some none)
    (iC_BadMarks : PySem.W.findIn K (.ref A_BadMarks) "__init__" = some (some (.ref fI_BadMarks)))
    (tI_BadMarks : PySem.W.typeIn K (.ref fI_BadMarks) = some (.type "function"))
    (lI_BadMarks : K.lookup fI_BadMarks = some ⟨oI_BadMarks, odI_BadMarks, .func (PySem.W.fnOf "__init__" "BadMarks.__init__" (defArgs s_init_BadMarks) (defBody s_init_BadMarks) (defScope s_init_BadMarks) .none kI0_BadMarks dI_BadMarks pI_BadMarks anI_BadMarks cdI_BadMarks ctI_BadMarks), slI_BadMarks⟩)
    (cI_BadMarks : PySem.W.codeIn K cdI_BadMarks "BadMarks.__init__" = true)
    (kF_BadMarks : PySem.W.keepIn K (.ref fI_BadMarks) = true) :
    ∃ fd : FuncData, (∀ (s : Shared) (v : Value), BindsTo s fd ⟨[v], []⟩ [("script", v)]) ∧ ∀ base : Heap, K.In base → base.Ns mainGlobals mg → FnOk l.prog w K mg base CX0 7 fa fd ["script"] (sp_law K) := by
  have e := hfa.symm.trans (PySem.W.mg_of X G a33)
  cases e
  have T : Tx mg := ⟨PySem.W.mg_none_of X G z_abs, PySem.W.mg_none_of X G z_bool, PySem.W.mg_none_of X G z_enumerate, PySem.W.mg_none_of X G z_int, PySem.W.mg_none_of X G z_isinstance, PySem.W.mg_none_of X G z_len, PySem.W.mg_none_of X G z_list, PySem.W.mg_none_of X G z_max, PySem.W.mg_none_of X G z_min, PySem.W.mg_none_of X G z_range, PySem.W.mg_none_of X G z_sorted, PySem.W.mg_none_of X G z_str, PySem.W.mg_none_of X G z_tuple, ⟨_, PySem.W.mg_of X G v_DIGITS⟩, ⟨_, PySem.W.mg_of X G v_LAST_MARK⟩, ⟨_, PySem.W.mg_of X G v_MOST_DIGITS⟩⟩
  refine ⟨PySem.W.fnOf "law" "law" (defArgs s_law) (defBody s_law) (defScope s_law) .none kV33 dc33 pm33 an33 cd33 ct33, fun s v => .of_eq rfl, fun base _ _ => ?_⟩
  have D_greatest_of : Df K mg "greatest_of" s_greatest_of ["digits"] := ⟨f0, _, fun_mk (st := s_greatest_of) l0 c0 k0, PySem.W.mg_of X G a0, (fun_mk (st := s_greatest_of) l0 c0 k0).binds (ps := ["digits"]) fun _ _ _ _ _ _ us hl => match us, hl with | [_], _ => rfl⟩
  have D_MarksReader____init__ : DfI K A_MarksReader "MarksReader.__init__" s_MarksReader____init__ ["self"] := ⟨f1, _, fun_mk (st := s_MarksReader____init__) l1 c1 k1, ⟨oM_MarksReader, a1, i1, oK_MarksReader⟩, (fun_mk (st := s_MarksReader____init__) l1 c1 k1).binds (ps := ["self"]) fun _ _ _ _ _ _ us hl => match us, hl with | [_], _ => rfl⟩
  have D_MarksReader__may_stand : DfM K A_MarksReader "may_stand" "MarksReader.may_stand" s_MarksReader__may_stand ["self", "sign"] := ⟨f2, _, fun_mk (st := s_MarksReader__may_stand) l2 c2 k2, ⟨a2, i2, k2⟩, (fun_mk (st := s_MarksReader__may_stand) l2 c2 k2).binds (ps := ["self", "sign"]) fun _ _ _ _ _ _ us hl => match us, hl with | [_, _], _ => rfl⟩
  have D_MarksReader__is_number : DfM K A_MarksReader "is_number" "MarksReader.is_number" s_MarksReader__is_number ["self"] := ⟨f3, _, fun_mk (st := s_MarksReader__is_number) l3 c3 k3, ⟨a3, i3, k3⟩, (fun_mk (st := s_MarksReader__is_number) l3 c3 k3).binds (ps := ["self"]) fun _ _ _ _ _ _ us hl => match us, hl with | [_], _ => rfl⟩
  have D_MarksReader__read_sign : DfM K A_MarksReader "read_sign" "MarksReader.read_sign" s_MarksReader__read_sign ["self", "sign"] := ⟨f4, _, fun_mk (st := s_MarksReader__read_sign) l4 c4 k4, ⟨a4, i4, k4⟩, (fun_mk (st := s_MarksReader__read_sign) l4 c4 k4).binds (ps := ["self", "sign"]) fun _ _ _ _ _ _ us hl => match us, hl with | [_, _], _ => rfl⟩
  have D_MarksReader__end_range : DfM K A_MarksReader "end_range" "MarksReader.end_range" s_MarksReader__end_range ["self"] := ⟨f5, _, fun_mk (st := s_MarksReader__end_range) l5 c5 k5, ⟨a5, i5, k5⟩, (fun_mk (st := s_MarksReader__end_range) l5 c5 k5).binds (ps := ["self"]) fun _ _ _ _ _ _ us hl => match us, hl with | [_], _ => rfl⟩
  have D_read_marks : Df K mg "read_marks" s_read_marks ["text"] := ⟨f6, _, fun_mk (st := s_read_marks) l6 c6 k6, PySem.W.mg_of X G a6, (fun_mk (st := s_read_marks) l6 c6 k6).binds (ps := ["text"]) fun _ _ _ _ _ _ us hl => match us, hl with | [_], _ => rfl⟩
  have D_range_text : Df K mg "range_text" s_range_text ["first", "last"] := ⟨f7, _, fun_mk (st := s_range_text) l7 c7 k7, PySem.W.mg_of X G a7, (fun_mk (st := s_range_text) l7 c7 k7).binds (ps := ["first", "last"]) fun _ _ _ _ _ _ us hl => match us, hl with | [_, _], _ => rfl⟩
  have D_write_marks : Df K mg "write_marks" s_write_marks ["marks"] := ⟨f8, _, fun_mk (st := s_write_marks) l8 c8 k8, PySem.W.mg_of X G a8, (fun_mk (st := s_write_marks) l8 c8 k8).binds (ps := ["marks"]) fun _ _ _ _ _ _ us hl => match us, hl with | [_], _ => rfl⟩
  have D_joined_marks : Df K mg "joined_marks" s_joined_marks ["marks", "other"] := ⟨f9, _, fun_mk (st := s_joined_marks) l9 c9 k9, PySem.W.mg_of X G a9, (fun_mk (st := s_joined_marks) l9 c9 k9).binds (ps := ["marks", "other"]) fun _ _ _ _ _ _ us hl => match us, hl with | [_, _], _ => rfl⟩
  have D_range_without : Df K mg "range_without" s_range_without ["first", "last", "other"] := ⟨f10, _, fun_mk (st := s_range_without) l10 c10 k10, PySem.W.mg_of X G a10, (fun_mk (st := s_range_without) l10 c10 k10).binds (ps := ["first", "last", "other"]) fun _ _ _ _ _ _ us hl => match us, hl with | [_, _, _], _ => rfl⟩
  have D_marks_without : Df K mg "marks_without" s_marks_without ["marks", "other"] := ⟨f11, _, fun_mk (st := s_marks_without) l11 c11 k11, PySem.W.mg_of X G a11, (fun_mk (st := s_marks_without) l11 c11 k11).binds (ps := ["marks", "other"]) fun _ _ _ _ _ _ us hl => match us, hl with | [_, _], _ => rfl⟩
  have D_range_of : Df K mg "range_of" s_range_of ["marks", "number"] := ⟨f12, _, fun_mk (st := s_range_of) l12 c12 k12, PySem.W.mg_of X G a12, (fun_mk (st := s_range_of) l12 c12 k12).binds (ps := ["marks", "number"]) fun _ _ _ _ _ _ us hl => match us, hl with | [_, _], _ => rfl⟩
  have D_marked : Df K mg "marked" s_marked ["marks", "number"] := ⟨f13, _, fun_mk (st := s_marked) l13 c13 k13, PySem.W.mg_of X G a13, (fun_mk (st := s_marked) l13 c13 k13).binds (ps := ["marks", "number"]) fun _ _ _ _ _ _ us hl => match us, hl with | [_, _], _ => rfl⟩
  have D_next_new : Df K mg "next_new" s_next_new ["marks", "number"] := ⟨f14, _, fun_mk (st := s_next_new) l14 c14 k14, PySem.W.mg_of X G a14, (fun_mk (st := s_next_new) l14 c14 k14).binds (ps := ["marks", "number"]) fun _ _ _ _ _ _ us hl => match us, hl with | [_, _], _ => rfl⟩
  have D__law_mix : Df K mg "_law_mix" s__law_mix ["seed", "turn"] := ⟨f15, _, fun_mk (st := s__law_mix) l15 c15 k15, PySem.W.mg_of X G a15, (fun_mk (st := s__law_mix) l15 c15 k15).binds (ps := ["seed", "turn"]) fun _ _ _ _ _ _ us hl => match us, hl with | [_, _], _ => rfl⟩
  have D__law_source : Df K mg "_law_source" s__law_source ["script"] := ⟨f16, _, fun_mk (st := s__law_source) l16 c16 k16, PySem.W.mg_of X G a16, (fun_mk (st := s__law_source) l16 c16 k16).binds (ps := ["script"]) fun _ _ _ _ _ _ us hl => match us, hl with | [_], _ => rfl⟩
  have D__law_draw : Df K mg "_law_draw" s__law_draw ["source", "many"] := ⟨f17, _, fun_mk (st := s__law_draw) l17 c17 k17, PySem.W.mg_of X G a17, (fun_mk (st := s__law_draw) l17 c17 k17).binds (ps := ["source", "many"]) fun _ _ _ _ _ _ us hl => match us, hl with | [_, _], _ => rfl⟩
  have D__law_pick : Df K mg "_law_pick" s__law_pick ["source", "row"] := ⟨f18, _, fun_mk (st := s__law_pick) l18 c18 k18, PySem.W.mg_of X G a18, (fun_mk (st := s__law_pick) l18 c18 k18).binds (ps := ["source", "row"]) fun _ _ _ _ _ _ us hl => match us, hl with | [_, _], _ => rfl⟩
  have D__law_is_int : Df K mg "_law_is_int" s__law_is_int ["value"] := ⟨f19, _, fun_mk (st := s__law_is_int) l19 c19 k19, PySem.W.mg_of X G a19, (fun_mk (st := s__law_is_int) l19 c19 k19).binds (ps := ["value"]) fun _ _ _ _ _ _ us hl => match us, hl with | [_], _ => rfl⟩
  have D__law_same : Df K mg "_law_same" s__law_same ["actual", "due"] := ⟨f20, _, fun_mk (st := s__law_same) l20 c20 k20, PySem.W.mg_of X G a20, (fun_mk (st := s__law_same) l20 c20 k20).binds (ps := ["actual", "due"]) fun _ _ _ _ _ _ us hl => match us, hl with | [_, _], _ => rfl⟩
  have D__law_ranges : Df K mg "_law_ranges" s__law_ranges ["source", "zone"] := ⟨f21, _, fun_mk (st := s__law_ranges) l21 c21 k21, PySem.W.mg_of X G a21, (fun_mk (st := s__law_ranges) l21 c21 k21).binds (ps := ["source", "zone"]) fun _ _ _ _ _ _ us hl => match us, hl with | [_, _], _ => rfl⟩
  have D__law_other : Df K mg "_law_other" s__law_other ["source", "zone", "top", "marks"] := ⟨f22, _, fun_mk (st := s__law_other) l22 c22 k22, PySem.W.mg_of X G a22, (fun_mk (st := s__law_other) l22 c22 k22).binds (ps := ["source", "zone", "top", "marks"]) fun _ _ _ _ _ _ us hl => match us, hl with | [_, _, _, _], _ => rfl⟩
  have D__law_in : Df K mg "_law_in" s__law_in ["marks", "number"] := ⟨f23, _, fun_mk (st := s__law_in) l23 c23 k23, PySem.W.mg_of X G a23, (fun_mk (st := s__law_in) l23 c23 k23).binds (ps := ["marks", "number"]) fun _ _ _ _ _ _ us hl => match us, hl with | [_, _], _ => rfl⟩
  have D__law_left : Df K mg "_law_left" s__law_left ["deeds", "number"] := ⟨f24, _, fun_mk (st := s__law_left) l24 c24 k24, PySem.W.mg_of X G a24, (fun_mk (st := s__law_left) l24 c24 k24).binds (ps := ["deeds", "number"]) fun _ _ _ _ _ _ us hl => match us, hl with | [_, _], _ => rfl⟩
  have D__law_due : Df K mg "_law_due" s__law_due ["deeds"] := ⟨f25, _, fun_mk (st := s__law_due) l25 c25 k25, PySem.W.mg_of X G a25, (fun_mk (st := s__law_due) l25 c25 k25).binds (ps := ["deeds"]) fun _ _ _ _ _ _ us hl => match us, hl with | [_], _ => rfl⟩
  have D__law_next : Df K mg "_law_next" s__law_next ["marks", "number"] := ⟨f26, _, fun_mk (st := s__law_next) l26 c26 k26, PySem.W.mg_of X G a26, (fun_mk (st := s__law_next) l26 c26 k26).binds (ps := ["marks", "number"]) fun _ _ _ _ _ _ us hl => match us, hl with | [_, _], _ => rfl⟩
  have D__law_text : Df K mg "_law_text" s__law_text ["marks"] := ⟨f27, _, fun_mk (st := s__law_text) l27 c27 k27, PySem.W.mg_of X G a27, (fun_mk (st := s__law_text) l27 c27 k27).binds (ps := ["marks"]) fun _ _ _ _ _ _ us hl => match us, hl with | [_], _ => rfl⟩
  have D__law_points : Df K mg "_law_points" s__law_points ["marks"] := ⟨f28, _, fun_mk (st := s__law_points) l28 c28 k28, PySem.W.mg_of X G a28, (fun_mk (st := s__law_points) l28 c28 k28).binds (ps := ["marks"]) fun _ _ _ _ _ _ us hl => match us, hl with | [_], _ => rfl⟩
  have D__law_asked : Df K mg "_law_asked" s__law_asked ["value", "due", "points"] := ⟨f29, _, fun_mk (st := s__law_asked) l29 c29 k29, PySem.W.mg_of X G a29, (fun_mk (st := s__law_asked) l29 c29 k29).binds (ps := ["value", "due", "points"]) fun _ _ _ _ _ _ us hl => match us, hl with | [_, _, _], _ => rfl⟩
  have D__law_both : Df K mg "_law_both" s__law_both ["value", "other", "deeds"] := ⟨f30, _, fun_mk (st := s__law_both) l30 c30 k30, PySem.W.mg_of X G a30, (fun_mk (st := s__law_both) l30 c30 k30).binds (ps := ["value", "other", "deeds"]) fun _ _ _ _ _ _ us hl => match us, hl with | [_, _, _], _ => rfl⟩
  have D__law_next_pair : Df K mg "_law_next_pair" s__law_next_pair ["value", "due", "number"] := ⟨f31, _, fun_mk (st := s__law_next_pair) l31 c31 k31, PySem.W.mg_of X G a31, (fun_mk (st := s__law_next_pair) l31 c31 k31).binds (ps := ["value", "due", "number"]) fun _ _ _ _ _ _ us hl => match us, hl with | [_, _, _], _ => rfl⟩
  have D__law_walked : Df K mg "_law_walked" s__law_walked ["source", "value", "deeds", "number"] := ⟨f32, _, fun_mk (st := s__law_walked) l32 c32 k32, PySem.W.mg_of X G a32, (fun_mk (st := s__law_walked) l32 c32 k32).binds (ps := ["source", "value", "deeds", "number"]) fun _ _ _ _ _ _ us hl => match us, hl with | [_, _, _, _], _ => rfl⟩
  have O : To K mg A_MarksReader := { g_MarksReader := PySem.W.mg_of X G oG_MarksReader, c_MarksReader := ⟨oP_MarksReader, oD_MarksReader, oO_MarksReader, oS_MarksReader⟩, n_MarksReader_marks := oN_MarksReader_marks, n_MarksReader_least := oN_MarksReader_least, n_MarksReader_digits := oN_MarksReader_digits, n_MarksReader_first := oN_MarksReader_first }
  have Y : Tc K mg A_MootError A_TextError A_BadMarks := { g_MootError := PySem.W.mg_of X G aC_MootError, g_TextError := PySem.W.mg_of X G aC_TextError, g_BadMarks := PySem.W.mg_of X G aC_BadMarks, e_BadMarks := ⟨PySem.W.mg_of X G aC_BadMarks, ⟨⟨nm_BadMarks, q_BadMarks, N_BadMarks, bs_BadMarks, bm_BadMarks, sn_BadMarks, sub_BadMarks, ab_BadMarks, col_BadMarks, dd_BadMarks, m0_BadMarks, m1_BadMarks, m2_BadMarks, m3_BadMarks, m5_BadMarks, xL_BadMarks, rb_BadMarks⟩, sa_BadMarks, ex_BadMarks, ty_BadMarks, kC_BadMarks⟩, ⟨hg_BadMarks, hk_BadMarks, ex_BadMarks, hd_BadMarks, ha_BadMarks, hn_, ht_, hm_BadMarks⟩⟩, n_BadMarks_at := nf_BadMarks_at, i_BadMarks := ⟨fI_BadMarks, _, fun_mk (st := s_init_BadMarks) lI_BadMarks cI_BadMarks kF_BadMarks, iC_BadMarks, tI_BadMarks, (fun_mk (st := s_init_BadMarks) lI_BadMarks cI_BadMarks kF_BadMarks).binds (ps := ["self", "at"]) fun _ _ _ _ _ _ us hl => match us, hl with | [_, _], _ => rfl⟩ }
  have C__law_in := ok__law_in (P := l.prog) (w := w) (base := base) D__law_in T 
  have C__law_next := ok__law_next (P := l.prog) (w := w) (base := base) D__law_next T C__law_in
  have C__law_is_int := ok__law_is_int (P := l.prog) (w := w) (base := base) D__law_is_int T 
  have C__law_same := ok__law_same (P := l.prog) (w := w) (base := base) D__law_same T C__law_is_int 3
  have C__law_text := ok__law_text (P := l.prog) (w := w) (base := base) D__law_text T 
  have C_range_of := ok_range_of (P := l.prog) (w := w) (base := base) D_range_of T 
  have C_marked := ok_marked (P := l.prog) (w := w) (base := base) D_marked T C_range_of
  have C_next_new := ok_next_new (P := l.prog) (w := w) (base := base) D_next_new T C_range_of
  have C_MarksReader____init__ := ok_MarksReader____init__ (P := l.prog) (w := w) (base := base) D_MarksReader____init__ T O 
  have C_MarksReader__end_range := ok_MarksReader__end_range (P := l.prog) (w := w) (base := base) D_MarksReader__end_range T O 
  have C_MarksReader__is_number := ok_MarksReader__is_number (P := l.prog) (w := w) (base := base) D_MarksReader__is_number T O 
  have C_greatest_of := ok_greatest_of (P := l.prog) (w := w) (base := base) D_greatest_of T 
  have C_MarksReader__may_stand := ok_MarksReader__may_stand (P := l.prog) (w := w) (base := base) D_MarksReader__may_stand T O C_MarksReader__is_number C_greatest_of
  have C_MarksReader__read_sign := ok_MarksReader__read_sign (P := l.prog) (w := w) (base := base) D_MarksReader__read_sign T O C_MarksReader__end_range
  have C_read_marks := ok_read_marks (P := l.prog) (w := w) (base := base) D_read_marks T O Y C_MarksReader____init__ C_MarksReader__end_range C_MarksReader__is_number C_MarksReader__may_stand C_MarksReader__read_sign
  have C_range_text := ok_range_text (P := l.prog) (w := w) (base := base) D_range_text T 
  have C_write_marks := ok_write_marks (P := l.prog) (w := w) (base := base) D_write_marks T C_range_text
  have C__law_asked := ok__law_asked (P := l.prog) (w := w) (base := base) D__law_asked T C__law_in C__law_next C__law_same C__law_text C_marked C_next_new C_read_marks C_write_marks
  have C__law_left := ok__law_left (P := l.prog) (w := w) (base := base) D__law_left T C__law_in
  have C__law_due := ok__law_due (P := l.prog) (w := w) (base := base) D__law_due T C__law_left
  have C_joined_marks := ok_joined_marks (P := l.prog) (w := w) (base := base) D_joined_marks T 
  have C_range_without := ok_range_without (P := l.prog) (w := w) (base := base) D_range_without T 
  have C_marks_without := ok_marks_without (P := l.prog) (w := w) (base := base) D_marks_without T C_range_without
  have C__law_both := ok__law_both (P := l.prog) (w := w) (base := base) D__law_both T C__law_due C__law_same C_joined_marks C_marks_without
  have C__law_mix := ok__law_mix (P := l.prog) (w := w) (base := base) D__law_mix T 
  have C__law_draw := ok__law_draw (P := l.prog) (w := w) (base := base) D__law_draw T C__law_mix
  have C__law_next_pair := ok__law_next_pair (P := l.prog) (w := w) (base := base) D__law_next_pair T C__law_next C__law_same C_next_new
  have C__law_pick := ok__law_pick (P := l.prog) (w := w) (base := base) D__law_pick T C__law_draw
  have C__law_ranges := ok__law_ranges (P := l.prog) (w := w) (base := base) D__law_ranges T C__law_draw
  have C__law_other := ok__law_other (P := l.prog) (w := w) (base := base) D__law_other T C__law_draw C__law_pick C__law_ranges
  have C__law_points := ok__law_points (P := l.prog) (w := w) (base := base) D__law_points T 
  have C__law_source := ok__law_source (P := l.prog) (w := w) (base := base) D__law_source T C__law_mix
  have C__law_walked := ok__law_walked (P := l.prog) (w := w) (base := base) D__law_walked T C__law_asked C__law_draw C__law_due C__law_next_pair C_joined_marks
  exact ok_law (fun_mk (st := s_law) l33 c33 k33) T C__law_asked C__law_both C__law_draw C__law_due C__law_next_pair C__law_other C__law_pick C__law_points C__law_source C__law_walked C_joined_marks C_marks_without
theorem walk {l : PySem.W.OpenLaw} {q : Program} {loose : List Str} {XP : (Str → Option Value) → Heap → Prop} {YP : World → Heap → Prop} {d : DefRec} {K : Params → PySem.W.Frag} (hn : l.most = some 63) (hdf : d.params.defaults = [])
    (hY : ∀ (w : World) (h : Heap), YP w h → (K w.params).In h)
    (F : ∀ (w : World) (mg : Str → Option Value) (fa : Addr) (h : Heap), (K w.params).In h → h.Ns mainGlobals mg → mg d.name = some (.ref fa) →
      ∃ fd : FuncData, (∀ (s : Shared) (u : Value), BindsTo s fd ⟨[u], []⟩ [("script", u)]) ∧ ∀ base : Heap, (K w.params).In base → base.Ns mainGlobals mg → FnOk l.prog w (K w.params) mg base CX0 7 fa fd ["script"] (sp_law (K w.params))) :
    PySem.W.WalkO q loose XP YP l.row.toRowW d [] (fun f vs => PySem.call f vs) :=
  L2.walk_of (n := 63) (k := 7) (x := "script") (CX := fun _ => CX0) (sp := fun w => sp_law (K w.params)) hn (by decide) hdf ⟨rfl, by decide, by decide⟩ hY F (fun _ _ a ns hl _ hS => ⟨a, ns, rfl, hS, hl, fun _ => rfl⟩) fun _ _ _ _ _ z => z
end Z
open PySem PySem.W PyProof.Rows in
set_option maxRecDepth 100000 in
set_option maxHeartbeats 0 in
theorem PySem.Challenge.cw_criermoot_k68_whole_marks_holds : PySem.Challenge.rw_criermoot_k68_whole_marks.Holds := by
  w_on; o_law; k_head; (case hw => w_witness2)
  k_fill
  refine Z.walk (l := PySem.Challenge.rw_criermoot_k68_whole_marks) rfl rfl (fun w h Y => PySem.W.kIn_of Y) ?F
  case F =>
    intro w mg fa h KX G hmg
    refine' Z.all_mk KX G hmg ?oG_MarksReader ?oP_MarksReader ?oD_MarksReader ?oO_MarksReader ?oS_MarksReader ?oM_MarksReader ?oK_MarksReader ?oN_MarksReader_marks ?oN_MarksReader_least ?oN_MarksReader_digits ?oN_MarksReader_first ?a0 ?l0 ?c0 ?k0 ?a1 ?i1 ?l1 ?c1 ?k1 ?a2 ?i2 ?l2 ?c2 ?k2 ?a3 ?i3 ?l3 ?c3 ?k3 ?a4 ?i4 ?l4 ?c4 ?k4 ?a5 ?i5 ?l5 ?c5 ?k5 ?a6 ?l6 ?c6 ?k6 ?a7 ?l7 ?c7 ?k7 ?a8 ?l8 ?c8 ?k8 ?a9 ?l9 ?c9 ?k9 ?a10 ?l10 ?c10 ?k10 ?a11 ?l11 ?c11 ?k11 ?a12 ?l12 ?c12 ?k12 ?a13 ?l13 ?c13 ?k13 ?a14 ?l14 ?c14 ?k14 ?a15 ?l15 ?c15 ?k15 ?a16 ?l16 ?c16 ?k16 ?a17 ?l17 ?c17 ?k17 ?a18 ?l18 ?c18 ?k18 ?a19 ?l19 ?c19 ?k19 ?a20 ?l20 ?c20 ?k20 ?a21 ?l21 ?c21 ?k21 ?a22 ?l22 ?c22 ?k22 ?a23 ?l23 ?c23 ?k23 ?a24 ?l24 ?c24 ?k24 ?a25 ?l25 ?c25 ?k25 ?a26 ?l26 ?c26 ?k26 ?a27 ?l27 ?c27 ?k27 ?a28 ?l28 ?c28 ?k28 ?a29 ?l29 ?c29 ?k29 ?a30 ?l30 ?c30 ?k30 ?a31 ?l31 ?c31 ?k31 ?a32 ?l32 ?c32 ?k32 ?a33 ?l33 ?c33 ?k33 ?z_abs ?z_bool ?z_enumerate ?z_int ?z_isinstance ?z_len ?z_list ?z_max ?z_min ?z_range ?z_sorted ?z_str ?z_tuple ?v_DIGITS ?v_LAST_MARK ?v_MOST_DIGITS ?aC_MootError ?aC_TextError ?aC_BadMarks ?hn_ ?ht_ ?xL_BadMarks ?rb_BadMarks ?sa_BadMarks ?ex_BadMarks ?ty_BadMarks ?kC_BadMarks ?hg_BadMarks ?hk_BadMarks ?hd_BadMarks ?ha_BadMarks ?hm_BadMarks ?nf_BadMarks_at ?iC_BadMarks ?tI_BadMarks ?lI_BadMarks ?cI_BadMarks ?kF_BadMarks
    (case oG_MarksReader => k_is)
    (case oP_MarksReader => k_is)
    (case oD_MarksReader => k_is)
    (case oO_MarksReader => k_is)
    (case oS_MarksReader => k_is)
    (case oM_MarksReader => k_is)
    (case oK_MarksReader => k_is)
    (case oN_MarksReader_marks => k_is)
    (case oN_MarksReader_least => k_is)
    (case oN_MarksReader_digits => k_is)
    (case oN_MarksReader_first => k_is)
    (case a0 => k_is)
    (case l0 => k_is)
    (case c0 => k_is)
    (case k0 => k_is)
    (case a1 => k_is)
    (case i1 => k_is)
    (case l1 => k_is)
    (case c1 => k_is)
    (case k1 => k_is)
    (case a2 => k_is)
    (case i2 => k_is)
    (case l2 => k_is)
    (case c2 => k_is)
    (case k2 => k_is)
    (case a3 => k_is)
    (case i3 => k_is)
    (case l3 => k_is)
    (case c3 => k_is)
    (case k3 => k_is)
    (case a4 => k_is)
    (case i4 => k_is)
    (case l4 => k_is)
    (case c4 => k_is)
    (case k4 => k_is)
    (case a5 => k_is)
    (case i5 => k_is)
    (case l5 => k_is)
    (case c5 => k_is)
    (case k5 => k_is)
    (case a6 => k_is)
    (case l6 => k_is)
    (case c6 => k_is)
    (case k6 => k_is)
    (case a7 => k_is)
    (case l7 => k_is)
    (case c7 => k_is)
    (case k7 => k_is)
    (case a8 => k_is)
    (case l8 => k_is)
    (case c8 => k_is)
    (case k8 => k_is)
    (case a9 => k_is)
    (case l9 => k_is)
    (case c9 => k_is)
    (case k9 => k_is)
    (case a10 => k_is)
    (case l10 => k_is)
    (case c10 => k_is)
    (case k10 => k_is)
    (case a11 => k_is)
    (case l11 => k_is)
    (case c11 => k_is)
    (case k11 => k_is)
    (case a12 => k_is)
    (case l12 => k_is)
    (case c12 => k_is)
    (case k12 => k_is)
    (case a13 => k_is)
    (case l13 => k_is)
    (case c13 => k_is)
    (case k13 => k_is)
    (case a14 => k_is)
    (case l14 => k_is)
    (case c14 => k_is)
    (case k14 => k_is)
    (case a15 => k_is)
    (case l15 => k_is)
    (case c15 => k_is)
    (case k15 => k_is)
    (case a16 => k_is)
    (case l16 => k_is)
    (case c16 => k_is)
    (case k16 => k_is)
    (case a17 => k_is)
    (case l17 => k_is)
    (case c17 => k_is)
    (case k17 => k_is)
    (case a18 => k_is)
    (case l18 => k_is)
    (case c18 => k_is)
    (case k18 => k_is)
    (case a19 => k_is)
    (case l19 => k_is)
    (case c19 => k_is)
    (case k19 => k_is)
    (case a20 => k_is)
    (case l20 => k_is)
    (case c20 => k_is)
    (case k20 => k_is)
    (case a21 => k_is)
    (case l21 => k_is)
    (case c21 => k_is)
    (case k21 => k_is)
    (case a22 => k_is)
    (case l22 => k_is)
    (case c22 => k_is)
    (case k22 => k_is)
    (case a23 => k_is)
    (case l23 => k_is)
    (case c23 => k_is)
    (case k23 => k_is)
    (case a24 => k_is)
    (case l24 => k_is)
    (case c24 => k_is)
    (case k24 => k_is)
    (case a25 => k_is)
    (case l25 => k_is)
    (case c25 => k_is)
    (case k25 => k_is)
    (case a26 => k_is)
    (case l26 => k_is)
    (case c26 => k_is)
    (case k26 => k_is)
    (case a27 => k_is)
    (case l27 => k_is)
    (case c27 => k_is)
    (case k27 => k_is)
    (case a28 => k_is)
    (case l28 => k_is)
    (case c28 => k_is)
    (case k28 => k_is)
    (case a29 => k_is)
    (case l29 => k_is)
    (case c29 => k_is)
    (case k29 => k_is)
    (case a30 => k_is)
    (case l30 => k_is)
    (case c30 => k_is)
    (case k30 => k_is)
    (case a31 => k_is)
    (case l31 => k_is)
    (case c31 => k_is)
    (case k31 => k_is)
    (case a32 => k_is)
    (case l32 => k_is)
    (case c32 => k_is)
    (case k32 => k_is)
    (case a33 => k_is)
    (case l33 => k_is)
    (case c33 => k_is)
    (case k33 => k_is)
    (case z_abs => k_is)
    (case z_bool => k_is)
    (case z_enumerate => k_is)
    (case z_int => k_is)
    (case z_isinstance => k_is)
    (case z_len => k_is)
    (case z_list => k_is)
    (case z_max => k_is)
    (case z_min => k_is)
    (case z_range => k_is)
    (case z_sorted => k_is)
    (case z_str => k_is)
    (case z_tuple => k_is)
    (case v_DIGITS => k_is)
    (case v_LAST_MARK => k_is)
    (case v_MOST_DIGITS => k_is)
    (case aC_MootError => k_is)
    (case aC_TextError => k_is)
    (case aC_BadMarks => k_is)
    (case hn_ => k_is)
    (case ht_ => k_is)
    (case xL_BadMarks => k_is)
    (case rb_BadMarks => first | rfl | decide +kernel)
    (case sa_BadMarks => k_is)
    (case ex_BadMarks => k_is)
    (case ty_BadMarks => k_is)
    (case kC_BadMarks => k_is)
    (case hg_BadMarks => k_is)
    (case hk_BadMarks => k_is)
    (case hd_BadMarks => k_is)
    (case ha_BadMarks => k_is)
    (case hm_BadMarks => k_is)
    (case nf_BadMarks_at => k_is)
    (case iC_BadMarks => k_is)
    (case tI_BadMarks => k_is)
    (case lI_BadMarks => k_is)
    (case cI_BadMarks => k_is)
    (case kF_BadMarks => k_is)
