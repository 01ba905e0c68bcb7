import PyProof.Rows.All
import Wide.All
import OpenK.AllK
import Wide.FinOn
import HandS.Base
import HandS.Call
import HandS.List
import HandS.Comp
import HandS.Ends
import HandS.Dict
import HandS.Iter
import HandS.Text
import HandS.Words
import HandS.WordsList
import HandS.Conv
import HandS.Codes
import HandS.IsInst
import HandS.Replace
import HandS.StrMore
import HandS.TupAny
import HandS.WideBits
import HandS.ForExc
import HandS.ExcInit
import HandS.ExcField
import HandS.ExcIs
import KE.KExcIs
import HandS.Property
import HandS.Sort
import HandS.Deep
import KE.SortData
import KE.DataMinMax
import KE.KSortTupAny
import KE.KDictSum
import KE.KDictItemsList
import KE.KDictCopyH
import PyProof.DictUpdate
import PyProof.Transfer
import HandS.DictTup
import HandS.ExcOwn
import HandS.ExcValue
import PyProof.MinMaxWalk
import KE.KDictList
import KE.GoesEnum
import KE.GoesMore
import HandS.Rev
import HandS.ReplaceLit
import PyProof.Rows.StrCut
import HandS.TupMul
import HandS.FStr
import HandS.SetKeys
import PySem.Challenge.RW_criermoot_k58_list_desks
set_option Elab.async false
set_option linter.all false
set_option maxRecDepth 100000
namespace Z
open PySem L2

/-! ### heaps -/
/-- all that was tracked is as it was, but for what stands at s -/
def Ext (s : Addr) (H H' : Hp) : Prop := ∀ b o, b ≠ s → H b = some o → H' b = some o
theorem Ext.refl (s : Addr) (H : Hp) : Ext s H H := fun _ _ _ h => h
theorem Ext.trans {s : Addr} {H H1 H2 : Hp} (a : Ext s H H1) (b : Ext s H1 H2) : Ext s H H2 := fun c o n h => b c o n (a c o n h)
theorem Ext.of {s : Addr} {H H' : Hp} (a : Same H H') : Ext s H H' := fun c o _ h => a c o h
theorem Ext.new {s p : Addr} {H : Hp} {o : HO} (n : H p = none) : Ext s H (upd H p o) := fun b u _ h => by
  rw [upd_ne (ne_of_none h n)]; exact h
theorem Ext.put {s : Addr} {H : Hp} {o : HO} : Ext s H (upd H s o) := fun b u n h => by
  rw [upd_ne n]; exact h
theorem same_new {p : Addr} {H : Hp} {o : HO} (n : H p = none) : Same H (upd H p o) := fun b u h => by
  rw [upd_ne (ne_of_none h n)]; exact h
theorem Ext.seqT {K : PySem.W.Frag} {s a : Addr} {H H' : Hp} {xs ys : List V} (x : Ext s H H') (hs : H s = some (.lst ys)) (h : SqT K H a xs) : SqT K H' a xs := by
  rcases h with (h | ⟨o, h⟩) | h
  · exact .inl (.inl (x _ _ (fun e => by rw [e, hs] at h; cases h) h))
  · exact .inl (.inr ⟨o, x _ _ (fun e => by rw [e, hs] at h; cases h) h⟩)
  · exact .inr h
theorem Ext.seqL {K : PySem.W.Frag} {s a : Addr} {H H' : Hp} {xs : List V} (x : Ext s H H') (n : a ≠ s) (h : SqL K H a xs) : SqL K H' a xs := by
  rcases h with (h | ⟨o, h⟩) | h
  · exact .inl (.inl (x _ _ n h))
  · exact .inl (.inr ⟨o, x _ _ n h⟩)
  · exact .inr h

theorem and_nn {x : Int} (hx : 0 ≤ x) (k : Nat) : 0 ≤ Builtin.bitAnd x (1 * 2 ^ k - 1) := by
  rw [Int.one_mul, Bits.bitAnd_mask k hx]
  exact Int.emod_nonneg _ (Int.ne_of_gt (Int.pow_pos (by decide)))
/-! ### the source of draws -/
def Src (H : Hp) (s a : Addr) (c : Nat) : Prop := ∃ (ns : List Int) (i b e t : Int),
  H s = some (.lst [.ref a, .int i, .int b, .int e, .int t]) ∧ H a = some (.lst (ns.map V.int)) ∧ a ≠ s ∧ ns.length ≤ 63 ∧ 0 ≤ i ∧ i ≤ 63 ∧ 0 ≤ b ∧ 0 ≤ e ∧ e < 2147483647 ∧ 0 ≤ t ∧ t + c < 4000000000000000000
theorem Src.lst {H : Hp} {s a : Addr} {c : Nat} (h : Src H s a c) : ∃ xs, H s = some (.lst xs) := by
  obtain ⟨_, _, _, _, _, h, _⟩ := h; exact ⟨_, h⟩
theorem Src.mono {H : Hp} {s a : Addr} {c d : Nat} (h : Src H s a c) (l : d ≤ c) : Src H s a d := by
  obtain ⟨ns, i, b, e, t, h1, h2, h3, h4, h5, h6, h7, h8, h9, h10, h11⟩ := h
  exact ⟨ns, i, b, e, t, h1, h2, h3, h4, h5, h6, h7, h8, h9, h10, by omega⟩
theorem Src.ext {H H' : Hp} {s a : Addr} {c : Nat} (h : Src H s a c) (x : Same H H') : Src H' s a c := by
  obtain ⟨ns, i, b, e, t, h1, h2, h3⟩ := h
  exact ⟨ns, i, b, e, t, x _ _ h1, x _ _ h2, h3⟩
theorem Src.new {H : Hp} {s a p : Addr} {o : HO} {c : Nat} (h : Src H s a c) (n : H p = none) : Src (upd H p o) s a c := h.ext (same_new n)
theorem Src.ne {H : Hp} {s a p : Addr} {c : Nat} (h : Src H s a c) (n : H p = none) : p ≠ s := by
  obtain ⟨xs, e⟩ := h.lst
  exact (ne_of_none e n).symm
theorem Src.nea {H : Hp} {s a p : Addr} {c : Nat} (h : Src H s a c) (n : H p = none) : p ≠ a := by
  obtain ⟨ns, i, b, e, t, h1, h2, h3⟩ := h
  exact (ne_of_none h2 n).symm
theorem Src.put {H : Hp} {s a p : Addr} {o : HO} {c : Nat} (h : Src H s a c) (n : p ≠ s) (m : p ≠ a) : Src (upd H p o) s a c := by
  obtain ⟨ns, i, b, e', t, h1, h2, h3⟩ := h
  exact ⟨ns, i, b, e', t, by rw [upd_ne n.symm]; exact h1, by rw [upd_ne m.symm]; exact h2, h3⟩

/-! ### defs and their callers -/
section
variable (P : Program) (w : World) (K : PySem.W.Frag) (mg : Str → Option Value) (base : Heap)
/-- a def as callers use it -/
def Cal (x : Str) (ps : List Str) (k : Nat) (sp : Sp) : Prop := ∃ (f : Addr) (fd : FuncData), FnOk P w K mg base CX0 k f fd ps sp ∧ mg x = some (.ref f) ∧ PySem.W.keepIn K (.ref f) = true ∧ Binds K fd ps []
/-- a def as the top has left it -/
def Df (x : Str) (st : Stmt) (ps : List Str) : Prop := ∃ (f : Addr) (fd : FuncData), Fun K x x st f fd ∧ mg x = some (.ref f) ∧ Binds K fd ps []
end
theorem Cal.mono {P : Program} {w : World} {K : PySem.W.Frag} {mg : Str → Option Value} {base : Heap} {x : Str} {ps : List Str} {j k : Nat} {sp : Sp} (C : Cal P w K mg base x ps j sp) (h : j ≤ k) : Cal P w K mg base x ps k sp := by
  obtain ⟨f, fd, G, g, kp, b⟩ := C
  exact ⟨f, fd, G.mono h, g, kp, b⟩

/-! ### the promises of the drawing defs -/
def sp__law_mix : Sp := fun vs H Q _ => ∃ (x y : Int), vs = [.int x, .int y] ∧ 0 ≤ x ∧ x < 9000000000000000000 ∧ 0 ≤ y ∧ y < 9000000000000000000 ∧ ∀ v : Int, 0 ≤ v → v < 2147483647 → Q (.int v) H
def sp__law_source (K : PySem.W.Frag) : Sp := fun vs H Q _ => ∃ (a : Addr) (ns : List Int), vs = [.ref a] ∧ SqL K H a (ns.map V.int) ∧ ns.length ≤ 63 ∧ ∀ (s b : Addr) (H' : Hp), H s = none → Same H H' → Src H' s b 3000000000000000000 → Q (.ref s) H'
def sp__law_draw : Sp := fun vs H Q _ => ∃ (s a : Addr) (m : Int) (c : Nat), vs = [.ref s, .int m] ∧ 0 < m ∧ m < 1073741824 ∧ Src H s a (c + 1) ∧ ∀ (v : Int) (H' : Hp), 0 ≤ v → v < m → Ext s H H' → Src H' s a c → Q (.int v) H'

/-! ### data -/
inductive D where
  | non | bl (b : Bool) | int (i : Int) | str (x : Str) | tup (xs : List D)
mutual
def DV (K : PySem.W.Frag) (H : Hp) : D → V → Prop
  | .non, v => v = .non
  | .bl b, v => v = .bl b
  | .int i, v => v = .int i
  | .str x, v => v = .str x
  | .tup ds, v => ∃ a vs, v = .ref a ∧ SqT K H a vs ∧ DVs K H ds vs
def DVs (K : PySem.W.Frag) (H : Hp) : List D → List V → Prop
  | [], vs => vs = []
  | d :: ds, vs => ∃ v r, vs = v :: r ∧ DV K H d v ∧ DVs K H ds r
end
mutual
theorem DV.ext {K : PySem.W.Frag} {H H' : Hp} (x : ∀ a xs, SqT K H a xs → SqT K H' a xs) : ∀ {d : D} {v : V}, DV K H d v → DV K H' d v
  | .non, _, h => by unfold DV at *; exact h
  | .bl _, _, h => by unfold DV at *; exact h
  | .int _, _, h => by unfold DV at *; exact h
  | .str _, _, h => by unfold DV at *; exact h
  | .tup ds, v, h => by
    unfold DV at *
    obtain ⟨a, vs, e, q, r⟩ := h
    exact ⟨a, vs, e, x _ _ q, DVs.ext x r⟩
theorem DVs.ext {K : PySem.W.Frag} {H H' : Hp} (x : ∀ a xs, SqT K H a xs → SqT K H' a xs) : ∀ {ds : List D} {vs : List V}, DVs K H ds vs → DVs K H' ds vs
  | [], _, h => by unfold DVs at *; exact h
  | d :: ds, vs, h => by
    unfold DVs at *
    obtain ⟨v, r, e, q, t⟩ := h
    exact ⟨v, r, e, DV.ext x q, DVs.ext x t⟩
end
theorem DVs.len {K : PySem.W.Frag} {H : Hp} : ∀ {ds : List D} {vs : List V}, DVs K H ds vs → vs.length = ds.length
  | [], _, h => by unfold DVs at h; subst h; rfl
  | d :: ds, vs, h => by
    unfold DVs at h
    obtain ⟨v, r, e, q, t⟩ := h
    rw [e, List.length_cons, List.length_cons, DVs.len t]
theorem DVs.get {K : PySem.W.Frag} {H : Hp} : ∀ {ds : List D} {vs : List V} {i : Nat} {d : D}, DVs K H ds vs → ds[i]? = some d → ∃ v, vs[i]? = some v ∧ DV K H d v
  | [], _, i, d, h, e => by simp at e
  | x :: ds, vs, i, d, h, e => by
    unfold DVs at h
    obtain ⟨v, r, e1, q, t⟩ := h
    subst e1
    cases i with
    | zero =>
      have : x = d := by simpa using e
      subst this
      exact ⟨v, rfl, q⟩
    | succ i => exact DVs.get (i := i) t (by simpa using e)
theorem DVs.strs {K : PySem.W.Frag} {H : Hp} : ∀ (xs : List Str), DVs K H (xs.map D.str) (xs.map V.str)
  | [] => by unfold DVs; rfl
  | x :: xs => by
    unfold DVs
    exact ⟨_, _, rfl, by unfold DV; rfl, DVs.strs xs⟩
theorem DVs.ints {K : PySem.W.Frag} {H : Hp} : ∀ (xs : List Int), DVs K H (xs.map D.int) (xs.map V.int)
  | [] => by unfold DVs; rfl
  | x :: xs => by
    unfold DVs
    exact ⟨_, _, rfl, by unfold DV; rfl, DVs.ints xs⟩
/-- tuples lie within fewer than n others -/
def DL : Nat → D → Prop
  | 0, _ => False
  | n + 1, .tup xs => xs.length ≤ 1000000 ∧ ∀ x ∈ xs, DL n x
  | _ + 1, _ => True
theorem TyX.ofT {K : PySem.W.Frag} {H : Hp} {a : Addr} {xs : List V} (h : SqT K H a xs) : TyX K H (.ref a) (.type "tuple") := by
  rcases h with (h | ⟨o, h⟩) | ⟨o, _, _, e, c, _⟩
  · exact .base (.tup h)
  · exact .fTuple h
  · exact .kTuple e c
def sp__law_is_int (K : PySem.W.Frag) : Sp := fun vs H Q _ => ∃ i : Int, vs = [.int i] ∧ Q (.bl true) H
/-- of two values with the same data it tells True -/
def sp__law_same (K : PySem.W.Frag) (n : Nat) : Sp := fun vs H Q _ => ∃ (d : D) (v u : V), vs = [v, u] ∧ DV K H d v ∧ DV K H d u ∧ DL n d ∧ Q (.bl true) H

/-! ### texts by their signs -/
open SX (S S_cat S_len S_inj)
theorem S_lst (l : List Nat) : (S l).cps.toList = l := rfl
theorem S_of (x : Str) : x = S x.cps.toList := (SX.S_tl x).symm
theorem S_app (a b : List Nat) : S a ++ S b = S (a ++ b) := S_cat a b
/-- a for over the signs of a text -/
theorem for_str {l : List Nat} {g : TG} {tb : TS} {D : Ends} {σ : St} {H : Hp} (Pv : Nat → St → Hp → Prop) (h0 : Pv 0 σ H)
    (hs : ∀ i c σ H, l[i]? = some c → Pv i σ H → g (.str (S [c])) σ H fun σ2 H2 => tb { D with nx := Pv (i + 1), ct := Pv (i + 1), bk := D.nx } σ2 H2) (hd : ∀ σ H, Pv l.length σ H → D.nx σ H) :
    ∃ W : Nat → Nat → St → Hp → Prop, (∃ m, W 0 m σ H) ∧ ∀ i m σ H, W i m σ H →
      ((Its (S l)).stop i H ∧ D.nx σ H) ∨ ((Its (S l)).go i H ∧ ∃ N : St → Hp → Prop, (∀ σ' H', N σ' H' → ∃ m', m' < m ∧ W (i + 1) m' σ' H') ∧ ∀ x H', (Its (S l)).yld i H x H' → g x σ H' fun σ2 H2 => tb { D with nx := N, ct := N, bk := D.nx } σ2 H2) := by
  refine ⟨fun i m σ H => m = l.length - i ∧ i ≤ l.length ∧ Pv i σ H, ⟨l.length, by simp, Nat.zero_le _, h0⟩, ?_⟩
  rintro i m σ H ⟨rfl, hi, p⟩
  by_cases hlt : i < l.length
  · refine .inr ⟨by show i < l.toArray.size; simpa using hlt, Pv (i + 1), fun σ' H' p' => ⟨l.length - (i + 1), by omega, rfl, hlt, p'⟩, fun x H' y => ?_⟩
    obtain ⟨e, c, hc, y⟩ := y
    subst e y
    exact hs i c σ _ (by simpa using hc) p
  · have e : i = l.length := by omega
    subst e
    exact .inl ⟨by show l.toArray.size ≤ l.length; simp, hd σ H p⟩
/-- a comprehension over the signs of a text -/
theorem lc_str {l : List Nat} {g : TG} {tt : TT} {te : TE} {vs : List Nat} {σ : St} {H1 : Hp} {D : Addr} {Qd : Hp → Prop} (Pv : Nat → Hp → Prop) (h0 : Pv 0 (upd H1 D (.lst [])))
    (hs : ∀ i c H, l[i]? = some c → Pv i H → g (.str (S [c])) (wipe σ vs) H fun σ2 H2 => wipe σ2 vs = wipe σ vs ∧ tt σ2 H2 fun b H3 =>
      if b = true then te σ2 H3 fun y H4 => ∃ acc, H4 D = some (.lst acc) ∧ acc.length < sizeLine ∧ Pv (i + 1) (upd H4 D (.lst (acc ++ [y]))) else Pv (i + 1) H3) (hd : ∀ H, Pv l.length H → Qd H) :
    ∃ W : Nat → Nat → Hp → Prop, (∃ m, W 0 m (upd H1 D (.lst []))) ∧ ∀ i m H, W i m H →
      ((Its (S l)).stop i H ∧ Qd H) ∨ ((Its (S l)).go i H ∧ ∃ Nx : Hp → Prop, (∀ H', Nx H' → ∃ m', m' < m ∧ W (i + 1) m' H') ∧ ∀ x H', (Its (S l)).yld i H x H' → g x (wipe σ vs) H' fun σ2 H2 => wipe σ2 vs = wipe σ vs ∧ tt σ2 H2 fun b H3 =>
        if b = true then te σ2 H3 fun y H4 => ∃ acc, H4 D = some (.lst acc) ∧ acc.length < sizeLine ∧ Nx (upd H4 D (.lst (acc ++ [y]))) else Nx H3) := by
  refine ⟨fun i m H => m = l.length - i ∧ i ≤ l.length ∧ Pv i H, ⟨l.length, by simp, Nat.zero_le _, h0⟩, ?_⟩
  rintro i m H ⟨rfl, hi, p⟩
  by_cases hlt : i < l.length
  · refine .inr ⟨by show i < l.toArray.size; simpa using hlt, Pv (i + 1), fun H' p' => ⟨l.length - (i + 1), by omega, rfl, hlt, p'⟩, fun x H' y => ?_⟩
    obtain ⟨e, c, hc, y⟩ := y
    subst e y
    exact hs i c _ (by simpa using hc) p
  · have e : i = l.length := by omega
    subst e
    exact .inl ⟨by show l.toArray.size ≤ l.length; simp, hd H p⟩
/-- signs of rows -/
def Asc (l : List Nat) : Prop := ∀ x ∈ l, 32 ≤ x ∧ x ≤ 126
theorem Asc.nil : Asc [] := fun _ h => nomatch h
theorem Asc.app {a b : List Nat} (x : Asc a) (y : Asc b) : Asc (a ++ b) := fun c h => (List.mem_append.mp h).elim (x c) (y c)
theorem Asc.by_ {l : List Nat} (h : l.all (fun x => decide (32 ≤ x) && decide (x ≤ 126)) = true) : Asc l := fun x m => by
  have := List.all_eq_true.mp h x m
  simp at this
  exact this
theorem Asc.all128 {l : List Nat} (h : Asc l) : l.all (· < 128) = true := List.all_eq_true.mpr fun x m => decide_eq_true (by have := h x m; omega)
theorem joinNil : ∀ ls : List (List Nat), TL.joinL [] ls = ls.flatten
  | [] => rfl
  | [x] => by simp [TL.joinL]
  | x :: y :: r => by
    have := joinNil (y :: r)
    simp only [TL.joinL] at *
    rw [List.flatten_cons, ← this]
    simp [TL.joinL]
theorem join_nil (ls : List (List Nat)) : Txt.join (S []) (ls.map S) = S ls.flatten := by
  rw [SX.join_S, joinNil]

/-! ### texts, further -/
abbrev tl (x : Str) : List Nat := x.cps.toList
theorem tl_S (l : List Nat) : tl (S l) = l := rfl
theorem S_tl (x : Str) : S (tl x) = x := rfl
theorem tl_app (x y : Str) : tl (x ++ y) = tl x ++ tl y := TL.tl_append x y
theorem tl_len (x : Str) : x.length = (tl x).length := by show x.cps.size = x.cps.toList.length; simp
theorem tl_ext {x y : Str} (h : tl x = tl y) : x = y := TL.ext_tl h
theorem at_str {x : Str} {i : Int} (h0 : 0 ≤ i) (h1 : i < (x.length : Int)) : ∃ c, x.cps[i.toNat]? = some c ∧ (tl x)[i.toNat]? = some c ∧ c ∈ tl x := by
  have h : i.toNat < (tl x).length := by rw [← tl_len]; omega
  refine ⟨(tl x)[i.toNat], ?_, List.getElem?_eq_getElem h, List.getElem_mem h⟩
  have := List.getElem?_eq_getElem h
  rw [← this]; simp [tl]
/-- small letters and digits -/
def Low (l : List Nat) : Prop := ∀ x ∈ l, (97 ≤ x ∧ x ≤ 122) ∨ (48 ≤ x ∧ x ≤ 57)
theorem Low.nil : Low [] := fun _ h => nomatch h
theorem Low.app {a b : List Nat} (x : Low a) (y : Low b) : Low (a ++ b) := fun c h => (List.mem_append.mp h).elim (x c) (y c)
theorem Low.asc {a : List Nat} (x : Low a) : Asc a := fun c h => by have := x c h; omega
theorem low_num (n : Nat) : Low (TL.numL n) := fun c h => .inr (by have := TL.numL_digits n c h; omega)
theorem num_len : ∀ n : Nat, (TL.numL n).length ≤ n + 1 := fun n => by
  induction n using Nat.strongRecOn with
  | ind n ih =>
    by_cases h : n < 10
    · rw [TL.numL_lt h]; simp
    · rw [TL.numL_step (by omega), List.length_append]
      have := ih (n / 10) (by omega)
      simp; omega
/-- a name: a letter, then letters and digits -/
def Nm (l : List Nat) : Prop := (∃ c r, l = c :: r ∧ 97 ≤ c ∧ c ≤ 122) ∧ Low l
theorem Nm.app {a b : List Nat} (x : Nm a) (y : Low b) : Nm (a ++ b) := by
  obtain ⟨⟨c, r, e, h⟩, l⟩ := x
  exact ⟨⟨c, r ++ b, by rw [e]; rfl, h⟩, l.app y⟩
theorem flat_strs (xs : List Str) : (xs.map V.str).all flatV = true := List.all_eq_true.mpr fun x h => by
  obtain ⟨y, _, rfl⟩ := List.mem_map.mp h; rfl
theorem inV_strs (x : Str) (xs : List Str) : inV (V.str x) (xs.map V.str) = decide (x ∈ xs) := by
  unfold inV
  induction xs with
  | nil => rfl
  | cons y ys ih =>
    rw [List.map_cons, List.any_cons, ih]
    by_cases e : x = y
    · subst e; simp [eqV]
    · have : ¬ y = x := fun h => e h.symm
      simp [eqV, e, this]
def sp__law_new_name (K : PySem.W.Frag) : Sp := fun vs H Q _ => ∃ (s a u : Addr) (us : List Str) (c : Nat), vs = [.ref s, .ref u] ∧ SqL K H u (us.map V.str) ∧ u ≠ s ∧ us.length ≤ 60 ∧ Src H s a (c + 8) ∧
  ∀ (x : Str) (H' : Hp), Nm (tl x) → (tl x).length ≤ 70 → Ext s H H' → Src H' s a c → Q (.str x) H'
def sp__law_names (K : PySem.W.Frag) : Sp := fun vs H Q _ => ∃ (s a : Addr) (m c : Nat), vs = [.ref s, .int m] ∧ m ≤ 60 ∧ Src H s a (c + 8 * m) ∧
  ∀ (u : Addr) (us : List Str) (H' : Hp), H u = none → H' u = some (.lst (us.map V.str)) → us.length = m → (∀ x ∈ us, Nm (tl x) ∧ (tl x).length ≤ 70) → Ext s H H' → Src H' s a c → Q (.ref u) H'
def sp__law_row : Sp := fun vs H Q _ => ∃ (s a : Addr) (m : Int) (c : Nat), vs = [.ref s, .int m] ∧ 0 ≤ m ∧ m ≤ 1000 ∧ Src H s a (c + m.toNat) ∧
  ∀ (x : Str) (H' : Hp), Asc (tl x) → (tl x).length = m.toNat → Ext s H H' → Src H' s a c → Q (.str x) H'

/-! ### rules that name the written part themselves (for the blocks of comprehensions) -/
section
variable {X : Cx} {K : PySem.W.Frag}
/-- len of a text -/
theorem call_lenS : CallR X (.builtin "len") (fun xs H Q => ∃ x : Str, xs = [.str x] ∧ x.length ≤ sizeLine ∧ Q (.int x.length) H) := by
  intro pins s σ H xs us Q I r h
  obtain ⟨x, e, hl, q⟩ := h
  exact call_len pins s σ H xs us Q I r ⟨.str x, x.length, e, ⟨hl, rfl⟩, q⟩
theorem call_lenQ (h : X.K = K) : CallR X (.builtin "len") (fun xs H Q => ∃ p ys, xs = [.ref p] ∧ (SqL K H p ys ∨ SqT K H p ys) ∧ Q (.int ys.length) H) := by
  subst h; exact call_len_seq
theorem ix_listQ (h : X.K = K) : IxR X (rIxL K) := by subst h; exact ix_list
theorem ix_tupQ (h : X.K = K) : IxR X (rIxT K) := by subst h; exact ix_tup
theorem in_seqQ (h : X.K = K) : OpR X (compareOp .In) (rIn K false) := by subst h; exact op_in_seq
theorem notIn_seqQ (h : X.K = K) : OpR X (compareOp .NotIn) (rIn K true) := by subst h; exact op_notIn_seq
theorem isiQ (h : X.K = K) : CallR X (.builtin "isinstance") (rIsi K) := by subst h; exact call_isi
end

/-- texts of one sign each -/
def Ones (p : Nat → Prop) (xs : List Str) : Prop := ∀ x ∈ xs, ∃ c, tl x = [c] ∧ p c
theorem Ones.tail {p : Nat → Prop} {x : Str} {xs : List Str} (h : Ones p (x :: xs)) : Ones p xs := fun y m => h y (List.mem_cons_of_mem _ m)
theorem ones_len {p : Nat → Prop} : ∀ {xs : List Str}, (∀ x ∈ xs, ∃ c, tl x = [c] ∧ p c) → (xs.map (·.length)).sum = xs.length
  | [], _ => rfl
  | x :: xs, h => by
    obtain ⟨c, e, _⟩ := h x List.mem_cons_self
    have : x.length = 1 := by rw [tl_len, e]; rfl
    rw [List.map_cons, List.sum_cons, ones_len (Ones.tail h), List.length_cons, this]
    omega
/-- their only signs -/
def heads (xs : List Str) : List Nat := xs.map fun x => (tl x).headD 0
theorem tl_join0 (xs : List Str) : tl (Txt.join (S []) xs) = (xs.map tl).flatten := by
  have e : xs = (xs.map tl).map S := by rw [List.map_map]; exact (List.map_id _).symm
  have h := join_nil (xs.map tl)
  rw [← e] at h
  show tl (Txt.join (S []) xs) = _
  rw [h]
theorem ones_join {p : Nat → Prop} {xs : List Str} (h : ∀ x ∈ xs, ∃ c, tl x = [c] ∧ p c) : tl (Txt.join (S []) xs) = heads xs := by
  rw [tl_join0]
  induction xs with
  | nil => rfl
  | cons x xs ih =>
    obtain ⟨c, e, _⟩ := h x List.mem_cons_self
    rw [List.map_cons, List.flatten_cons, ih (Ones.tail h), e]
    show c :: heads xs = (tl x).headD 0 :: heads xs
    rw [e]; rfl
theorem ones_all {p : Nat → Prop} {xs : List Str} (h : ∀ x ∈ xs, ∃ c, tl x = [c] ∧ p c) : ∀ c ∈ heads xs, p c := fun c m => by
  obtain ⟨x, hx, e⟩ := List.mem_map.mp m
  obtain ⟨d, e2, hd⟩ := h x hx
  rw [e2] at e
  have : d = c := e
  rw [← this]; exact hd
theorem str0 : Str.ofString "" = S [] := rfl
theorem ones_room {p : Nat → Prop} {xs : List Str} (h : ∀ x ∈ xs, ∃ c, tl x = [c] ∧ p c) : (xs.map (·.length)).sum + xs.length * (Str.ofString "").length = xs.length := by
  rw [ones_len h]; show xs.length + xs.length * 0 = xs.length; omega
theorem ones_joinE {p : Nat → Prop} {xs : List Str} (h : ∀ x ∈ xs, ∃ c, tl x = [c] ∧ p c) : tl (Txt.join (Str.ofString "") xs) = heads xs := ones_join h
theorem ones_asc {xs : List Str} (h : ∀ x ∈ xs, ∃ c, tl x = [c] ∧ 32 ≤ c ∧ c ≤ 126) : Asc (heads xs) := fun c m => ones_all (p := fun c => 32 ≤ c ∧ c ≤ 126) h c m
theorem heads_len (xs : List Str) : (heads xs).length = xs.length := List.length_map _

theorem alpha_mem {c : Nat} (h : c ∈ tl (Str.ofString "abcdefghijklmnopqrstuvwxyz")) : 97 ≤ c ∧ c ≤ 122 := by
  have : (tl (Str.ofString "abcdefghijklmnopqrstuvwxyz")).all (fun c => decide (97 ≤ c) && decide (c ≤ 122)) = true := by decide +kernel
  have := List.all_eq_true.mp this c h
  simp at this; exact this
theorem low_mem {c : Nat} (h : c ∈ tl (Str.ofString "abcdefghijklmnopqrstuvwxyz" ++ Str.ofString "0123456789")) : (97 ≤ c ∧ c ≤ 122) ∨ (48 ≤ c ∧ c ≤ 57) := by
  rw [tl_app] at h
  have : (tl (Str.ofString "abcdefghijklmnopqrstuvwxyz") ++ tl (Str.ofString "0123456789")).all (fun c => (decide (97 ≤ c) && decide (c ≤ 122)) || (decide (48 ≤ c) && decide (c ≤ 57))) = true := by decide +kernel
  have := List.all_eq_true.mp this c h
  simp at this; exact this

theorem log_small {i : Nat} (h : i ≤ 1000000) : (Int.natAbs (0 + (i : Int))).log2 < 1920 := by
  rw [Int.zero_add, Int.natAbs_natCast]
  by_cases e : i = 0
  · subst e; decide
  · rw [Nat.log2_lt e]
    exact Nat.lt_of_le_of_lt h (Nat.lt_of_lt_of_le (by decide : 1000000 < 2 ^ 20) (Nat.pow_le_pow_right (by decide) (by decide)))

theorem fold_take {α β : Type} {f : β → α → β} {a : β} {l : List α} {i : Nat} {c : α} (h : l[i]? = some c) : (l.take (i + 1)).foldl f a = f ((l.take i).foldl f a) c := by
  rw [List.take_add_one, h, List.foldl_append]
  rfl
theorem fold_all {α β : Type} {f : β → α → β} {a : β} {l : List α} : (l.take l.length).foldl f a = l.foldl f a := by rw [List.take_length]
theorem in_abc {c : Nat} : decide (c ∈ (Str.ofString "abcdefghijklmnopqrstuvwxyz").cps.toList) = (decide (97 ≤ c) && decide (c ≤ 122)) := by
  have e : (Str.ofString "abcdefghijklmnopqrstuvwxyz").cps.toList = List.range' 97 26 := by decide +kernel
  rw [e, Bool.eq_iff_iff, decide_eq_true_iff, List.mem_range'_1]
  simp only [Bool.and_eq_true, decide_eq_true_eq]
  omega
theorem in_ABC {c : Nat} : decide (c ∈ (Str.ofString "ABCDEFGHIJKLMNOPQRSTUVWXYZ").cps.toList) = (decide (65 ≤ c) && decide (c ≤ 90)) := by
  have e : (Str.ofString "ABCDEFGHIJKLMNOPQRSTUVWXYZ").cps.toList = List.range' 65 26 := by decide +kernel
  rw [e, Bool.eq_iff_iff, decide_eq_true_iff, List.mem_range'_1]
  simp only [Bool.and_eq_true, decide_eq_true_eq]
  omega
theorem in_012 {c : Nat} : decide (c ∈ (Str.ofString "0123456789").cps.toList) = (decide (48 ≤ c) && decide (c ≤ 57)) := by
  have e : (Str.ofString "0123456789").cps.toList = List.range' 48 10 := by decide +kernel
  rw [e, Bool.eq_iff_iff, decide_eq_true_iff, List.mem_range'_1]
  simp only [Bool.and_eq_true, decide_eq_true_eq]
  omega
theorem in_abc012 {c : Nat} : decide (c ∈ (Str.ofString "abcdefghijklmnopqrstuvwxyz0123456789").cps.toList) = ((decide (97 ≤ c) && decide (c ≤ 122)) || (decide (48 ≤ c) && decide (c ≤ 57))) := by
  have e : (Str.ofString "abcdefghijklmnopqrstuvwxyz0123456789").cps.toList = List.range' 97 26 ++ List.range' 48 10 := by decide +kernel
  rw [e, Bool.eq_iff_iff, decide_eq_true_iff, List.mem_append, List.mem_range'_1, List.mem_range'_1]
  simp only [Bool.and_eq_true, Bool.or_eq_true, decide_eq_true_eq]
  omega
/-- literal texts -/
theorem tl_mapS (ws : List Str) : (ws.map tl).map S = ws := by rw [List.map_map]; exact List.map_id _

theorem strs_at (zs : List Str) {v : Int} (h0 : 0 ≤ v) (h1 : v < (zs.length : Int)) : ∃ z, z ∈ zs ∧ atI (zs.map V.str) v = some (.str z) := by
  have h : v.toNat < zs.length := by omega
  exact ⟨zs[v.toNat], List.getElem_mem h, at_of (j := v.toNat) (by omega) (by rw [List.getElem?_map, List.getElem?_eq_getElem h]; rfl)⟩
theorem tl_upper {x : Str} (h : Asc (tl x)) : tl (Txt.upper x) = (tl x).map PyProof.Rows.up1 := congrArg tl (SX.upper_S (a := tl x) h.all128)
theorem asc_upper {x : Str} (h : Asc (tl x)) : Asc (tl (Txt.upper x)) := by
  rw [tl_upper h]
  intro c hc
  obtain ⟨d, hd, e⟩ := List.mem_map.mp hc
  have := h d hd
  unfold PyProof.Rows.up1 at e
  split at e <;> omega
theorem len_upper {x : Str} (h : Asc (tl x)) : (tl (Txt.upper x)).length = (tl x).length := by rw [tl_upper h, List.length_map]
theorem DL.strs {n : Nat} (xs : List Str) (h : xs.length ≤ 1000000) : DL (n + 2) (.tup (xs.map D.str)) := ⟨by rw [List.length_map]; exact h, fun d m => by obtain ⟨x, _, rfl⟩ := List.mem_map.mp m; exact True.intro⟩
theorem DV.strs {K : PySem.W.Frag} {H : Hp} {p : Addr} {xs : List Str} (h : H p = some (.tup (xs.map V.str))) : DV K H (.tup (xs.map D.str)) (.ref p) := by
  unfold DV
  exact ⟨p, _, rfl, SqT.of h, DVs.strs xs⟩
def sp_law (K : PySem.W.Frag) : Sp := fun vs H Q _ => ∃ (a : Addr) (ns : List Int), vs = [.ref a] ∧ SqL K H a (ns.map V.int) ∧ ns.length ≤ 63 ∧ ∀ H', Q (.bl true) H'
end Z
namespace Z
open PySem L2 SX
/-! ### cuts -/
theorem sIx_pos {n d : Nat} {i : Int} (h : 0 ≤ i) : HT.sIx n d (some i) = min i.toNat n := by
  obtain ⟨k, rfl⟩ := Int.eq_ofNat_of_zero_le h
  rw [HT.sIx_nat]; rfl
theorem cutS_to {z : Str} {i : Int} (h : 0 ≤ i) : tl (cutS z none (some i)) = (tl z).take i.toNat := by
  show ((tl z).drop 0).take (HT.sIx z.length z.length (some i) - 0) = _
  rw [sIx_pos h, List.drop_zero, Nat.sub_zero, tl_len]
  by_cases e : i.toNat ≤ (tl z).length
  · rw [Nat.min_eq_left e]
  · rw [Nat.min_eq_right (by omega), List.take_length, List.take_of_length_le (by omega)]
theorem cutS_from {z : Str} {i : Int} (h : 0 ≤ i) : tl (cutS z (some i) none) = (tl z).drop i.toNat := by
  show ((tl z).drop (HT.sIx z.length 0 (some i))).take (z.length - HT.sIx z.length 0 (some i)) = _
  rw [sIx_pos h, tl_len]
  by_cases e : i.toNat ≤ (tl z).length
  · rw [Nat.min_eq_left e, List.take_of_length_le (by rw [List.length_drop]; omega)]
  · rw [Nat.min_eq_right (by omega), List.drop_of_length_le (l := tl z) (i := i.toNat) (by omega), List.drop_of_length_le (Nat.le_refl _), List.take_nil]
theorem cutS_mid {z : Str} {i j : Int} (h : 0 ≤ i) (h2 : 0 ≤ j) : tl (cutS z (some i) (some j)) = ((tl z).drop i.toNat).take (j.toNat - i.toNat) := by
  show ((tl z).drop (HT.sIx z.length 0 (some i))).take (HT.sIx z.length z.length (some j) - HT.sIx z.length 0 (some i)) = _
  rw [sIx_pos h, sIx_pos h2, tl_len]
  by_cases e : i.toNat ≤ (tl z).length
  · rw [Nat.min_eq_left e]
    by_cases f : j.toNat ≤ (tl z).length
    · rw [Nat.min_eq_left f]
    · rw [Nat.min_eq_right (by omega), List.take_of_length_le (by rw [List.length_drop]; omega), List.take_of_length_le (by rw [List.length_drop]; omega)]
  · rw [Nat.min_eq_right (a := i.toNat) (by omega), List.drop_of_length_le (Nat.le_refl _), List.drop_of_length_le (l := tl z) (i := i.toNat) (by omega)]; simp
theorem cutV_to {xs : List V} {i : Int} (h : 0 ≤ i) : cutV xs none (some i) = xs.take i.toNat := by
  show ((xs.drop 0).take (HT.sIx xs.length xs.length (some i) - 0)) = _
  rw [sIx_pos h, List.drop_zero, Nat.sub_zero]
  by_cases e : i.toNat ≤ xs.length
  · rw [Nat.min_eq_left e]
  · rw [Nat.min_eq_right (by omega), List.take_length, List.take_of_length_le (by omega)]
theorem cutV_from {xs : List V} {i : Int} (h : 0 ≤ i) : cutV xs (some i) none = xs.drop i.toNat := by
  show ((xs.drop (HT.sIx xs.length 0 (some i))).take (xs.length - HT.sIx xs.length 0 (some i))) = _
  rw [sIx_pos h]
  by_cases e : i.toNat ≤ xs.length
  · rw [Nat.min_eq_left e, List.take_of_length_le (by rw [List.length_drop]; omega)]
  · rw [Nat.min_eq_right (by omega), List.drop_of_length_le (l := xs) (i := i.toNat) (by omega), List.drop_of_length_le (Nat.le_refl _), List.take_nil]
/-- the text k times -/
def rep (k : Nat) (l : List Nat) : List Nat := (List.replicate k l).flatten
theorem rep_fold (x : Array Nat) : ∀ (k : Nat) (a : Array Nat), ((List.replicate k x).foldl (· ++ ·) a).toList = a.toList ++ rep k x.toList
  | 0, a => by simp [rep]
  | k + 1, a => by
    rw [List.replicate_succ, List.foldl_cons, rep_fold x k]
    simp [rep, List.replicate_succ]
theorem rep_len (k : Nat) (l : List Nat) : (rep k l).length = k * l.length := by
  induction k with
  | zero => simp [rep]
  | succ k ih => unfold rep at *; rw [List.replicate_succ, List.flatten_cons, List.length_append, ih, Nat.succ_mul]; omega
theorem rep_mem {k : Nat} {l : List Nat} {c : Nat} (h : c ∈ rep k l) : c ∈ l := by
  obtain ⟨x, hx, hc⟩ := List.mem_flatten.mp h
  rw [(List.mem_replicate.mp hx).2] at hc; exact hc
section
variable {X : Cx}
/-- s * k -/
theorem op_mul_str : OpR X (binaryOp .Mult) (fun x y H Q => ∃ (z : Str) (k : Int), x = .str z ∧ y = .int k ∧ k ≤ 100000 ∧ (-100000 ≤ k) ∧ (tl z).length * k.toNat ≤ 10000000 ∧ ∀ r : Str, tl r = rep k.toNat (tl z) → Q (.str r) H) := by
  intro pins s σ H x y v u Q I rx ry h
  obtain ⟨z, k, rfl, rfl, h1, h0, hz, q⟩ := h
  obtain ⟨t, rfl⟩ := rx
  obtain ⟨t', rfl⟩ := ry
  have hz' : z.length * k.toNat ≤ 10000000 := by rw [tl_len]; exact hz
  have small := PyProof.Rows.short24 (n := z.length * k.toNat) (Nat.le_trans hz' (by decide))
  refine P.mul_str ?_ (fun a b => ?_) (fun _ _ => small) ?_
  · rw [decide_eq_false (by omega), decide_eq_false (by omega)]; rfl
  · have hk : 1 ≤ k := by omega
    have hm : (z.length : Int) * k ≤ 10000000 := by
      have : ((z.length * k.toNat : Nat) : Int) ≤ 10000000 := by omega
      rw [Int.natCast_mul, Int.toNat_of_nonneg (by omega)] at this; exact this
    have hle : (z.length : Int) ≤ (2 ^ 63 - 1) / k := by
      rw [Int.le_ediv_iff_mul_le (by omega)]
      exact Int.le_trans hm (by decide)
    omega
  · by_cases hk : k < 1
    · rw [if_pos hk]
      refine ⟨by decide, ?_⟩
      exact ⟨.str Str.empty, H, I.tok _, ⟨_, rfl⟩, q _ (by rw [show k.toNat = 0 by omega]; rfl)⟩
    · rw [if_neg hk]
      by_cases hb : (k == 1 || z.length == 0) = true
      · rw [if_pos hb]
        refine ⟨.str z, H, I, ⟨_, rfl⟩, q _ ?_⟩
        rw [Bool.or_eq_true] at hb
        rcases hb with e | e
        · have : k = 1 := by simpa using e
          subst this; simp [rep]
        · have e : z.length = 0 := by simpa using e
          rw [tl_len] at e
          have : tl z = [] := List.length_eq_zero_iff.mp e
          rw [this]
          exact (List.length_eq_zero_iff.mp (by rw [rep_len]; rfl)).symm
      · rw [if_neg hb]
        have hr : tl (⟨(List.replicate k.toNat z.cps).foldl (· ++ ·) #[]⟩ : Str) = rep k.toNat (tl z) := by
          show ((List.replicate k.toNat z.cps).foldl (· ++ ·) #[]).toList = _
          rw [rep_fold]; simp [tl]
        refine ⟨?_, ?_⟩
        · rw [tl_len, hr, rep_len, Nat.mul_comm]
          exact Nat.le_trans hz (by decide)
        · exact ⟨.str _, H, I.tok _, ⟨_, rfl⟩, q _ hr⟩
end
section
variable {X : Cx} {K : PySem.W.Frag}
/-- t + u, of tuples -/
theorem op_cat (hK : X.K = K) : OpR X (binaryOp .Add) (fun x y H Q => ∃ a b xs ys, x = .ref a ∧ y = .ref b ∧ SqT K H a xs ∧ SqT K H b ys ∧ xs.length + ys.length ≤ sizeLine ∧
    ∀ p H', Same H H' → SqT K H' p (xs ++ ys) → Q (.ref p) H') := by
  subst hK
  intro pins s σ H x y v u Q I rx ry h
  obtain ⟨a, b, xs, ys, e1, e2, ha, hb, hz, q⟩ := h
  refine op_catA pins s σ H x y v u Q I rx ry ⟨a, b, xs, ys, e1, e2, ha, hb, hz, fun e => ?_, fun _ e => ?_, fun _ _ p hp => q p _ (same_new hp) (SqT.of upd_same)⟩
  · subst e; exact q b H (Same.refl _) hb
  · subst e; exact q a H (Same.refl _) (by rw [List.append_nil]; exact ha)
/-- t[lo:hi] of a tuple -/
theorem sl_tupS (hK : X.K = K) : SlR X (fun x lo hi H Q => ∃ a xs, x = .ref a ∧ SqT K H a xs ∧ ∀ p H', Same H H' → SqT K H' p (cutV xs lo hi) → Q (.ref p) H') := by
  subst hK
  intro pins s σ H x v vl vu lo hi sl Q I rx hs pl pu h
  obtain ⟨a, xs, e, hx, q⟩ := h
  refine sl_tupA pins s σ H x v vl vu lo hi sl Q I rx hs pl pu ⟨a, xs, e, hx, fun hw => q a H (Same.refl _) ?_, fun _ p hp => q p _ (same_new hp) (SqT.of upd_same)⟩
  have : cutV xs lo hi = xs := by
    show (xs.drop (HT.sIx xs.length 0 lo)).take (HT.sIx xs.length xs.length hi - HT.sIx xs.length 0 lo) = xs
    rw [hw.1, hw.2, List.drop_zero, Nat.sub_zero, List.take_length]
  rw [this]; exact hx
end
theorem _root_.L2.Same.tup {K : PySem.W.Frag} {H H' : Hp} {a : Addr} {xs : List V} (e : Same H H') (h : SqT K H a xs) : SqT K H' a xs := by
  rcases h with (h | ⟨o, h⟩) | h
  · exact .inl (.inl (e _ _ h))
  · exact .inl (.inr ⟨o, e _ _ h⟩)
  · exact .inr h

/-- a comprehension over a range that makes texts by draws (at most d of them for each) -/
theorem lc_strs {j n d : Nat} {te : TE} {vs : List Nat} {σ : St} {H : Hp} {D s a : Addr} {c : Nat} {Qd : Hp → Prop} (p : Str → Prop) (hD : H D = none) (hS : Src H s a (c + n * d)) (hn : n ≤ 100000)
    (hw : ∀ i : Nat, wipe ((wipe σ vs).set j (some (.int (0 + (i : Int))))) vs = wipe σ vs)
    (hs : ∀ (i c' : Nat) (H1 : Hp) (R : VK), i < n → Ext s H H1 → Src H1 s a (c' + d) → (∀ (x : Str) (H2 : Hp), p x → Ext s H1 H2 → Src H2 s a c' → R (.str x) H2) → te ((wipe σ vs).set j (some (.int (0 + (i : Int))))) H1 R)
    (hd : ∀ (xs : List Str) (H' : Hp), H' D = some (.lst (xs.map V.str)) → xs.length = n → (∀ x ∈ xs, p x) → Ext s H H' → Src H' s a c → Qd H') :
    ∃ W : Nat → Nat → Hp → Prop, (∃ m, W 0 m (upd H D (.lst []))) ∧ ∀ i m H, W i m H →
      ((Itr 0 n).stop i H ∧ Qd H) ∨ ((Itr 0 n).go i H ∧ ∃ Nx : Hp → Prop, (∀ H', Nx H' → ∃ m', m' < m ∧ W (i + 1) m' H') ∧ ∀ x H', (Itr 0 n).yld i H x H' → gName j x (wipe σ vs) H' fun σ2 H2 => wipe σ2 vs = wipe σ vs ∧ tYes σ2 H2 fun b H3 =>
        if b = true then te σ2 H3 fun y H4 => ∃ acc, H4 D = some (.lst acc) ∧ acc.length < sizeLine ∧ Nx (upd H4 D (.lst (acc ++ [y]))) else Nx H3) := by
  have Ds : D ≠ s := hS.ne hD
  have Da : D ≠ a := hS.nea hD
  refine lc_range (lo := 0) (n := n) (fun i H' => ∃ xs : List Str, H' D = some (.lst (xs.map V.str)) ∧ xs.length = i ∧ (∀ x ∈ xs, p x) ∧ Ext s H H' ∧ Src H' s a (c + (n - i) * d)) ?_ ?_ ?_
  · exact ⟨[], upd_same, rfl, (fun _ h => by cases h), Ext.new hD, (hS.new hD).mono (by simp)⟩
  · rintro i H' hi ⟨xs, hx, hl, hA, hE, hS'⟩
    refine ⟨hw i, ?_⟩
    show te _ H' _
    have e : c + (n - i) * d = c + (n - (i + 1)) * d + d := by
      rw [show n - i = n - (i + 1) + 1 by omega, Nat.succ_mul]; omega
    refine hs i (c + (n - (i + 1)) * d) H' _ hi hE (by rw [← e]; exact hS') (fun x H2 hp hE2 hS2 => ?_)
    refine ⟨xs.map V.str, hE2 _ _ Ds hx, ?_, xs ++ [x], by rw [upd_same, List.map_append]; rfl, by rw [List.length_append]; simp [hl], fun y hy => ?_, ?_, hS2.put Ds Da⟩
    · rw [List.length_map]; exact Nat.lt_of_lt_of_le (show xs.length < 100000 by omega) (by decide)
    · rcases List.mem_append.mp hy with h | h
      · exact hA y h
      · rw [List.mem_singleton.mp h]; exact hp
    · intro b o hb hH
      rw [upd_ne (ne_of_none hH hD)]; exact hE2 _ _ hb (hE _ _ hb hH)
  · rintro H' ⟨xs, hx, hl, hA, hE, hS'⟩
    exact hd xs H' hx hl hA hE (hS'.mono (by omega))
theorem atI_pos {α : Type} {xs : List α} {v : Int} {x : α} (h0 : 0 ≤ v) (h : xs[v.toNat]? = some x) : atI xs v = some x := by
  have e : v = (v.toNat : Int) := by omega
  rw [e]; exact atI_nat h
/-- any item of a list of texts -/
def sp__law_pick (K : PySem.W.Frag) : Sp := fun vs H Q _ =>
  (∃ (s a r : Addr) (xs : List V) (c : Nat), vs = [.ref s, .ref r] ∧ SqL K H r xs ∧ r ≠ s ∧ xs ≠ [] ∧ xs.length ≤ 100000 ∧ Src H s a (c + 1) ∧ ∀ (v : V) (H' : Hp), v ∈ xs → Ext s H H' → Src H' s a c → Q v H') ∨
  (∃ (s a : Addr) (x : Str) (c : Nat), vs = [.ref s, .str x] ∧ tl x ≠ [] ∧ (tl x).length ≤ 100000 ∧ Src H s a (c + 1) ∧ ∀ (ch : Nat) (H' : Hp), ch ∈ tl x → Ext s H H' → Src H' s a c → Q (.str (S [ch])) H')
def sp__law_once_in : Sp := fun vs H Q _ => ∃ (s a : Addr) (m : Int) (c : Nat), vs = [.ref s, .int m] ∧ 0 < m ∧ m < 1073741824 ∧ Src H s a (c + 1) ∧ ∀ (b : Bool) (H' : Hp), Ext s H H' → Src H' s a c → Q (.bl b) H'
end Z
namespace Z
open PySem L2
/-! ### own errors: raised, caught, asked -/
section
variable (P : Program) (w : World) (K : PySem.W.Frag) (mg : Str → Option Value) (base : Heap)
/-- a def that may raise, as callers use it -/
def CalX (x : Str) (ps : List Str) (k : Nat) (sp : Sp) : Prop := ∃ (f : Addr) (fd : FuncData), FnOk P w K mg base (L2.CX P w) k f fd ps sp ∧ mg x = some (.ref f) ∧ PySem.W.keepIn K (.ref f) = true ∧ Binds K fd ps []
end
/-- an own error class with an __init__ of its own (at fI) -/
structure XOk (K : PySem.W.Frag) (mg : Str → Option Value) (x : Str) (C : Addr) : Prop where
  g : mg x = some (.ref C)
  o : OexC K C
  e : ExcC K C
theorem XOk.xf {K : PySem.W.Frag} {mg : Str → Option Value} {x : Str} {C : Addr} (T : XOk K mg x C) : XfC K C := ⟨T.e.hg, T.e.hk, T.e.hs, T.e.hd⟩
/-- the class's __init__(self, f): self.f = f -/
def sp_init (K : PySem.W.Frag) (C : Addr) (f : Str) : Sp := fun vs H Q _ => ∃ (a : Addr) (v : V), vs = [.ref a, v] ∧ OexC K C ∧ PySem.W.findIn K (.ref C) f = some none ∧ H a = some (exo a C none) ∧
  ∀ dx, H dx = none → dx ≠ a → Q .non (upd (upd H dx (exd dx [(f, v)])) a (exo a C (some dx)))
/-- isinstance(e, c), e the caught error at a -/
def rIsX (K : PySem.W.Frag) (cls : Value) (d : Option Addr) (a : Addr) : List V → Hp → VK → Prop := fun xs H Q => ∃ (D dd : Addr) (c : V) (cv : Value) (b : Bool) (fs : List (Str × V)), cls = .ref D ∧ d = some dd ∧ ExcC K D ∧ xs = [.ref a, c] ∧ H dd = some (.xd fs) ∧ ClsV c cv ∧
  PySem.W.kitOne K cls cv = some b ∧ Q (.bl b) H
def rIsXT (K : PySem.W.Frag) (cls : Value) (d : Option Addr) (a : Addr) : List V → Hp → VK → Prop := fun xs H Q => ∃ (D dd tp : Addr) (cs : List V) (us : List Value) (b : Bool) (fs : List (Str × V)), cls = .ref D ∧ d = some dd ∧ ExcC K D ∧ xs = [.ref a, .ref tp] ∧ H dd = some (.xd fs) ∧
  H tp = some (.tup cs) ∧ Paired ClsV cs us ∧ PySem.W.kitAny K cls us = some b ∧ Q (.bl b) H
section
variable {X : Cx} {a : Addr} {oe : Obj} {cls : Value} {d : Option Addr} {pn : List (Addr × Obj)}
theorem inst_at {pins : List (Addr × Obj)} {σ : St} {H : Hp} {s : Shared} {D dd : Addr} {fs : List (Str × V)} (I : Inv (X.suite a ((a, oe) :: pn)) pins σ H s) (hz : Zc (.ref D) (some dd) oe) (hf : ∃ vs, oe.data = .fields vs) (hd : H dd = some (.xd fs)) :
    ∃ od, PySem.W.InstAt s.heap a oe D (some od) := by
  obtain ⟨hget, _⟩ := I.pin (a, oe) (List.mem_append.mpr (.inl List.mem_cons_self))
  obtain ⟨vs, hv⟩ := hf
  have hx : ObjOk X.prog X.w H s.heap dd (.xd fs) := I.hok dd _ hd
  obtain ⟨mA, hns, hr⟩ := hx
  obtain ⟨od, ho, hl⟩ := lookIn_ns hns
  exact ⟨od, ⟨hget, hz.1, by unfold PySem.W.notCls; rw [hv] <;> rfl, by rw [hz.2]; exact ho⟩⟩
theorem kitx_D {K : PySem.W.Frag} {D x : Addr} {ox : Obj} {od : Option Obj} (C : ExcC K D) : PySem.W.KitX K (.ref x) (.ref D) (fun h => PySem.W.InstAt h x ox D od) := by
  refine PySem.W.kitx_exc ?_ C.hg C.hk C.hs C.ha C.hn C.ht C.hm
  have h := C.hd
  obtain ⟨cd, hc, _⟩ := PySem.W.any_some h
  rw [hc]; rfl
theorem call_isX (hz : Zc cls d oe) (hf : ∃ vs, oe.data = .fields vs) : CallR (X.suite a ((a, oe) :: pn)) (.builtin "isinstance") (rIsX X.K cls d a) := by
  intro pins s σ H xs us Q I r h
  obtain ⟨D, dd, c, cv, b, fs, rfl, rfl, C, rfl, hd, k, e, q⟩ := h
  obtain ⟨u1, u2, rfl, r1, r2⟩ := vals2 r
  have e2 := k.eq r2
  subst e2
  obtain rfl : u1 = Value.ref a := r1
  obtain ⟨od, J⟩ := inst_at I hz hf hd
  exact PySem.W.kia_one (kitx_D C) I.kIn J e (fun z => nomatch z) fun tk => ⟨.bl b, H, I.kept (t' := tk) fun _ _ z => z, rfl, q⟩
theorem call_isXT (hz : Zc cls d oe) (hf : ∃ vs, oe.data = .fields vs) : CallR (X.suite a ((a, oe) :: pn)) (.builtin "isinstance") (rIsXT X.K cls d a) := by
  intro pins s σ H xs us Q I r h
  obtain ⟨D, dd, tp, cs, ws, b, fs, rfl, rfl, C, rfl, hd, hT, k, e, q⟩ := h
  obtain ⟨u1, u2, rfl, r1, r2⟩ := vals2 r
  obtain rfl : u2 = Value.ref tp := r2
  obtain rfl : u1 = Value.ref a := r1
  obtain ⟨od, J⟩ := inst_at I hz hf hd
  obtain ⟨_, its, rv, o, h1, h2, n, h3⟩ := (show ObjOk X.prog X.w H s.heap tp (.tup cs) from I.hok tp _ hT)
  have e3 := ClsV.all k rv
  subst e3
  obtain ⟨oc, od', dt, sl⟩ := o
  simp only at h2 h3
  subst h2 h3
  exact PySem.W.kia_tup (kitx_D C) I.kIn J h1 e (fun z => nomatch z) fun tk => ⟨.bl b, H, I.kept (t' := tk) fun _ _ z => z, rfl, q⟩
end
/-- the heap behind a made error -/
theorem made_same {H : Hp} {a dx : Addr} {o1 o2 o3 o4 : HO} (ha : H a = none) (hd : H dx = none) : Same H (upd (del (upd (upd (upd H a o1) dx o2) a o3) a) dx o4) := fun b u h => by
  rw [upd_ne (ne_of_none h hd), del_ne (ne_of_none h ha), upd_ne (ne_of_none h ha), upd_ne (ne_of_none h hd), upd_ne (ne_of_none h ha)]; exact h
/-- what a raised error tells: behind it all stands that stood -/
theorem paired1 {c : V} {u : Value} (k : ClsV c u) : Paired ClsV [c] [u] := .cons k .nil
end Z
namespace Z
open PySem L2 SX
open PySem.Builtin.Str (occurrences lastOccurrence subAt)
theorem at_one {x : Str} {c hi k : Nat} (h : hi ≤ (tl x).length) : StrLaws.At x (S [c]) hi k ↔ k < hi ∧ (tl x)[k]? = some c := by
  have e := StrLaws.subAt_one x c k
  have l1 : (S [c]).length = 1 := rfl
  unfold StrLaws.At
  constructor
  · rintro ⟨h1, h2⟩
    rw [l1] at h1
    refine ⟨by omega, e.mp ⟨?_, h2⟩⟩
    show k + 1 ≤ x.length
    rw [tl_len]; omega
  · rintro ⟨h1, h2⟩
    have h3 := e.mpr h2
    exact ⟨by rw [l1]; omega, h3.2⟩
theorem find_from (x : Str) (c : Nat) {i : Int} (h : 0 ≤ i) :
    (Txt.find3 x (S [c]) i = -1 ∧ ∀ k : Nat, i ≤ (k : Int) → (tl x)[k]? ≠ some c) ∨ ∃ k : Nat, Txt.find3 x (S [c]) i = (k : Int) ∧ i ≤ (k : Int) ∧ (tl x)[k]? = some c ∧ ∀ j : Nat, i ≤ (j : Int) → j < k → (tl x)[j]? ≠ some c := by
  obtain ⟨n, rfl⟩ := Int.eq_ofNat_of_zero_le h
  have hf : fromIndex x.length (n : Int) = n := by
    unfold fromIndex
    rw [if_neg (by omega), Int.max_eq_right (by omega)]; rfl
  unfold Txt.find3
  rw [hf, StrLaws.occ_eq]
  have hx : x.length = (tl x).length := tl_len x
  rcases StrLaws.occ_first x (S [c]) x.length 1 (Nat.le_refl _) (List.range' n (x.length + 1 - n)) n (fun i hi => (List.mem_range'_1.mp hi).1) with ⟨h0, hn⟩ | ⟨pre, a, post, e, h0, ha, hn⟩
  · refine .inl ⟨by rw [h0], fun k hk hc => ?_⟩
    have hlt := (List.getElem?_eq_some_iff.mp hc).1
    exact hn k (List.mem_range'_1.mpr ⟨by omega, by omega⟩) ((at_one (by omega)).mpr ⟨by omega, hc⟩)
  · have h1 := (at_one (by omega)).mp ha
    have hm : a ∈ List.range' n (x.length + 1 - n) := by rw [e]; simp
    refine .inr ⟨a, ?_, by have := (List.mem_range'_1.mp hm).1; omega, h1.2, fun j hj hl hc => ?_⟩
    · cases hq : (forIn (List.range' n (x.length + 1 - n)) ((#[] : Array Nat), n) (StrLaws.occBody x (S [c]) x.length 1)).run.fst.toList with
      | nil =>
        have : (forIn (List.range' n (x.length + 1 - n)) ((#[] : Array Nat), n) (StrLaws.occBody x (S [c]) x.length 1)).run.fst = #[] := Array.toList_eq_nil_iff.mp hq
        rw [this] at h0; simp at h0
      | cons b r =>
        have hb : (forIn (List.range' n (x.length + 1 - n)) ((#[] : Array Nat), n) (StrLaws.occBody x (S [c]) x.length 1)).run.fst[0]? = some b := by
          rw [← Array.getElem?_toList, hq]; rfl
        rw [hb] at h0
        cases h0; rfl
    · have hjm : j ∈ pre := by
        have hlt := (List.getElem?_eq_some_iff.mp hc).1
        have hjr : j ∈ List.range' n (x.length + 1 - n) := List.mem_range'_1.mpr ⟨by omega, by omega⟩
        have hp : (pre ++ a :: post).Pairwise (· < ·) := by rw [← e]; exact List.pairwise_lt_range'
        rw [e] at hjr
        rcases List.mem_append.mp hjr with q | q
        · exact q
        · rcases List.mem_cons.mp q with q | q
          · omega
          · have := (List.pairwise_cons.mp (List.pairwise_append.mp hp).2.1).1 j q
            omega
      exact hn j hjm ((at_one (by omega)).mpr ⟨by have := (List.getElem?_eq_some_iff.mp hc).1; omega, hc⟩)
theorem rfind_in (x : Str) (c : Nat) {i m : Int} (h : 0 ≤ i) (hm : 0 ≤ m) :
    (Txt.rfindIn x (S [c]) i m = -1 ∧ ∀ k : Nat, i ≤ (k : Int) → (k : Int) < m → (tl x)[k]? ≠ some c) ∨ ∃ k : Nat, Txt.rfindIn x (S [c]) i m = (k : Int) ∧ i ≤ (k : Int) ∧ (k : Int) < m ∧ (tl x)[k]? = some c ∧ ∀ j : Nat, k < j → (j : Int) < m → (tl x)[j]? ≠ some c := by
  obtain ⟨n, rfl⟩ := Int.eq_ofNat_of_zero_le h
  obtain ⟨e, rfl⟩ := Int.eq_ofNat_of_zero_le hm
  have hf : fromIndex x.length (n : Int) = n := by
    unfold fromIndex
    rw [if_neg (by omega), Int.max_eq_right (by omega)]; rfl
  have ht : toIndexW x.length (e : Int) = min e x.length := by
    unfold toIndexW
    rw [if_neg (by omega), Int.max_eq_right (by omega)]; rfl
  have hx : x.length = (tl x).length := tl_len x
  unfold Txt.rfindIn
  rw [hf, ht, StrLaws.last_eq]
  have key := StrLaws.last_run x (S [c]) (min e x.length) (List.range' n (min e x.length + 1 - n)) [] none (fun _ h => nomatch h) (fun _ h => nomatch h) List.pairwise_lt_range'
  rw [List.nil_append] at key
  cases hq : (forIn (List.range' n (min e x.length + 1 - n)) none (StrLaws.lastBody x (S [c]) (min e x.length))).run with
  | none =>
    rw [hq] at key
    refine .inl ⟨rfl, fun k hk hk2 hc => ?_⟩
    have hlt := (List.getElem?_eq_some_iff.mp hc).1
    exact key k (List.mem_range'_1.mpr ⟨by omega, by omega⟩) ((at_one (by omega)).mpr ⟨by omega, hc⟩)
  | some a =>
    rw [hq] at key
    obtain ⟨ha, hl⟩ := key
    have h1 := (at_one (by omega)).mp ha
    have hr : n ≤ a := by
      -- the last place is one of those that were looked at
      have : ∀ (l : List Nat) (st : Option Nat) (b : Nat), (forIn l st (StrLaws.lastBody x (S [c]) (min e x.length))).run = some b → st = some b ∨ b ∈ l := by
        intro l
        induction l with
        | nil => intro st b hb; exact .inl hb
        | cons d l ih =>
          intro st b hb
          rw [List.forIn_cons] at hb
          unfold StrLaws.lastBody at hb
          split at hb
          · rcases ih _ _ hb with q | q
            · exact .inr (by cases q; exact List.mem_cons_self)
            · exact .inr (List.mem_cons_of_mem _ q)
          · rcases ih _ _ hb with q | q
            · exact .inl q
            · exact .inr (List.mem_cons_of_mem _ q)
      rcases this _ _ _ hq with q | q
      · cases q
      · exact (List.mem_range'_1.mp q).1
    refine .inr ⟨a, rfl, by omega, by omega, h1.2, fun j hj hj2 hc => ?_⟩
    have hlt := (List.getElem?_eq_some_iff.mp hc).1
    exact hl j (List.mem_range'_1.mpr ⟨by omega, by omega⟩) hj ((at_one (by omega)).mpr ⟨by omega, hc⟩)

theorem tl_inj : ∀ {a b : List Str}, a.map tl = b.map tl → a = b
  | [], [], _ => rfl
  | [], _ :: _, h => by cases h
  | _ :: _, [], h => by cases h
  | x :: a, y :: b, h => by
    rw [List.map_cons, List.map_cons] at h
    obtain ⟨h1, h2⟩ := List.cons.inj h
    rw [tl_ext h1, tl_inj h2]
theorem DV.strsT {K : PySem.W.Frag} {H : Hp} {p : Addr} {xs : List Str} (h : SqT K H p (xs.map V.str)) : DV K H (.tup (xs.map D.str)) (.ref p) := by
  unfold DV
  exact ⟨p, _, rfl, h, DVs.strs xs⟩
end Z
namespace Z
open PySem L2 SX
/-! ### methods of own classes -/
section
variable (P : Program) (w : World) (K : PySem.W.Frag) (mg : Str → Option Value) (base : Heap)
/-- a method, with its promise -/
def CalM (C : Addr) (m : Str) (ps : List Str) (k : Nat) (sp : Sp) : Prop := ∃ (f : Addr) (fd : FuncData), FnOk P w K mg base CX0 k f fd ps sp ∧ Meth K C m f ∧ Binds K fd ps []
def CalI (C : Addr) (ps : List Str) (k : Nat) (sp : Sp) : Prop := ∃ (f : Addr) (fd : FuncData), FnOk P w K mg base CX0 k f fd ps sp ∧ Mk K C f ∧ Binds K fd ps []
def CalP (C : Addr) (m : Str) (ps : List Str) (k : Nat) (sp : Sp) : Prop := ∃ (p f : Addr) (fd : FuncData), FnOk P w K mg base CX0 k f fd ps sp ∧ PropOf K C m p f ∧ Binds K fd ps []
def DfM (C : Addr) (m q : Str) (st : Stmt) (ps : List Str) : Prop := ∃ (f : Addr) (fd : FuncData), Fun K m q st f fd ∧ Meth K C m f ∧ Binds K fd ps []
def DfI (C : Addr) (q : Str) (st : Stmt) (ps : List Str) : Prop := ∃ (f : Addr) (fd : FuncData), Fun K "__init__" q st f fd ∧ Mk K C f ∧ Binds K fd ps []
def DfP (C : Addr) (m q : Str) (st : Stmt) (ps : List Str) : Prop := ∃ (p f : Addr) (fd : FuncData), Fun K m q st f fd ∧ PropOf K C m p f ∧ Binds K fd ps []
end
/-- all but these stays -/
def ExtL (ms : List Addr) (H H' : Hp) : Prop := ∀ b o, b ∉ ms → H b = some o → H' b = some o
theorem ExtL.refl (ms : List Addr) (H : Hp) : ExtL ms H H := fun _ _ _ h => h
theorem ExtL.trans {ms : List Addr} {H H1 H2 : Hp} (a : ExtL ms H H1) (b : ExtL ms H1 H2) : ExtL ms H H2 := fun c o n h => b c o n (a c o n h)
theorem ExtL.of {ms : List Addr} {H H' : Hp} (a : Same H H') : ExtL ms H H' := fun c o _ h => a c o h
theorem ExtL.ofExt {ms : List Addr} {s : Addr} {H H' : Hp} (a : Ext s H H') (m : s ∈ ms) : ExtL ms H H' := fun c o n h => a c o (fun e => n (by rw [e]; exact m)) h
theorem ExtL.mono {ms ns : List Addr} {H H' : Hp} (a : ExtL ms H H') (m : ∀ x ∈ ms, x ∈ ns) : ExtL ns H H' := fun c o n h => a c o (fun e => n (m c e)) h
theorem ExtL.put {ms : List Addr} {p : Addr} {H : Hp} {o : HO} (m : p ∈ ms) : ExtL ms H (upd H p o) := fun c u n h => by
  rw [upd_ne (fun e => n (by rw [e]; exact m))]; exact h
theorem ExtL.new {ms : List Addr} {p : Addr} {H : Hp} {o : HO} (n : H p = none) : ExtL ms H (upd H p o) := ExtL.of (same_new n)
end Z
namespace Z
open PySem PySem.W PySem.Calls PyProof.Rows L2
/-! ### data, as the sorts and comparisons see it -/
mutual
def py : D → PyData
  | .non => .none
  | .bl b => .bool b
  | .int i => .int i
  | .str x => .str x
  | .tup xs => .tuple (pys xs)
def pys : List D → List PyData
  | [] => []
  | d :: ds => py d :: pys ds
end
theorem pys_map : ∀ ds : List D, pys ds = ds.map py
  | [] => by simp [pys]
  | d :: ds => by rw [pys, pys_map ds, List.map_cons]
section
variable {K : Frag} {H : Hp}
mutual
theorem DV.dp : ∀ {d : D} {v : V}, DV K H d v → Dp K H v (py d)
  | .non, _, h => by unfold DV at h; subst h; unfold py; exact .non
  | .bl b, _, h => by unfold DV at h; subst h; unfold py; exact .bl b
  | .int i, _, h => by unfold DV at h; subst h; unfold py; exact .int i
  | .str x, _, h => by unfold DV at h; subst h; unfold py; exact .str x
  | .tup ds, _, h => by
    unfold DV at h
    obtain ⟨a, vs, rfl, q, r⟩ := h
    unfold py
    exact .tup q (DVs.dpa r)
theorem DVs.dpa : ∀ {ds : List D} {vs : List V}, DVs K H ds vs → DpAll K H vs (pys ds)
  | [], _, h => by unfold DVs at h; subst h; unfold pys; exact .nil
  | d :: ds, _, h => by
    unfold DVs at h
    obtain ⟨v, r, rfl, q, t⟩ := h
    unfold pys
    exact .cons (DV.dp q) (DVs.dpa t)
end
end
mutual
theorem py_eqv : ∀ (d e : D), alike (py d) (py e) = true → (PyData.eqv (py d) (py e) = true ↔ d = e)
  | .non, .non, _ => by simp [py, PyData.eqv]
  | .bl b, .bl c, _ => by simp [py, PyData.eqv]
  | .int b, .int c, _ => by simp [py, PyData.eqv]
  | .str b, .str c, _ => by simp [py, PyData.eqv]
  | .tup xs, .tup ys, h => by
    have := pys_eqv xs ys (by simpa [py, alike] using h)
    simp only [py, PyData.eqv, D.tup.injEq]
    exact this
  | .non, .bl _, h | .non, .int _, h | .non, .str _, h | .non, .tup _, h => by simp [py, alike] at h
  | .bl _, .non, h | .bl _, .int _, h | .bl _, .str _, h | .bl _, .tup _, h => by simp [py, alike] at h
  | .int _, .non, h | .int _, .bl _, h | .int _, .str _, h | .int _, .tup _, h => by simp [py, alike] at h
  | .str _, .non, h | .str _, .bl _, h | .str _, .int _, h | .str _, .tup _, h => by simp [py, alike] at h
  | .tup _, .non, h | .tup _, .bl _, h | .tup _, .int _, h | .tup _, .str _, h => by simp [py, alike] at h
theorem pys_eqv : ∀ (d e : List D), alikeAll (pys d) (pys e) = true → (PyData.eqvAll (pys d) (pys e) = true ↔ d = e)
  | [], [], _ => by simp [pys, PyData.eqvAll]
  | [], y :: ys, _ => by simp [pys, PyData.eqvAll]
  | x :: xs, [], _ => by simp [pys, PyData.eqvAll]
  | x :: xs, y :: ys, h => by
    have h' : alike (py x) (py y) = true ∧ alikeAll (pys xs) (pys ys) = true := by simpa [pys, alikeAll] using h
    simp only [pys, PyData.eqvAll, Bool.and_eq_true, List.cons.injEq, py_eqv x y h'.1, pys_eqv xs ys h'.2]
end
/-- compared with another by == -/
def eqD (d e : D) : Bool := PyData.eqv (py d) (py e)
theorem eqD_iff {d e : D} (h : alike (py d) (py e) = true) : eqD d e = true ↔ d = e := py_eqv d e h
def Okd (d : D) : Prop := SeqAt.shaped (py d) = true
def Okl (ds : List D) : Prop := SeqAt.shaped (.list (pys ds)) = true
mutual
def fine : Nat → D → Bool
  | _, .non => true
  | _, .bl _ => true
  | _, .int _ => true
  | _, .str x => PyData.strOk x
  | 0, .tup _ => false
  | n + 1, .tup xs => fines n xs
def fines : Nat → List D → Bool
  | _, [] => true
  | n, d :: ds => fine n d && fines n ds
end
mutual
theorem fine_lay : ∀ {n : Nat} {d : D}, fine n d = true → (py d).canLay0 = true ∧ (py d).depth ≤ n
  | n, .non, _ => by simp [py, PyData.canLay0, PyData.depth]
  | n, .bl _, _ => by simp [py, PyData.canLay0, PyData.depth]
  | n, .int _, _ => by simp [py, PyData.canLay0, PyData.depth]
  | n, .str x, h => by
    have h' : PyData.strOk x = true := by cases n <;> simpa [fine] using h
    refine ⟨by simpa [py, PyData.canLay0] using h', by simp [py, PyData.depth]⟩
  | 0, .tup _, h => by simp [fine] at h
  | n + 1, .tup xs, h => by
    have h' := fines_lay (show fines n xs = true by simpa [fine] using h)
    refine ⟨by simpa [py, PyData.canLay0] using h'.1, ?_⟩
    simp only [py, PyData.depth]
    have := h'.2
    omega
theorem fines_lay : ∀ {n : Nat} {ds : List D}, fines n ds = true → PyData.canLayAll0 (pys ds) = true ∧ PyData.depthAll (pys ds) ≤ n
  | n, [], _ => by simp [pys, PyData.canLayAll0, PyData.depthAll]
  | n, d :: ds, h => by
    have h' : fine n d = true ∧ fines n ds = true := by simpa [fines] using h
    have h1 := fine_lay h'.1
    have h2 := fines_lay h'.2
    refine ⟨by simp [pys, PyData.canLayAll0, h1.1, h2.1], ?_⟩
    simp only [pys, PyData.depthAll]
    have := h1.2
    have := h2.2
    omega
end
theorem fine_ok {n : Nat} {d : D} (h : fine n d = true) (hn : n ≤ 60 := by decide) : Okd d := by
  have := fine_lay h
  unfold Okd SeqAt.shaped
  rw [this.1, decide_eq_true (by omega)]; rfl
theorem fines_ok {n : Nat} {ds : List D} (h : fines n ds = true) (hn : n ≤ 60 := by decide) : Okl ds := by
  have := fines_lay h
  unfold Okl SeqAt.shaped
  have e : (PyData.list (pys ds)).canLay0 = true := by simpa [PyData.canLay0] using this.1
  have f : (PyData.list (pys ds)).depth ≤ 64 := by simp only [PyData.depth]; omega
  rw [e, decide_eq_true f]; rfl
theorem fines_map {α : Type} {f : α → D} {n : Nat} : ∀ {l : List α}, (∀ x ∈ l, fine n (f x) = true) → fines n (l.map f) = true
  | [], _ => by simp [fines]
  | x :: l, h => by
    rw [List.map_cons, fines, h x (by simp), fines_map fun y m => h y (List.mem_cons_of_mem _ m)]; rfl
theorem fine_tup {n : Nat} {ds : List D} (h : fines n ds = true) : fine (n + 1) (.tup ds) = true := by simpa [fine] using h
theorem fine_low {n : Nat} {x : Str} (h : ∀ c ∈ tl x, c < 1114112) : fine n (.str x) = true := by
  have : PyData.strOk x = true := by
    unfold PyData.strOk
    rw [← Array.all_toList, List.all_eq_true]
    exact fun c m => decide_eq_true (h c m)
  cases n <;> simpa [fine] using this
theorem fines_cons {n : Nat} {d : D} {ds : List D} (h : fine n d = true) (t : fines n ds = true) : fines n (d :: ds) = true := by rw [fines, h, t]; rfl
theorem fines_nil {n : Nat} : fines n [] = true := by rw [fines]
theorem fine_int {n : Nat} {i : Int} : fine n (.int i) = true := by cases n <;> simp [fine]
theorem fine_non {n : Nat} : fine n .non = true := by cases n <;> simp [fine]
section
variable {X : Cx}
/-- == and != of data -/
def rEqDD (K : Frag) : R2 := fun x y H Q => ∃ d e, DV K H d x ∧ DV K H e y ∧ Okd d ∧ Okd e ∧ Q (.bl (eqD d e)) H
def rNeDD (K : Frag) : R2 := fun x y H Q => ∃ d e, DV K H d x ∧ DV K H e y ∧ Okd d ∧ Okd e ∧ Q (.bl (!eqD d e)) H
theorem op_eqDD (hu : X.A.units + 64 < cLine) : OpR X (compareOp .Eq) (rEqDD X.K) := by
  intro pins s σ H x y v u Q I rx ry h
  obtain ⟨d, e, hd, he, sd, se, q⟩ := h
  exact op_eqD hu pins s σ H x y v u Q I rx ry ⟨_, _, hd.dp, he.dp, sd, se, q⟩
theorem op_neDD (hu : X.A.units + 64 < cLine) : OpR X (compareOp .NotEq) (rNeDD X.K) := by
  intro pins s σ H x y v u Q I rx ry h
  obtain ⟨d, e, hd, he, sd, se, q⟩ := h
  exact op_neD hu pins s σ H x y v u Q I rx ry ⟨_, _, hd.dp, he.dp, sd, se, q⟩
/-- in and not in over a list of data -/
def rInDD (K : Frag) (neg : Bool) : R2 := fun x y H Q => ∃ (d : D) (a : Addr) (vs : List V) (ds : List D), DV K H d x ∧ y = .ref a ∧ SqL K H a vs ∧ DVs K H ds vs ∧ Okd d ∧ Okl ds ∧ Q (.bl (if neg then !ds.any (fun z => eqD z d) else ds.any fun z => eqD z d)) H
theorem any_pys (d : D) (ds : List D) : ((pys ds).any fun z => PyData.eqv z (py d)) = ds.any fun z => eqD z d := by
  rw [pys_map, List.any_map]; rfl
theorem op_inDD (hu : X.A.units + 65 < cLine) : OpR X (compareOp .In) (rInDD X.K false) := by
  intro pins s σ H x y v u Q I rx ry h
  obtain ⟨d, a, vs, ds, hd, rfl, hs, he, sd, se, q⟩ := h
  exact op_inD hu pins s σ H _ _ v u Q I rx ry ⟨_, _, hd.dp, .lst hs he.dpa, sd, se, by rw [any_pys]; exact q⟩
theorem op_notInDD (hu : X.A.units + 65 < cLine) : OpR X (compareOp .NotIn) (rInDD X.K true) := by
  intro pins s σ H x y v u Q I rx ry h
  obtain ⟨d, a, vs, ds, hd, rfl, hs, he, sd, se, q⟩ := h
  exact op_notInD hu pins s σ H _ _ v u Q I rx ry ⟨_, _, hd.dp, .lst hs he.dpa, sd, se, by rw [any_pys]; exact q⟩
theorem any_eqD {α : Type} {f : α → D} {d : α} {l : List α} (hf : ∀ x ∈ l, f x = f d → x = d) (h : ∀ x ∈ l, alike (py (f x)) (py (f d)) = true) : (l.map f).any (fun z => eqD z (f d)) = true ↔ d ∈ l := by
  rw [List.any_eq_true]
  constructor
  · rintro ⟨z, hz, e⟩
    obtain ⟨x, hx, rfl⟩ := List.mem_map.mp hz
    rw [← hf x hx ((eqD_iff (h x hx)).mp e)]; exact hx
  · intro m
    exact ⟨f d, List.mem_map_of_mem m, (eqD_iff (h d m)).mpr rfl⟩
/-- sorted(xs), xs a list of data -/
def dle {β : Type} (f : β → D) : β → β → Bool := dataLe false fun b => py (f b)
def rSortDD (K : Frag) : List V → Hp → VK → Prop := fun vs H Q => ∃ (a : Addr) (us : List V) (β : Type) (l : List β) (f : β → D), vs = [.ref a] ∧ SqL K H a us ∧ DVs K H (l.map f) us ∧ AllAlike (l.map fun b => py (f b)) ∧ Sortable (l.map fun b => py (f b)) ∧ (∀ b ∈ l, (py (f b)).depth ≤ 60) ∧
  ∀ (ys : List V) (p : Addr), H p = none → DVs K H ((l.mergeSort (dle f)).map f) ys → Q (.ref p) (upd H p (.lst ys))
theorem dvs_each {K : Frag} {H : Hp} {β : Type} {f : β → D} : ∀ {l : List β} {us : List V} {vs : List Value}, DVs K H (l.map f) us → Vals us vs → EachIs (fun u b => ∃ v, RelV v u ∧ DV K H (f b) v) vs l
  | [], _, _, h, r => by
    unfold List.map DVs at h; subst h; cases r; exact .nil
  | b :: l, _, _, h, r => by
    obtain ⟨v, t, rfl, q, h2⟩ := h
    cases r with
    | cons r1 r2 => exact .cons ⟨v, r1, q⟩ (dvs_each h2 r2)
theorem each_dvs {K : Frag} {H : Hp} {β : Type} {f : β → D} : ∀ {l : List β} {vs : List Value}, EachIs (fun u b => ∃ v, RelV v u ∧ DV K H (f b) v) vs l → ∃ us, DVs K H (l.map f) us ∧ Vals us vs
  | [], _, h => by cases h; exact ⟨[], by unfold List.map DVs; rfl, .nil⟩
  | b :: l, _, h => by
    cases h with
    | cons h1 h2 =>
      obtain ⟨v, r1, q⟩ := h1
      obtain ⟨us, d, r2⟩ := each_dvs h2
      exact ⟨v :: us, ⟨v, us, rfl, q, d⟩, .cons r1 r2⟩
theorem each_reads {pins : List (Addr × Obj)} {σ : L2.St} {H : Hp} {s : Shared} (I : Inv X pins σ H s) {β : Type} {f : β → D} {l : List β} {vs : List Value} (h : EachIs (fun u b => ∃ v, RelV v u ∧ DV X.K H (f b) v) vs l) :
    EachIs (fun u b => ∃ as, Reads s.heap u (py (f b)) as) vs l := h.mono fun u b ⟨v, r, q⟩ => Dp.reads I _ _ _ q.dp r
theorem vals_len : ∀ {us : List V} {vs : List Value}, Vals us vs → us.length = vs.length
  | _, _, .nil => rfl
  | _, _, .cons _ r => by rw [List.length_cons, List.length_cons, vals_len r]
theorem hu_big {n : Nat} (h : X.A.units + 65 < cLine) (k : n ≤ 60) : X.A.units + 2 + n < cLine := by omega
theorem cr_sortDD (hu : X.A.units + 65 < cLine) : CallR X (.builtin "sorted") (rSortDD X.K) := by
  intro pins s σ H vs us Q I r h
  obtain ⟨a, xs, β, l, f, rfl, hs, hd, hal, hsb, hdp, q⟩ := h
  obtain ⟨its, rv, hl, hz⟩ := I.list hs
  obtain ⟨u, rfl, ru⟩ := vals1 r
  obtain rfl : u = Value.ref a := ru
  have e := dvs_each hd rv
  have hlen := vals_len rv
  have hlen2 := e.length
  refine PySem.W.sorted_data (enc := fun b => py (f b)) hl.isList e (each_reads I e) hal hsb (by omega) (fun b m => hu_big hu (hdp b m)) fun out ho eo => ?_
  obtain ⟨ys, dy, ry⟩ := each_dvs eo
  have fr : H (s.heap.objs.size + 1) = none := I.hok.fresh (Nat.le_succ _)
  obtain ⟨n, hn⟩ := sortedAll_at s.heap its (List.toArray out)
  refine ⟨.ref _, upd H _ (.lst ys), I.laid (t' := s.toks) (fun b o g => sortedAll_old g) (Nat.le_succ _) ⟨?_, out, n, ry, hn⟩, rfl, q ys _ fr dy⟩
  rw [vals_len ry]; omega
/-- min(xs), max(xs) of data -/
def rMinDD (K : Frag) (mx : Bool) : List V → Hp → VK → Prop := fun vs H Q => ∃ (a : Addr) (us : List V) (β : Type) (l : List β) (f : β → D), vs = [.ref a] ∧ SqL K H a us ∧ DVs K H (l.map f) us ∧ AllAlike (l.map fun b => py (f b)) ∧ (∀ b ∈ l, f b ≠ .non) ∧ (∀ b ∈ l, (py (f b)).depth ≤ 60) ∧ l ≠ [] ∧
  ∀ (m : β) (v : V), m ∈ l → (∀ y ∈ l, (if mx then dataLt (py (f m)) (py (f y)) else dataLt (py (f y)) (py (f m))) = false) → DV K H (f m) v → Q v H
theorem depth_all {β : Type} {g : β → PyData} : ∀ {l : List β}, (∀ b ∈ l, (g b).depth ≤ 60) → PyData.depthAll (l.map g) ≤ 60
  | [], _ => by simp [PyData.depthAll]
  | b :: l, h => by
    have h1 := h b (by simp)
    have h2 := depth_all (l := l) fun c m => h c (List.mem_cons_of_mem _ m)
    rw [List.map_cons, PyData.depthAll]; omega
theorem lt_irr (x : PyData) : dataLt x x = false := lex_irrefl _
theorem minD_mem (x : PyData) : ∀ xs : List PyData, minD x xs ∈ x :: xs := by
  intro xs
  unfold minD
  suffices h : ∀ (xs : List PyData) (a : PyData) (L : List PyData), a ∈ L → (∀ y ∈ xs, y ∈ L) → xs.foldl (fun a y => if dataLt y a then y else a) a ∈ L from h xs x (x :: xs) (by simp) (fun y m => List.mem_cons_of_mem _ m)
  intro xs
  induction xs with
  | nil => intro a L h _; exact h
  | cons y ys ih =>
    intro a L h k
    rw [List.foldl_cons]
    refine ih _ L ?_ fun z m => k z (List.mem_cons_of_mem _ m)
    split
    · exact k y (by simp)
    · exact h
def pyLe (a b : PyData) : Bool := !dataLt b a
theorem pyLe_total : TotalLe pyLe := sortLe_total (listOrd itemOrd) false keyToks
theorem lt_of_pyLe {a b : PyData} (h : pyLe a b = true) : dataLt b a = false := by unfold pyLe at h; simpa using h
theorem pyLe_of {a b : PyData} (h : dataLt b a = false) : pyLe a b = true := by unfold pyLe; rw [h]; rfl
theorem pyLe_lt {a b : PyData} (h : dataLt a b = true) : pyLe a b = true := (pyLe_total.total a b).elim id fun k => by
  have := lt_of_pyLe k
  rw [this] at h; cases h
theorem minD_le : ∀ (xs : List PyData) (x : PyData), ∀ y ∈ x :: xs, pyLe (minD x xs) y = true := by
  intro xs
  suffices h : ∀ (xs : List PyData) (a : PyData) (L : List PyData), (∀ y ∈ L, pyLe a y = true) → ∀ y, y ∈ L ∨ y ∈ xs → pyLe (xs.foldl (fun a y => if dataLt y a then y else a) a) y = true from fun x y m => h xs x [x] (fun z m => by rw [List.mem_singleton.mp m]; exact pyLe_total.refl x) y (by
    rcases List.mem_cons.mp m with e | e
    · exact .inl (by rw [e]; simp)
    · exact .inr e)
  intro xs
  induction xs with
  | nil => intro a L h y m; exact h y (m.resolve_right (by simp))
  | cons z zs ih =>
    intro a L h y m
    rw [List.foldl_cons]
    refine ih _ (z :: L) ?_ y ?_
    · intro w mw
      by_cases c : dataLt z a = true
      · rw [if_pos c]
        rcases List.mem_cons.mp mw with e | e
        · rw [e]; exact pyLe_total.refl z
        · exact pyLe_total.trans _ _ _ (pyLe_lt c) (h w e)
      · rw [if_neg c]
        rcases List.mem_cons.mp mw with e | e
        · rw [e]; exact pyLe_of (by simpa using c)
        · exact h w e
    · rcases m with m | m
      · exact .inl (List.mem_cons_of_mem _ m)
      · rcases List.mem_cons.mp m with e | e
        · exact .inl (by rw [e]; simp)
        · exact .inr e
theorem maxD_mem (x : PyData) : ∀ xs : List PyData, maxD x xs ∈ x :: xs := by
  intro xs
  unfold maxD
  suffices h : ∀ (xs : List PyData) (a : PyData) (L : List PyData), a ∈ L → (∀ y ∈ xs, y ∈ L) → xs.foldl (fun a y => if dataLt a y then y else a) a ∈ L from h xs x (x :: xs) (by simp) (fun y m => List.mem_cons_of_mem _ m)
  intro xs
  induction xs with
  | nil => intro a L h _; exact h
  | cons y ys ih =>
    intro a L h k
    rw [List.foldl_cons]
    refine ih _ L ?_ fun z m => k z (List.mem_cons_of_mem _ m)
    split
    · exact k y (by simp)
    · exact h
theorem maxD_le : ∀ (xs : List PyData) (x : PyData), ∀ y ∈ x :: xs, pyLe y (maxD x xs) = true := by
  intro xs
  suffices h : ∀ (xs : List PyData) (a : PyData) (L : List PyData), (∀ y ∈ L, pyLe y a = true) → ∀ y, y ∈ L ∨ y ∈ xs → pyLe y (xs.foldl (fun a y => if dataLt a y then y else a) a) = true from fun x y m => h xs x [x] (fun z m => by rw [List.mem_singleton.mp m]; exact pyLe_total.refl x) y (by
    rcases List.mem_cons.mp m with e | e
    · exact .inl (by rw [e]; simp)
    · exact .inr e)
  intro xs
  induction xs with
  | nil => intro a L h y m; exact h y (m.resolve_right (by simp))
  | cons z zs ih =>
    intro a L h y m
    rw [List.foldl_cons]
    refine ih _ (z :: L) ?_ y ?_
    · intro w mw
      by_cases c : dataLt a z = true
      · rw [if_pos c]
        rcases List.mem_cons.mp mw with e | e
        · rw [e]; exact pyLe_total.refl z
        · exact pyLe_total.trans _ _ _ (h w e) (pyLe_lt c)
      · rw [if_neg c]
        rcases List.mem_cons.mp mw with e | e
        · rw [e]; exact pyLe_of (by simpa using c)
        · exact h w e
    · rcases m with m | m
      · exact .inl (List.mem_cons_of_mem _ m)
      · rcases List.mem_cons.mp m with e | e
        · exact .inl (by rw [e]; simp)
        · exact .inr e
theorem each_get {β : Type} {R : Value → β → Prop} : ∀ {vs : List Value} {l : List β} {i : Nat} {v : Value}, EachIs R vs l → vs[i]? = some v → ∃ b, l[i]? = some b ∧ R v b
  | _, _, _, _, .nil, h => by simp at h
  | _, _, 0, _, .cons h1 _, h => by cases (show some _ = some _ from h); exact ⟨_, rfl, h1⟩
  | _, _, i + 1, _, .cons _ t, h => each_get (i := i) t (by simpa using h)
theorem min_pick {pins : List (Addr × Obj)} {σ : L2.St} {H : Hp} {s : Shared} (I : Inv X pins σ H s) {β : Type} {l : List β} {f : β → D} {its : List Value} (e : EachIs (fun u b => ∃ v, RelV v u ∧ DV X.K H (f b) v) its l) (hal : AllAlike (l.map fun b => py (f b))) {i : Nat} {v : Value} {h' : Heap} {m : PyData} {bs : List Addr}
    (hv : its[i]? = some v) (hr : Reads h' v m bs) (kp : ∀ b o, s.heap.get? b = some o → h'.get? b = some o) (hm : m ∈ l.map fun b => py (f b)) : ∃ b w, b ∈ l ∧ RelV w v ∧ DV X.K H (f b) w ∧ py (f b) = m := by
  obtain ⟨b, hb, w, rw', dw⟩ := each_get e hv
  have mb := List.mem_of_getElem? hb
  obtain ⟨as, r1⟩ := Dp.reads I _ _ _ dw.dp rw'
  have r2 : Reads h' v (py (f b)) as := PyProof.Rows.Reads.keeps kp r1
  exact ⟨b, w, mb, rw', dw, alike_unique _ _ _ _ _ (hal _ (List.mem_map_of_mem mb) _ hm) r2 hr⟩
theorem cr_minDD (hu : X.A.units + 65 < cLine) (hc : X.calm = true) : CallR X (.builtin "min") (rMinDD X.K false) := by
  intro pins s σ H vs us Q I r h
  obtain ⟨a, xs, β, l, f, rfl, hs, hd, hal, hnn, hdp, hne, q⟩ := h
  obtain ⟨its, rv, hl, hz⟩ := I.list hs
  obtain ⟨u, rfl, ru⟩ := vals1 r
  obtain rfl : u = Value.ref a := ru
  have e := dvs_each hd rv
  obtain ⟨b0, l', rfl⟩ : ∃ b0 l', l = b0 :: l' := by
    cases l with
    | nil => exact absurd rfl hne
    | cons b r => exact ⟨b, r, rfl⟩
  obtain ⟨as, hra⟩ := Dp.readsAll I _ _ _ hd.dpa rv
  have ep : pys ((b0 :: l').map f) = py (f b0) :: l'.map (fun b => py (f b)) := by rw [pys_map, List.map_map]; rfl
  rw [ep] at hra
  have hal' : AllAlike (py (f b0) :: l'.map (fun b => py (f b))) := hal
  refine min_list_data (I.ok.hd hc) hl.isList (vs := its.toArray) (by simpa using hra) ⟨fun x mx y my => hal' x mx y my, fun x mx => ?_⟩ ?_ fun i v h' tk bs hv hr kp => ?_
  · obtain ⟨b, hb, rfl⟩ := List.mem_map.mp (show x ∈ (b0 :: l').map (fun b => py (f b)) from mx)
    intro e0
    refine hnn b hb ?_
    cases hf : f b with
    | non => rfl
    | _ => rw [hf] at e0; simp [py] at e0
  · have := depth_all hdp
    rw [List.map_cons] at this
    omega
  · obtain ⟨b, w, mb, rw', dw, em⟩ := min_pick I e hal (by simpa using hv) hr kp (minD_mem _ _)
    refine ⟨w, H, I.kept kp, rw', q b w mb (fun y my => ?_) dw⟩
    have := minD_le (l'.map fun b => py (f b)) (py (f b0)) (py (f y)) (List.mem_map_of_mem (f := fun b => py (f b)) my)
    rw [← em] at this
    exact lt_of_pyLe this
theorem cr_maxDD (hu : X.A.units + 65 < cLine) (hc : X.calm = true) : CallR X (.builtin "max") (rMinDD X.K true) := by
  intro pins s σ H vs us Q I r h
  obtain ⟨a, xs, β, l, f, rfl, hs, hd, hal, hnn, hdp, hne, q⟩ := h
  obtain ⟨its, rv, hl, hz⟩ := I.list hs
  obtain ⟨u, rfl, ru⟩ := vals1 r
  obtain rfl : u = Value.ref a := ru
  have e := dvs_each hd rv
  obtain ⟨b0, l', rfl⟩ : ∃ b0 l', l = b0 :: l' := by
    cases l with
    | nil => exact absurd rfl hne
    | cons b r => exact ⟨b, r, rfl⟩
  obtain ⟨as, hra⟩ := Dp.readsAll I _ _ _ hd.dpa rv
  have ep : pys ((b0 :: l').map f) = py (f b0) :: l'.map (fun b => py (f b)) := by rw [pys_map, List.map_map]; rfl
  rw [ep] at hra
  have hal' : AllAlike (py (f b0) :: l'.map (fun b => py (f b))) := hal
  refine max_list_data (I.ok.hd hc) hl.isList (vs := its.toArray) (by simpa using hra) ⟨fun x mx y my => hal' x mx y my, fun x mx => ?_⟩ ?_ fun i v h' tk bs hv hr kp => ?_
  · obtain ⟨b, hb, rfl⟩ := List.mem_map.mp (show x ∈ (b0 :: l').map (fun b => py (f b)) from mx)
    intro e0
    refine hnn b hb ?_
    cases hf : f b with
    | non => rfl
    | _ => rw [hf] at e0; simp [py] at e0
  · have := depth_all hdp
    rw [List.map_cons] at this
    omega
  · obtain ⟨b, w, mb, rw', dw, em⟩ := min_pick I e hal (by simpa using hv) hr kp (maxD_mem _ _)
    refine ⟨w, H, I.kept kp, rw', q b w mb (fun y my => ?_) dw⟩
    have := maxD_le (l'.map fun b => py (f b)) (py (f b0)) (py (f y)) (List.mem_map_of_mem (f := fun b => py (f b)) my)
    rw [← em] at this
    exact lt_of_pyLe this
/-- what a sorted list of data is -/
theorem dle_total {β : Type} (f : β → D) : TotalLe (dle f) := sortLe_total (listOrd itemOrd) false fun b => keyToks (py (f b))
theorem sort_perm {β : Type} (f : β → D) (l : List β) : (l.mergeSort (dle f)).Perm l := List.mergeSort_perm l _
theorem sort_pw {β : Type} (f : β → D) (l : List β) : (l.mergeSort (dle f)).Pairwise fun a b => dle f a b = true := sort_pairwise (dle_total f) l
theorem dle_str {β : Type} {f : β → Str} {a b : β} : dle (fun b => D.str (f b)) a b = !decide (tl (f b) < tl (f a)) := by
  show (!dataLt (py (.str (f b))) (py (.str (f a)))) = _
  rw [py, py, dataLt_str]
/-- the same, the written part named -/
theorem op_eqDDQ {K : Frag} (h : X.K = K) (hu : X.A.units + 65 < cLine) : OpR X (compareOp .Eq) (rEqDD K) := by subst h; exact op_eqDD (by omega)
theorem op_neDDQ {K : Frag} (h : X.K = K) (hu : X.A.units + 65 < cLine) : OpR X (compareOp .NotEq) (rNeDD K) := by subst h; exact op_neDD (by omega)
theorem op_inDDQ {K : Frag} (h : X.K = K) (hu : X.A.units + 65 < cLine) : OpR X (compareOp .In) (rInDD K false) := by subst h; exact op_inDD hu
theorem op_notInDDQ {K : Frag} (h : X.K = K) (hu : X.A.units + 65 < cLine) : OpR X (compareOp .NotIn) (rInDD K true) := by subst h; exact op_notInDD hu
theorem cr_sortDDQ {K : Frag} (h : X.K = K) (hu : X.A.units + 65 < cLine) : CallR X (.builtin "sorted") (rSortDD K) := by subst h; exact cr_sortDD hu
theorem cr_minDDQ {K : Frag} (h : X.K = K) (hu : X.A.units + 65 < cLine) (hc : X.calm = true) : CallR X (.builtin "min") (rMinDD K false) := by subst h; exact cr_minDD hu hc
theorem cr_maxDDQ {K : Frag} (h : X.K = K) (hu : X.A.units + 65 < cLine) (hc : X.calm = true) : CallR X (.builtin "max") (rMinDD K true) := by subst h; exact cr_maxDD hu hc
theorem aa_of {β : Type} {f : β → D} {l : List β} (h : ∀ b c, alike (py (f b)) (py (f c)) = true) : AllAlike (l.map fun b => py (f b)) := AllAlike.of h
theorem aa_str {β : Type} {f : β → Str} {l : List β} : AllAlike (l.map fun b => py (.str (f b))) := aa_of fun _ _ => by simp [py, alike]
theorem aa_int {β : Type} {f : β → Int} {l : List β} : AllAlike (l.map fun b => py (.int (f b))) := aa_of fun _ _ => by simp [py, alike]
theorem so_str {β : Type} {f : β → Str} {l : List β} : Sortable (l.map fun b => py (.str (f b))) := Sortable.others fun b => ⟨by simp [py], fun _ => by simp [py]⟩
theorem so_tup {β : Type} {f : β → D} {l : List β} (h : ∀ b, ∃ x r, f b = .tup (x :: r)) : Sortable (l.map fun b => py (f b)) := Sortable.tuples fun b => by
  obtain ⟨x, r, e⟩ := h b
  exact ⟨py x, pys r, by rw [e, py, pys]⟩
theorem lt_of_dl {x y : Str} (h : (if false = true then dataLt (py (.str y)) (py (.str x)) else dataLt (py (.str x)) (py (.str y))) = false) : ¬ tl x < tl y := by
  simp only [Bool.false_eq_true, if_false, py] at h
  rw [dataLt_str] at h
  exact of_decide_eq_false h
theorem room65 {k : Nat} {A : Around} (r : Room k A) : A.units + 65 < cLine := by have := r.un; omega
end
end Z
namespace Z
open PySem PySem.W PySem.Calls PyProof.Rows L2
/-! ### sorted of whatever can be collected, dicts among them -/
section
variable {prog : Program} {w : World} {A : Around} {E : Value → Shared → Prop} {s : Shared}
theorem each_ix {β : Type} {R : Value → β → Prop} : ∀ {vs : List Value} {bs : List β}, EachIs R vs bs → EachIs (fun v b => ∃ j : Nat, vs[j]? = some v ∧ bs[j]? = some b) vs bs
  | _, _, .nil => .nil
  | _, _, .cons h t => .cons ⟨0, rfl, rfl⟩ ((each_ix t).mono fun v b ⟨j, h1, h2⟩ => ⟨j + 1, h1, h2⟩)
theorem sorted_by {x : Value} {β : Type} {enc : β → PyData} {bs : List β} {C : Heap → List Value → Prop} {Q : Value → Shared → Prop}
    (hcol : ∀ {R' : List Value → Shared → Prop}, (∀ (h' : Heap) (tk : Nat) (vs : List Value), (∀ b o, s.heap.get? b = some o → h'.get? b = some o) → C h' vs → R' vs { s with heap := h', toks := tk }) → wpAny (model prog w) A.in1 (collect x) R' E s)
    (hC : ∀ h' vs, C h' vs → EachIs (fun v b => ∃ as, Reads h' v (enc b) as) vs bs)
    (hal : AllAlike (bs.map enc)) (hk : Sortable (bs.map enc)) (hL : bs.length ≤ sizeLine) (hu : ∀ b ∈ bs, A.units + 2 + (enc b).depth < cLine)
    (h : ∀ (h1 h' : Heap) (tk : Nat) (a : Addr) (vs out : List Value) (n : Nat), C h1 vs → (∀ b o, s.heap.get? b = some o → h1.get? b = some o) → (∀ b o, h1.get? b = some o → h'.get? b = some o) → h1.objs.size = a → h'.get? a = some (seqObj "list" out.toArray n) → out.length = bs.length →
      EachIs (fun v b => ∃ j : Nat, vs[j]? = some v ∧ bs[j]? = some b) out (bs.mergeSort (dataLe false enc)) → Q (.ref a) { s with heap := h', toks := tk }) :
    wpAny (model prog w) A (call (.builtin "sorted") [x]) Q E s := by
  refine call_function_entry kind_sorted plain_sorted entry_sorted (args_sorted1 _) ?_
  unfold Builtin.«sorted»
  refine wpAny_bind (m := checkCount "sorted" 1 1 _) (wpAny_pure ?_)
  refine wpAny_bind (hcol fun h1 tk vs kp hc => ?_)
  have er := hC h1 vs hc
  have el := er.length
  refine wpAny_bind (wpAny_newList ?_ (by omega))
  have ho : (h1.push { cls := .type "list", data := .seq vs.toArray }).get? h1.objs.size = some (seqObj "list" vs.toArray 0) := Heap.get?_push_size _ rfl
  have old : ∀ b o, h1.get? b = some o → (h1.push { cls := .type "list", data := .seq vs.toArray }).get? b = some o := fun b o e => Heap.get?_push_of_some _ e
  refine wpAny_bind (wpAny_holding (wpAny_mono (PySem.W.list_sort_data (A := A.in1) (enc := enc) (s := { s with heap := h1.push { cls := .type "list", data := .seq vs.toArray }, toks := tk }) ho (each_ix er) ?_ hal hk hL (fun b m => hu b m) fun out lo eo => ?_) (fun _ s' x => x) fun _ _ e => e))
  · refine er.mono fun v b ⟨as, r⟩ => ?_
    exact ⟨as, PyProof.Rows.Reads.keeps old r, fun m => by
      obtain ⟨o, ho⟩ := PyProof.On.reads_mem_get r _ m
      exact absurd (Heap.lt_size ho) (Nat.lt_irrefl _)⟩
  · obtain ⟨n, hn⟩ := sortedHeap_at (h := h1.push { cls := .type "list", data := .seq vs.toArray }) (out := List.toArray out) ho
    refine wpAny_pure ⟨_, rfl, h h1 _ _ _ vs out n hc kp (fun b o e => ?_) rfl hn lo eo⟩
    have lt := Heap.lt_size e
    rw [sortedHeap_old (Nat.ne_of_lt lt) (by rw [size_push']; exact Nat.lt_succ_of_lt lt)]
    exact old b o e
end
/-! ### keys, values and items of dicts, sorted -/
def kD : Key → D
  | .inl i => .int i
  | .inr x => .str x
theorem kD_dv {K : Frag} {H : Hp} : ∀ k : Key, DV K H (kD k) (kV k)
  | .inl i => by unfold kD; unfold DV; rfl
  | .inr x => by unfold kD; unfold DV; rfl
theorem kD_dvs {K : Frag} {H : Hp} : ∀ l : List Key, DVs K H (l.map kD) (l.map kV)
  | [] => by unfold List.map DVs; rfl
  | k :: l => ⟨_, _, rfl, kD_dv k, kD_dvs l⟩
theorem dvs_kD {K : Frag} {H : Hp} : ∀ {l : List Key} {ys : List V}, DVs K H (l.map kD) ys → ys = l.map kV
  | [], _, h => by unfold List.map DVs at h; exact h
  | .inl i :: l, _, h => by
    obtain ⟨v, r, rfl, q, t⟩ := h
    unfold kD DV at q
    rw [q, dvs_kD t]; rfl
  | .inr i :: l, _, h => by
    obtain ⟨v, r, rfl, q, t⟩ := h
    unfold kD DV at q
    rw [q, dvs_kD t]; rfl
theorem so_key {l : List Key} : Sortable (l.map fun k => py (kD k)) := Sortable.others fun k => by
  cases k with
  | inl i => exact ⟨by simp [kD, py], fun _ => by simp [kD, py]⟩
  | inr x => exact ⟨by simp [kD, py], fun _ => by simp [kD, py]⟩
theorem each_of_ix {β : Type} {R : Value → β → Prop} : ∀ {vs : List Value} {bs : List β}, vs.length = bs.length → (∀ (i : Nat) (v : Value) (b : β), vs[i]? = some v → bs[i]? = some b → R v b) → EachIs R vs bs
  | [], [], _, _ => .nil
  | [], _ :: _, h, _ => by simp at h
  | _ :: _, [], h, _ => by simp at h
  | v :: vs, b :: bs, h, k => .cons (k 0 v b rfl rfl) (each_of_ix (by simpa using h) fun i v' b' h1 h2 => k (i + 1) v' b' h1 h2)
theorem vals_of_each {β : Type} {R : Value → β → Prop} {f : β → V} : ∀ {out : List Value} {l : List β}, EachIs R out l → (∀ v b, R v b → RelV (f b) v) → Vals (l.map f) out
  | _, _, .nil, _ => .nil
  | _, _, .cons h t, k => .cons (k _ _ h) (vals_of_each t k)
theorem pair_get {α β : Type} {F : α → β → Prop} : ∀ {l₁ : List α} {l₂ : List β} {j : Nat} {x : α}, Paired F l₁ l₂ → l₁[j]? = some x → ∃ y, l₂[j]? = some y ∧ F x y
  | _, _, _, _, .nil, h => by simp at h
  | _, _, 0, _, .cons a _, h => by cases (show some _ = some _ from h); exact ⟨_, rfl, a⟩
  | _, _, j + 1, _, .cons _ t, h => pair_get (j := j) t (by simpa using h)
theorem kV_rel {P : Program} {w : World} {k : Key} {u : Value} (h : (mixKind P w).is k u = true) : RelV (kV k) u := by
  rcases keyIs_shape h with ⟨i, t, e1, e2⟩ | ⟨x, t, e1, e2⟩
  · subst e1; subst e2; exact ⟨t, rfl⟩
  · subst e1; subst e2; exact ⟨t, rfl⟩
theorem Dp.reads0 {h : Heap} (k : Key) {u : Value} (r : RelV (kV k) u) : ∃ as, Reads h u (py (kD k)) as := by
  cases k with
  | inl i => obtain ⟨t, e⟩ := (show ∃ t, u = Value.int i t from r); subst e; exact ⟨_, by unfold kD py; exact Reads.int i t⟩
  | inr x => obtain ⟨t, e⟩ := (show ∃ t, u = Value.str x t from r); subst e; exact ⟨_, by unfold kD py; exact Reads.str x t⟩
theorem no_get {h h' : Heap} (k : ∀ b o, h.get? b = some o → h'.get? b = some o) : h.get? h'.objs.size = none := by
  cases e : h.get? h'.objs.size with
  | none => rfl
  | some o => exact absurd (Heap.lt_size (k _ _ e)) (Nat.lt_irrefl _)
section
variable {X : Cx}
/-- what stands in the entries -/
theorem kv_raw {H : Hp} {h : Heap} {a : Addr} {kvs : List (Key × V)} (ok : HOk X.prog X.w H h) (e : H a = some (.dK kvs)) : kvs.length ≤ sizeLine ∧ (a == sysModules) = false ∧ ∃ es ep, h.DictRaw a es ep ∧ es.size = kvs.length ∧
    ∀ i (hi : i < es.size) k v, kvs[i]? = some (k, v) → RelV (kV k) es[i].key ∧ RelV v es[i].val := by
  obtain ⟨z, hd, vs, rel, dd⟩ := dk_of ok e
  obtain ⟨es, ep, hr, hs, he⟩ := dd.raw
  have hl : kvs.length = vs.length := Paired.length rel
  refine ⟨z, hd, es, ep, hr, by omega, fun i hi k v hk => ?_⟩
  obtain ⟨⟨k', u⟩, hp, h1, h2⟩ := pair_get rel hk
  have h1' : k = k' := h1
  subst h1'
  obtain ⟨q1, q2⟩ := he i hi k u hp
  exact ⟨kV_rel q1, by rw [q2]; exact h2⟩
def rSortKeys : List V → Hp → VK → Prop := fun vs H Q => ∃ (a : Addr) (kvs : List (Key × V)), vs = [.ref a] ∧ H a = some (.dK kvs) ∧ AllAlike ((kvs.map (·.1)).map fun k => py (kD k)) ∧
  ∀ p, H p = none → Q (.ref p) (upd H p (.lst (((kvs.map (·.1)).mergeSort (dle kD)).map kV)))
theorem cr_sortKeys (hu : X.A.units + 65 < cLine) (hc : X.calm = true) : CallR X (.builtin "sorted") rSortKeys := by
  intro pins s σ H vs us Q I r h
  obtain ⟨a, kvs, rfl, ha, hal, q⟩ := h
  obtain ⟨u, rfl, ru⟩ := vals1 r
  obtain rfl : u = Value.ref a := ru
  obtain ⟨z, lo, es, ep, hr, hs, he⟩ := kv_raw I.hok ha
  have hh : X.A.handled = none := I.ok.hd hc
  refine sorted_by (enc := fun k => py (kD k)) (bs := kvs.map (·.1)) (C := fun h' vs => (∀ b o, s.heap.get? b = some o → h'.get? b = some o) ∧ EachIs (fun u k => RelV (kV k) u) vs (kvs.map (·.1)))
    (fun {R'} k => kdu_collect (KdlSrc.rawDict (prog := X.prog) (w := X.w) lo) hh hr (by omega) fun h' tk acc kp hI => k h' tk acc.toList kp ⟨kp, each_of_ix (by rw [Array.length_toList, hI.1, List.length_map, hs]) fun i v k hv hk => ?_⟩)
    (fun h' vs c => c.2.mono fun u k ru => Dp.reads0 k ru) hal so_key (by rw [List.length_map]; exact z) (fun k _ => by
      have : (py (kD k)).depth = 0 := by cases k <;> simp [kD, py, PyData.depth]
      rw [this]; exact hu_big hu (by decide)) fun h1 h' tk b vs out n c kp1 kp2 eb hb lo' eo => ?_
  · rw [Array.getElem?_toList] at hv
    obtain ⟨hi, rfl⟩ := hI.2 i v hv
    rw [List.getElem?_map] at hk
    cases hk' : kvs[i]? with
    | none => rw [hk'] at hk; cases hk
    | some p =>
      rw [hk'] at hk
      obtain rfl := Option.some.inj hk
      exact (he i hi p.1 p.2 hk').1
  · have ng : s.heap.get? b = none := by rw [← eb]; exact no_get kp1
    have fr : H b = none := I.hok.gone ng
    have vo : Vals (((kvs.map (·.1)).mergeSort (dle kD)).map kV) out := vals_of_each eo fun v k ⟨j, h1, h2⟩ => by
      obtain ⟨k', hk', rk⟩ := each_get c.2 h1
      rw [h2] at hk'
      obtain rfl := Option.some.inj hk'
      exact rk
    refine ⟨.ref b, upd H b (.lst _), I.laidN (t' := tk) (fun b o g => kp2 b o (kp1 b o g)) ng fr ⟨?_, out, n, vo, hb⟩, rfl, q b fr⟩
    rw [vals_len vo, lo', List.length_map]; exact z
/-- the view d.values() at p -/
def valuesO (p d : Addr) : HO := .ext fun h => h.IsValuesView p d
theorem valuesO_ok {P : Program} {w : World} {H : Hp} {h : Heap} {p d : Addr} (e : h.get? p = some { cls := .type "dict_values", data := .fields #[.ref d] }) : ObjOk P w H h p (valuesO p d) :=
  ⟨⟨_, e, rfl, rfl⟩, ⟨_, e⟩, fun h1 h2 x k => let ⟨o, ho, r⟩ := x; ⟨o, k o ho, r⟩⟩
def rValuesK : V → List V → Hp → VK → Prop := fun x xs H Q => ∃ (a : Addr) (kvs : List (Key × V)), x = .ref a ∧ xs = [] ∧ H a = some (.dK kvs) ∧ ∀ p, H p = none → Q (.ref p) (upd H p (valuesO p a))
def rItemsK : V → List V → Hp → VK → Prop := fun x xs H Q => ∃ (a : Addr) (kvs : List (Key × V)), x = .ref a ∧ xs = [] ∧ H a = some (.dK kvs) ∧ ∀ p, H p = none → Q (.ref p) (upd H p (L2.DX.itemsO p a))
theorem mt_itemsK : MtR X "dict.items" rItemsK := by
  intro pins s σ H x xs v us Q I rx rxs h
  obtain ⟨a, kvs, rfl, rfl, ha, q⟩ := h
  cases rx
  cases rxs
  obtain ⟨z, hd, es, ep, hr, hs, he⟩ := kv_raw I.hok ha
  refine DT.callItems (es := es) (ep := ep) hd hr ?_
  have hf : H s.heap.objs.size = none := I.hok.fresh (Nat.le_refl _)
  exact ⟨.ref s.heap.objs.size, upd H s.heap.objs.size (L2.DX.itemsO s.heap.objs.size a), I.laid (t' := s.toks) (fun b u e => Heap.get?_push_of_some _ e) (Nat.le_refl _) (L2.DX.itemsO_ok (Heap.get?_push_size _ rfl)), rfl, q _ hf⟩
/-- sorted of such a view -/
def rSortVals (K : Frag) : List V → Hp → VK → Prop := fun vs H Q => ∃ (p a : Addr) (kvs : List (Key × V)) (β : Type) (l : List β) (f : β → D), vs = [.ref p] ∧ H p = some (valuesO p a) ∧ H a = some (.dK kvs) ∧ DVs K H (l.map f) (kvs.map (·.2)) ∧ AllAlike (l.map fun b => py (f b)) ∧ PySem.W.Sortable (l.map fun b => py (f b)) ∧ (∀ b ∈ l, (py (f b)).depth ≤ 60) ∧
  ∀ (ys : List V) (r : Addr), H r = none → DVs K H ((l.mergeSort (dle f)).map f) ys → Q (.ref r) (upd H r (.lst ys))
theorem cr_sortVals (hu : X.A.units + 65 < cLine) (hc : X.calm = true) : CallR X (.builtin "sorted") (rSortVals X.K) := by
  intro pins s σ H vs us Q I r h
  obtain ⟨p, a, kvs, β, l, f, rfl, hp, ha, hd, hal, hsb, hdp, q⟩ := h
  obtain ⟨u, rfl, ru⟩ := vals1 r
  obtain rfl : u = Value.ref p := ru
  have view : s.heap.IsValuesView p a := (show ObjOk X.prog X.w H s.heap p (valuesO p a) from I.hok p _ hp).1
  obtain ⟨z, lo, es, ep, hr, hs, he⟩ := kv_raw I.hok ha
  have hh : X.A.handled = none := I.ok.hd hc
  have ll : l.length = kvs.length := by have := hd.len; rw [List.length_map, List.length_map] at this; omega
  have dv : ∀ (i : Nat) (b : β) (k : Key) (v : V), l[i]? = some b → kvs[i]? = some (k, v) → DV X.K H (f b) v := fun i b k v hb hk => by
    obtain ⟨v', hv', d⟩ := hd.get (i := i) (d := f b) (by rw [List.getElem?_map, hb]; rfl)
    rw [List.getElem?_map, hk] at hv'
    obtain rfl := Option.some.inj hv'
    exact d
  refine sorted_by (enc := fun b => py (f b)) (bs := l) (C := fun h' vs => (∀ b o, s.heap.get? b = some o → h'.get? b = some o) ∧ EachIs (fun u b => ∃ v, RelV v u ∧ DV X.K H (f b) v) vs l)
    (fun {R'} k => kdu_collect (KdlSrc.rawValues (prog := X.prog) (w := X.w)) hh ⟨view, hr⟩ (by omega) fun h' tk acc kp hI => k h' tk acc.toList kp ⟨kp, each_of_ix (by rw [Array.length_toList, hI.1, ll, hs]) fun i v b hv hb => ?_⟩)
    (fun h' vs c => c.2.mono fun u b ⟨v, rv, d⟩ => by
      obtain ⟨as, rr⟩ := Dp.reads I _ _ _ d.dp rv
      exact ⟨as, PyProof.Rows.Reads.keeps c.1 rr⟩) hal hsb (by omega) (fun b m => hu_big hu (hdp b m)) fun h1 h' tk b vs out n c kp1 kp2 eb hb lo' eo => ?_
  · rw [Array.getElem?_toList] at hv
    obtain ⟨hi, rfl⟩ := hI.2 i v hv
    obtain ⟨⟨k, v⟩, hk⟩ : ∃ p, kvs[i]? = some p := ⟨_, List.getElem?_eq_getElem (by omega)⟩
    exact ⟨v, (he i hi k v hk).2, dv i b k v hb hk⟩
  · have ng : s.heap.get? b = none := by rw [← eb]; exact no_get kp1
    have fr : H b = none := I.hok.gone ng
    have eo2 : EachIs (fun u b => ∃ v, RelV v u ∧ DV X.K H (f b) v) out (l.mergeSort (dle f)) := eo.mono fun v k ⟨j, h1, h2⟩ => by
      obtain ⟨k', hk', rk⟩ := each_get c.2 h1
      rw [h2] at hk'
      obtain rfl := Option.some.inj hk'
      exact rk
    obtain ⟨ys, dy, ry⟩ := each_dvs eo2
    refine ⟨.ref b, upd H b (.lst ys), I.laidN (t' := tk) (fun b o g => kp2 b o (kp1 b o g)) ng fr ⟨?_, out, n, ry, hb⟩, rfl, q ys b fr dy⟩
    rw [vals_len ry, lo', ll]; exact z
/-- d.update(e) -/
def rUpdK : V → List V → Hp → VK → Prop := fun x xs H Q => ∃ (a b : Addr) (kvs more : List (Key × V)), x = .ref a ∧ xs = [.ref b] ∧ a ≠ b ∧ H a = some (.dK kvs) ∧ H b = some (.dK more) ∧ kvs.length + more.length ≤ sizeLine ∧ Q .non (upd H a (.dK (mergeK kvs more)))
theorem mt_updK : MtR X "dict.update" rUpdK := by
  intro pins s σ H x xs v us Q I rx rxs h
  obtain ⟨a, b, kvs, more, rfl, rfl, ab, ha, hb, hz, q⟩ := h
  cases rx
  obtain ⟨u, rfl, ru⟩ := rxs.one
  cases ru
  obtain ⟨z, hd, vs, rel, dd⟩ := dk_of I.hok ha
  obtain ⟨z', hd', vs', rel', dd'⟩ := dk_of I.hok hb
  refine call_meetsIn PySem.F.slot_dict_update dd.typeIs PySem.F.entry_dict_update (PySem.F.args_dict_update_2 _ _) (meets_dict_update (mixKind X.prog X.w) a b ab hd')
    ⟨vs, vs', dd, dd', by rw [← rel.length, ← rel'.length]; exact hz, fun h' d1 d2 hs => ⟨.non, _, ?_, rfl, q⟩⟩
  have he : ∃ q, h'.get? a = some q := let ⟨q, _, _, hq, _⟩ := d1; ⟨q, hq⟩
  exact d_write I (by rw [ha]; exact True.intro) hs he (dk_new (Nat.le_trans (length_mergeK _ _) hz) hd (KV.merge rel' rel) d1)
theorem mt_valuesK : MtR X "dict.values" rValuesK := by
  intro pins s σ H x xs v us Q I rx rxs h
  obtain ⟨a, kvs, rfl, rfl, ha, q⟩ := h
  cases rx
  cases rxs
  obtain ⟨z, hd, es, ep, hr, hs, he⟩ := kv_raw I.hok ha
  have hf : H s.heap.objs.size = none := I.hok.fresh (Nat.le_refl _)
  refine call_meetsIn PySem.F.slot_dict_values hr.typeIs PySem.F.entry_dict_values (PySem.F.args_dict_values_1 _) (meets_dict_values_raw (prog := X.prog) (w := X.w) a hd) ⟨⟨es, ep, hr⟩, ?_⟩
  exact ⟨.ref s.heap.objs.size, upd H s.heap.objs.size (valuesO s.heap.objs.size a), I.laid (t' := s.toks) (fun b u e => Heap.get?_push_of_some _ e) (Nat.le_refl _) (valuesO_ok (Heap.get?_push_size _ rfl)), rfl, q _ hf⟩
end
section
variable {prog : Program} {w : World} {A : Around} {E : Value → Shared → Prop} {s : Shared}
theorem bestX (bt : Nat → Nat → Bool) : (bt 1 0 = false ∧ argBest bt 1 = 0) ∨ (bt 1 0 = true ∧ argBest bt 1 = 1) := by
  by_cases h : bt 1 (argBest bt 0) = true
  · exact .inr ⟨h, if_pos h⟩
  · exact .inl ⟨Bool.eq_false_iff.mpr h, if_neg h⟩
/-- the larger one -/
theorem max_strX {x y : Str} {t u : Tok} {Q : Value → Shared → Prop} (calm : A.handled = none)
    (h : ∀ (hp : Heap) (tk : Nat), (∀ b o, s.heap.get? b = some o → hp.get? b = some o) → Q (if decide (tl x < tl y) = true then .str y u else .str x t) { s with heap := hp, toks := tk }) : wpAny (model prog w) A (call (.builtin "max") [.str x t, .str y u]) Q E s := by
  have tp : (s.heap.push { cls := .type "tuple", data := .seq #[.str x t, .str y u] }).IsTuple s.heap.objs.size #[.str x t, .str y u] := ⟨_, Heap.get?_push_size _ rfl, rfl, 0, rfl⟩
  have z1 : (s.heap.push { cls := .type "tuple", data := .seq #[.str x t, .str y u] }).objs.size = s.heap.objs.size + 1 := Heap.size_push ..
  refine call_max_two (wpAny_pyIter_tuple tp ?_)
  refine ⟨_, [_, s.heap.objs.size], [_], _, _, _, fun i j => decide ((if j = 0 then x else y).cps.toList < (if i = 0 then x else y).cps.toList), rfl, Walks.tuple (A := A.in1) calm _ s.heap.objs.size (by rw [z1]; exact Nat.ne_of_lt (Nat.lt_succ_self _)) #[.str x t, .str y u], ⟨⟨_, Heap.get?_push_size _ rfl, rfl, rfl⟩, tp.push _⟩, fun b hb => ?_, by simp, fun i j vi vj s1 Q1 E1 gi gj q => ?_, fun v hp tk hv kp => ?_⟩
  · show b < ((s.heap.push _).push _).objs.size
    rw [Heap.size_push]
    simp only [List.mem_cons, List.not_mem_nil, or_false] at hb
    rcases hb with e | e <;> subst e
    · exact Nat.lt_succ_self _
    · rw [z1]; exact Nat.lt_succ_of_lt (Nat.lt_succ_self _)
  · have pick : ∀ {k : Nat} {v : Value}, (#[Value.str x t, Value.str y u])[k]? = some v → ∃ tt, v = .str (if k = 0 then x else y) tt := fun {k v} g => by
      match k, g with
      | 0, g => exact ⟨t, (Option.some.inj g).symm⟩
      | 1, g => exact ⟨u, (Option.some.inj g).symm⟩
      | k + 2, g => simp at g
    obtain ⟨ti, rfl⟩ := pick gi
    obtain ⟨tj, rfl⟩ := pick gj
    exact PySem.P.gt_str q
  · have old : ∀ b o, s.heap.get? b = some o → hp.get? b = some o := fun b o g => by
      refine kp b o (fun m => ?_) (Heap.get?_push_of_some _ (Heap.get?_push_of_some _ g))
      have lt := Heap.lt_size g
      rw [List.mem_singleton.mp m, z1] at lt
      exact absurd lt (Nat.not_lt_of_lt (Nat.lt_succ_self _))
    have hv' : (#[Value.str x t, Value.str y u])[argBest (fun i j => decide ((if j = 0 then x else y).cps.toList < (if i = 0 then x else y).cps.toList)) 1]? = some v := hv
    rcases bestX (fun i j => decide ((if j = 0 then x else y).cps.toList < (if i = 0 then x else y).cps.toList)) with ⟨e0, e⟩ | ⟨e0, e⟩
    · rw [e] at hv'
      have ev : Value.str x t = v := Option.some.inj hv'
      have := h hp tk old
      have e1 : (decide (tl x < tl y)) = false := e0
      rw [e1] at this
      rw [← ev]; exact this
    · rw [e] at hv'
      have ev : Value.str y u = v := Option.some.inj hv'
      have := h hp tk old
      have e1 : (decide (tl x < tl y)) = true := e0
      rw [e1] at this
      rw [← ev]; exact this
theorem min_strX {x y : Str} {t u : Tok} {Q : Value → Shared → Prop} (calm : A.handled = none)
    (h : ∀ (hp : Heap) (tk : Nat), (∀ b o, s.heap.get? b = some o → hp.get? b = some o) → Q (if decide (tl y < tl x) = true then .str y u else .str x t) { s with heap := hp, toks := tk }) : wpAny (model prog w) A (call (.builtin "min") [.str x t, .str y u]) Q E s := by
  have tp : (s.heap.push { cls := .type "tuple", data := .seq #[.str x t, .str y u] }).IsTuple s.heap.objs.size #[.str x t, .str y u] := ⟨_, Heap.get?_push_size _ rfl, rfl, 0, rfl⟩
  have z1 : (s.heap.push { cls := .type "tuple", data := .seq #[.str x t, .str y u] }).objs.size = s.heap.objs.size + 1 := Heap.size_push ..
  refine call_min_two (wpAny_pyIter_tuple tp ?_)
  refine ⟨_, [_, s.heap.objs.size], [_], _, _, _, fun i j => decide ((if i = 0 then x else y).cps.toList < (if j = 0 then x else y).cps.toList), rfl, Walks.tuple (A := A.in1) calm _ s.heap.objs.size (by rw [z1]; exact Nat.ne_of_lt (Nat.lt_succ_self _)) #[.str x t, .str y u], ⟨⟨_, Heap.get?_push_size _ rfl, rfl, rfl⟩, tp.push _⟩, fun b hb => ?_, by simp, fun i j vi vj s1 Q1 E1 gi gj q => ?_, fun v hp tk hv kp => ?_⟩
  · show b < ((s.heap.push _).push _).objs.size
    rw [Heap.size_push]
    simp only [List.mem_cons, List.not_mem_nil, or_false] at hb
    rcases hb with e | e <;> subst e
    · exact Nat.lt_succ_self _
    · rw [z1]; exact Nat.lt_succ_of_lt (Nat.lt_succ_self _)
  · have pick : ∀ {k : Nat} {v : Value}, (#[Value.str x t, Value.str y u])[k]? = some v → ∃ tt, v = .str (if k = 0 then x else y) tt := fun {k v} g => by
      match k, g with
      | 0, g => exact ⟨t, (Option.some.inj g).symm⟩
      | 1, g => exact ⟨u, (Option.some.inj g).symm⟩
      | k + 2, g => simp at g
    obtain ⟨ti, rfl⟩ := pick gi
    obtain ⟨tj, rfl⟩ := pick gj
    exact PySem.P.lt_str q
  · have old : ∀ b o, s.heap.get? b = some o → hp.get? b = some o := fun b o g => by
      refine kp b o (fun m => ?_) (Heap.get?_push_of_some _ (Heap.get?_push_of_some _ g))
      have lt := Heap.lt_size g
      rw [List.mem_singleton.mp m, z1] at lt
      exact absurd lt (Nat.not_lt_of_lt (Nat.lt_succ_self _))
    have hv' : (#[Value.str x t, Value.str y u])[argBest (fun i j => decide ((if i = 0 then x else y).cps.toList < (if j = 0 then x else y).cps.toList)) 1]? = some v := hv
    rcases bestX (fun i j => decide ((if i = 0 then x else y).cps.toList < (if j = 0 then x else y).cps.toList)) with ⟨e0, e⟩ | ⟨e0, e⟩
    · rw [e] at hv'
      have ev : Value.str x t = v := Option.some.inj hv'
      have := h hp tk old
      have e1 : (decide (tl y < tl x)) = false := e0
      rw [e1] at this
      rw [← ev]; exact this
    · rw [e] at hv'
      have ev : Value.str y u = v := Option.some.inj hv'
      have := h hp tk old
      have e1 : (decide (tl y < tl x)) = true := e0
      rw [e1] at this
      rw [← ev]; exact this
end
section
variable {X : Cx}
def minP (x y : Str) : Str := if decide (tl y < tl x) = true then y else x
def maxP (x y : Str) : Str := if decide (tl x < tl y) = true then y else x
theorem call_maxX (hc : X.calm = true) : CallR X (.builtin "max") (fun xs H Q => ∃ x y : Str, xs = [.str x, .str y] ∧ Q (.str (maxP x y)) H) := by
  intro pins s σ H xs us Q I r h
  obtain ⟨x, y, rfl, q⟩ := h
  obtain ⟨u, w', rfl, ⟨t, rfl⟩, ⟨t', rfl⟩⟩ := vals2 r
  refine max_strX (I.ok.hd hc) fun hp tk old => ?_
  refine ⟨.str (maxP x y), H, I.kept old, ?_, q⟩
  unfold maxP
  split
  · exact ⟨t', rfl⟩
  · exact ⟨t, rfl⟩
theorem call_minX (hc : X.calm = true) : CallR X (.builtin "min") (fun xs H Q => ∃ x y : Str, xs = [.str x, .str y] ∧ Q (.str (minP x y)) H) := by
  intro pins s σ H xs us Q I r h
  obtain ⟨x, y, rfl, q⟩ := h
  obtain ⟨u, w', rfl, ⟨t, rfl⟩, ⟨t', rfl⟩⟩ := vals2 r
  refine min_strX (I.ok.hd hc) fun hp tk old => ?_
  refine ⟨.str (minP x y), H, I.kept old, ?_, q⟩
  unfold minP
  split
  · exact ⟨t', rfl⟩
  · exact ⟨t, rfl⟩
end
end Z
namespace Z
open PySem PySem.W PySem.Calls PyProof.Rows L2
/-! ### values of a dict with tuple keys -/
section
variable {X : Cx}
/-- what stands in the entries of a dict with tuple keys -/
theorem kt_raw {H : Hp} {h : Heap} {a : Addr} {kvs : List (List Key × V)} (ok : HOk X.prog X.w H h) (e : H a = some (.dT kvs)) : kvs.length ≤ sizeLine ∧ (a == sysModules) = false ∧ ∃ es ep, h.DictRaw a es ep ∧ es.size = kvs.length ∧
    ∀ i (hi : i < es.size) k v, kvs[i]? = some (k, v) → (∃ b, es[i].key = .ref b ∧ H b = some (.tup (k.map kV))) ∧ RelV v es[i].val := by
  obtain ⟨z, hd, xs, rel, o, es, ep, ho, hx, hdat, hes, his, hn⟩ := dt_of ok e
  have hs : es.size = kvs.length := by rw [size_of_entries hes, Paired.length rel]
  refine ⟨z, hd, es, ep, ⟨o, ho, hx, hdat⟩, hs, fun i hi k v hk => ?_⟩
  obtain ⟨x, hp, h1, h2, h3⟩ := pair_get rel hk
  have he := entry_at hes i
  rw [hp, Array.getElem?_eq_getElem hi] at he
  have he' : es[i] = entryOfKey (tupleKind (mixKind X.prog X.w)) x := Option.some.inj he
  rw [he']
  exact ⟨⟨x.2.1, rfl, h2⟩, h3⟩
def rValuesT : V → List V → Hp → VK → Prop := fun x xs H Q => ∃ (a : Addr) (kvs : List (List Key × V)), x = .ref a ∧ xs = [] ∧ H a = some (.dT kvs) ∧ ∀ p, H p = none → Q (.ref p) (upd H p (valuesO p a))
theorem mt_valuesT : MtR X "dict.values" rValuesT := by
  intro pins s σ H x xs v us Q I rx rxs h
  obtain ⟨a, kvs, rfl, rfl, ha, q⟩ := h
  cases rx
  cases rxs
  obtain ⟨z, hd, es, ep, hr, hs, he⟩ := kt_raw I.hok ha
  have hf : H s.heap.objs.size = none := I.hok.fresh (Nat.le_refl _)
  refine call_meetsIn PySem.F.slot_dict_values hr.typeIs PySem.F.entry_dict_values (PySem.F.args_dict_values_1 _) (meets_dict_values_raw (prog := X.prog) (w := X.w) a hd) ⟨⟨es, ep, hr⟩, ?_⟩
  exact ⟨.ref s.heap.objs.size, upd H s.heap.objs.size (valuesO s.heap.objs.size a), I.laid (t' := s.toks) (fun b u e => Heap.get?_push_of_some _ e) (Nat.le_refl _) (valuesO_ok (Heap.get?_push_size _ rfl)), rfl, q _ hf⟩
/-- list of such a view -/
def rListValsT : List V → Hp → VK → Prop := fun xs H Q => ∃ (p a : Addr) (kvs : List (List Key × V)), xs = [.ref p] ∧ H p = some (valuesO p a) ∧ H a = some (.dT kvs) ∧ ∀ r, H r = none → Q (.ref r) (upd H r (.lst (kvs.map (·.2))))
theorem cr_listValsT (hc : X.calm = true) : CallR X (.type "list") rListValsT := by
  intro pins s σ H xs us Q I r h
  obtain ⟨p, a, kvs, rfl, hp, ha, q⟩ := h
  obtain ⟨u, rfl, ru⟩ := vals1 r
  obtain rfl : u = Value.ref p := ru
  have view : s.heap.IsValuesView p a := (show ObjOk X.prog X.w H s.heap p (valuesO p a) from I.hok p _ hp).1
  obtain ⟨z, lo, es, ep, hr, hs, he⟩ := kt_raw I.hok ha
  have hh : X.A.handled = none := I.ok.hd hc
  refine kdl_call (KdlSrc.rawValues (prog := X.prog) (w := X.w)) hh ⟨view, hr⟩ (by omega) fun h' tk acc c kp hg hI => ?_
  have fr : H s.heap.objs.size = none := I.hok.fresh (Nat.le_refl _)
  have vo : Vals (kvs.map (·.2)) acc.toList := by
    refine vals_of_each (R := fun v (kv : List Key × V) => RelV kv.2 v) (f := fun kv => kv.2) (each_of_ix (by rw [Array.length_toList, hI.1, hs]) fun i v b hv hb => ?_) fun v b h => h
    rw [Array.getElem?_toList] at hv
    obtain ⟨hi, rfl⟩ := hI.2 i v hv
    exact (he i hi b.1 b.2 hb).2
  refine ⟨.ref s.heap.objs.size, upd H s.heap.objs.size (.lst (kvs.map (·.2))), I.laid (t' := tk) kp (Nat.le_refl _) ⟨?_, acc.toList, c, vo, by rw [Array.toArray_toList]; exact hg⟩, rfl, q _ fr⟩
  rw [List.length_map]; exact z
/-! ### sorted of a dict with tuple keys -/
def ktD (k : List Key) : D := .tup (k.map kD)
theorem ktD_dv {K : Frag} {H : Hp} {a : Addr} {k : List Key} (h : H a = some (.tup (k.map kV))) : DV K H (ktD k) (.ref a) := ⟨a, _, rfl, SqT.of h, kD_dvs k⟩
/-- tuples of these keys, one by one -/
def KsAt (H : Hp) : List (List Key) → List V → Prop
  | [], us => us = []
  | k :: r, us => ∃ a t, us = .ref a :: t ∧ H a = some (.tup (k.map kV)) ∧ KsAt H r t
theorem each_ks {H : Hp} {β : Type} {g : β → List Key} : ∀ {l : List β} {vs : List Value}, EachIs (fun u b => ∃ a, u = Value.ref a ∧ H a = some (.tup ((g b).map kV))) vs l → ∃ us, KsAt H (l.map g) us ∧ Vals us vs
  | [], _, h => by cases h; exact ⟨[], rfl, .nil⟩
  | b :: l, _, h => by
    cases h with
    | cons h1 h2 =>
      obtain ⟨a, e1, e2⟩ := h1
      obtain ⟨us, d, r2⟩ := each_ks h2
      subst e1
      exact ⟨V.ref a :: us, ⟨a, us, rfl, e2, d⟩, .cons rfl r2⟩
def rSortKeysT : List V → Hp → VK → Prop := fun vs H Q => ∃ (a : Addr) (kvs : List (List Key × V)) (β : Type) (l : List β) (g : β → List Key), vs = [.ref a] ∧ H a = some (.dT kvs) ∧ kvs.map (·.1) = l.map g ∧ AllAlike (l.map fun b => py (ktD (g b))) ∧ PySem.W.Sortable (l.map fun b => py (ktD (g b))) ∧ (∀ b ∈ l, (py (ktD (g b))).depth ≤ 60) ∧
  ∀ (ys : List V) (r : Addr), H r = none → KsAt H ((l.mergeSort (dle fun b => ktD (g b))).map g) ys → Q (.ref r) (upd H r (.lst ys))
theorem cr_sortKeysT (hu : X.A.units + 65 < cLine) (hc : X.calm = true) : CallR X (.builtin "sorted") rSortKeysT := by
  intro pins s σ H vs us Q I r h
  obtain ⟨a, kvs, β, l, g, rfl, ha, hkl, hal, hsb, hdp, q⟩ := h
  obtain ⟨u, rfl, ru⟩ := vals1 r
  obtain rfl : u = Value.ref a := ru
  obtain ⟨z, lo, es, ep, hr, hs, he⟩ := kt_raw I.hok ha
  have hh : X.A.handled = none := I.ok.hd hc
  have ll : l.length = kvs.length := by have := congrArg List.length hkl; rw [List.length_map, List.length_map] at this; omega
  refine sorted_by (enc := fun b => py (ktD (g b))) (bs := l) (C := fun h' vs => (∀ b o, s.heap.get? b = some o → h'.get? b = some o) ∧ EachIs (fun u b => ∃ c, u = Value.ref c ∧ H c = some (.tup ((g b).map kV))) vs l)
    (fun {R'} k => kdu_collect (KdlSrc.rawDict (prog := X.prog) (w := X.w) lo) hh hr (by omega) fun h' tk acc kp hI => k h' tk acc.toList kp ⟨kp, each_of_ix (by rw [Array.length_toList, hI.1, ll, hs]) fun i v b hv hb => ?_⟩)
    (fun h' vs c => c.2.mono fun u b ⟨c', e1, e2⟩ => by
      subst e1
      obtain ⟨as, rr⟩ := Dp.reads I _ _ _ (ktD_dv (K := X.K) e2).dp (show RelV (.ref c') (Value.ref c') from rfl)
      exact ⟨as, PyProof.Rows.Reads.keeps c.1 rr⟩) hal hsb (by omega) (fun b m => hu_big hu (hdp b m)) fun h1 h' tk b vs out n c kp1 kp2 eb hb lo' eo => ?_
  · rw [Array.getElem?_toList] at hv
    obtain ⟨hi, rfl⟩ := hI.2 i v hv
    obtain ⟨⟨k, w⟩, hk⟩ : ∃ p, kvs[i]? = some p := ⟨_, List.getElem?_eq_getElem (by omega)⟩
    have ek : k = g b := by
      have h1 : (kvs.map (·.1))[i]? = some k := by rw [List.getElem?_map, hk]; rfl
      rw [hkl, List.getElem?_map, hb] at h1
      exact (Option.some.inj h1).symm
    obtain ⟨c, c1, c2⟩ := (he i hi k w hk).1
    exact ⟨c, c1, by rw [← ek]; exact c2⟩
  · have ng : s.heap.get? b = none := by rw [← eb]; exact no_get kp1
    have fr : H b = none := I.hok.gone ng
    have eo2 : EachIs (fun u b => ∃ c, u = Value.ref c ∧ H c = some (.tup ((g b).map kV))) out (l.mergeSort (dle fun b => ktD (g b))) := eo.mono fun v k ⟨j, h1, h2⟩ => by
      obtain ⟨k', hk', rk⟩ := each_get c.2 h1
      rw [h2] at hk'
      obtain rfl := Option.some.inj hk'
      exact rk
    obtain ⟨ys, dy, ry⟩ := each_ks eo2
    refine ⟨.ref b, upd H b (.lst ys), I.laidN (t' := tk) (fun b o g => kp2 b o (kp1 b o g)) ng fr ⟨?_, out, n, ry, hb⟩, rfl, q ys b fr dy⟩
    rw [vals_len ry, lo', ll]; exact z
/-- list.count of data -/
def rCountD (K : Frag) : V → List V → Hp → VK → Prop := fun x xs H Q => ∃ (a : Addr) (y : V) (us : List V) (d : D) (ds : List D), x = .ref a ∧ xs = [y] ∧ SqL K H a us ∧ DVs K H ds us ∧ DV K H d y ∧ Okd d ∧ Okl ds ∧ Q (.int (ds.countP fun z => eqD z d : Nat)) H
theorem mt_countDD (hu : X.A.units + 65 < cLine) : MtR X "list.count" (rCountD X.K) := by
  intro pins s σ H x xs v us Q I rx rxs h
  obtain ⟨a, y, ws, d, ds, rfl, rfl, hs, hds, hd, sd, sl, q⟩ := h
  cases rx
  obtain ⟨u, rfl, ru⟩ := rxs.one
  obtain ⟨bs, r1⟩ := Dp.reads I _ y u hd.dp ru
  have hxs : PyData.canLayAll0 (pys ds) = true := SeqAt.canLay_of_shaped sl
  have hroom : X.A.units + 1 + min (PyData.depthAll (pys ds)) (py d).depth < cLine := room_in_shaped sd hu
  obtain ⟨its, rv, ⟨⟨cls, dd, data, sls⟩, n, ho, hc, hdn, hdt⟩, hlen⟩ := I.list hs
  simp only at hc hdt
  subst hc hdt
  obtain ⟨as, h4⟩ := Dp.readsAll I (pys ds) _ its hds.dpa rv
  have hmap : its.map (SeqAt.readOf s.heap) = pys ds := SeqAt.readsAll_map (pys ds) its as hxs h4
  refine call_meets PySem.F.slot_list_count ⟨_, ho, rfl⟩ PySem.F.entry_list_count (PySem.F.args_list_count_2 _ _)
    (SeqAt.list_countAt a its.toArray n dd sls u (fun z => PyData.eqv (SeqAt.readOf s.heap z) (py d))) ⟨ho, SeqAt.items_eqAt (vs := its.toArray) (show ReadsAll s.heap its.toArray.toList (pys ds) as from h4) r1 hxs (SeqAt.canLay_of_shaped sd) hroom, ?_⟩
  have ec : its.toArray.toList.countP (fun z => PyData.eqv (SeqAt.readOf s.heap z) (py d)) = ds.countP fun z => eqD z d := by
    have e1 : (its.map (SeqAt.readOf s.heap)).countP (fun z => PyData.eqv z (py d)) = ds.countP fun z => eqD z d := by
      rw [hmap, pys_map, List.countP_map]; rfl
    rw [← e1, List.countP_map]; rfl
  refine ⟨.int (ds.countP fun z => eqD z d : Nat), H, I.tok _, ⟨s.toks, ?_⟩, q⟩
  show Value.int _ s.toks = Value.int _ s.toks
  rw [ec]
end
/-- a field, read in a comprehension -/
theorem pe_fldQ {X : Cx} {K : Frag} {e : Expr} {f : Str} {pos : Pos} {ta : TE} (h : X.K = K) (he : PE X e ta) (hb : attributeBase e f X.env (eval e X.env) = eval e X.env) : PE X (.Attribute e f pos) (tFld K ta f) := by subst h; exact pe_fld he hb
end Z
namespace Z
open PySem PySem.W PySem.Calls PyProof.Rows L2
/-! ### tuple(d), its keys tuples -/
section
variable {prog : Program} {w : World} {A : Around} {E : Value → Shared → Prop} {s : Shared}
theorem new_tuple_of {T : String} {r d : Addr} {n : Nat} {P : Nat → Value → Prop} {OK : Heap → Prop} {Q₁ : Value → Shared → Prop} (hh : A.handled = none) (Ks : KdlSrc prog w T r d n P OK) (ok : OK s.heap) (hn : n ≤ sizeLine)
    (fin : ∀ (g : Heap) (tk : Nat) (acc : Array Value), (∀ b o, s.heap.get? b = some o → g.get? b = some o) → ItemsOf P acc n → Q₁ (.ref g.objs.size) { s with heap := g.push { cls := .type "tuple", data := .seq acc }, toks := tk }) :
    codeAny (model prog w) A (.call (.builtin "tuple.__new__") ⟨[.type "tuple", .ref r], []⟩) (wants Q₁ E) s := by
  have a1 := sub_tuple_self
  have a2 := init_tuple_lookup
  have a3 := madeHere_tuple
  have ty : s.TypeIs (.ref r) T := Ks.type s ok
  have h1 : A.in1.handled = none := hh
  refine codeAny_of_tree (show wpAny _ A.in1 (checkBuiltinCall "tuple.__new__" ⟨[.type "tuple", .ref r], []⟩ >>= fun _ => again (.builtin "tuple.__new__" ⟨[.type "tuple", .ref r], []⟩)) _ _ s from ?_)
  refine wpAny_bind (wpAny_of_eq (PySem.F.newCall_tuple_1 _) (wpAny_pure ⟨plainId_quiet PySem.F.plain_tuple_new _, codeAny_builtin PySem.F.entry_tuple_new ?_⟩))
  rw [Around.under_plainId (A := A) PySem.F.plain_tuple_new (⟨[.type "tuple", .ref r], []⟩ : Args)]
  wp_walk using wpAny_typeOf ty
  rw [if_neg (by rw [Ks.notTuple]; exact Bool.false_ne_true)]
  refine wpAny_bind (kdu_collect (A := A.in1) Ks h1 ok hn fun g tk acc kp items => wpAny_bind (wpAny_pure ?_))
  show wpAny _ _ (Builtin.Tuple.tupleExact acc.toList.toArray >>= fun v => ret v) _ _ ({ s with heap := g, toks := tk } : Shared)
  rw [Array.toArray_toList]
  unfold Builtin.Tuple.tupleExact
  refine wpAny_bind (wpAny_newObj_type (wpAny_pure (fin g tk acc kp items)) (show acc.size ≤ sizeLine from by rw [items.1]; exact hn))
theorem tuple_of {T : String} {r d : Addr} {n : Nat} {P : Nat → Value → Prop} {OK : Heap → Prop} {Q : Value → Shared → Prop} (hh : A.handled = none) (Ks : KdlSrc prog w T r d n P OK) (ok : OK s.heap) (hn : n ≤ sizeLine)
    (fin : ∀ (g : Heap) (tk : Nat) (acc : Array Value), (∀ b o, s.heap.get? b = some o → g.get? b = some o) → ItemsOf P acc n → Q (.ref g.objs.size) { s with heap := g.push { cls := .type "tuple", data := .seq acc }, toks := tk }) :
    wpAny (model prog w) A (call (.type "tuple") [.ref r]) Q E s := by
  refine callType_codes (Q₁ := fun o t => t.TypeIs o "tuple" ∧ Q o t) PySem.F.called_tuple (PySem.F.typeCall_tuple_1 _) PySem.F.entry_object_init (new_tuple_of (A := A.in1) hh Ks ok hn fun g tk acc kp items => ⟨⟨_, Heap.get?_push_size _ rfl, rfl⟩, fin g tk acc kp items⟩) fun o t k => ?_
  exact ⟨k.1, PySem.F.args_object_init_2 o _, object_init_meets PySem.F.called_tuple.init.lookup PySem.F.called_tuple.made (by decide) prog w A.in1 _ t ⟨k.1, rfl, k.2⟩⟩
end
section
variable {X : Cx}
def rTupKeysT : List V → Hp → VK → Prop := fun vs H Q => ∃ (a : Addr) (kvs : List (List Key × V)), vs = [.ref a] ∧ H a = some (.dT kvs) ∧ ∀ (ys : List V) (r : Addr), H r = none → KsAt H (kvs.map (·.1)) ys → Q (.ref r) (upd H r (.tup ys))
theorem cr_tupKeysT (hc : X.calm = true) : CallR X (.type "tuple") rTupKeysT := by
  intro pins s σ H vs us Q I r h
  obtain ⟨a, kvs, rfl, ha, q⟩ := h
  obtain ⟨u, rfl, ru⟩ := vals1 r
  obtain rfl : u = Value.ref a := ru
  obtain ⟨z, lo, es, ep, hr, hs, he⟩ := kt_raw I.hok ha
  have hh : X.A.handled = none := I.ok.hd hc
  refine tuple_of hh (KdlSrc.rawDict (prog := X.prog) (w := X.w) lo) hr (by omega) fun g tk acc kp hI => ?_
  have e1 : EachIs (fun u (b : List Key × V) => ∃ c, u = Value.ref c ∧ H c = some (.tup (b.1.map kV))) acc.toList kvs := each_of_ix (by rw [Array.length_toList, hI.1, hs]) fun i v b hv hb => by
    rw [Array.getElem?_toList] at hv
    obtain ⟨hi, rfl⟩ := hI.2 i v hv
    exact (he i hi b.1 b.2 hb).1
  obtain ⟨ys, dy, ry⟩ := each_ks e1
  have ng : s.heap.get? g.objs.size = none := no_get kp
  have fr : H g.objs.size = none := I.hok.gone ng
  refine ⟨.ref g.objs.size, upd H g.objs.size (.tup ys), I.laidN (t' := tk) (fun b o e => Heap.get?_push_of_some _ (kp b o e)) ng fr ⟨?_, acc.toList, ry, ?_⟩, rfl, q ys _ fr dy⟩
  · rw [vals_len ry, Array.length_toList, hI.1]; omega
  · exact ⟨_, Heap.get?_push_size _ rfl, rfl, 0, by simp⟩
end
end Z
namespace Z
open PySem L2 SX
def top (i : Nat) : Stmt := PySem.Challenge.pw_criermoot_k58_list_desks.main.body.getD i (.Pass ⟨0, 0, 0, 0⟩)
abbrev s_id_text : Stmt := top 2
abbrev N_id_text : List Str := ["id"]
theorem sc_id_text : FnScope ["id"] ["id"] (defScope s_id_text) := ⟨rfl, rfl, rfl, by decide +kernel, rfl, by decide +kernel, by decide +kernel⟩
abbrev s_split_address : Stmt := top 3
abbrev N_split_address : List Str := ["address", "person", "_", "place"]
theorem sc_split_address : FnScope ["address", "person", "_", "place"] ["address"] (defScope s_split_address) := ⟨rfl, rfl, rfl, by decide +kernel, rfl, by decide +kernel, by decide +kernel⟩
abbrev s_add_place : Stmt := top 5
abbrev N_add_place : List Str := ["glob", "places", "place"]
theorem sc_add_place : FnScope ["glob", "places", "place"] ["glob", "places", "place"] (defScope s_add_place) := ⟨rfl, rfl, rfl, by decide +kernel, rfl, by decide +kernel, by decide +kernel⟩
abbrev s_follows : Stmt := top 6
abbrev N_follows : List Str := ["glob", "standing", "character", "places", "place"]
theorem sc_follows : FnScope ["glob", "standing", "character", "places", "place"] ["glob", "standing", "character"] (defScope s_follows) := ⟨rfl, rfl, rfl, by decide +kernel, rfl, by decide +kernel, by decide +kernel⟩
abbrev s_standing : Stmt := top 7
abbrev N_standing : List Str := ["glob", "beginning", "places", "found", "character"]
theorem sc_standing : FnScope ["glob", "beginning", "places", "found", "character"] ["glob", "beginning"] (defScope s_standing) := ⟨rfl, rfl, rfl, by decide +kernel, rfl, by decide +kernel, by decide +kernel⟩
abbrev s_fits : Stmt := top 8
abbrev N_fits : List Str := ["glob", "board"]
theorem sc_fits : FnScope ["glob", "board"] ["glob", "board"] (defScope s_fits) := ⟨rfl, rfl, rfl, by decide +kernel, rfl, by decide +kernel, by decide +kernel⟩
abbrev s_items_of : Stmt := top 10
abbrev N_items_of : List Str := ["pattern", "item"]
theorem sc_items_of : FnScope ["pattern", "item"] ["pattern"] (defScope s_items_of) := ⟨rfl, rfl, rfl, by decide +kernel, rfl, by decide +kernel, by decide +kernel⟩
abbrev s_lets : Stmt := top 11
abbrev N_lets : List Str := ["pattern", "board", "sign", "glob"]
theorem sc_lets : FnScope ["pattern", "board", "sign", "glob"] ["pattern", "board"] (defScope s_lets) := ⟨rfl, rfl, rfl, by decide +kernel, rfl, by decide +kernel, by decide +kernel⟩
abbrev s_site_of : Stmt := top 13
abbrev N_site_of : List Str := ["book", "name", "entry"]
theorem sc_site_of : FnScope ["book", "name", "entry"] ["book", "name"] (defScope s_site_of) := ⟨rfl, rfl, rfl, by decide +kernel, rfl, by decide +kernel, by decide +kernel⟩
abbrev s_neighbours : Stmt := top 14
abbrev N_neighbours : List Str := ["book", "name", "after", "before", "line"]
theorem sc_neighbours : FnScope ["book", "name", "after", "before", "line"] ["book", "name"] (defScope s_neighbours) := ⟨rfl, rfl, rfl, by decide +kernel, rfl, by decide +kernel, by decide +kernel⟩
abbrev s_copy_to : Stmt := top 16
abbrev N_copy_to : List Str := ["notice", "list_address", "member", "key"]
theorem sc_copy_to : FnScope ["notice", "list_address", "member", "key"] ["notice", "list_address", "member"] (defScope s_copy_to) := ⟨rfl, rfl, rfl, by decide +kernel, rfl, by decide +kernel, by decide +kernel⟩
abbrev s_distances : Stmt := top 18
abbrev N_distances : List Str := ["book", "site", "found", "level", "behind", "name", "other"]
theorem sc_distances : FnScope ["book", "site", "found", "level", "behind", "name", "other"] ["book", "site"] (defScope s_distances) := ⟨rfl, rfl, rfl, by decide +kernel, rfl, by decide +kernel, by decide +kernel⟩
abbrev s_list_of : Stmt := top 20
abbrev N_list_of : List Str := ["book", "address", "entry"]
theorem sc_list_of : FnScope ["book", "address", "entry"] ["book", "address"] (defScope s_list_of) := ⟨rfl, rfl, rfl, by decide +kernel, rfl, by decide +kernel, by decide +kernel⟩
abbrev s_near_members : Stmt := top 21
abbrev N_near_members : List Str := ["book", "entry", "found", "member"]
theorem sc_near_members : FnScope ["book", "entry", "found", "member"] ["book", "entry"] (defScope s_near_members) := ⟨rfl, rfl, rfl, by decide +kernel, rfl, by decide +kernel, by decide +kernel⟩
abbrev s_lists_for : Stmt := top 22
abbrev N_lists_for : List Str := ["book", "site", "boards", "pattern", "at_site", "entry"]
theorem sc_lists_for : FnScope ["book", "site", "boards", "pattern", "at_site", "entry"] ["book", "site", "boards"] (defScope s_lists_for) := ⟨rfl, rfl, rfl, by decide +kernel, rfl, by decide +kernel, by decide +kernel⟩
abbrev s_ListDesk____init__ : Stmt := inClass (top 23) 0
abbrev N_ListDesk____init__ : List Str := ["self", "book", "site"]
theorem sc_ListDesk____init__ : FnScope ["self", "book", "site"] ["self", "book", "site"] (defScope s_ListDesk____init__) := ⟨rfl, rfl, rfl, by decide +kernel, rfl, by decide +kernel, by decide +kernel⟩
abbrev s_ListDesk__take : Stmt := inClass (top 23) 1
abbrev N_ListDesk__take : List Str := ["self", "notice", "found", "address"]
theorem sc_ListDesk__take : FnScope ["self", "notice", "found", "address"] ["self", "notice"] (defScope s_ListDesk__take) := ⟨rfl, rfl, rfl, by decide +kernel, rfl, by decide +kernel, by decide +kernel⟩
abbrev s_ListDesk__expand : Stmt := inClass (top 23) 2
abbrev N_ListDesk__expand : List Str := ["self", "address", "notice", "ids", "member"]
theorem sc_ListDesk__expand : FnScope ["self", "address", "notice", "ids", "member"] ["self", "address", "notice"] (defScope s_ListDesk__expand) := ⟨rfl, rfl, rfl, by decide +kernel, rfl, by decide +kernel, by decide +kernel⟩
abbrev s_ListDesk__hear : Stmt := inClass (top 23) 3
abbrev N_ListDesk__hear : List Str := ["self", "letter", "goal", "load"]
theorem sc_ListDesk__hear : FnScope ["self", "letter", "goal", "load"] ["self", "letter"] (defScope s_ListDesk__hear) := ⟨rfl, rfl, rfl, by decide +kernel, rfl, by decide +kernel, by decide +kernel⟩
abbrev s_ListDesk__box : Stmt := inClass (top 23) 4
abbrev N_ListDesk__box : List Str := ["self", "address"]
theorem sc_ListDesk__box : FnScope ["self", "address"] ["self", "address"] (defScope s_ListDesk__box) := ⟨rfl, rfl, rfl, by decide +kernel, rfl, by decide +kernel, by decide +kernel⟩
abbrev s__law_mix : Stmt := top 25
abbrev N__law_mix : List Str := ["seed", "turn", "number"]
theorem sc__law_mix : FnScope ["seed", "turn", "number"] ["seed", "turn"] (defScope s__law_mix) := ⟨rfl, rfl, rfl, by decide +kernel, rfl, by decide +kernel, by decide +kernel⟩
abbrev s__law_source : Stmt := top 26
abbrev N__law_source : List Str := ["script", "seed", "k"]
theorem sc__law_source : FnScope ["script", "seed", "k"] ["script"] (defScope s__law_source) := ⟨rfl, rfl, rfl, by decide +kernel, rfl, by decide +kernel, by decide +kernel⟩
abbrev s__law_draw : Stmt := top 27
abbrev N__law_draw : List Str := ["source", "many", "cell", "value"]
theorem sc__law_draw : FnScope ["source", "many", "cell", "value"] ["source", "many"] (defScope s__law_draw) := ⟨rfl, rfl, rfl, by decide +kernel, rfl, by decide +kernel, by decide +kernel⟩
abbrev s__law_pick : Stmt := top 28
abbrev N__law_pick : List Str := ["source", "row"]
theorem sc__law_pick : FnScope ["source", "row"] ["source", "row"] (defScope s__law_pick) := ⟨rfl, rfl, rfl, by decide +kernel, rfl, by decide +kernel, by decide +kernel⟩
abbrev s__law_shuffled : Stmt := top 29
abbrev N__law_shuffled : List Str := ["source", "row", "left", "done", "k"]
theorem sc__law_shuffled : FnScope ["source", "row", "left", "done", "k"] ["source", "row"] (defScope s__law_shuffled) := ⟨rfl, rfl, rfl, by decide +kernel, rfl, by decide +kernel, by decide +kernel⟩
abbrev s__law_new_name : Stmt := top 30
abbrev N__law_new_name : List Str := ["source", "used", "letters", "size", "name", "k", "tried"]
theorem sc__law_new_name : FnScope ["source", "used", "letters", "size", "name", "k", "tried"] ["source", "used"] (defScope s__law_new_name) := ⟨rfl, rfl, rfl, by decide +kernel, rfl, by decide +kernel, by decide +kernel⟩
abbrev s__law_names : Stmt := top 31
abbrev N__law_names : List Str := ["source", "many", "used", "k"]
theorem sc__law_names : FnScope ["source", "many", "used", "k"] ["source", "many"] (defScope s__law_names) := ⟨rfl, rfl, rfl, by decide +kernel, rfl, by decide +kernel, by decide +kernel⟩
abbrev s__law_row : Stmt := top 32
abbrev N__law_row : List Str := ["source", "size", "signs", "k"]
theorem sc__law_row : FnScope ["source", "size", "signs", "k"] ["source", "size"] (defScope s__law_row) := ⟨rfl, rfl, rfl, by decide +kernel, rfl, by decide +kernel, by decide +kernel⟩
abbrev s__law_words : Stmt := top 33
abbrev N__law_words : List Str := ["source"]
theorem sc__law_words : FnScope ["source"] ["source"] (defScope s__law_words) := ⟨rfl, rfl, rfl, by decide +kernel, rfl, by decide +kernel, by decide +kernel⟩
abbrev s__law_board : Stmt := top 34
abbrev N__law_board : List Str := ["source", "words", "size", "k"]
theorem sc__law_board : FnScope ["source", "words", "size", "k"] ["source", "words"] (defScope s__law_board) := ⟨rfl, rfl, rfl, by decide +kernel, rfl, by decide +kernel, by decide +kernel⟩
abbrev s__law_boards : Stmt := top 35
abbrev N__law_boards : List Str := ["source", "words", "most", "found", "k", "board"]
theorem sc__law_boards : FnScope ["source", "words", "most", "found", "k", "board"] ["source", "words", "most"] (defScope s__law_boards) := ⟨rfl, rfl, rfl, by decide +kernel, rfl, by decide +kernel, by decide +kernel⟩
abbrev s__law_glob : Stmt := top 36
abbrev N__law_glob : List Str := ["source", "words", "word", "menu"]
theorem sc__law_glob : FnScope ["source", "words", "word", "menu"] ["source", "words"] (defScope s__law_glob) := ⟨rfl, rfl, rfl, by decide +kernel, rfl, by decide +kernel, by decide +kernel⟩
abbrev s__law_pattern : Stmt := top 37
abbrev N__law_pattern : List Str := ["source", "words", "many", "items", "k"]
theorem sc__law_pattern : FnScope ["source", "words", "many", "items", "k"] ["source", "words"] (defScope s__law_pattern) := ⟨rfl, rfl, rfl, by decide +kernel, rfl, by decide +kernel, by decide +kernel⟩
abbrev s__law_fits : Stmt := top 38
abbrev N__law_fits : List Str := ["glob", "board", "spots", "k", "sign", "after"]
theorem sc__law_fits : FnScope ["glob", "board", "spots", "k", "sign", "after"] ["glob", "board"] (defScope s__law_fits) := ⟨rfl, rfl, rfl, by decide +kernel, rfl, by decide +kernel, by decide +kernel⟩
abbrev s__law_lets : Stmt := top 39
abbrev N__law_lets : List Str := ["pattern", "board", "answer", "item"]
theorem sc__law_lets : FnScope ["pattern", "board", "answer", "item"] ["pattern", "board"] (defScope s__law_lets) := ⟨rfl, rfl, rfl, by decide +kernel, rfl, by decide +kernel, by decide +kernel⟩
abbrev s__law_lets_some : Stmt := top 40
abbrev N__law_lets_some : List Str := ["pattern", "boards", "board"]
theorem sc__law_lets_some : FnScope ["pattern", "boards", "board"] ["pattern", "boards"] (defScope s__law_lets_some) := ⟨rfl, rfl, rfl, by decide +kernel, rfl, by decide +kernel, by decide +kernel⟩
abbrev s__law_site : Stmt := top 41
abbrev N__law_site : List Str := ["book", "name", "site"]
theorem sc__law_site : FnScope ["book", "name", "site"] ["book", "name"] (defScope s__law_site) := ⟨rfl, rfl, rfl, by decide +kernel, rfl, by decide +kernel, by decide +kernel⟩
abbrev s__law_steward : Stmt := top 42
abbrev N__law_steward : List Str := ["book", "board", "entry"]
theorem sc__law_steward : FnScope ["book", "board", "entry"] ["book", "board"] (defScope s__law_steward) := ⟨rfl, rfl, rfl, by decide +kernel, rfl, by decide +kernel, by decide +kernel⟩
abbrev s__law_needed : Stmt := top 43
abbrev N__law_needed : List Str := ["book", "boards", "found", "board", "address"]
theorem sc__law_needed : FnScope ["book", "boards", "found", "board", "address"] ["book", "boards"] (defScope s__law_needed) := ⟨rfl, rfl, rfl, by decide +kernel, rfl, by decide +kernel, by decide +kernel⟩
abbrev s__law_is_int : Stmt := top 44
abbrev N__law_is_int : List Str := ["value"]
theorem sc__law_is_int : FnScope ["value"] ["value"] (defScope s__law_is_int) := ⟨rfl, rfl, rfl, by decide +kernel, rfl, by decide +kernel, by decide +kernel⟩
abbrev s__law_same : Stmt := top 45
abbrev N__law_same : List Str := ["actual", "due", "k"]
theorem sc__law_same : FnScope ["actual", "due", "k"] ["actual", "due"] (defScope s__law_same) := ⟨rfl, rfl, rfl, by decide +kernel, rfl, by decide +kernel, by decide +kernel⟩
abbrev s__law_body : Stmt := top 46
abbrev N__law_body : List Str := ["source", "way", "first", "rows", "k"]
theorem sc__law_body : FnScope ["source", "way", "first", "rows", "k"] ["source"] (defScope s__law_body) := ⟨rfl, rfl, rfl, by decide +kernel, rfl, by decide +kernel, by decide +kernel⟩
abbrev s__law_lines : Stmt := top 47
abbrev N__law_lines : List Str := ["source", "names", "pairs", "k", "one", "two"]
theorem sc__law_lines : FnScope ["source", "names", "pairs", "k", "one", "two"] ["source", "names"] (defScope s__law_lines) := ⟨rfl, rfl, rfl, by decide +kernel, rfl, by decide +kernel, by decide +kernel⟩
abbrev s__law_feeds : Stmt := top 48
abbrev N__law_feeds : List Str := ["source", "lines", "words", "wide", "feeds", "pair", "way", "giver", "taker", "pattern", "hops", "size"]
theorem sc__law_feeds : FnScope ["source", "lines", "words", "wide", "feeds", "pair", "way", "giver", "taker", "pattern", "hops", "size"] ["source", "lines", "words", "wide"] (defScope s__law_feeds) := ⟨rfl, rfl, rfl, by decide +kernel, rfl, by decide +kernel, by decide +kernel⟩
abbrev s__law_sites : Stmt := top 49
abbrev N__law_sites : List Str := ["source", "names", "words", "window", "offsets", "rows", "greatest", "k", "lot", "memory", "term"]
theorem sc__law_sites : FnScope ["source", "names", "words", "window", "offsets", "rows", "greatest", "k", "lot", "memory", "term"] ["source", "names", "words", "window", "offsets"] (defScope s__law_sites) := ⟨rfl, rfl, rfl, by decide +kernel, rfl, by decide +kernel, by decide +kernel⟩
abbrev s__law_book : Stmt := top 50
abbrev N__law_book : List Str := ["source", "many", "words", "names", "window", "offsets", "first", "waits", "lines", "feeds", "sites", "k"]
theorem sc__law_book : FnScope ["source", "many", "words", "names", "window", "offsets", "first", "waits", "lines", "feeds", "sites", "k"] ["source", "many", "words"] (defScope s__law_book) := ⟨rfl, rfl, rfl, by decide +kernel, rfl, by decide +kernel, by decide +kernel⟩
abbrev s__law_over_lines : Stmt := top 51
abbrev N__law_over_lines : List Str := ["book", "lines", "feeds", "feed"]
theorem sc__law_over_lines : FnScope ["book", "lines", "feeds", "feed"] ["book", "lines"] (defScope s__law_over_lines) := ⟨rfl, rfl, rfl, by decide +kernel, rfl, by decide +kernel, by decide +kernel⟩
abbrev s__law_thinned : Stmt := top 52
abbrev N__law_thinned : List Str := ["source", "book", "wide", "pair"]
theorem sc__law_thinned : FnScope ["source", "book", "wide", "pair"] ["source", "book"] (defScope s__law_thinned) := ⟨rfl, rfl, rfl, by decide +kernel, rfl, by decide +kernel, by decide +kernel⟩
abbrev s__law_spread : Stmt := top 53
abbrev N__law_spread : List Str := ["book", "start", "far", "step", "pair", "way"]
theorem sc__law_spread : FnScope ["book", "start", "far", "step", "pair", "way"] ["book", "start"] (defScope s__law_spread) := ⟨rfl, rfl, rfl, by decide +kernel, rfl, by decide +kernel, by decide +kernel⟩
abbrev s__law_wide_book : Stmt := top 54
abbrev N__law_wide_book : List Str := ["source", "words", "most", "book", "address"]
theorem sc__law_wide_book : FnScope ["source", "words", "most", "book", "address"] ["source", "words", "most"] (defScope s__law_wide_book) := ⟨rfl, rfl, rfl, by decide +kernel, rfl, by decide +kernel, by decide +kernel⟩
abbrev s__law_nets : Stmt := top 55
abbrev N__law_nets : List Str := ["source", "book", "words", "names", "many", "drawn", "addresses", "people", "twin", "entries", "gates", "home", "board", "row", "site", "person", "entry"]
theorem sc__law_nets : FnScope ["source", "book", "words", "names", "many", "drawn", "addresses", "people", "twin", "entries", "gates", "home", "board", "row", "site", "person", "entry"] ["source", "book", "words"] (defScope s__law_nets) := ⟨rfl, rfl, rfl, by decide +kernel, rfl, by decide +kernel, by decide +kernel⟩
abbrev s__law_spreads : Stmt := top 56
abbrev N__law_spreads : List Str := ["book", "found", "site"]
theorem sc__law_spreads : FnScope ["book", "found", "site"] ["book"] (defScope s__law_spreads) := ⟨rfl, rfl, rfl, by decide +kernel, rfl, by decide +kernel, by decide +kernel⟩
abbrev s__law_gates_due : Stmt := top 57
abbrev N__law_gates_due : List Str := ["book", "name", "boards", "pattern", "found", "entry"]
theorem sc__law_gates_due : FnScope ["book", "name", "boards", "pattern", "found", "entry"] ["book", "name", "boards"] (defScope s__law_gates_due) := ⟨rfl, rfl, rfl, by decide +kernel, rfl, by decide +kernel, by decide +kernel⟩
abbrev s__law_copy : Stmt := top 58
abbrev N__law_copy : List Str := ["notice", "home", "member", "key"]
theorem sc__law_copy : FnScope ["notice", "home", "member", "key"] ["notice", "home", "member"] (defScope s__law_copy) := ⟨rfl, rfl, rfl, by decide +kernel, rfl, by decide +kernel, by decide +kernel⟩
abbrev s__law_carried_notice : Stmt := top 59
abbrev N__law_carried_notice : List Str := ["source", "book", "words", "number", "name", "boards", "gate", "author", "members", "other", "kind", "seals", "address"]
theorem sc__law_carried_notice : FnScope ["source", "book", "words", "number", "name", "boards", "gate", "author", "members", "other", "kind", "seals", "address"] ["source", "book", "words", "number"] (defScope s__law_carried_notice) := ⟨rfl, rfl, rfl, by decide +kernel, rfl, by decide +kernel, by decide +kernel⟩
abbrev s__law_ways_here : Stmt := top 60
abbrev N__law_ways_here : List Str := ["book", "spreads", "name", "found", "entry", "member"]
theorem sc__law_ways_here : FnScope ["book", "spreads", "name", "found", "entry", "member"] ["book", "spreads", "name"] (defScope s__law_ways_here) := ⟨rfl, rfl, rfl, by decide +kernel, rfl, by decide +kernel, by decide +kernel⟩
abbrev s__law_expanded : Stmt := top 61
abbrev N__law_expanded : List Str := ["book", "spreads", "model", "home", "notice", "near", "found", "entry", "member"]
theorem sc__law_expanded : FnScope ["book", "spreads", "model", "home", "notice", "near", "found", "entry", "member"] ["book", "spreads", "model", "home", "notice"] (defScope s__law_expanded) := ⟨rfl, rfl, rfl, by decide +kernel, rfl, by decide +kernel, by decide +kernel⟩
abbrev s__law_take_due : Stmt := top 62
abbrev N__law_take_due : List Str := ["book", "spreads", "model", "name", "notice", "found", "home"]
theorem sc__law_take_due : FnScope ["book", "spreads", "model", "name", "notice", "found", "home"] ["book", "spreads", "model", "name", "notice"] (defScope s__law_take_due) := ⟨rfl, rfl, rfl, by decide +kernel, rfl, by decide +kernel, by decide +kernel⟩
abbrev s__law_hear_due : Stmt := top 63
abbrev N__law_hear_due : List Str := ["book", "spreads", "model", "letter", "notice", "ids", "entry"]
theorem sc__law_hear_due : FnScope ["book", "spreads", "model", "letter", "notice", "ids", "entry"] ["book", "spreads", "model", "letter"] (defScope s__law_hear_due) := ⟨rfl, rfl, rfl, by decide +kernel, rfl, by decide +kernel, by decide +kernel⟩
abbrev s__law_deed_right : Stmt := top 64
abbrev N__law_deed_right : List Str := ["source", "book", "spreads", "desk", "model", "name", "notices", "notice", "ways", "home", "member", "letter", "pair"]
theorem sc__law_deed_right : FnScope ["source", "book", "spreads", "desk", "model", "name", "notices", "notice", "ways", "home", "member", "letter", "pair"] ["source", "book", "spreads", "desk", "model", "name", "notices"] (defScope s__law_deed_right) := ⟨rfl, rfl, rfl, by decide +kernel, rfl, by decide +kernel, by decide +kernel⟩
abbrev s__law_boxes_right : Stmt := top 65
abbrev N__law_boxes_right : List Str := ["book", "desk", "model", "name", "addresses", "entry", "address"]
theorem sc__law_boxes_right : FnScope ["book", "desk", "model", "name", "addresses", "entry", "address"] ["book", "desk", "model", "name"] (defScope s__law_boxes_right) := ⟨rfl, rfl, rfl, by decide +kernel, rfl, by decide +kernel, by decide +kernel⟩
abbrev s_law : Stmt := top 66
abbrev N_law : List Str := ["script", "source", "words", "book", "spreads", "k", "names", "desks", "models", "notices", "step"]
theorem sc_law : FnScope ["script", "source", "words", "book", "spreads", "k", "names", "desks", "models", "notices", "step"] ["script"] (defScope s_law) := ⟨rfl, rfl, rfl, by decide +kernel, rfl, by decide +kernel, by decide +kernel⟩
structure Tx (mg : Str → Option Value) : Prop where
  n_abs : mg "abs" = none
  n_bool : mg "bool" = none
  n_int : mg "int" = none
  n_isinstance : mg "isinstance" = none
  n_len : mg "len" = none
  n_list : mg "list" = none
  n_max : mg "max" = none
  n_min : mg "min" = none
  n_range : mg "range" = none
  n_reversed : mg "reversed" = none
  n_sorted : mg "sorted" = none
  n_str : mg "str" = none
  n_tuple : mg "tuple" = none
structure To (K : PySem.W.Frag) (mg : Str → Option Value) (A_ListDesk : Addr) : Prop where
  g_ListDesk : mg "ListDesk" = some (.ref A_ListDesk)
  c_ListDesk : Cls K A_ListDesk
  n_ListDesk_book : NoAttr K A_ListDesk "_book"
  n_ListDesk_site : NoAttr K A_ListDesk "_site"
  n_ListDesk_expanded : NoAttr K A_ListDesk "_expanded"
  n_ListDesk_boxes : NoAttr K A_ListDesk "_boxes"
end Z
namespace Z
open PySem PySem.Spec PyProof.Rows L2 SX
/-! ### enumerate(text) -/
def ItEs (x : Str) : It := ⟨fun i _ => i < x.cps.size, fun i H v H' => ∃ (T : Addr) (c : Nat), v = .ref T ∧ H T = none ∧ H' = upd H T (.tup [.int (i : Nat), .str ⟨#[c]⟩]) ∧ x.cps[i]? = some c, fun i _ => i = x.cps.size⟩
theorem turn_enumS {P : Program} {w : World} {K : PySem.W.Frag} {elts : List Expr} {kk : Nat} {tpos : Pos} (x : Str) (t : Tok) (e it : Addr) :
    Turn P w K (.Tuple elts kk tpos) (ItEs x) [e, it] e (fun i h => (∃ old, IsEnum h e it ((i : Nat) : Int) old) ∧ h.IsStrIter it (strIterType x) x t i ∧ e ≠ it) where
  mem := by simp
  obj := fun i h st b hb => by
    obtain ⟨⟨old, he⟩, ⟨o, ho, hc, hd⟩, _⟩ := st
    have e' : b = e ∨ b = it := by simpa using hb
    rcases e' with z | z
    · rw [z]; exact ⟨_, he, fun v q => nomatch q⟩
    · rw [z]; exact ⟨o, ho, fun v q => by rw [hd] at q; cases q⟩
  keep := fun i h h' st k => by
    obtain ⟨⟨old, he⟩, ⟨o, ho, r⟩, hne⟩ := st
    exact ⟨⟨old, k e (by simp) _ he⟩, ⟨o, k it (by simp) o ho, r⟩, hne⟩
  item := by
    intro X hP hw hK hc i pins s σ H E I hf st hg
    subst hP hw hK
    obtain ⟨⟨old, he⟩, hit, hne⟩ := st
    have hel : e < s.heap.objs.size := Heap.lt_size he
    have hil : it < s.heap.objs.size := by obtain ⟨_, q, _⟩ := hit; exact Heap.lt_size q
    have D := Draws.text (prog := X.prog) (w := X.w) (A := X.A.in1) (I.ok.hd hc) it x t
    refine wpAny_pyNext_enum_itemC D he hit hg hne (by simp [hne]) fun v h' tk hv ho hit' hT hsz hk => ?_
    obtain ⟨c, u, hcx, rfl⟩ := hv
    refine ⟨_, rfl, wpAny_letOwnedTupleGo_enum (s := { s with heap := h', toks := tk + 1 }) ho fun h'' he' sb => ?_⟩
    have hT2 : h''.get? s.heap.objs.size = some { cls := .type "tuple", data := .seq #[.int i tk, .str ⟨#[c]⟩ u] } := (sb.2 _ (Nat.ne_of_gt hel)).trans hT
    have new : ObjOk X.prog X.w (upd H s.heap.objs.size (.tup [.int (i : Nat), .str ⟨#[c]⟩])) h'' s.heap.objs.size (.tup [.int (i : Nat), .str ⟨#[c]⟩]) :=
      ⟨by show 2 ≤ sizeLine; decide, [.int i tk, .str ⟨#[c]⟩ u], .cons ⟨_, rfl⟩ (.cons ⟨_, rfl⟩ .nil), ⟨_, hT2, rfl, _, rfl⟩⟩
    have I1 : Inv X pins σ (upd H s.heap.objs.size (.tup [.int (i : Nat), .str ⟨#[c]⟩])) { s with heap := h'', toks := tk + 1 } :=
      I.turnedNew (ch := [e, it]) (fun b ob hb q => (sb.2 b (fun z => hb (by simp [z]))).trans (hk b ob (fun z => hb (by simp [z])) (fun z => hb (by simp [z])) q)) hf (Nat.le_refl _) new
    refine ⟨.ref s.heap.objs.size, _, I1, rfl, ⟨_, c, rfl, I.hok.fresh (Nat.le_refl _), rfl, hcx⟩, ⟨⟨.str ⟨#[c]⟩ u, ?_⟩, ?_, hne⟩, fun b hb => ?_⟩
    · have e1 : ((i + 1 : Nat) : Int) = (i : Int) + 1 := by omega
      rw [e1]; exact he'
    · obtain ⟨o, q, r⟩ := hit'
      exact ⟨o, (sb.2 it (Ne.symm hne)).trans q, r⟩
    · have hb' : b < s.heap.objs.size := by
        have e' : b = e ∨ b = it := by simpa using hb
        rcases e' with z | z
        · rw [z]; exact hel
        · rw [z]; exact hil
      rw [upd_ne (Nat.ne_of_lt hb')]
      exact (hf b hb).1
  done := by
    intro X hP hw hK hc i pins s σ H E I hf st hg
    subst hP hw hK
    obtain ⟨⟨old, he⟩, hit, hne⟩ := st
    obtain ⟨f0, f1, f2, f3, f4, f5⟩ := hf it (by simp)
    have hg' : i = x.cps.size := hg
    subst hg'
    have D := Draws.text (prog := X.prog) (w := X.w) (A := X.A.in1) (I.ok.hd hc) it x t
    exact wpAny_pyNext_enum_endD D he hit fun h' eb => ⟨rfl, I.turned (t' := s.toks) (fun b o hb q => eb b o hb q) f0 f1 f3 f4 f5⟩
  self := fun A i s Q E st h => let ⟨⟨_, he⟩, _⟩ := st; wpAny_pyIter_enum he h
def iEnumS (ta : TA) : TI := fun σ H R => ta σ H fun vs H1 => ∃ x : Str, vs = [.str x] ∧ R (ItEs x) H1
theorem pi_enumS {X : Cx} {e : Expr} {ta : TA} {p pos tpos : Pos} {elts : List Expr} {kk : Nat} (hg : Gl X "enumerate") (hm : X.mg "enumerate" = none) (ha : PA X [e] ta) (hs : starEach [e] X.env = [(false, eval e X.env)] := by rfl) :
    PI X (.Tuple elts kk tpos) (.Call (.Name "enumerate" p) [e] [] pos) (iEnumS ta) := by
  refine ⟨fun pins s σ H R I h => ?_⟩
  refine Call_ (ld_blt I hg hm boot_enumerate (PyProof.Rows.callWith_type1 (thn (ha.run pos pins s σ H _ I h) fun us s1 ⟨vs, H1, I1, r1, q1⟩ => ?_) hs rfl))
  obtain ⟨x, ex, q⟩ := q1
  subst ex
  cases r1 with
  | cons r rr =>
    cases rr
    obtain ⟨t, rfl⟩ := r
    refine call_enumerate_str fun h' he hit hsz hk => wpAny_pyIter_enum he ?_
    have I2 : Inv X pins σ H1 { s1 with heap := h' } := I1.kept (t' := s1.toks) hk
    refine ⟨s1.heap.objs.size + 1, [s1.heap.objs.size + 1, s1.heap.objs.size], _, _, H1, rfl, I2, turn_enumS x t (s1.heap.objs.size + 1) s1.heap.objs.size, ⟨⟨.none, he⟩, hit, Nat.succ_ne_self _⟩, fun b hb => ?_, q⟩
    have e' : b = s1.heap.objs.size + 1 ∨ b = s1.heap.objs.size := by simpa using hb
    have hle : s1.heap.objs.size ≤ b := by
      rcases e' with z | z
      · rw [z]; exact Nat.le_add_right _ _
      · rw [z]; exact Nat.le_refl _
    exact I1.fpOk hle (I1.hok.fresh hle)
theorem for_enumS {l : List Nat} {g : TG} {tb : TS} {D : Ends} {σ : L2.St} {H : Hp} (Pv : Nat → L2.St → Hp → Prop) (h0 : Pv 0 σ H)
    (hs : ∀ i c T σ H, l[i]? = some c → Pv i σ H → H T = none → g (.ref T) σ (upd H T (.tup [.int (i : Nat), .str (S [c])])) fun σ2 H2 => tb { D with nx := Pv (i + 1), ct := Pv (i + 1), bk := D.nx } σ2 H2) (hd : ∀ σ H, Pv l.length σ H → D.nx σ H) :
    ∃ W : Nat → Nat → L2.St → Hp → Prop, (∃ m, W 0 m σ H) ∧ ∀ i m σ H, W i m σ H →
      ((ItEs (S l)).stop i H ∧ D.nx σ H) ∨ ((ItEs (S l)).go i H ∧ ∃ N : L2.St → Hp → Prop, (∀ σ' H', N σ' H' → ∃ m', m' < m ∧ W (i + 1) m' σ' H') ∧ ∀ x H', (ItEs (S l)).yld i H x H' → g x σ H' fun σ2 H2 => tb { D with nx := N, ct := N, bk := D.nx } σ2 H2) := by
  refine ⟨fun i m σ H => m = l.length - i ∧ i ≤ l.length ∧ Pv i σ H, ⟨l.length, by simp, Nat.zero_le _, h0⟩, ?_⟩
  rintro i m σ H ⟨rfl, hi, p⟩
  by_cases hlt : i < l.length
  · refine .inr ⟨by show i < l.toArray.size; simpa using hlt, Pv (i + 1), fun σ' H' p' => ⟨l.length - (i + 1), by omega, rfl, hlt, p'⟩, fun x H' y => ?_⟩
    obtain ⟨T, c, rfl, hT, rfl, hc⟩ := y
    exact hs i c T _ _ (by simpa using hc) p hT
  · have e : i = l.length := by omega
    subst e
    exact .inl ⟨by show l.length = l.toArray.size; simp, hd σ H p⟩
end Z
namespace Z
open PySem L2 SX
/-! ### where a beginning stands in a glob -/
abbrev nts (l : List Nat) : List V := l.map fun k : Nat => V.int (k : Int)
def st0 (g : List Nat) : Nat → Prop
  | 0 => True
  | i + 1 => g[i]? = some 42 ∧ st0 g i
def nxt (g : List Nat) (M : Nat → Prop) (c : Nat) : Nat → Prop
  | 0 => False
  | i + 1 => (g[i]? = some 42 ∧ (nxt g M c i ∨ M (i + 1))) ∨ (g[i]? ≠ some 42 ∧ M i ∧ (g[i]? = some 63 ∨ g[i]? = some c))
def stand (g b : List Nat) : Nat → Prop := b.foldl (fun M c => nxt g M c) (st0 g)
/-- closed along stars -/
def closed (g : List Nat) (M : Nat → Prop) : Prop := ∀ y, M y → g[y]? = some 42 → M (y + 1)
def within (g : List Nat) (M : Nat → Prop) : Prop := ∀ y, M y → y ≤ g.length
theorem st0_closed (g : List Nat) : closed g (st0 g) := fun _ h e => ⟨e, h⟩
theorem st0_within (g : List Nat) : within g (st0 g) := fun y h => by
  cases y with
  | zero => omega
  | succ i => have := (List.getElem?_eq_some_iff.mp h.1).1; omega
theorem nxt_closed (g : List Nat) (M : Nat → Prop) (c : Nat) : closed g (nxt g M c) := fun _ h e => .inl ⟨e, .inl h⟩
theorem nxt_within (g : List Nat) (M : Nat → Prop) (c : Nat) : within g (nxt g M c) := fun y h => by
  cases y with
  | zero => omega
  | succ i =>
    rcases h with ⟨h, _⟩ | ⟨_, _, h | h⟩ <;> (have := (List.getElem?_eq_some_iff.mp h).1; omega)
theorem stand_nil (g : List Nat) : stand g [] = st0 g := rfl
theorem stand_snoc (g b : List Nat) (c : Nat) : stand g (b ++ [c]) = nxt g (stand g b) c := by unfold stand; rw [List.foldl_append]; rfl
theorem stand_ok (g b : List Nat) : closed g (stand g b) ∧ within g (stand g b) := by
  unfold stand
  rw [← List.reverse_reverse b, List.foldl_reverse]
  cases b.reverse with
  | nil => exact ⟨st0_closed g, st0_within g⟩
  | cons c r => exact ⟨nxt_closed g _ c, nxt_within g _ c⟩
/-- the places, ascending -/
def Asd (ps : List Nat) (M : Nat → Prop) : Prop := ps.Pairwise (· < ·) ∧ ∀ y, y ∈ ps ↔ M y
theorem asd_one : ∀ {a b : List Nat}, a.Pairwise (· < ·) → b.Pairwise (· < ·) → (∀ y, y ∈ a ↔ y ∈ b) → a = b
  | [], [], _, _, _ => rfl
  | [], y :: b, _, _, h => by have := (h y).mpr (by simp); cases this
  | x :: a, [], _, _, h => by have := (h x).mp (by simp); cases this
  | x :: a, y :: b, pa, pb, h => by
    have ha := List.pairwise_cons.mp pa
    have hb := List.pairwise_cons.mp pb
    have e : x = y := by
      have h1 := (h x).mp (by simp)
      have h2 := (h y).mpr (by simp)
      rcases List.mem_cons.mp h1 with e | e
      · exact e
      · rcases List.mem_cons.mp h2 with f | f
        · exact f.symm
        · have := hb.1 x e; have := ha.1 y f; omega
    subst e
    rw [asd_one ha.2 hb.2 fun z => ?_]
    constructor
    · intro hz
      rcases List.mem_cons.mp ((h z).mp (List.mem_cons_of_mem _ hz)) with e | e
      · subst e; have := ha.1 z hz; omega
      · exact e
    · intro hz
      rcases List.mem_cons.mp ((h z).mpr (List.mem_cons_of_mem _ hz)) with e | e
      · subst e; have := hb.1 z hz; omega
      · exact e
theorem Asd.one {a b : List Nat} {M : Nat → Prop} (x : Asd a M) (y : Asd b M) : a = b := asd_one x.1 y.1 fun z => (x.2 z).trans (y.2 z).symm
theorem Asd.congr {a : List Nat} {M N : Nat → Prop} (x : Asd a M) (h : ∀ y, M y ↔ N y) : Asd a N := ⟨x.1, fun y => (x.2 y).trans (h y)⟩
theorem Asd.len {a : List Nat} {M : Nat → Prop} {g : List Nat} (x : Asd a M) (w : within g M) : a.length ≤ g.length + 1 := by
  have : ∀ (n : Nat) (l : List Nat), l.Pairwise (· < ·) → (∀ y ∈ l, y < n) → l.length ≤ n := by
    intro n
    induction n with
    | zero => intro l _ h; cases l with
      | nil => simp
      | cons y r => have := h y (by simp); omega
    | succ n ih =>
      intro l p h
      rcases List.eq_nil_or_concat l with e | ⟨r, z, e⟩
      · subst e; simp
      · subst e
        rw [List.concat_eq_append] at p h ⊢
        have h2 := ih r (List.pairwise_append.mp p).1 (fun y hy => by
          have := (List.pairwise_append.mp p).2.2 y hy z (by simp)
          have := h z (by simp)
          omega)
        rw [List.length_append]; simp; exact h2
  exact this (g.length + 1) a x.1 fun y hy => by have := w y ((x.2 y).mp hy); omega
/-- a row of stars behind x -/
def isRun (g : List Nat) (x k : Nat) : Prop := (∀ j, j < k → g[x + j]? = some 42) ∧ g[x + k]? ≠ some 42
/-- places that are built up: L so far, m the greatest one that was put in, A what was put in -/
structure Up (g L : List Nat) (m : Nat) (A : Nat → Prop) : Prop where
  asc : L.Pairwise (· < ·)
  cl : ∀ y ∈ L, g[y]? = some 42 → y + 1 ∈ L
  gap : ∀ y z, m ≤ y → y ≤ z → z ∈ L → y ∈ L
  has : ∀ y, A y → y ∈ L
  only : ∀ (N : Nat → Prop), closed g N → (∀ y, A y → N y) → ∀ y ∈ L, N y
theorem Up.nil (g : List Nat) : Up g [] 0 (fun _ => False) := ⟨.nil, (fun _ h => by cases h), (fun _ _ _ _ h => by cases h), (fun _ h => h.elim), (fun _ _ _ _ h => by cases h)⟩
theorem Up.stay {g L : List Nat} {m x z : Nat} {A : Nat → Prop} (u : Up g L m A) (hm : m ≤ x) (hz : z ∈ L) (hx : x ≤ z) : Up g L x (fun y => A y ∨ y = x) :=
  ⟨u.asc, u.cl, fun y z a b c => u.gap y z (by omega) b c, fun y h => h.elim (u.has y) fun e => by subst e; exact u.gap _ _ hm hx hz, fun N c h => u.only N c fun y a => h y (.inl a)⟩
theorem run_mem {x k y : Nat} : y ∈ List.range' x (k + 1) ↔ x ≤ y ∧ y ≤ x + k := by rw [List.mem_range'_1]; omega
theorem Up.more {g L : List Nat} {m x k : Nat} {A : Nat → Prop} (u : Up g L m A) (hl : ∀ y ∈ L, y < x) (hr : isRun g x k) : Up g (L ++ List.range' x (k + 1)) x (fun y => A y ∨ y = x) := by
  refine ⟨?_, ?_, ?_, ?_, ?_⟩
  · exact List.pairwise_append.mpr ⟨u.asc, List.pairwise_lt_range', fun a ha b hb => by have := hl a ha; have := (run_mem.mp hb).1; omega⟩
  · intro y hy e
    rcases List.mem_append.mp hy with h | h
    · exact List.mem_append_left _ (u.cl y h e)
    · refine List.mem_append_right _ (run_mem.mpr ?_)
      have := run_mem.mp h
      by_cases q : y = x + k
      · subst q; exact absurd e hr.2
      · omega
  · intro y z hy hyz hz
    rcases List.mem_append.mp hz with h | h
    · have := hl z h; omega
    · have := run_mem.mp h
      exact List.mem_append_right _ (run_mem.mpr ⟨by omega, by omega⟩)
  · intro y h
    rcases h with h | e
    · exact List.mem_append_left _ (u.has y h)
    · subst e; exact List.mem_append_right _ (run_mem.mpr ⟨Nat.le_refl _, by omega⟩)
  · intro N c h y hy
    rcases List.mem_append.mp hy with q | q
    · exact u.only N c (fun z a => h z (.inl a)) y q
    · obtain ⟨q1, q2⟩ := run_mem.mp q
      have : ∀ j, j ≤ k → N (x + j) := by
        intro j
        induction j with
        | zero => intro _; exact h x (.inr rfl)
        | succ j ih => intro hj; exact c _ (ih (by omega)) (hr.1 j (by omega))
      have := this (y - x) (by omega)
      rwa [show x + (y - x) = y by omega] at this
theorem Up.congr {g L : List Nat} {m : Nat} {A B : Nat → Prop} (u : Up g L m A) (h : ∀ y, A y ↔ B y) : Up g L m B :=
  ⟨u.asc, u.cl, u.gap, fun y b => u.has y ((h y).mpr b), fun N c q => u.only N c fun y a => q y ((h y).mp a)⟩
/-- what is put in by the places of M that are taken -/
def puts (g : List Nat) (c : Nat) (T : Nat → Prop) (y : Nat) : Prop := (T y ∧ ∃ i, y = i + 1 ∧ g[i]? = some 42) ∨ ∃ i, y = i + 1 ∧ T i ∧ (g[i]? = some 63 ∨ g[i]? = some c)
theorem puts_next {g : List Nat} {M : Nat → Prop} {c : Nat} (hc : c ≠ 42) (cl : closed g M) {L : List Nat} {m : Nat} (u : Up g L m (puts g c M)) : Asd L (nxt g M c) := by
  refine ⟨u.asc, fun y => ⟨fun hy => u.only _ (nxt_closed g M c) (fun y p => ?_) y hy, ?_⟩⟩
  · rcases p with ⟨t, i, rfl, e⟩ | ⟨i, rfl, t, e⟩
    · exact .inl ⟨e, .inr t⟩
    · refine .inr ⟨fun q => ?_, t, e⟩
      rcases e with e | e <;> rw [e] at q
      · cases q
      · exact hc (Option.some.inj q)
  · intro h
    induction y with
    | zero => exact h.elim
    | succ i ih =>
      rcases h with ⟨e, h | h⟩ | ⟨_, t, e⟩
      · exact u.cl i (ih h) e
      · exact u.has _ (.inl ⟨h, i, rfl, e⟩)
      · exact u.has _ (.inr ⟨i, rfl, t, e⟩)
theorem start_asd {g L : List Nat} {m : Nat} (u : Up g L m (fun y => y = 0)) : Asd L (st0 g) := by
  refine ⟨u.asc, fun y => ⟨fun hy => u.only _ (st0_closed g) (fun y e => by subst e; exact True.intro) y hy, ?_⟩⟩
  intro h
  induction y with
  | zero => exact u.has 0 rfl
  | succ i ih => exact u.cl i (ih h.2) h.1
/-! ### promises -/
def sp_add_place : Sp := fun vs H Q _ => ∃ (g : Str) (p : Addr) (x : Nat) (L : List Nat) (m : Nat) (A : Nat → Prop), vs = [.str g, .ref p, .int (x : Int)] ∧ H p = some (.lst (nts L)) ∧ Up (tl g) L m A ∧ m ≤ x ∧ x ≤ (tl g).length ∧ (∀ y ∈ L, y ≤ (tl g).length) ∧ (tl g).length ≤ 10000 ∧
  ∀ (L' : List Nat) (H' : Hp), H' p = some (.lst (nts L')) → (∀ b, b ≠ p → H' b = H b) → Up (tl g) L' x (fun y => A y ∨ y = x) → (∀ y ∈ L', y ≤ (tl g).length) → Q .non H'
def sp_follows (K : PySem.W.Frag) : Sp := fun vs H Q _ => ∃ (g : Str) (a : Addr) (c : Nat) (ps : List Nat) (M : Nat → Prop), vs = [.str g, .ref a, .str (S [c])] ∧ SqT K H a (nts ps) ∧ Asd ps M ∧ closed (tl g) M ∧ within (tl g) M ∧ c ≠ 42 ∧ (tl g).length ≤ 10000 ∧
  ∀ (q : Addr) (qs : List Nat) (H' : Hp), Same H H' → H' q = some (.tup (nts qs)) → Asd qs (nxt (tl g) M c) → Q (.ref q) H'
def sp_standing (K : PySem.W.Frag) : Sp := fun vs H Q _ => ∃ (g b : Str), vs = [.str g, .str b] ∧ (∀ c ∈ tl b, c ≠ 42) ∧ (tl g).length ≤ 10000 ∧
  ∀ (q : Addr) (qs : List Nat) (H' : Hp), Same H H' → H' q = some (.tup (nts qs)) → Asd qs (stand (tl g) (tl b)) → Q (.ref q) H'
open Classical in
def sp_fits (K : PySem.W.Frag) : Sp := fun vs H Q _ => ∃ (g b : Str), vs = [.str g, .str b] ∧ (∀ c ∈ tl b, c ≠ 42) ∧ (tl g).length ≤ 10000 ∧
  ∀ (H' : Hp), Same H H' → Q (.bl (decide (stand (tl g) (tl b) (tl g).length))) H'
theorem inV_nts (n : Nat) (l : List Nat) : inV (V.int (n : Int)) (nts l) = decide (n ∈ l) := by
  unfold inV nts
  induction l with
  | nil => rfl
  | cons y ys ih =>
    rw [List.map_cons, List.any_cons, ih]
    by_cases e : n = y
    · subst e; simp [eqV]
    · have : ¬ (y : Int) = (n : Int) := fun h => e (by omega)
      simp [eqV, e, this]
theorem flat_nts (xs : List Nat) : (nts xs).all flatV = true := List.all_eq_true.mpr fun x h => by
  obtain ⟨y, _, rfl⟩ := List.mem_map.mp h; rfl
theorem DVs.nats {K : PySem.W.Frag} {H : Hp} (xs : List Nat) : DVs K H (xs.map fun k : Nat => D.int (k : Int)) (nts xs) := by
  have := DVs.ints (K := K) (H := H) (xs.map fun k : Nat => (k : Int))
  rwa [List.map_map, List.map_map] at this
theorem DV.nats {K : PySem.W.Frag} {H : Hp} {p : Addr} {xs : List Nat} (h : SqT K H p (nts xs)) : DV K H (.tup (xs.map fun k : Nat => D.int (k : Int))) (.ref p) := by
  unfold DV
  exact ⟨p, _, rfl, h, DVs.nats xs⟩
theorem DL.nats {n : Nat} (xs : List Nat) (h : xs.length ≤ 1000000) : DL (n + 2) (.tup (xs.map fun k : Nat => D.int (k : Int))) := ⟨by rw [List.length_map]; exact h, fun d m => by obtain ⟨x, _, rfl⟩ := List.mem_map.mp m; exact True.intro⟩
end Z
namespace Z
open PySem L2 SX
/-! ### patterns -/
def parts (p : List Nat) : List (List Nat) := TL.spl [44] 0 [] p
theorem spl_bound (c0 : Nat) : ∀ (l acc : List Nat), (∀ q ∈ TL.spl [c0] 0 acc l, q.length ≤ acc.length + l.length) ∧ (TL.spl [c0] 0 acc l).length ≤ l.length + 1
  | [], acc => by
    rw [TL.spl_nil]
    exact ⟨fun q h => by rw [List.mem_singleton.mp h]; exact Nat.le_refl _, Nat.le_refl _⟩
  | c :: r, acc => by
    cases h : TL.pre [c0] (c :: r) with
    | true =>
      rw [TL.spl_hit h]
      have ih := spl_bound c0 r []
      refine ⟨fun q hq => ?_, ?_⟩
      · rcases List.mem_cons.mp hq with e | e
        · subst e; omega
        · have := ih.1 q e; rw [List.length_nil] at this; rw [List.length_cons]; omega
      · have := ih.2; show (TL.spl [c0] 0 [] r).length + 1 ≤ r.length + 1 + 1; omega
    | false =>
      rw [TL.spl_miss h]
      have ih := spl_bound c0 r (acc ++ [c])
      refine ⟨fun q hq => ?_, ?_⟩
      · have := ih.1 q hq; rw [List.length_append] at this; rw [List.length_cons]; simp at this; omega
      · rw [List.length_cons]; have := ih.2; omega
theorem parts_len {p q : List Nat} (h : q ∈ parts p) : q.length ≤ p.length := by have := (spl_bound 44 p []).1 q h; rw [List.length_nil] at this; omega
theorem parts_num (p : List Nat) : (parts p).length ≤ p.length + 1 := (spl_bound 44 p []).2
/-- an item: its sign, its glob -/
def isBar (it : List Nat) : Bool := decide (it.take 1 = [33])
def globOf (it : List Nat) : List Nat := if isBar it = true then it.drop 1 else it
theorem globOf_len (it : List Nat) : (globOf it).length ≤ it.length := by
  unfold globOf; split
  · rw [List.length_drop]; omega
  · exact Nat.le_refl _
def fit (g b : List Nat) : Prop := stand g b g.length
open Classical in
noncomputable def letsL (its : List (List Nat)) (b : List Nat) : Bool := its.foldl (fun ans it => if fit (globOf it) b then !isBar it else ans) false
open Classical in
theorem lets_skip (b : List Nat) : ∀ (its : List (List Nat)) (v : Bool), (∀ it ∈ its, ¬ fit (globOf it) b) → its.foldl (fun ans it => if fit (globOf it) b then !isBar it else ans) v = v
  | [], _, _ => rfl
  | x :: r, v, h => by rw [List.foldl_cons, if_neg (h x (by simp))]; exact lets_skip b r v fun y hy => h y (List.mem_cons_of_mem _ hy)
theorem lets_last {its : List (List Nat)} {b : List Nat} {i : Nat} {it : List Nat} (h : its[i]? = some it) (hf : fit (globOf it) b) (hn : ∀ (j : Nat) (y : List Nat), i < j → its[j]? = some y → ¬ fit (globOf y) b) : letsL its b = !isBar it := by
  classical
  unfold letsL
  have e : its = its.take i ++ it :: its.drop (i + 1) := by
    obtain ⟨h1, h2⟩ := List.getElem?_eq_some_iff.mp h
    rw [← h2, List.getElem_cons_drop, List.take_append_drop]
  rw [e, List.foldl_append, List.foldl_cons, if_pos hf]
  refine lets_skip b _ _ fun y hy => ?_
  obtain ⟨j, hj, e2⟩ := List.getElem_of_mem hy
  refine hn (i + 1 + j) y (by omega) ?_
  have := List.getElem?_eq_getElem hj
  rw [List.getElem?_drop, e2] at this
  exact this
theorem lets_none {its : List (List Nat)} {b : List Nat} (hn : ∀ (j : Nat) (y : List Nat), its[j]? = some y → ¬ fit (globOf y) b) : letsL its b = false := by
  classical
  unfold letsL
  refine lets_skip b _ _ fun y hy => ?_
  obtain ⟨j, hj, e⟩ := List.getElem_of_mem hy
  exact hn j y (by rw [List.getElem?_eq_getElem hj, e])
def Clean (b : List Nat) : Prop := ∀ c ∈ b, c ≠ 42
theorem bar_starts (x : Str) : Txt.startswith x (Str.ofString "!") = isBar (tl x) := by
  have e := StrLaws.subAt_one x 33 0
  have e0 : ((tl x)[0]? = some 33) ↔ (tl x).take 1 = [33] := by
    cases tl x with
    | nil => simp
    | cons y r => simp
  unfold Txt.startswith isBar
  rw [Bool.eq_iff_iff, Bool.and_eq_true, decide_eq_true_iff, decide_eq_true_iff, ← e0]
  exact e
theorem bar_cut (x : Str) : decide (V.str (cutS x none (some 1)) = V.str (Str.ofString "!")) = isBar (tl x) := by
  unfold isBar
  rw [Bool.eq_iff_iff, decide_eq_true_iff, decide_eq_true_iff]
  have e : tl (cutS x none (some 1)) = (tl x).take 1 := cutS_to (by decide)
  constructor
  · intro h
    have h2 := congrArg tl (V.str.inj h)
    rw [e] at h2; exact h2
  · intro h
    exact congrArg V.str (tl_ext (by rw [e, h]; rfl))
/-- the law's places: those that lie ahead of a star, too -/
def Lax (g : List Nat) (N M : Nat → Prop) : Prop := ∀ y, M y ↔ (N y ∨ (g[y]? = some 42 ∧ N (y + 1)))
theorem lax_start (g : List Nat) : Lax g (st0 g) (st0 g) := fun y => ⟨.inl, fun h => h.elim id fun k => k.2.2⟩
/-- what the law puts in, ahead of its last loop -/
def lawA (g : List Nat) (M : Nat → Prop) (c : Nat) (y : Nat) : Prop := (M y ∧ g[y]? = some 42) ∨ ∃ i, y = i + 1 ∧ M i ∧ (g[i]? = some 63 ∨ g[i]? = some c)
def lawB (g : List Nat) (A : Nat → Prop) : Nat → Prop
  | 0 => A 0
  | i + 1 => A (i + 1) ∨ (lawB g A i ∧ g[i]? = some 42)
theorem lax_next {g : List Nat} {N M : Nat → Prop} {c : Nat} (hc : c ≠ 42) (cl : closed g N) (l : Lax g N M) : Lax g (nxt g N c) (lawB g (lawA g M c)) := by
  have ns : ∀ i : Nat, (g[i]? = some 63 ∨ g[i]? = some c) → g[i]? ≠ some 42 := fun i h e => by
    rcases h with h | h <;> rw [h] at e
    · cases e
    · exact hc (Option.some.inj e)
  have bA : ∀ y, lawA g M c y → lawB g (lawA g M c) y := fun y h => by
    cases y with
    | zero => exact h
    | succ i => exact .inl h
  have fA : ∀ y, lawA g M c y → nxt g N c y ∨ (g[y]? = some 42 ∧ nxt g N c (y + 1)) := fun y h => by
    rcases h with ⟨m, e⟩ | ⟨i, rfl, m, k⟩
    · refine .inr ⟨e, .inl ⟨e, .inr ?_⟩⟩
      rcases (l y).mp m with n | ⟨_, n⟩
      · exact cl y n e
      · exact n
    · refine .inl (.inr ⟨ns i k, ?_, k⟩)
      rcases (l i).mp m with n | ⟨q, _⟩
      · exact n
      · exact absurd q (ns i k)
  have back : ∀ y, nxt g N c y → lawB g (lawA g M c) y := fun y => by
    induction y with
    | zero => intro h; exact h.elim
    | succ i ih =>
      rintro (⟨e, h | h⟩ | ⟨_, n, k⟩)
      · exact .inr ⟨ih h, e⟩
      · exact .inr ⟨bA i (.inl ⟨(l i).mpr (.inr ⟨e, h⟩), e⟩), e⟩
      · exact .inl (.inr ⟨i, rfl, (l i).mpr (.inl n), k⟩)
  intro y
  constructor
  · induction y with
    | zero => intro h; exact fA 0 h
    | succ i ih =>
      rintro (h | ⟨h, e⟩)
      · exact fA _ h
      · rcases ih h with n | ⟨_, n⟩
        · exact .inl (.inl ⟨e, .inl n⟩)
        · exact .inl n
  · rintro (h | ⟨e, h⟩)
    · exact back y h
    · rcases h with ⟨_, h | h⟩ | ⟨q, _⟩
      · exact back y h
      · exact bA y (.inl ⟨(l y).mpr (.inr ⟨e, h⟩), e⟩)
      · exact absurd e q
/-! ### promises -/
def itemV (it : List Nat) : List V := [.int (if isBar it = true then 0 else 1), .str (S (globOf it))]
def sp_items_of (K : PySem.W.Frag) : Sp := fun vs H Q _ => ∃ (p : Str), vs = [.str p] ∧ (tl p).length ≤ 3000 ∧
  ∀ (q : Addr) (ts : List Addr) (H' : Hp), Same H H' → H' q = some (.tup (ts.map V.ref)) → ts.length = (parts (tl p)).length → (∀ (i : Nat) (t : Addr) (it : List Nat), ts[i]? = some t → (parts (tl p))[i]? = some it → H' t = some (.tup (itemV it))) → Q (.ref q) H'
def sp_lets (K : PySem.W.Frag) : Sp := fun vs H Q _ => ∃ (p b : Str), vs = [.str p, .str b] ∧ (tl p).length ≤ 3000 ∧ Clean (tl b) ∧ ∀ H', Same H H' → Q (.bl (letsL (parts (tl p)) (tl b))) H'
def sp_lets_one (K : PySem.W.Frag) : Sp := fun vs H Q _ => ∃ (p : Str) (a : Addr) (bs : List Str), vs = [.str p, .ref a] ∧ SqT K H a (bs.map V.str) ∧ (tl p).length ≤ 3000 ∧ bs.length ≤ 1000 ∧ (∀ b ∈ bs, Clean (tl b)) ∧ ∀ H', Same H H' → Q (.bl (bs.any fun b => letsL (parts (tl p)) (tl b))) H'
open Classical in
def sp__law_fits (K : PySem.W.Frag) : Sp := fun vs H Q _ => ∃ (g b : Str), vs = [.str g, .str b] ∧ Clean (tl b) ∧ (tl g).length ≤ 10000 ∧ ∀ (H' : Hp), Same H H' → Q (.bl (decide (fit (tl g) (tl b)))) H'
def sp__law_lets (K : PySem.W.Frag) : Sp := sp_lets K
def sp__law_lets_some (K : PySem.W.Frag) : Sp := sp_lets_one K
theorem split_bar (p : Str) : Txt.split p (Str.ofString ",") = (parts (tl p)).map S := split_S (a := tl p) (b := [44]) (by decide) (by decide)

/-! ### lists of truth values -/
def Bs (bs : List Bool) (n : Nat) (M : Nat → Prop) : Prop := bs.length = n + 1 ∧ ∀ y, bs[y]? = some true ↔ M y
theorem Bs.set {bs : List Bool} {n k : Nat} {M : Nat → Prop} (h : Bs bs n M) (hk : k ≤ n) : Bs (bs.set k true) n (fun y => M y ∨ y = k) := by
  refine ⟨by rw [List.length_set]; exact h.1, fun y => ?_⟩
  rw [List.getElem?_set]
  by_cases e : k = y
  · subst e
    rw [if_pos rfl, if_pos (by have := h.1; omega)]
    exact ⟨fun _ => .inr rfl, fun _ => rfl⟩
  · rw [if_neg e]
    exact ⟨fun q => .inl ((h.2 y).mp q), fun q => q.elim (h.2 y).mpr fun z => absurd z.symm e⟩
theorem Bs.congr {bs : List Bool} {n : Nat} {M N : Nat → Prop} (h : Bs bs n M) (e : ∀ y, M y ↔ N y) : Bs bs n N := ⟨h.1, fun y => (h.2 y).trans (e y)⟩
theorem Bs.get {bs : List Bool} {n k : Nat} {M : Nat → Prop} (h : Bs bs n M) (hk : k ≤ n) : ∃ b : Bool, bs[k]? = some b ∧ (b = true ↔ M k) := by
  have hl : k < bs.length := by have := h.1; omega
  refine ⟨bs[k], List.getElem?_eq_getElem hl, ?_⟩
  rw [← h.2 k, List.getElem?_eq_getElem hl]
  exact ⟨fun e => by rw [e], fun e => Option.some.inj e⟩
theorem atI_bl {bs : List Bool} {k : Nat} {b : Bool} {z : Int} (hz : z = (k : Int)) (h : bs[k]? = some b) : atI (bs.map V.bl) z = some (.bl b) := at_of hz (by rw [List.getElem?_map, h]; rfl)
theorem ixN_pos {n k : Nat} {z : Int} (hz : z = (k : Int)) (h : k < n) : ixN n z = some k := by
  subst hz
  unfold ixN
  rw [if_pos (by omega), if_pos (by omega)]; rfl
theorem map_set_bl (bs : List Bool) (k : Nat) : (bs.map V.bl).set k (.bl true) = (bs.set k true).map V.bl := by rw [List.map_set]
theorem bs_false (n : Nat) : Bs (List.replicate (n + 1) false) n (fun _ => False) := by
  refine ⟨List.length_replicate, fun y => ⟨fun h => ?_, fun h => h.elim⟩⟩
  rw [List.getElem?_replicate] at h
  split at h <;> cases h
theorem flatten_one (n : Nat) : (List.replicate n [V.bl false]).flatten = (List.replicate n false).map V.bl := by
  induction n with
  | zero => rfl
  | succ n ih => rw [List.replicate_succ, List.flatten_cons, ih, List.replicate_succ, List.map_cons]; rfl
end Z
namespace Z
open PySem L2 SX
def sp13 (f n : Nat) : Sp := fun vs H Q _ => ∃ (s a : Addr) (c : Nat), vs = [.ref s] ∧ Src H s a (c + f) ∧ ∀ (x : Str) (H' : Hp), (tl x).length ≤ n → Ext s H H' → Src H' s a c → Q (.str x) H'
def sp13_bent : Sp := fun vs H Q _ => ∃ (s a : Addr) (x : Str) (c : Nat), vs = [.ref s, .str x] ∧ (tl x).length ≤ 1000 ∧ Src H s a (c + 10) ∧ ∀ (y : Str) (H' : Hp), (tl y).length ≤ (tl x).length + 3 → Ext s H H' → Src H' s a c → Q (.str y) H'
theorem ext_free {H H1 : Hp} {s a u : Addr} {c : Nat} (x : Ext s H H1) (S : Src H1 s a c) (h : H1 u = none) : H u = none := by
  cases e : H u with
  | none => rfl
  | some o =>
    by_cases q : u = s
    · subst q
      obtain ⟨xs, e2⟩ := S.lst
      rw [h] at e2; cases e2
    · have := x _ _ q e
      rw [h] at this; cases this
theorem joinL_len {s : List Nat} {n : Nat} : ∀ {ls : List (List Nat)}, (∀ l ∈ ls, l.length ≤ n) → (TL.joinL s ls).length ≤ ls.length * (n + s.length)
  | [], _ => by simp [TL.joinL]
  | [x], h => by have := h x (by simp); show x.length ≤ 1 * (n + s.length); omega
  | x :: y :: r, h => by
    have ih := joinL_len (s := s) (ls := y :: r) (fun l m => h l (List.mem_cons_of_mem _ m))
    have := h x (by simp)
    show (x ++ (s ++ TL.joinL s (y :: r))).length ≤ ((y :: r).length + 1) * (n + s.length)
    rw [List.length_append, List.length_append, Nat.succ_mul]
    omega
theorem tl_joinS (s : Str) (xs : List Str) : tl (Txt.join s xs) = TL.joinL (tl s) (xs.map tl) := by
  have h := join_S (tl s) (xs.map tl)
  rw [tl_mapS] at h
  exact congrArg tl h
theorem sum_len {n : Nat} : ∀ {xs : List Str}, (∀ x ∈ xs, (tl x).length ≤ n) → (xs.map (·.length)).sum ≤ xs.length * n
  | [], _ => by simp
  | x :: xs, h => by
    have := h x (by simp)
    have ih := sum_len (n := n) (xs := xs) (fun y m => h y (List.mem_cons_of_mem _ m))
    rw [List.map_cons, List.sum_cons, List.length_cons, Nat.succ_mul, tl_len]; omega
theorem cut_le (x : Str) (i j : Option Int) : (tl (cutS x i j)).length ≤ (tl x).length := by
  show ((List.drop _ (tl x)).take _).length ≤ _
  rw [List.length_take, List.length_drop]; omega
theorem len_mem {n : Nat} {xs : List Str} {w : V} (h : ∀ x ∈ xs, (tl x).length ≤ n) (m : w ∈ xs.map V.str) : ∃ x, w = V.str x ∧ (tl x).length ≤ n := by
  obtain ⟨x, hx, rfl⟩ := List.mem_map.mp m
  exact ⟨x, rfl, h x hx⟩
end Z
namespace Z
open PySem L2 SX
/-! ### patterns: scanning and splitting -/
def okc (c : Nat) : Bool := decide (c ∈ tl (Str.ofString "abcdefghijklmnopqrstuvwxyz0123456789.*?"))
theorem okc_44 : okc 44 = false := by decide +kernel
theorem okc_33 : okc 33 = false := by decide +kernel
def step (a c : Nat) : Bool := (decide (c = 33) && decide (a = 44)) || (decide (c = 44) && (decide (a ≠ 44) && decide (a ≠ 33))) || okc c
/-- all signs may follow each other, behind a -/
def runs : Nat → List Nat → Bool
  | _, [] => true
  | a, c :: r => step a c && runs c r
def lastOf : Nat → List Nat → Nat
  | a, [] => a
  | _, c :: r => lastOf c r
def globP (it : List Nat) : List Nat := if decide (it.take 1 = [33]) = true then it.drop 1 else it
def goodItem (it : List Nat) : Bool := decide (globP it ≠ []) && (globP it).all okc
/-- an item so far: what stands behind its ! is of glob signs -/
def part1 (acc : List Nat) : Bool := (globP acc).all okc
theorem runs_app (a : Nat) (l m : List Nat) : runs a (l ++ m) = (runs a l && runs (lastOf a l) m) := by
  induction l generalizing a with
  | nil => simp [runs, lastOf]
  | cons c r ih => show (step a c && runs c (r ++ m)) = ((step a c && runs c r) && runs (lastOf c r) m); rw [ih, Bool.and_assoc]
theorem last_app (a c : Nat) (l : List Nat) : lastOf a (l ++ [c]) = c := by
  induction l generalizing a with
  | nil => rfl
  | cons d r ih => exact ih d
theorem globP_app {acc : List Nat} {c : Nat} (h : acc ≠ []) : globP (acc ++ [c]) = globP acc ++ [c] := by
  cases acc with
  | nil => exact absurd rfl h
  | cons d r =>
    unfold globP
    show (if decide ([d] = [33]) = true then r ++ [c] else d :: (r ++ [c])) = (if decide ([d] = [33]) = true then r else d :: r) ++ [c]
    split <;> rfl
/-- the last sign ahead, as the scan sees it: the accumulated item behind a comma -/
theorem good_last {acc : List Nat} (h : part1 acc = true) : goodItem acc = (decide (lastOf 44 acc ≠ 44) && decide (lastOf 44 acc ≠ 33)) := by
  rcases List.eq_nil_or_concat acc with e | ⟨l, c, e⟩
  · subst e; decide
  · rw [List.concat_eq_append] at e
    subst e
    rw [last_app]
    unfold goodItem
    rw [show (globP (l ++ [c])).all okc = true from h, Bool.and_true]
    by_cases hl : l = []
    · subst hl
      by_cases e33 : c = 33
      · subst e33; decide
      · have g : globP ([] ++ [c]) = [c] := by
          unfold globP
          rw [if_neg (by simp [e33])]; rfl
        have oc : okc c = true := by
          have h' : (globP ([] ++ [c])).all okc = true := h
          rw [g] at h'
          simpa using h'
        have e44 : c ≠ 44 := fun e => by rw [e, okc_44] at oc; cases oc
        rw [g, decide_eq_true (show [c] ≠ [] by simp), decide_eq_true e44, decide_eq_true e33]; rfl
    · have g := globP_app (c := c) hl
      have h' : (globP (l ++ [c])).all okc = true := h
      rw [g, List.all_append] at h'
      have oc : okc c = true := by
        have := (Bool.and_eq_true_iff.mp h').2
        simpa using this
      have e44 : c ≠ 44 := fun e => by rw [e, okc_44] at oc; cases oc
      have e33 : c ≠ 33 := fun e => by rw [e, okc_33] at oc; cases oc
      rw [g, decide_eq_true (show globP l ++ [c] ≠ [] by simp), decide_eq_true e44, decide_eq_true e33]; rfl
theorem part_step {acc : List Nat} {c : Nat} (h : part1 acc = true) (hc : c ≠ 44) : part1 (acc ++ [c]) = step (lastOf 44 acc) c := by
  unfold step
  rw [decide_eq_false hc, Bool.false_and, Bool.or_false]
  by_cases hl : acc = []
  · subst hl
    by_cases e33 : c = 33
    · subst e33; decide
    · have g : globP ([] ++ [c]) = [c] := by
        unfold globP
        rw [if_neg (by simp [e33])]; rfl
      unfold part1
      rw [g, decide_eq_false e33, Bool.false_and, Bool.false_or]
      simp
  · unfold part1
    rw [globP_app hl, List.all_append, show (globP acc).all okc = true from h]
    have l44 : lastOf 44 acc ≠ 44 := by
      rcases List.eq_nil_or_concat acc with e | ⟨l, d, e⟩
      · exact absurd e hl
      · rw [List.concat_eq_append] at e
        subst e
        rw [last_app]
        intro e
        subst e
        by_cases hl2 : l = []
        · subst hl2
          revert h; decide +kernel
        · have h' : (globP (l ++ [44])).all okc = true := h
          rw [globP_app hl2, List.all_append] at h'
          have := (Bool.and_eq_true_iff.mp h').2
          simp [okc_44] at this
    rw [decide_eq_false l44, Bool.and_false, Bool.false_or]
    simp
theorem bad_part (l : List Nat) : ∀ acc : List Nat, part1 acc = false → (TL.spl [44] 0 acc l).all goodItem = false := by
  induction l with
  | nil =>
    intro acc h
    rw [TL.spl_nil]
    show (goodItem acc && true) = false
    unfold goodItem
    rw [show (globP acc).all okc = false from h, Bool.and_false]; rfl
  | cons c r ih =>
    intro acc h
    by_cases hc : c = 44
    · subst hc
      rw [TL.spl_hit (show TL.pre [44] (44 :: r) = true by show ([44] == [44]) = true; rfl)]
      show (goodItem acc && _) = false
      unfold goodItem
      rw [show (globP acc).all okc = false from h, Bool.and_false, Bool.false_and]
    · rw [TL.spl_miss (show TL.pre [44] (c :: r) = false by show ([c] == [44]) = false; simp [hc])]
      refine ih _ ?_
      have hl : acc ≠ [] := fun e => by rw [e] at h; revert h; decide
      unfold part1
      rw [globP_app hl, List.all_append, show (globP acc).all okc = false from h, Bool.false_and]
theorem spl_good (l : List Nat) : ∀ acc : List Nat, part1 acc = true → (TL.spl [44] 0 acc l).all goodItem = (runs (lastOf 44 acc) l && (decide (lastOf (lastOf 44 acc) l ≠ 44) && decide (lastOf (lastOf 44 acc) l ≠ 33))) := by
  induction l with
  | nil =>
    intro acc h
    rw [TL.spl_nil]
    show (goodItem acc && true) = _
    rw [Bool.and_true, good_last h]; rfl
  | cons c r ih =>
    intro acc h
    by_cases hc : c = 44
    · subst hc
      rw [TL.spl_hit (show TL.pre [44] (44 :: r) = true by show ([44] == [44]) = true; rfl)]
      show (goodItem acc && (TL.spl [44] 0 [] r).all goodItem) = ((step (lastOf 44 acc) 44 && runs 44 r) && _)
      rw [ih [] (by decide), good_last h]
      have : step (lastOf 44 acc) 44 = (decide (lastOf 44 acc ≠ 44) && decide (lastOf 44 acc ≠ 33)) := by
        unfold step
        rw [okc_44]; simp
      rw [this]
      show (_ && (runs 44 r && (decide (lastOf 44 r ≠ 44) && decide (lastOf 44 r ≠ 33)))) = _
      rw [show lastOf (lastOf 44 acc) (44 :: r) = lastOf 44 r from rfl]
      simp only [Bool.and_assoc]
    · rw [TL.spl_miss (show TL.pre [44] (c :: r) = false by show ([c] == [44]) = false; simp [hc])]
      by_cases hs : step (lastOf 44 acc) c = true
      · rw [ih (acc ++ [c]) (by rw [part_step h hc]; exact hs), last_app]
        show _ = ((step (lastOf 44 acc) c && runs c r) && _)
        rw [hs, Bool.true_and]; rfl
      · have hs' : step (lastOf 44 acc) c = false := Bool.eq_false_iff.mpr hs
        show _ = ((step (lastOf 44 acc) c && runs c r) && _)
        rw [hs', Bool.false_and, Bool.false_and]
        have np : part1 (acc ++ [c]) = false := by rw [part_step h hc]; exact hs'
        exact bad_part r _ np
theorem spl_count (l : List Nat) : ∀ acc : List Nat, (TL.spl [44] 0 acc l).length = l.count 44 + 1 := by
  induction l with
  | nil => intro acc; rw [TL.spl_nil]; rfl
  | cons c r ih =>
    intro acc
    by_cases hc : c = 44
    · subst hc
      rw [TL.spl_hit (show TL.pre [44] (44 :: r) = true by show ([44] == [44]) = true; rfl), List.count_cons_self]
      show (TL.spl [44] 0 [] r).length + 1 = _
      rw [ih]
    · rw [TL.spl_miss (show TL.pre [44] (c :: r) = false by show ([c] == [44]) = false; simp [hc]), ih, List.count_cons_of_ne hc]
/-- a pattern, as the law splits it -/
def isPat (l : List Nat) : Bool := decide (l.length ≤ 60) && (decide ((TL.spl [44] 0 [] l).length ≤ 8) && (TL.spl [44] 0 [] l).all goodItem)
def endOk (a : Nat) : Bool := decide (a ≠ 44) && decide (a ≠ 33)
theorem isPat_eq (l : List Nat) : isPat l = (decide (l.length ≤ 60) && (decide (l.count 44 ≤ 7) && (runs 44 l && endOk (lastOf 44 l)))) := by
  unfold isPat endOk
  rw [spl_good l [] (by decide), spl_count]
  rw [show decide (l.count 44 + 1 ≤ 8) = decide (l.count 44 ≤ 7) by rw [decide_eq_decide]; omega]
  rfl
/-- the beginning of some pattern, as the law asks it -/
def isBeg (l : List Nat) : Bool := isPat l || isPat (l ++ [97])
theorem isBeg_eq (l : List Nat) : isBeg l = (runs 44 l && (decide (l.count 44 ≤ 7) && (decide (l.length ≤ 59) || (decide (l.length ≤ 60) && endOk (lastOf 44 l))))) := by
  unfold isBeg
  rw [isPat_eq, isPat_eq, runs_app, last_app, List.length_append, List.count_append]
  rw [show runs (lastOf 44 l) [97] = true by show (step _ 97 && true) = true; unfold step; rw [show okc 97 = true by decide +kernel]; simp, show endOk 97 = true by decide]
  rw [show List.count 44 [97] = 0 by decide, Nat.add_zero, Bool.and_true, Bool.and_true]
  rw [show decide (l.length + [97].length ≤ 60) = decide (l.length ≤ 59) by rw [decide_eq_decide]; show l.length + 1 ≤ 60 ↔ _; omega]
  cases runs 44 l <;> cases decide (l.count 44 ≤ 7) <;> cases decide (l.length ≤ 59) <;> cases decide (l.length ≤ 60) <;> cases endOk (lastOf 44 l) <;> rfl
/-- a sign behind a, behind k commas, at the place n -/
def may (c a k n : Nat) : Bool := if c = 33 then decide (a = 44) && decide (n < 59) else if c = 44 then (decide (a ≠ 44) && decide (a ≠ 33)) && (decide (k < 7) && decide (n < 59)) else okc c && decide (n < 60)
theorem isBeg_snoc (l : List Nat) (c : Nat) : isBeg (l ++ [c]) = (isBeg l && may c (lastOf 44 l) (l.count 44) l.length) := by
  rw [isBeg_eq, isBeg_eq, runs_app, last_app, List.length_append, List.count_append]
  show ((runs 44 l && (step (lastOf 44 l) c && true)) && (decide (l.count 44 + List.count 44 [c] ≤ 7) && (decide (l.length + 1 ≤ 59) || (decide (l.length + 1 ≤ 60) && endOk c)))) = _
  unfold may step
  by_cases h33 : c = 33
  · subst h33
    rw [if_pos rfl, show List.count 44 [33] = 0 by decide, okc_33, show endOk 33 = false by decide, decide_eq_true (rfl : (33 : Nat) = 33), decide_eq_false (show ¬ (33 : Nat) = 44 by decide)]
    by_cases hn : l.length < 59
    · rw [decide_eq_true (show l.length + 1 ≤ 59 by omega), decide_eq_true (show l.length ≤ 59 by omega), decide_eq_true hn]
      cases runs 44 l <;> cases decide (lastOf 44 l = 44) <;> cases decide (l.count 44 ≤ 7) <;> simp
    · rw [decide_eq_false (show ¬ l.length + 1 ≤ 59 by omega), decide_eq_false hn]
      simp
  · rw [if_neg h33]
    by_cases h44 : c = 44
    · subst h44
      rw [if_pos rfl, show List.count 44 [44] = 1 by decide, okc_44, show endOk 44 = false by decide, decide_eq_true (rfl : (44 : Nat) = 44), decide_eq_false h33]
      rw [show decide (l.count 44 + 1 ≤ 7) = decide (l.count 44 < 7) by rw [decide_eq_decide]; omega]
      by_cases hn : l.length < 59
      · rw [decide_eq_true (show l.length + 1 ≤ 59 by omega), decide_eq_true (show l.length ≤ 59 by omega), decide_eq_true hn]
        by_cases hk : l.count 44 < 7
        · rw [decide_eq_true hk, decide_eq_true (show l.count 44 ≤ 7 by omega)]; simp
        · rw [decide_eq_false hk]; simp
      · rw [decide_eq_false (show ¬ l.length + 1 ≤ 59 by omega), decide_eq_false hn]
        simp
    · rw [if_neg h44, show List.count 44 [c] = 0 by rw [List.count_cons_of_ne h44]; rfl, decide_eq_false h33, decide_eq_false h44, Nat.add_zero]
      have : endOk c = true := by unfold endOk; rw [decide_eq_true h44, decide_eq_true h33]; rfl
      rw [this]
      by_cases hn : l.length < 60
      · rw [decide_eq_true (show l.length + 1 ≤ 60 by omega), decide_eq_true (show l.length ≤ 59 by omega), decide_eq_true hn]
        cases runs 44 l <;> cases okc c <;> cases decide (l.count 44 ≤ 7) <;> simp
      · rw [decide_eq_false (show ¬ l.length + 1 ≤ 59 by omega), decide_eq_false (show ¬ l.length + 1 ≤ 60 by omega), decide_eq_false hn]
        simp
theorem isPat_of_beg {l : List Nat} (h : isBeg l = true) : isPat l = endOk (lastOf 44 l) := by
  rw [isPat_eq]
  rw [isBeg_eq] at h
  simp only [Bool.and_eq_true, Bool.or_eq_true] at h
  obtain ⟨h1, h2, h3⟩ := h
  rw [h1, h2]
  have : l.length ≤ 60 := by rcases h3 with h | h
                             · have := of_decide_eq_true h; omega
                             · exact of_decide_eq_true h.1
  rw [decide_eq_true this]; rfl
theorem eqL {x y : Str} : V.str x = V.str y ↔ tl x = tl y := ⟨fun h => by injection h with h; rw [h], fun h => by rw [tl_ext h]⟩
theorem split_comma (x : Str) : Txt.split x (Str.ofString ",") = (TL.spl [44] 0 [] (tl x)).map S := split_S (a := tl x) (b := [44]) (by decide) (by decide)
def sp_isPat : Sp := fun vs H Q _ => ∃ (x : Str), vs = [.str x] ∧ (tl x).length ≤ 2000 ∧ ∀ H', Same H H' → Q (.bl (isPat (tl x))) H'
def sp_may_stand : Sp := fun vs H Q _ => ∃ (c a k n : Nat), vs = [.str (S [c]), .str (S [a]), .int (k : Int), .int (n : Int)] ∧ Q (.bl (may c a k n)) H
/-- where a text is wrong -/
def wrongAt (l : List Nat) (o : Option Nat) : Prop := match o with
  | some k => (∀ j, j < k → j < l.length → isBeg (l.take (j + 1)) = true) ∧ ((k < l.length ∧ isBeg (l.take (k + 1)) = false) ∨ (k = l.length ∧ isPat l = false))
  | none => (∀ j, j < l.length → isBeg (l.take (j + 1)) = true) ∧ isPat l = true
theorem wrongAt_one {l : List Nat} {o p : Option Nat} (x : wrongAt l o) (y : wrongAt l p) : o = p := by
  have key : ∀ (k m : Nat), wrongAt l (some k) → wrongAt l (some m) → ¬ k < m := fun k m x y h => by
    obtain ⟨_, x2⟩ := x
    obtain ⟨y1, y2⟩ := y
    have ml : m ≤ l.length := by rcases y2 with h | h <;> omega
    rcases x2 with x2 | x2
    · have := y1 k h x2.1
      rw [x2.2] at this; cases this
    · omega
  have mix : ∀ k : Nat, wrongAt l (some k) → wrongAt l none → False := fun k x y => by
    obtain ⟨_, x2⟩ := x
    obtain ⟨y1, y2⟩ := y
    rcases x2 with x2 | x2
    · have := y1 k x2.1
      rw [x2.2] at this; cases this
    · rw [x2.2] at y2; cases y2
  cases o with
  | none => cases p with
    | none => rfl
    | some m => exact (mix m y x).elim
  | some k => cases p with
    | none => exact (mix k x y).elim
    | some m =>
      have h1 := key k m x y
      have h2 := key m k y x
      rw [show k = m by omega]
def optV : Option Nat → V
  | none => .non
  | some k => .int (k : Int)
def sp_wrong_place : Sp := fun vs H Q _ => ∃ (x : Str), vs = [.str x] ∧ (tl x).length ≤ 2000 ∧ ∀ o H', wrongAt (tl x) o → Same H H' → Q (optV o) H'
def sgnI (it : List Nat) : Int := if decide (it.take 1 = [33]) = true then 0 else 1
def itemP (it : List Nat) : List V := [.int (sgnI it), .str (S (globP it))]
def itemD (it : List Nat) : D := .tup [.int (sgnI it), .str (S (globP it))]
def sp_sign_and_glob : Sp := fun vs H Q _ => ∃ (x : Str), vs = [.str x] ∧ (tl x).length ≤ 2000 ∧ ∀ (t : Addr), H t = none → Q (.ref t) (upd H t (.tup (itemP (tl x))))
def dueD (l : List Nat) : Option Nat → D
  | some k => .tup [.str (Str.ofString "bad"), .int (k : Int)]
  | none => .tup [.str (Str.ofString "read"), .tup ((TL.spl [44] 0 [] l).map itemD)]
def sp_due (K : PySem.W.Frag) : Sp := fun vs H Q _ => ∃ (x : Str), vs = [.str x] ∧ (tl x).length ≤ 1000 ∧ ∀ o v H', wrongAt (tl x) o → DV K H' (dueD (tl x) o) v → Same H H' → Q v H'
theorem DVs.items {K : PySem.W.Frag} {H : Hp} : ∀ {its : List (List Nat)} {ts : List Addr}, ts.length = its.length → (∀ (k : Nat) (t : Addr) (it : List Nat), ts[k]? = some t → its[k]? = some it → H t = some (.tup (itemP it))) → DVs K H (its.map itemD) (ts.map V.ref)
  | [], [], _, _ => by unfold DVs; rfl
  | [], _ :: _, h, _ => by simp at h
  | _ :: _, [], h, _ => by simp at h
  | it :: its, t :: ts, h, f => by
    refine ⟨.ref t, ts.map V.ref, rfl, ?_, DVs.items (by simpa using h) fun k t' it' h1 h2 => f (k + 1) t' it' (by simpa using h1) (by simpa using h2)⟩
    exact ⟨t, _, rfl, SqT.of (f 0 t it rfl rfl), _, _, rfl, by unfold DV; rfl, _, _, rfl, by unfold DV; rfl, rfl⟩
def sp_write_pattern (K : PySem.W.Frag) : Sp := fun vs H Q _ => ∃ (a : Addr) (ts : List Addr) (its : List (List Nat)), vs = [.ref a] ∧ SqT K H a (ts.map V.ref) ∧ ts.length = its.length ∧ its.length ≤ 100 ∧ (∀ it ∈ its, it.length ≤ 1000) ∧ (∀ (k : Nat) (t : Addr) (it : List Nat), ts[k]? = some t → its[k]? = some it → SqT K H t (itemP it)) ∧
  ∀ (y : Str) (H' : Hp), tl y = TL.joinL [44] its → Same H H' → Q (.str y) H'
theorem join_spl (l : List Nat) : ∀ acc : List Nat, TL.joinL [44] (TL.spl [44] 0 acc l) = acc ++ l := by
  induction l with
  | nil => intro acc; rw [TL.spl_nil, List.append_nil]; rfl
  | cons c r ih =>
    intro acc
    by_cases hc : c = 44
    · subst hc
      rw [TL.spl_hit (show TL.pre [44] (44 :: r) = true by show ([44] == [44]) = true; rfl)]
      have e := ih []
      have ne : TL.spl [44] 0 [] r ≠ [] := fun h => by
        have := spl_count r []
        rw [h] at this; cases this
      show TL.joinL [44] (acc :: TL.spl [44] 0 [] r) = _
      cases hs : TL.spl [44] 0 [] r with
      | nil => exact absurd hs ne
      | cons y ys =>
        show acc ++ ([44] ++ TL.joinL [44] (y :: ys)) = _
        rw [← hs, e]; rfl
    · rw [TL.spl_miss (show TL.pre [44] (c :: r) = false by show ([c] == [44]) = false; simp [hc]), ih, List.append_assoc]; rfl
theorem DVs.items_inv {K : PySem.W.Frag} {H : Hp} : ∀ {its : List (List Nat)} {vs : List V}, DVs K H (its.map itemD) vs → ∃ ts : List Addr, vs = ts.map V.ref ∧ ts.length = its.length ∧ ∀ (k : Nat) (t : Addr) (it : List Nat), ts[k]? = some t → its[k]? = some it → SqT K H t (itemP it)
  | [], vs, h => by unfold DVs at h; subst h; exact ⟨[], rfl, rfl, fun k t it h1 h2 => by simp at h1⟩
  | it :: its, vs, h => by
    obtain ⟨v, r, rfl, h1, h2⟩ := h
    obtain ⟨ts, rfl, hl, hk⟩ := DVs.items_inv h2
    unfold itemD DV at h1
    obtain ⟨a, xs, rfl, hS, h3⟩ := h1
    obtain ⟨v1, r1, rfl, e1, h4⟩ := h3
    obtain ⟨v2, r2, rfl, e2, h5⟩ := h4
    unfold DV at e1 e2
    unfold DVs at h5
    subst e1 e2 h5
    refine ⟨a :: ts, rfl, by rw [List.length_cons, hl, List.length_cons], fun k t it' g1 g2 => ?_⟩
    cases k with
    | zero =>
      have ea : a = t := Option.some.inj g1
      have ei : it = it' := Option.some.inj g2
      subst ea ei
      exact hS
    | succ k => exact hk k t it' (by simpa using g1) (by simpa using g2)
def sp_read_pattern (K : PySem.W.Frag) (C : Addr) : Sp := fun vs H Q E => ∃ (x : Str), vs = [.str x] ∧ (tl x).length ≤ 1000 ∧
  (∀ (u : Addr) (ts : List Addr) (H1 : Hp), wrongAt (tl x) none → Same H H1 → H1 u = some (.tup (ts.map V.ref)) → ts.length = (TL.spl [44] 0 [] (tl x)).length → (∀ (i : Nat) (t : Addr) (it : List Nat), ts[i]? = some t → (TL.spl [44] 0 [] (tl x))[i]? = some it → H1 t = some (.tup (itemP it))) → Q (.ref u) H1) ∧
  (∀ (k : Nat) (dd : Addr) (H1 : Hp), wrongAt (tl x) (some k) → Same H H1 → H1 dd = some (.xd [("at", .int (k : Int))]) → E (.ref C) (some dd) H1)
end Z
namespace Z
open PySem PySem.Spec PyProof.Rows L2 SX
/-! ### name = text[..]; text = text.replace(name, ''): the token of the name is known -/
theorem nsSet_det {M : Model} {Γ : PySem.Ctx} {E : Value → Pos → Shared → Prop} {p : Pos} {s : Shared} {a : Addr} {m : Str → Option Value} (hn : s.heap.Ns a m) (name : Str) (v : Value) :
    ∃ h', h'.Ns a (fun x => if x = name then some v else m x) ∧ ∀ Q, Sem.wp M Γ (nsSet a name v) Q E p s ↔ Q () p { s with heap := h', toks := s.toks + 1 } := by
  have key : ∃ h', ∀ Q, Sem.wp M Γ (nsSet a name v) Q E p s ↔ Q () p { s with heap := h', toks := s.toks + 1 } := by
    obtain ⟨o, es, ep, ho, hd, hk, hm⟩ := hn
    have hany : es.any (·.refKey) = false := by
      rw [Array.any_eq_false']
      intro e he
      obtain ⟨n, t, h⟩ := hk e he
      simp [DictEntry.refKey, h]
    apply Exists.intro
    intro Q
    simp only [nsSet, strHash, Sem.wp_bind', Sem.wp_cmd_ask, Sem.wp_pure', Sem.wp_cmd_mkText]
    rw [Sem.wp_loadPart_of M Γ E p { s with toks := s.toks + 1 } (o := o) _ ho]
    simp only [hd, aRefKeyMayBeTheName_eq, aRefKeyMayBeTheNameByArray, hany, Bool.and_false, Bool.false_eq_true, if_false, Sem.wp_cmd_updatePart]
    exact ⟨fun h => h.2, fun h => ⟨by rw [ho]; rfl, h⟩⟩
  obtain ⟨h', hq⟩ := key
  refine ⟨h', ?_, hq⟩
  have := (hq _).mp (Sem.wp_nsSet M Γ E p s hn name v (fun _ _ s' => ∃ h2 : Heap, h2.Ns a (fun x => if x = name then some v else m x) ∧ s' = { s with heap := h2, toks := s.toks + 1 }) (fun h2 a1 _ => ⟨h2, a1, rfl⟩))
  obtain ⟨h2, a1, e⟩ := this
  have e2 : h' = h2 := congrArg Shared.heap e
  rw [e2]; exact a1
theorem store_det {M : Model} {A : Around} {E : Value → Shared → Prop} {s : Shared} {env : Env} {name : Str} {m : Str → Option Value} {v : Value} {Q : Unit → Shared → Prop} (hl : env.kindOf name = some .local) (hn : s.heap.Ns env.locals m)
    (hp : (env.scope.kind == .class || (env.scope.kind == .module && env.locals != env.globals)) = false) (h : wpAny M A (storeName env name v) Q E s) :
    wpAny M A (storeName env name v) (fun u s' => Q u s' ∧ s'.heap.Ns env.locals (fun x => if x = name then some v else m x) ∧ s'.toks = s.toks + 1) E s := by
  rw [storeName_local hl hp] at h ⊢
  intro Γ p hΓ
  obtain ⟨h', a1, hq⟩ := nsSet_det (M := M) (Γ := Γ) (E := fun e _ s' => E e s') (p := p) hn name v
  have h1 := (hq _).mp (h Γ p hΓ)
  exact (hq _).mpr ⟨h1, a1, rfl⟩
section
variable {X : Cx}
def tRepS (l o : Nat) (tb : TE) (u : TS) : TS := fun D σ H => ∃ z : Str, σ[l]? = some (some (.str z)) ∧ tb σ H fun y H1 => ∃ (i : Int) (c : Nat), y = .int i ∧ 0 ≤ i ∧ i < 2 ^ 63 ∧ i < z.length ∧ z.cps[i.toNat]? = some c ∧ z.length ≤ 1000000 ∧
  u D ((σ.set o (some (.str ⟨#[c]⟩))).set l (some (.str (Txt.replace z ⟨#[c]⟩ (Str.ofString ""))))) H1
theorem psst_rep {l o j : Nat} {nl no : Str} {eb : Expr} {rest : List Stmt} {tb : TE} {u : TS} {p1 p2 p3 p4 p5 p6 p7 p8 c1 ap pos : Pos} (hN : X.N.Nodup) (hl : X.N[l]? = some nl) (ho : X.N[o]? = some no) (hlo : o ≠ l)
    (kl : X.env.scope.names.lookup nl = some .local) (ko : X.env.scope.names.lookup no = some .local) (hb : PE X eb tb) (hs : PlainIxT eb) (h2 : PSsT X rest u)
    (hs1 : swapsWith (.Subscript (.Name nl p2) eb p3) (some (.Name no p1)) p4.line X.env = pure false := by rfl)
    (hs2 : swapsWith (.Call (.Attribute (.Name nl p6) "replace" ap) [.Name no p7, .Constant (.str (Str.ofString "")) j c1] [] pos) (some (.Name nl p5)) p8.line X.env = pure false := by rfl)
    (hst : starEach [.Name no p7, .Constant (.str (Str.ofString "")) j c1] X.env = [(false, eval (.Name no p7) X.env), (false, eval (.Constant (.str (Str.ofString "")) j c1) X.env)] := by rfl)
    (hbase : attributeBase (.Name nl p6) "replace" X.env (eval (.Name nl p6) X.env) = eval (.Name nl p6) X.env := by rfl) (hline : (ap.endLine == pos.line) = true := by rfl)
    (hd : (nl == ("__debug__" : Str)) = false := by decide) (hc : (nl == ("__classdict__" : Str)) = false := by decide) (hd' : (no == ("__debug__" : Str)) = false := by decide) :
    PSsT X (.Assign [.Name no p1] (.Subscript (.Name nl p2) eb p3) p4 :: .Assign [.Name nl p5] (.Call (.Attribute (.Name nl p6) "replace" ap) [.Name no p7, .Constant (.str (Str.ofString "")) j c1] [] pos) p8 :: rest) (tRepS l o tb u) := by
  intro pins s σ H D h0 I h
  obtain ⟨z, hz, h⟩ := h
  refine wpAny_execs_cons (wpAny_Assign_Name (Subscript_ (raw_name hl (.inl kl) I hz (fun uz rz => ?_) hd hc)) hs1)
  obtain ⟨tz, rfl⟩ := rz
  refine wpAny_mono (PySem.wpAny_toks (hb.run pins s σ H _ I h)) (fun ub s2 q => ?_) (fun _ _ x => x.2)
  obtain ⟨hk, y, H1, I2, ry, i, c, rfl, i0, i63, il, hcc, hzl, q⟩ := q
  obtain ⟨ti, rfl⟩ := ry
  have e := PySem.StrLaws.seqIndex_nonneg i0 il
  have n0 : s2.toks ≠ 0 := by omega
  refine tail_any (typeIs_str s2 z tz) slot_str_getitem.lookup (getItem_str (c := c) (by
    have e1 : decide (i < -(2 ^ 63 : Int)) = false := decide_eq_false (by omega)
    have e2 : decide (i ≥ 2 ^ 63) = false := decide_eq_false (by omega)
    rw [e1, e2] <;> rfl) (by rw [e]; exact hcc) ?_) (hs _ _)
  have I2' := I2.tok (s2.toks + 1)
  obtain ⟨m, hn, _⟩ := id I2'.loc
  have hp : (X.env.scope.kind == .class || (X.env.scope.kind == .module && X.env.locals != X.env.globals)) = false := by rw [I2.ok.kind]; rfl
  have st := store_ok (M := model X.prog X.w) (A := X.A) (E := X.xe) (v := V.str ⟨#[c]⟩) (u := Value.str ⟨#[c]⟩ s2.toks) (Q := fun _ s' => Inv X pins (σ.set o (some (V.str ⟨#[c]⟩))) H1 s') I2' hN ho (.inl ko) ⟨_, rfl⟩ (fun s' I' => I') (.inr ko)
  refine wpAny_mono (store_det ko hn hp st) (fun _ s3 q3 => ?_) (fun _ _ x => x)
  obtain ⟨I3, hn3, ht3⟩ := q3
  have ht3' : s3.toks = s2.toks + 1 + 1 := ht3
  have hz3 : (σ.set o (some (V.str ⟨#[c]⟩)))[l]? = some (some (.str z)) := by rw [List.getElem?_set_ne hlo]; exact hz
  have B : wpAny (model X.prog X.w) X.A (exec (.Assign [.Name nl p5] (.Call (.Attribute (.Name nl p6) "replace" ap) [.Name no p7, .Constant (.str (Str.ofString "")) j c1] [] pos) p8) X.env) (fun f s4 => f = .next ∧ Inv X pins ((σ.set o (some (V.str ⟨#[c]⟩))).set l (some (.str (Txt.replace z ⟨#[c]⟩ (Str.ofString ""))))) H1 s4) X.xe s3 := by
    refine wpAny_Assign_Name (PySem.Call_method2 hbase hst hline (raw_name hl (.inl kl) I3 hz3 (fun uz2 rz2 => ?_) hd hc)) hs2
    obtain ⟨tz2, rfl⟩ := rz2
    refine ⟨"str", _, PySem.F.plainAttrs_str, PySem.F.slot_str_replace, PySem.F.type_str_replace, typeIs_str _ _ _, (fun _ e => nomatch e), Calls.callWith_builtin rfl (Calls.evalArgs_plain (Calls.spliced_cons ?_))⟩
    refine wpAny_Name (wpAny_loadName_local I3.ok.kind ko hn3 (if_pos rfl) ?_) hd'
    refine Calls.spliced_cons (Calls.Constant_str (Calls.spliced_nil ?_))
    have n1 : s3.toks ≠ 0 := by omega
    have n2 : s2.toks ≠ s3.toks := by omega
    refine PySem.SC.replace (u := s2.toks) (v := s3.toks) n0 n1 n2 ?_ ?_ fun t' k => ?_
    · rfl
    · show z.length + (z.length + 1) * 0 ≤ _; omega
    exact store_ok (v := V.str (Txt.replace z ⟨#[c]⟩ (Str.ofString ""))) (u := Value.str (Txt.replace z ⟨#[c]⟩ (Str.ofString "")) t') (I3.tok k) hN hl (.inl kl) ⟨_, rfl⟩ (fun s' I' => ⟨rfl, I'⟩) (.inr kl)
  refine wpAny_execs_cons (wpAny_mono (PySem.wpAny_toks B) (fun f s4 q4 => ?_) (fun _ _ x => x.2))
  obtain ⟨hk4, rfl, I4⟩ := q4
  exact h2 pins s4 _ H1 D (by omega) I4 q
end
end Z
namespace Z
open PySem L2 SX
/-! ### items that are joined, and split again -/
theorem spl_no {it : List Nat} : (44 ∉ it) → ∀ acc : List Nat, TL.spl [44] 0 acc it = [acc ++ it] := by
  induction it with
  | nil => intro _ acc; rw [TL.spl_nil, List.append_nil]
  | cons c r ih =>
    intro h acc
    have hc : c ≠ 44 := fun e => h (by rw [e]; exact List.mem_cons_self)
    rw [TL.spl_miss (show TL.pre [44] (c :: r) = false by show ([c] == [44]) = false; simp [hc]), ih (fun m => h (List.mem_cons_of_mem _ m)), List.append_assoc]; rfl
theorem spl_cut {it m : List Nat} : (44 ∉ it) → ∀ acc : List Nat, TL.spl [44] 0 acc (it ++ 44 :: m) = (acc ++ it) :: TL.spl [44] 0 [] m := by
  induction it with
  | nil =>
    intro _ acc
    rw [List.nil_append, TL.spl_hit (show TL.pre [44] (44 :: m) = true by show ([44] == [44]) = true; rfl), List.append_nil]; rfl
  | cons c r ih =>
    intro h acc
    have hc : c ≠ 44 := fun e => h (by rw [e]; exact List.mem_cons_self)
    show TL.spl [44] 0 acc (c :: (r ++ 44 :: m)) = _
    rw [TL.spl_miss (show TL.pre [44] (c :: (r ++ 44 :: m)) = false by show ([c] == [44]) = false; simp [hc]), ih (fun m => h (List.mem_cons_of_mem _ m)), List.append_assoc]; rfl
theorem spl_join : ∀ {its : List (List Nat)}, its ≠ [] → (∀ it ∈ its, 44 ∉ it) → TL.spl [44] 0 [] (TL.joinL [44] its) = its
  | [], h, _ => absurd rfl h
  | [x], _, h => by
    show TL.spl [44] 0 [] x = [x]
    rw [spl_no (h x (by simp))]; rfl
  | x :: y :: r, _, h => by
    show TL.spl [44] 0 [] (x ++ ([44] ++ TL.joinL [44] (y :: r))) = _
    rw [show x ++ ([44] ++ TL.joinL [44] (y :: r)) = x ++ 44 :: TL.joinL [44] (y :: r) from rfl, spl_cut (h x (by simp)), spl_join (by simp) (fun z m => h z (List.mem_cons_of_mem _ m))]; rfl
/-- a text whose items are right -/
def GP (l : List Nat) : Prop := (TL.spl [44] 0 [] l).all goodItem = true
def okG (l : List Nat) : Prop := l ≠ [] ∧ ∀ c ∈ l, okc c = true
theorem good_no {it : List Nat} (h : goodItem it = true) : 44 ∉ it := fun m => by
  unfold goodItem at h
  have h2 := List.all_eq_true.mp (Bool.and_eq_true_iff.mp h).2
  unfold globP at h2
  by_cases e : it.take 1 = [33]
  · rw [if_pos (decide_eq_true e)] at h2
    cases it with
    | nil => cases m
    | cons c r =>
      have : c = 33 := by simpa using e
      subst this
      rcases List.mem_cons.mp m with q | q
      · cases q
      · have := h2 44 q; rw [okc_44] at this; cases this
  · rw [if_neg (fun q => e (of_decide_eq_true q))] at h2
    have := h2 44 m; rw [okc_44] at this; cases this
theorem okG.no33 {g : List Nat} (h : okG g) : ¬ g.take 1 = [33] := fun e => by
  cases g with
  | nil => exact h.1 rfl
  | cons c r =>
    have : c = 33 := by simpa using e
    subst this
    have := h.2 33 (by simp); rw [okc_33] at this; cases this
theorem good_glob {g : List Nat} (h : okG g) : goodItem g = true ∧ goodItem (33 :: g) = true := by
  have ha : g.all okc = true := List.all_eq_true.mpr h.2
  constructor
  · unfold goodItem globP
    rw [if_neg (fun q => h.no33 (of_decide_eq_true q)), ha, decide_eq_true h.1]; rfl
  · have e : globP (33 :: g) = g := by unfold globP; rw [if_pos (decide_eq_true (by simp))]; rfl
    unfold goodItem
    rw [e, ha, decide_eq_true h.1]; rfl
theorem GP.join {its : List (List Nat)} (ne : its ≠ []) (h : ∀ it ∈ its, goodItem it = true) : GP (TL.joinL [44] its) := by
  unfold GP
  rw [spl_join ne fun it m => good_no (h it m)]
  exact List.all_eq_true.mpr h
theorem lastOf_app (m : List Nat) : ∀ (l : List Nat) (a : Nat), lastOf a (l ++ m) = lastOf (lastOf a l) m
  | [], _ => rfl
  | c :: r, _ => lastOf_app m r c
theorem runs_ok {m : List Nat} : ∀ a : Nat, (∀ c ∈ m, okc c = true) → runs a m = true := by
  induction m with
  | nil => intro a _; rfl
  | cons c r ih =>
    intro a h
    show (step a c && runs c r) = true
    rw [ih c (fun d hd => h d (List.mem_cons_of_mem _ hd))]
    unfold step
    rw [h c (by simp)]; simp
theorem last_ok {m : List Nat} : ∀ a : Nat, (∀ c ∈ m, okc c = true) → m ≠ [] → endOk (lastOf a m) = true := by
  induction m with
  | nil => intro a _ h; exact absurd rfl h
  | cons c r ih =>
    intro a h _
    show endOk (lastOf c r) = true
    by_cases e : r = []
    · subst e
      show endOk c = true
      have hc := h c (by simp)
      unfold endOk
      rw [decide_eq_true (show c ≠ 44 from fun e => by rw [e, okc_44] at hc; cases hc), decide_eq_true (show c ≠ 33 from fun e => by rw [e, okc_33] at hc; cases hc)]; rfl
    · exact ih c (fun d hd => h d (List.mem_cons_of_mem _ hd)) e
theorem GP_iff {l : List Nat} : GP l ↔ (runs 44 l && endOk (lastOf 44 l)) = true := by
  unfold GP
  rw [spl_good l [] (by decide)]; rfl
theorem GP.app {l m : List Nat} (h : GP l) (hm : ∀ c ∈ m, okc c = true) : GP (l ++ m) := by
  by_cases e : m = []
  · subst e; rw [List.append_nil]; exact h
  rw [GP_iff] at h ⊢
  obtain ⟨h1, h2⟩ := Bool.and_eq_true_iff.mp h
  rw [runs_app, lastOf_app, h1, runs_ok _ hm, last_ok _ hm e]; rfl
/-- the other sign -/
def turnI (it : List Nat) : List Nat := if isBar it = true then it.drop 1 else 33 :: it
def oppI (l : List Nat) : List (List Nat) := [42] :: (parts l).map turnI
def oppL (l : List Nat) : List Nat := TL.joinL [44] (oppI l)
theorem globOf_nb {x : List Nat} (h : isBar x = false) : globOf x = x := by unfold globOf; rw [if_neg (by rw [h]; exact Bool.false_ne_true)]
theorem turn_good {it : List Nat} (h : goodItem it = true) : goodItem (turnI it) = true ∧ globOf (turnI it) = globOf it ∧ isBar (turnI it) = !isBar it := by
  have hg : okG (globOf it) := by
    unfold goodItem at h
    obtain ⟨h1, h2⟩ := Bool.and_eq_true_iff.mp h
    exact ⟨of_decide_eq_true h1, List.all_eq_true.mp h2⟩
  unfold turnI
  by_cases e : isBar it = true
  · have eg : globOf it = it.drop 1 := by unfold globOf; rw [if_pos e]
    rw [if_pos e, ← eg]
    have nb : isBar (globOf it) = false := by unfold isBar; exact decide_eq_false hg.no33
    exact ⟨(good_glob hg).1, globOf_nb nb, by rw [nb, e]; rfl⟩
  · have e' : isBar it = false := by simpa using e
    have eg : globOf it = it := by unfold globOf; rw [if_neg e]
    rw [if_neg e]
    have hb : isBar (33 :: it) = true := by unfold isBar; exact decide_eq_true (by simp)
    rw [eg] at hg
    refine ⟨(good_glob hg).2, ?_, by rw [hb, e']; rfl⟩
    rw [eg]; unfold globOf; rw [if_pos hb]; rfl
theorem GP.good {l it : List Nat} (h : GP l) (m : it ∈ parts l) : goodItem it = true := List.all_eq_true.mp h it m
theorem opp_good {l : List Nat} (h : GP l) : ∀ it ∈ oppI l, goodItem it = true := fun it m => by
  rcases List.mem_cons.mp m with e | m
  · subst e; decide +kernel
  · obtain ⟨x, hx, rfl⟩ := List.mem_map.mp m
    exact (turn_good (h.good hx)).1
theorem opp_parts {l : List Nat} (h : GP l) : parts (oppL l) = oppI l := spl_join (by unfold oppI; simp) fun it m => good_no (opp_good h it m)
theorem isPat_opp {l : List Nat} (h : GP l) : isPat (oppL l) = (decide ((oppL l).length ≤ 60) && decide ((parts l).length ≤ 7)) := by
  unfold isPat
  have e : TL.spl [44] 0 [] (oppL l) = oppI l := opp_parts h
  rw [e, List.all_eq_true.mpr (opp_good h), Bool.and_true]
  rw [show decide ((oppI l).length ≤ 8) = decide ((parts l).length ≤ 7) by
    rw [decide_eq_decide]; unfold oppI; rw [List.length_cons, List.length_map]; omega]
theorem fit_star (b : List Nat) : fit [42] b := by
  have key : ∀ (b : List Nat) (M : Nat → Prop), M 1 → (b.foldl (fun M c => nxt [42] M c) M) 1 := by
    intro b
    induction b with
    | nil => intro M h; exact h
    | cons c r ih => intro M h; exact ih _ (.inl ⟨rfl, .inr h⟩)
  exact key b _ ⟨rfl, True.intro⟩
open Classical in
theorem lets_opp {l b : List Nat} (h : GP l) : letsL (oppI l) b = !letsL (parts l) b := by
  have key : ∀ (its : List (List Nat)) (v : Bool), (∀ it ∈ its, goodItem it = true) →
      (its.map turnI).foldl (fun ans it => if fit (globOf it) b then !isBar it else ans) (!v) = !(its.foldl (fun ans it => if fit (globOf it) b then !isBar it else ans) v) := by
    intro its
    induction its with
    | nil => intro v _; rfl
    | cons x r ih =>
      intro v hg
      obtain ⟨_, t2, t3⟩ := turn_good (hg x (by simp))
      rw [List.map_cons, List.foldl_cons, List.foldl_cons, t2, t3, ← ih _ (fun y hy => hg y (List.mem_cons_of_mem _ hy))]
      congr 1
      by_cases hf : fit (globOf x) b
      · rw [if_pos hf, if_pos hf]
      · rw [if_neg hf, if_neg hf]
  have := key (parts l) false fun it m => h.good m
  unfold letsL
  unfold oppI
  rw [List.foldl_cons]
  have g42 : globOf [42] = [42] := by decide +kernel
  rw [g42, if_pos (fit_star b), show (!isBar [42]) = !false by decide +kernel]
  exact this
theorem isBeg_take {l : List Nat} (h : isBeg l = true) (k : Nat) : isBeg (l.take k) = true := by
  have key : ∀ (m : Nat), m ≤ l.length → isBeg (l.take (l.length - m)) = true := by
    intro m
    induction m with
    | zero => intro _; rw [Nat.sub_zero, List.take_length]; exact h
    | succ m ih =>
      intro hm
      have h1 := ih (by omega)
      have e : l.length - m = l.length - (m + 1) + 1 := by omega
      have hi : l.length - (m + 1) < l.length := by omega
      rw [e, List.take_add_one, List.getElem?_eq_getElem hi] at h1
      have h2 : isBeg (l.take (l.length - (m + 1)) ++ [l[l.length - (m + 1)]]) = true := h1
      rw [isBeg_snoc] at h2
      exact (Bool.and_eq_true_iff.mp h2).1
  by_cases hk : k ≤ l.length
  · have := key (l.length - k) (by omega)
    rw [show l.length - (l.length - k) = k by omega] at this; exact this
  · rw [List.take_of_length_le (by omega)]; exact h
theorem pat_wrong {l : List Nat} {o : Option Nat} (w : wrongAt l o) : decide (optV o = V.non) = isPat l := by
  cases o with
  | none => rw [w.2]; rfl
  | some k =>
    cases e : isPat l with
    | false => exact decide_eq_false (fun h => by cases h)
    | true =>
      have hb : isBeg l = true := by unfold isBeg; rw [e]; rfl
      have := wrongAt_one w (p := none) ⟨fun j _ => isBeg_take hb _, e⟩
      cases this
def sp_is_pattern : Sp := fun vs H Q _ => ∃ (x : Str), vs = [.str x] ∧ (tl x).length ≤ 2000 ∧ ∀ H', Same H H' → Q (.bl (isPat (tl x))) H'
def oppD (l : List Nat) : D := if isPat (oppL l) = true then .tup [.str (Str.ofString "told"), .str (S (oppL l))] else .tup [.str (Str.ofString "large"), .str (Str.ofString "pattern")]
def sp_opp (K : PySem.W.Frag) : Sp := fun vs H Q _ => ∃ (x : Str), vs = [.str x] ∧ (tl x).length ≤ 200 ∧ GP (tl x) ∧ ∀ v H', DV K H' (oppD (tl x)) v → Same H H' → Q v H'
def sp_opposite (K : PySem.W.Frag) (C : Addr) : Sp := fun vs H Q E => ∃ (x : Str), vs = [.str x] ∧ (tl x).length ≤ 200 ∧ GP (tl x) ∧ (isPat (oppL (tl x)) = true → ∀ H', Same H H' → Q (.str (S (oppL (tl x)))) H') ∧
  (isPat (oppL (tl x)) = false → ∀ (dd : Addr) (H1 : Hp), Same H H1 → H1 dd = some (.xd [("part", .str (Str.ofString "pattern"))]) → E (.ref C) (some dd) H1)
def sp_write_patternL (K : PySem.W.Frag) : Sp := fun vs H Q _ => ∃ (a : Addr) (ts : List Addr) (its : List (List Nat)), vs = [.ref a] ∧ SqL K H a (ts.map V.ref) ∧ ts.length = its.length ∧ its.length ≤ 1000 ∧ (∀ it ∈ its, it.length ≤ 1000) ∧ (∀ (k : Nat) (t : Addr) (it : List Nat), ts[k]? = some t → its[k]? = some it → SqT K H t (itemP it)) ∧
  ∀ (y : Str) (H' : Hp), tl y = TL.joinL [44] its → Same H H' → Q (.str y) H'
def sp_sight (K : PySem.W.Frag) : Sp := fun vs H Q _ => ∃ (a b : Addr) (ps bs : List Str), vs = [.ref a, .ref b] ∧ SqT K H a (ps.map V.str) ∧ SqT K H b (bs.map V.str) ∧ (∀ p ∈ ps, (tl p).length ≤ 3000) ∧ ps.length ≤ 1000 ∧ bs.length ≤ 1000 ∧ (∀ b ∈ bs, Clean (tl b)) ∧
  ∀ (t : Addr) (H' : Hp), Same H H' → SqT K H' t ((ps.map fun p => if (bs.any fun b => letsL (parts (tl p)) (tl b)) = true then (1 : Int) else 0).map V.int) → Q (.ref t) H'
def sp_lets_someL (K : PySem.W.Frag) : Sp := fun vs H Q _ => ∃ (p : Str) (a : Addr) (bs : List Str), vs = [.str p, .ref a] ∧ SqL K H a (bs.map V.str) ∧ (tl p).length ≤ 3000 ∧ bs.length ≤ 1000 ∧ (∀ b ∈ bs, Clean (tl b)) ∧ ∀ H', Same H H' → Q (.bl (bs.any fun b => letsL (parts (tl p)) (tl b))) H'
def sp_pattern_right (K : PySem.W.Frag) : Sp := fun vs H Q _ => ∃ (p : Str) (a : Addr) (bs : List Str), vs = [.str p, .ref a] ∧ SqL K H a (bs.map V.str) ∧ (tl p).length ≤ 200 ∧ GP (tl p) ∧ bs.length ≤ 1000 ∧ (∀ b ∈ bs, Clean (tl b)) ∧ ∀ H', Same H H' → Q (.bl true) H'
/-! ### signs, boards, globs, patterns, as they are drawn -/
abbrev sgs (cs : List Nat) : List V := cs.map fun c => V.str (S [c])
def No42 (l : List Nat) : Prop := ∀ c ∈ l, c ≠ 42
theorem No42.app {a b : List Nat} (x : No42 a) (y : No42 b) : No42 (a ++ b) := fun c h => (List.mem_append.mp h).elim (x c) (y c)
def Sgns (cs : List Nat) : Prop := cs.length = 4 ∧ ∀ c ∈ cs, (97 ≤ c ∧ c ≤ 122) ∨ (48 ≤ c ∧ c ≤ 57)
theorem okc_low {c : Nat} (h : (97 ≤ c ∧ c ≤ 122) ∨ (48 ≤ c ∧ c ≤ 57)) : okc c = true := by
  have e : tl (Str.ofString "abcdefghijklmnopqrstuvwxyz0123456789.*?") = List.range' 97 26 ++ List.range' 48 10 ++ [46, 42, 63] := by decide +kernel
  unfold okc
  rw [e]
  refine decide_eq_true (List.mem_append_left _ (List.mem_append.mpr ?_))
  rw [List.mem_range'_1, List.mem_range'_1]
  omega
def Wds (us : List Str) : Prop := us ≠ [] ∧ us.length ≤ 9 ∧ ∀ x ∈ us, Nm (tl x) ∧ (tl x).length ≤ 8
/-- tuples stay -/
def TK (K : PySem.W.Frag) (H H' : Hp) : Prop := ∀ a xs, SqT K H a xs → SqT K H' a xs
theorem TK.same {K : PySem.W.Frag} {H H' : Hp} (h : Same H H') : TK K H H' := fun _ _ q => h.tup q
theorem TK.ext {K : PySem.W.Frag} {H H' : Hp} {s a : Addr} {c : Nat} (h : Ext s H H') (S : Src H s a c) : TK K H H' := fun _ _ q => h.seqT S.lst.choose_spec q
theorem TK.trans {K : PySem.W.Frag} {H H1 H2 : Hp} (x : TK K H H1) (y : TK K H1 H2) : TK K H H2 := fun a xs q => y a xs (x a xs q)
/-- signs of boards -/
def Bdc (l : List Nat) : Prop := ∀ c ∈ l, (97 ≤ c ∧ c ≤ 122) ∨ (48 ≤ c ∧ c ≤ 57) ∨ c = 46
theorem Low.bdc {l : List Nat} (h : Low l) : Bdc l := fun c m => (h c m).elim .inl fun q => .inr (.inl q)
theorem Bdc.clean {l : List Nat} (h : Bdc l) : Clean l := fun c m => by have := h c m; omega
theorem Bdc.okc {l : List Nat} (h : Bdc l) : ∀ c ∈ l, okc c = true := fun c m => by
  rcases h c m with q | q | q
  · exact okc_low (.inl q)
  · exact okc_low (.inr q)
  · subst q; decide +kernel
theorem Low.okc {l : List Nat} (h : Low l) : ∀ c ∈ l, Z.okc c = true := h.bdc.okc
theorem Nm.ne {l : List Nat} (h : Nm l) : l ≠ [] := fun e => by obtain ⟨⟨c, r, e2, _⟩, _⟩ := h; rw [e] at e2; cases e2
theorem joinL_mem {s : List Nat} : ∀ {ls : List (List Nat)} {c : Nat}, c ∈ TL.joinL s ls → c ∈ s ∨ ∃ l ∈ ls, c ∈ l
  | [], c, h => by cases h
  | [x], c, h => .inr ⟨x, by simp, h⟩
  | x :: y :: r, c, h => by
    have h' : c ∈ x ++ (s ++ TL.joinL s (y :: r)) := h
    rcases List.mem_append.mp h' with q | q
    · exact .inr ⟨x, by simp, q⟩
    · rcases List.mem_append.mp q with q | q
      · exact .inl q
      · rcases joinL_mem q with q | ⟨l, m, q⟩
        · exact .inl q
        · exact .inr ⟨l, List.mem_cons_of_mem _ m, q⟩
theorem joinL_ne {s : List Nat} {ls : List (List Nat)} (h : ls ≠ []) (hx : ∀ l ∈ ls, l ≠ []) : TL.joinL s ls ≠ [] := fun e => by
  match ls, h with
  | [x], _ => exact hx x (by simp) e
  | x :: y :: r, _ =>
    have e' : x ++ (s ++ TL.joinL s (y :: r)) = [] := e
    exact hx x (by simp) (List.append_eq_nil_iff.mp e').1
def sp8__law_new_name (K : PySem.W.Frag) : Sp := fun vs H Q _ => ∃ (s a u : Addr) (us : List Str) (c : Nat), vs = [.ref s, .ref u] ∧ SqL K H u (us.map V.str) ∧ u ≠ s ∧ us.length ≤ 9 ∧ Src H s a (c + 8) ∧
  ∀ (x : Str) (H' : Hp), Nm (tl x) → (tl x).length ≤ 8 → Ext s H H' → Src H' s a c → Q (.str x) H'
def sp8__law_names (K : PySem.W.Frag) : Sp := fun vs H Q _ => ∃ (s a : Addr) (m c : Nat), vs = [.ref s, .int m] ∧ m ≤ 9 ∧ Src H s a (c + 8 * m) ∧
  ∀ (u : Addr) (us : List Str) (H' : Hp), H u = none → H' u = some (.lst (us.map V.str)) → us.length = m → (∀ x ∈ us, Nm (tl x) ∧ (tl x).length ≤ 8) → Ext s H H' → Src H' s a c → Q (.ref u) H'
def sp2__law_words (K : PySem.W.Frag) : Sp := fun vs H Q _ => ∃ (s a : Addr) (c : Nat), vs = [.ref s] ∧ Src H s a (c + 100) ∧
  ∀ (u : Addr) (us : List Str) (H' : Hp), H u = none → H' u = some (.lst (us.map V.str)) → Wds us → Ext s H H' → Src H' s a c → Q (.ref u) H'
def sp2__law_board (K : PySem.W.Frag) : Sp := fun vs H Q _ => ∃ (s a u : Addr) (us : List Str) (c : Nat), vs = [.ref s, .ref u] ∧ SqL K H u (us.map V.str) ∧ u ≠ s ∧ Wds us ∧ Src H s a (c + 10) ∧
  ∀ (x : Str) (H' : Hp), Bdc (tl x) → tl x ≠ [] → (tl x).length ≤ 30 → Ext s H H' → Src H' s a c → Q (.str x) H'
def sp2__law_boards (K : PySem.W.Frag) : Sp := fun vs H Q _ => ∃ (s a u : Addr) (us : List Str) (m : Int) (c : Nat), vs = [.ref s, .ref u, .int m] ∧ SqL K H u (us.map V.str) ∧ u ≠ s ∧ Wds us ∧ 0 < m ∧ m ≤ 10 ∧ Src H s a (c + 200) ∧
  ∀ (t : Addr) (bs : List Str) (H' : Hp), H' t = some (.tup (bs.map V.str)) → bs.length ≤ 10 → (∀ x ∈ bs, Bdc (tl x) ∧ (tl x).length ≤ 30) → Ext s H H' → Src H' s a c → Q (.ref t) H'
def sp2__law_glob (K : PySem.W.Frag) : Sp := fun vs H Q _ => ∃ (s a u : Addr) (us : List Str) (c : Nat), vs = [.ref s, .ref u] ∧ SqL K H u (us.map V.str) ∧ u ≠ s ∧ Wds us ∧ Src H s a (c + 20) ∧
  ∀ (x : Str) (H' : Hp), okG (tl x) → (tl x).length ≤ 40 → Ext s H H' → Src H' s a c → Q (.str x) H'
def sp2__law_pattern (K : PySem.W.Frag) : Sp := fun vs H Q _ => ∃ (s a u : Addr) (us : List Str) (c : Nat), vs = [.ref s, .ref u] ∧ SqL K H u (us.map V.str) ∧ u ≠ s ∧ Wds us ∧ Src H s a (c + 200) ∧
  ∀ (x : Str) (H' : Hp), GP (tl x) → (tl x).length ≤ 130 → Ext s H H' → Src H' s a c → Q (.str x) H'
def sp__law_shuffled (K : PySem.W.Frag) : Sp := fun vs H Q _ => ∃ (s a r : Addr) (xs : List V) (c : Nat), vs = [.ref s, .ref r] ∧ SqL K H r xs ∧ r ≠ s ∧ xs.length ≤ 1000 ∧ Src H s a (c + xs.length) ∧
  ∀ (d : Addr) (ys : List V) (H' : Hp), H d = none → H' d = some (.lst ys) → ys.length = xs.length → (∀ y ∈ ys, y ∈ xs) → Ext s H H' → Src H' s a c → Q (.ref d) H'
def sp2__law_signs : Sp := fun vs H Q _ => ∃ (s a : Addr) (c : Nat), vs = [.ref s] ∧ Src H s a (c + 10) ∧
  ∀ (u : Addr) (cs : List Nat) (H' : Hp), H u = none → H' u = some (.lst (sgs cs)) → Sgns cs → Ext s H H' → Src H' s a c → Q (.ref u) H'
def sp2__law_free_glob (K : PySem.W.Frag) : Sp := fun vs H Q _ => ∃ (s a u : Addr) (cs : List Nat) (m : Int) (c : Nat), vs = [.ref s, .ref u, .int m] ∧ SqL K H u (sgs cs) ∧ u ≠ s ∧ Sgns cs ∧ 0 < m ∧ m ≤ 60 ∧ Src H s a (c + 100) ∧
  ∀ (g : Str) (H' : Hp), okG (tl g) → ((tl g).length : Int) ≤ m → Ext s H H' → Src H' s a c → Q (.str g) H'
def sp__law_put : Sp := fun vs H Q _ => ∃ (t : Str) (c : Nat), vs = [.str t, .str (S [c])] ∧ c ≠ 42 ∧ No42 (tl t) ∧ (tl t).length ≤ 9000 ∧ ∀ (y : Str) (H' : Hp), Same H H' → No42 (tl y) → (tl y).length ≤ (tl t).length + 1 → Q (.str y) H'
def sp__law_drawn (K : PySem.W.Frag) : Sp := fun vs H Q _ => ∃ (s a u w : Addr) (cs : List Nat) (us : List Str) (c : Nat), vs = [.ref s, .ref u, .ref w] ∧ SqL K H u (sgs cs) ∧ u ≠ s ∧ Sgns cs ∧ SqL K H w (us.map V.str) ∧ w ≠ s ∧ Wds us ∧ Src H s a (c + 2000) ∧
  ∀ (x : Str) (H' : Hp), GP (tl x) → (tl x).length ≤ 200 → Ext s H H' → Src H' s a c → Q (.str x) H'
def sp__law_board_for (K : PySem.W.Frag) : Sp := fun vs H Q _ => ∃ (s a u : Addr) (p : Str) (cs : List Nat) (c : Nat), vs = [.ref s, .str p, .ref u] ∧ (tl p).length ≤ 200 ∧ H u = some (.lst (sgs cs)) ∧ u ≠ s ∧ Sgns cs ∧ Src H s a (c + 2000) ∧
  ∀ (y : Str) (H' : Hp), No42 (tl y) → (tl y).length ≤ 500 → Ext s H H' → Src H' s a c → Q (.str y) H'
theorem strike_len (c : Nat) : ∀ {l : List Nat}, l.Nodup → l.length ≤ (l.filter (· != c)).length + 1
  | [], _ => by simp
  | x :: r, h => by
    have hh := List.nodup_cons.mp h
    by_cases e : x = c
    · subst e
      have : r.filter (· != x) = r := List.filter_eq_self.mpr fun y hy => by
        have : y ≠ x := fun e => hh.1 (e ▸ hy)
        simp [this]
      rw [List.filter_cons_of_neg (by simp), this, List.length_cons]; exact Nat.le_refl _
    · rw [List.filter_cons_of_pos (by simp [e]), List.length_cons, List.length_cons]
      have := strike_len c hh.2
      omega
theorem tl_strike (z : Str) (c : Nat) : tl (Txt.replace z ⟨#[c]⟩ (Str.ofString "")) = (tl z).filter (· != c) := PyProof.Rows.replace_strikes z c
theorem cut_mem (x : Str) (i j : Option Int) : ∀ c ∈ tl (cutS x i j), c ∈ tl x := fun c h => by
  have h' : c ∈ (List.drop _ (tl x)).take _ := h
  exact List.mem_of_mem_drop (List.mem_of_mem_take h')
/-- what is stripped at the end is a piece -/
theorem rstrip_sub (x y : Str) : (∀ c ∈ tl (Txt.rstripChars x y), c ∈ tl x) ∧ (tl (Txt.rstripChars x y)).length ≤ (tl x).length := by
  have e : ∃ i j, tl (Txt.rstripChars x y) = ((tl x).drop i).take (j - i) := by
    have h := PyProof.Rows.stripBy_eq y.cps.contains false true x
    apply Exists.intro; apply Exists.intro
    refine (congrArg tl h).trans ?_
    show (x.cps.extract _ _).toList = _
    rw [Array.toList_extract]
  obtain ⟨i, j, e⟩ := e
  rw [e]
  exact ⟨fun c m => List.mem_of_mem_drop (List.mem_of_mem_take m), by rw [List.length_take, List.length_drop]; omega⟩
/-- a walk over the signs of a text behind a token -/
theorem pit_str {X : Cx} {tg e : Expr} {te : TE} (he : PET X e te) : PIT X tg e (iStr te) := by
  intro pins s σ H R h0 I h
  refine thn (he pins s σ H _ h0 I h) fun v s1 hh => ?_
  obtain ⟨y, H1, I1, r1, x, rfl, q⟩ := hh
  obtain ⟨t, rfl⟩ := r1
  have J := fun (ty : String) (hty : ty = "str_ascii_iterator" ∨ ty = "str_iterator") => pi_one (tk := s1.toks) I1 (tg := tg) (R := R) ⟨.type ty, none, .fields #[.str x t, .int 0 0], #[]⟩ (turn_str _ x t ty hty) ⟨_, Heap.get?_push_size _ rfl, rfl, rfl⟩ q
  by_cases ha : x.cps.all (· < 128) = true
  · exact wpAny_pyIter_ascii ha (J _ (.inl rfl))
  · exact wpAny_pyIter_wide (by simpa using ha) (J _ (.inr rfl))
theorem strs_of {ws : List V} {bs : List Str} (h : ∀ y ∈ ws, y ∈ bs.map V.str) : ∃ cs : List Str, ws = cs.map V.str ∧ ∀ c ∈ cs, c ∈ bs := by
  induction ws with
  | nil => exact ⟨[], rfl, fun _ h => by cases h⟩
  | cons w ws ih =>
    obtain ⟨cs, e, k⟩ := ih fun y hy => h y (List.mem_cons_of_mem _ hy)
    obtain ⟨b, hb, rfl⟩ := List.mem_map.mp (h w (by simp))
    exact ⟨b :: cs, by rw [e]; rfl, fun c hc => by
      rcases List.mem_cons.mp hc with e | hc
      · rw [e]; exact hb
      · exact k c hc⟩
theorem joinL_sum : ∀ {ls : List (List Nat)}, ls ≠ [] → (TL.joinL [44] ls).length + 1 = (ls.map fun it => it.length + 1).sum
  | [], h => absurd rfl h
  | [x], _ => by show x.length + 1 = _; simp
  | x :: y :: r, _ => by
    have ih := joinL_sum (ls := y :: r) (by simp)
    show (x ++ ([44] ++ TL.joinL [44] (y :: r))).length + 1 = _
    rw [List.map_cons, List.sum_cons, ← ih, List.length_append, List.length_append]
    show x.length + (1 + _) + 1 = _
    omega
theorem turn_len (it : List Nat) : (turnI it).length ≤ it.length + 1 := by
  unfold turnI
  split
  · rw [List.length_drop]; omega
  · exact Nat.le_refl _
theorem turn_sum : ∀ ls : List (List Nat), ((ls.map turnI).map fun it => it.length + 1).sum ≤ (ls.map fun it => it.length + 1).sum + ls.length
  | [] => Nat.le_refl _
  | x :: r => by
    have := turn_sum r
    have := turn_len x
    rw [List.map_cons, List.map_cons, List.map_cons, List.sum_cons, List.sum_cons, List.length_cons]
    omega
theorem opp_len (l : List Nat) : (oppL l).length ≤ 2 * l.length + 3 := by
  have h1 := joinL_sum (ls := oppI l) (by unfold oppI; simp)
  have h2 := turn_sum (parts l)
  have h3 := parts_num l
  have ne : parts l ≠ [] := fun h => by
    have := spl_count l []
    have h' : TL.spl [44] 0 [] l = [] := h
    rw [h'] at this; cases this
  have h4 := joinL_sum ne
  have e : TL.joinL [44] (parts l) = l := join_spl l []
  rw [e] at h4
  have h5 : ((oppI l).map fun it => it.length + 1).sum = 2 + (((parts l).map turnI).map fun it => it.length + 1).sum := by
    unfold oppI; rw [List.map_cons, List.sum_cons]; rfl
  have h6 : (oppL l).length = (TL.joinL [44] (oppI l)).length := rfl
  omega
theorem joinL_snoc {y : List Nat} : ∀ {ls : List (List Nat)}, ls ≠ [] → TL.joinL [44] (ls ++ [y]) = TL.joinL [44] ls ++ 44 :: y
  | [], h => absurd rfl h
  | [x], _ => rfl
  | x :: z :: r, _ => by
    have ih := joinL_snoc (y := y) (ls := z :: r) (by simp)
    show x ++ ([44] ++ TL.joinL [44] (z :: r ++ [y])) = (x ++ ([44] ++ TL.joinL [44] (z :: r))) ++ 44 :: y
    rw [ih]; simp
theorem DL_opp (l : List Nat) : DL 3 (oppD l) := by
  unfold oppD
  split
  · refine ⟨by show 2 ≤ _; decide, fun x hx => ?_⟩
    rcases List.mem_cons.mp hx with e | hx
    · subst e; exact True.intro
    · rw [List.mem_singleton.mp hx]; exact True.intro
  · refine ⟨by show 2 ≤ _; decide, fun x hx => ?_⟩
    rcases List.mem_cons.mp hx with e | hx
    · subst e; exact True.intro
    · rw [List.mem_singleton.mp hx]; exact True.intro
theorem DV_pair {K : PySem.W.Frag} {H : Hp} {t : Addr} {x y : Str} (h : SqT K H t [V.str x, V.str y]) : DV K H (.tup [.str x, .str y]) (.ref t) :=
  ⟨t, _, rfl, h, _, _, rfl, by unfold DV; rfl, _, _, rfl, by unfold DV; rfl, rfl⟩
theorem DV_pair_inv {K : PySem.W.Frag} {H : Hp} {v : V} {x y : Str} (h : DV K H (.tup [.str x, .str y]) v) : ∃ t, v = .ref t ∧ SqT K H t [V.str x, V.str y] := by
  obtain ⟨t, vs, rfl, hS, h3⟩ := h
  obtain ⟨u1, r1, rfl, e1, h4⟩ := h3
  obtain ⟨u2, r2, rfl, e2, h5⟩ := h4
  unfold DV at e1 e2
  unfold DVs at h5
  subst e1 e2 h5
  exact ⟨t, rfl, hS⟩
end Z
namespace Z
open PySem PySem.W PySem.Calls PyProof.Rows L2
/-! ### sorted(tuples of texts and numbers), min and max of two texts -/
/-- a text where the shape says so, elsewhere a number -/
def Shp (shape : Nat → Bool) : Nat → List V → Prop
  | _, [] => True
  | i, .int _ :: r => shape i = false ∧ Shp shape (i + 1) r
  | i, .str _ :: r => shape i = true ∧ Shp shape (i + 1) r
  | _, _ :: _ => False
/-- what the sort asks of a tuple in the heap -/
def TupAt (h : Heap) (shape : Nat → Bool) (v : Value) : Prop := ∃ (a : Addr) (o : Obj) (us : List Value) (n : Nat) (as : List (Int ⊕ List Nat)), v = .ref a ∧ h.get? a = some o ∧ o.cls = .type "tuple" ∧ o.data = .seq us.toArray n ∧ tupItems shape 0 us = some as ∧
  ∃ f, us[0]? = some f ∧ (shape 0 = false → ∃ k t, f = .int k t) ∧ (shape 0 = true → ∃ x t, f = .str x t)
theorem TupAt.keep {h h' : Heap} {shape : Nat → Bool} {v : Value} (p : TupAt h shape v) (k : ∀ b o, h.get? b = some o → o.cls = .type "tuple" → h'.get? b = some o) : TupAt h' shape v := by
  obtain ⟨a, o, us, n, as, e, g, c, r⟩ := p
  exact ⟨a, o, us, n, as, e, k _ _ g c, c, r⟩
theorem shp_items {shape : Nat → Bool} : ∀ {ws : List V} {us : List Value} {i : Nat}, Shp shape i ws → Vals ws us → ∃ l, tupItems shape i us = some l
  | [], _, _, _, r => by cases r; exact ⟨[], by simp [tupItems]⟩
  | .int k :: ws, _, i, h, r => by
    cases r with
    | cons r1 r2 =>
      obtain ⟨t, rfl⟩ := r1
      obtain ⟨l, hl⟩ := shp_items h.2 r2
      exact ⟨.inl k :: l, by simp [tupItems, h.1, hl]⟩
  | .str x :: ws, _, i, h, r => by
    cases r with
    | cons r1 r2 =>
      obtain ⟨t, rfl⟩ := r1
      obtain ⟨l, hl⟩ := shp_items h.2 r2
      exact ⟨.inr x.cps.toList :: l, by simp [tupItems, h.1, hl]⟩
  | .non :: _, _, _, h, _ => by unfold Shp at h; exact h.elim
  | .bl _ :: _, _, _, h, _ => by unfold Shp at h; exact h.elim
  | .ref _ :: _, _, _, h, _ => by unfold Shp at h; exact h.elim
  | .ty _ :: _, _, _, h, _ => by unfold Shp at h; exact h.elim
  | .byt _ :: _, _, _, h, _ => by unfold Shp at h; exact h.elim
  | .flt _ :: _, _, _, h, _ => by unfold Shp at h; exact h.elim
theorem shp_first {shape : Nat → Bool} {ws : List V} {us : List Value} (h : Shp shape 0 ws) (ne : ws ≠ []) (r : Vals ws us) : ∃ f, us[0]? = some f ∧ (shape 0 = false → ∃ k t, f = .int k t) ∧ (shape 0 = true → ∃ x t, f = .str x t) := by
  cases r with
  | nil => exact absurd rfl ne
  | @cons w u ws us r1 r2 =>
    refine ⟨u, rfl, fun e => ?_, fun e => ?_⟩
    · cases w with
      | int k => obtain ⟨t, rfl⟩ := r1; exact ⟨k, t, rfl⟩
      | str x => have := h.1; rw [e] at this; cases this
      | _ => unfold Shp at h; exact h.elim
    · cases w with
      | str x => obtain ⟨t, rfl⟩ := r1; exact ⟨x, t, rfl⟩
      | int x => have := h.1; rw [e] at this; cases this
      | _ => unfold Shp at h; exact h.elim
section
variable {prog : Program} {w : World} {A : Around} {E : Value → Shared → Prop} {s : Shared}
theorem tups_of {h : Heap} {shape : Nat → Bool} : ∀ {vs : List Value}, (∀ v ∈ vs, TupAt h shape v) → ∃ fs, TupsOf h shape vs fs ∧ fs.length = vs.length
  | [], _ => ⟨[], .nil, rfl⟩
  | v :: vs, hp => by
    obtain ⟨fs, h1, h2⟩ := tups_of (vs := vs) fun y m => hp y (List.mem_cons_of_mem _ m)
    obtain ⟨a, o, us, n, as, e, g, c, d, _, f, hf, k1, k2⟩ := hp v (by simp)
    refine ⟨f :: fs, .cons ⟨a, o, us.toArray, n, e, g, c, d, ?_, k1, k2⟩ h1, by rw [List.length_cons, List.length_cons, h2]⟩
    simpa using hf
theorem tupkey {h : Heap} {shape : Nat → Bool} {v : Value} (p : TupAt h shape v) : ∃ as, (tupKind h shape).keyOf v = some as := by
  obtain ⟨a, o, us, n, as, rfl, g, c, d, i, _⟩ := p
  refine ⟨as, ?_⟩
  show tupKey h shape (.ref a) = some as
  unfold tupKey
  simp only [g, d]
  exact i
theorem sorted_tups {shape : Nat → Bool} {l : Addr} {vs : List Value} {Q : Value → Shared → Prop} (hl : s.heap.IsList l vs.toArray) (hz : vs.length ≤ sizeLine) (hp : ∀ v ∈ vs, TupAt s.heap shape v)
    (hq : ∀ out : List Value, out.Perm vs → Q (.ref (s.heap.objs.size + 1)) { s with heap := sortedAll s.heap vs out.toArray }) : wpAny (model prog w) A (call (.builtin "sorted") [.ref l]) Q E s := by
  refine Srt.sorted_any hl hz (fun two h1 a ha kp => ?_) hq
  intro h2 kp2
  have tup : ∀ v ∈ vs, TupAt h2 shape v := fun v m => ((hp v m).keep fun b o g _ => (kp b o g).2).keep fun b o g c => kp2 b o (fun z => by
    subst z
    have g' : h1.get? b = some o := g
    rw [ha] at g'
    cases g'
    exact absurd (Value.type.inj c) (by decide)) g
  obtain ⟨fs, t, fl⟩ := tups_of tup
  refine ⟨tuples' true, fun Q E q => tup_kind (shape := shape) (s := { s with heap := h2 }) (by omega) t q, fun p q mp mq => ?_⟩
  obtain ⟨as, ka⟩ := tupkey (tup _ mp)
  obtain ⟨bs, kb⟩ := tupkey (tup _ mq)
  exact ⟨_, tup_ltAt (s := { s with heap := h2 }) true _ _ _ _ as bs ka kb ⟨rfl, rfl⟩⟩
end
/-- sorted(xs), xs a list of tuples of one shape: a new list of the same tuples, in some order -/
def rSortedX (K : Frag) (shape : Nat → Bool) : List V → Hp → VK → Prop := fun vs H Q => ∃ (a : Addr) (ts : List Addr), vs = [V.ref a] ∧ SqL K H a (ts.map V.ref) ∧ (∀ t ∈ ts, ∃ ws, H t = some (.tup ws) ∧ Shp shape 0 ws ∧ ws ≠ []) ∧
  ∀ (ys : List Addr) (p : Addr), ys.Perm ts → H p = none → Q (.ref p) (upd H p (.lst (ys.map V.ref)))
theorem vals_refs : ∀ {ts : List Addr} {us : List Value}, Vals (ts.map V.ref) us → us = ts.map Value.ref
  | [], _, r => by cases r; rfl
  | t :: ts, _, r => by
    cases r with
    | cons r1 r2 => cases r1; rw [vals_refs r2]; rfl
theorem refs_vals : ∀ ts : List Addr, Vals (ts.map V.ref) (ts.map Value.ref)
  | [] => .nil
  | t :: ts => .cons rfl (refs_vals ts)
theorem perm_refs {ts : List Addr} {us : List Value} (h : us.Perm (ts.map Value.ref)) : ∃ ys : List Addr, us = ys.map Value.ref ∧ ys.Perm ts := by
  refine ⟨us.map fun u => match u with | .ref a => a | _ => 0, ?_, ?_⟩
  · rw [List.map_map]
    refine (List.map_id us).symm.trans (List.map_congr_left fun u m => ?_)
    obtain ⟨a, _, rfl⟩ := List.mem_map.mp (h.mem_iff.mp m)
    rfl
  · have := h.map fun u => match u with | Value.ref a => a | _ => 0
    rw [List.map_map] at this
    rwa [show ts.map ((fun u => match u with | Value.ref a => a | _ => 0) ∘ Value.ref) = ts from (List.map_congr_left fun _ _ => rfl).trans (List.map_id ts)] at this
section
variable {X : Cx}
theorem cr_sortedX {shape : Nat → Bool} : CallR X (.builtin "sorted") (rSortedX X.K shape) := by
  intro pins s σ H vs us Q I r h
  obtain ⟨a, ts, rfl, hs, ht, q⟩ := h
  obtain ⟨its, rv, hl, hz⟩ := I.list hs
  have e1 := vals_refs rv
  subst e1
  obtain ⟨u, rfl, ru⟩ := vals1 r
  obtain rfl : u = Value.ref a := ru
  rw [List.length_map] at hz
  refine sorted_tups (shape := shape) hl.isList (by rw [List.length_map]; exact hz) (fun v m => ?_) fun out po => ?_
  · obtain ⟨t, tm, rfl⟩ := List.mem_map.mp m
    obtain ⟨ws, hw, sh, ne⟩ := ht t tm
    have ok : ObjOk X.prog X.w H s.heap t (.tup ws) := I.hok t _ hw
    obtain ⟨_, xs, rx, o, g, c, n, d⟩ := ok
    obtain ⟨as, hi⟩ := shp_items sh rx
    exact ⟨t, o, xs, n, as, rfl, g, c, d, hi, shp_first sh ne rx⟩
  · obtain ⟨ys, rfl, py⟩ := perm_refs po
    have fr : H (s.heap.objs.size + 1) = none := I.hok.fresh (Nat.le_succ _)
    obtain ⟨n, hn⟩ := sortedAll_at s.heap (ts.map Value.ref) (ys.map Value.ref).toArray
    refine ⟨.ref _, upd H _ (.lst (ys.map V.ref)), I.laid (t' := s.toks) (fun b o g => sortedAll_old g) (Nat.le_succ _) ⟨?_, ys.map Value.ref, n, refs_vals ys, hn⟩, rfl, q ys _ py fr⟩
    rw [List.length_map, py.length_eq]; exact hz
end
section
variable {prog : Program} {w : World} {A : Around} {E : Value → Shared → Prop} {s : Shared}
theorem best1 (bt : Nat → Nat → Bool) : argBest bt 1 = 0 ∨ argBest bt 1 = 1 := by
  by_cases h : bt 1 (argBest bt 0) = true
  · exact .inr (if_pos h)
  · exact .inl (if_neg h)
/-- the larger one -/
theorem max_strs {x y : Str} {t u : Tok} {Q : Value → Shared → Prop} (calm : A.handled = none)
    (h : ∀ (k : Bool) (hp : Heap) (tk : Nat), (∀ b o, s.heap.get? b = some o → hp.get? b = some o) → Q (if k = true then .str y u else .str x t) { s with heap := hp, toks := tk }) : wpAny (model prog w) A (call (.builtin "max") [.str x t, .str y u]) Q E s := by
  have tp : (s.heap.push { cls := .type "tuple", data := .seq #[.str x t, .str y u] }).IsTuple s.heap.objs.size #[.str x t, .str y u] := ⟨_, Heap.get?_push_size _ rfl, rfl, 0, rfl⟩
  have z1 : (s.heap.push { cls := .type "tuple", data := .seq #[.str x t, .str y u] }).objs.size = s.heap.objs.size + 1 := Heap.size_push ..
  refine call_max_two (wpAny_pyIter_tuple tp ?_)
  refine ⟨_, [_, s.heap.objs.size], [_], _, _, _, fun i j => decide ((if j = 0 then x else y).cps.toList < (if i = 0 then x else y).cps.toList), rfl, Walks.tuple (A := A.in1) calm _ s.heap.objs.size (by rw [z1]; exact Nat.ne_of_lt (Nat.lt_succ_self _)) #[.str x t, .str y u], ⟨⟨_, Heap.get?_push_size _ rfl, rfl, rfl⟩, tp.push _⟩, fun b hb => ?_, by simp, fun i j vi vj s1 Q1 E1 gi gj q => ?_, fun v hp tk hv kp => ?_⟩
  · show b < ((s.heap.push _).push _).objs.size
    rw [Heap.size_push]
    simp only [List.mem_cons, List.not_mem_nil, or_false] at hb
    rcases hb with e | e <;> subst e
    · exact Nat.lt_succ_self _
    · rw [z1]; exact Nat.lt_succ_of_lt (Nat.lt_succ_self _)
  · have pick : ∀ {k : Nat} {v : Value}, (#[Value.str x t, Value.str y u])[k]? = some v → ∃ tt, v = .str (if k = 0 then x else y) tt := fun {k v} g => by
      match k, g with
      | 0, g => exact ⟨t, (Option.some.inj g).symm⟩
      | 1, g => exact ⟨u, (Option.some.inj g).symm⟩
      | k + 2, g => simp at g
    obtain ⟨ti, rfl⟩ := pick gi
    obtain ⟨tj, rfl⟩ := pick gj
    exact PySem.P.gt_str q
  · have old : ∀ b o, s.heap.get? b = some o → hp.get? b = some o := fun b o g => by
      refine kp b o (fun m => ?_) (Heap.get?_push_of_some _ (Heap.get?_push_of_some _ g))
      have lt := Heap.lt_size g
      rw [List.mem_singleton.mp m, z1] at lt
      exact absurd lt (Nat.not_lt_of_lt (Nat.lt_succ_self _))
    have cases2 : v = .str y u ∨ v = .str x t := by
      have hv' : (#[Value.str x t, Value.str y u])[argBest (fun i j => decide ((if j = 0 then x else y).cps.toList < (if i = 0 then x else y).cps.toList)) 1]? = some v := hv
      rcases best1 _ with e | e
      · rw [e] at hv'; exact .inr (Option.some.inj hv').symm
      · rw [e] at hv'; exact .inl (Option.some.inj hv').symm
    rcases cases2 with e | e
    · rw [e]; exact h true hp tk old
    · rw [e]; exact h false hp tk old
theorem min_strs {x y : Str} {t u : Tok} {Q : Value → Shared → Prop} (calm : A.handled = none)
    (h : ∀ (k : Bool) (hp : Heap) (tk : Nat), (∀ b o, s.heap.get? b = some o → hp.get? b = some o) → Q (if k = true then .str y u else .str x t) { s with heap := hp, toks := tk }) : wpAny (model prog w) A (call (.builtin "min") [.str x t, .str y u]) Q E s := by
  have tp : (s.heap.push { cls := .type "tuple", data := .seq #[.str x t, .str y u] }).IsTuple s.heap.objs.size #[.str x t, .str y u] := ⟨_, Heap.get?_push_size _ rfl, rfl, 0, rfl⟩
  have z1 : (s.heap.push { cls := .type "tuple", data := .seq #[.str x t, .str y u] }).objs.size = s.heap.objs.size + 1 := Heap.size_push ..
  refine call_min_two (wpAny_pyIter_tuple tp ?_)
  refine ⟨_, [_, s.heap.objs.size], [_], _, _, _, fun i j => decide ((if i = 0 then x else y).cps.toList < (if j = 0 then x else y).cps.toList), rfl, Walks.tuple (A := A.in1) calm _ s.heap.objs.size (by rw [z1]; exact Nat.ne_of_lt (Nat.lt_succ_self _)) #[.str x t, .str y u], ⟨⟨_, Heap.get?_push_size _ rfl, rfl, rfl⟩, tp.push _⟩, fun b hb => ?_, by simp, fun i j vi vj s1 Q1 E1 gi gj q => ?_, fun v hp tk hv kp => ?_⟩
  · show b < ((s.heap.push _).push _).objs.size
    rw [Heap.size_push]
    simp only [List.mem_cons, List.not_mem_nil, or_false] at hb
    rcases hb with e | e <;> subst e
    · exact Nat.lt_succ_self _
    · rw [z1]; exact Nat.lt_succ_of_lt (Nat.lt_succ_self _)
  · have pick : ∀ {k : Nat} {v : Value}, (#[Value.str x t, Value.str y u])[k]? = some v → ∃ tt, v = .str (if k = 0 then x else y) tt := fun {k v} g => by
      match k, g with
      | 0, g => exact ⟨t, (Option.some.inj g).symm⟩
      | 1, g => exact ⟨u, (Option.some.inj g).symm⟩
      | k + 2, g => simp at g
    obtain ⟨ti, rfl⟩ := pick gi
    obtain ⟨tj, rfl⟩ := pick gj
    exact PySem.P.lt_str q
  · have old : ∀ b o, s.heap.get? b = some o → hp.get? b = some o := fun b o g => by
      refine kp b o (fun m => ?_) (Heap.get?_push_of_some _ (Heap.get?_push_of_some _ g))
      have lt := Heap.lt_size g
      rw [List.mem_singleton.mp m, z1] at lt
      exact absurd lt (Nat.not_lt_of_lt (Nat.lt_succ_self _))
    have cases2 : v = .str y u ∨ v = .str x t := by
      have hv' : (#[Value.str x t, Value.str y u])[argBest (fun i j => decide ((if i = 0 then x else y).cps.toList < (if j = 0 then x else y).cps.toList)) 1]? = some v := hv
      rcases best1 _ with e | e
      · rw [e] at hv'; exact .inr (Option.some.inj hv').symm
      · rw [e] at hv'; exact .inl (Option.some.inj hv').symm
    rcases cases2 with e | e
    · rw [e]; exact h true hp tk old
    · rw [e]; exact h false hp tk old
end
section
variable {X : Cx}
/-- min, max of two texts: one of them -/
def rOne2 : List V → Hp → VK → Prop := fun xs H Q => ∃ x y : Str, xs = [.str x, .str y] ∧ Q (.str x) H ∧ Q (.str y) H
theorem call_maxS (hc : X.calm = true) : CallR X (.builtin "max") rOne2 := by
  intro pins s σ H xs us Q I r h
  obtain ⟨x, y, rfl, q1, q2⟩ := h
  obtain ⟨u, w', rfl, ⟨t, rfl⟩, ⟨t', rfl⟩⟩ := vals2 r
  refine max_strs (I.ok.hd hc) fun k hp tk old => ?_
  cases k with
  | true => exact ⟨.str y, H, I.kept old, ⟨t', rfl⟩, q2⟩
  | false => exact ⟨.str x, H, I.kept old, ⟨t, rfl⟩, q1⟩
theorem call_minS (hc : X.calm = true) : CallR X (.builtin "min") rOne2 := by
  intro pins s σ H xs us Q I r h
  obtain ⟨x, y, rfl, q1, q2⟩ := h
  obtain ⟨u, w', rfl, ⟨t, rfl⟩, ⟨t', rfl⟩⟩ := vals2 r
  refine min_strs (I.ok.hd hc) fun k hp tk old => ?_
  cases k with
  | true => exact ⟨.str y, H, I.kept old, ⟨t', rfl⟩, q2⟩
  | false => exact ⟨.str x, H, I.kept old, ⟨t, rfl⟩, q1⟩
end
end Z
namespace Z
open PySem PySem.Spec PyProof.Rows L2
theorem mulT1 (l : Addr) (its : Array Value) (n : Nat) (dd : Option Addr) (sl : Array (Option Value)) (u : Tok) : Meets (Builtin.«tuple.__mul__» ⟨[.ref l, .int 1 u], []⟩) (fun _ R s =>
    s.heap.get? l = some { cls := .type "tuple", dict := dd, data := .seq its n, slots := sl } ∧ R (.ok (.ret (.ref l))) s) := .of_wp fun prog w A R s h => by
  obtain ⟨hp, g, d, tk, os⟩ := s
  obtain ⟨at_, h⟩ := h
  have ix := AutoSeq1.idx_int
  have c1 : (its.isEmpty || (1 : Int) == 1) = true := by cases its.isEmpty <;> rfl
  wp_walk using wpAny_loadPart' at_
  repeat (first
    | (refine wpAny_ite_false (decide_eq_false (by decide)) ?_; wp_walk using wpAny_loadPart' at_)
    | (refine wpAny_ite_true (decide_eq_true (by first | decide | exact c1)) ?_; wp_walk using wpAny_loadPart' at_))
  exact ⟨_, rfl, h⟩
theorem mulT0 (l : Addr) (its : Array Value) (n : Nat) (dd : Option Addr) (sl : Array (Option Value)) (u : Tok) (ne : its.isEmpty = false) : Meets (Builtin.«tuple.__mul__» ⟨[.ref l, .int 0 u], []⟩) (fun _ R s =>
    s.heap.get? l = some { cls := .type "tuple", dict := dd, data := .seq its n, slots := sl } ∧ R (.ok (.ret (.ref s.heap.objs.size))) { s with heap := s.heap.push { cls := .type "tuple", data := .seq #[] }, toks := s.toks }) := .of_wp fun prog w A R s h => by
  obtain ⟨hp, g, d, tk, os⟩ := s
  obtain ⟨at_, h⟩ := h
  have ix := AutoSeq1.idx_int
  have c1 : (its.isEmpty || (0 : Int) == 1) = false := by rw [ne]; rfl
  wp_walk using wpAny_loadPart' at_
  repeat (first
    | (refine wpAny_ite_false (decide_eq_false (by first | decide | (rw [c1]; exact Bool.false_ne_true))) ?_; wp_walk using wpAny_loadPart' at_)
    | (refine wpAny_ite_true (decide_eq_true (by first | decide | rfl)) ?_; wp_walk using wpAny_loadPart' at_))
  exact ⟨_, rfl, h⟩
/-- t * k, of a tuple -/
def rMulT (K : PySem.W.Frag) : R2 := fun x y H Q => ∃ (l : Addr) (k : Nat) (xs : List V), x = .ref l ∧ y = .int (k : Int) ∧ SqT K H l xs ∧ xs ≠ [] ∧ k ≤ 1000 ∧ xs.length ≤ 1000 ∧ ∀ (p : Addr) (H' : Hp), Same H H' → SqT K H' p (List.replicate k xs).flatten → Q (.ref p) H'
section
variable {X : Cx}
theorem op_mulT : OpR X (binaryOp .Mult) (rMulT X.K) := by
  intro pins s σ H x y v u Q I rx ry h
  obtain ⟨l, k, xs, ex, ey, hT, ne, hk, hx, q⟩ := h
  by_cases h2 : 2 ≤ k
  · exact op_repT pins s σ H x y v u Q I rx ry ⟨l, _, xs, ex, ey, hT, ne, by omega, by omega, hx, fun p hp => q p _ (same_new hp) (SqT.of (by rw [upd_same]; rfl))⟩
  subst ex ey
  cases rx
  obtain ⟨t, rfl⟩ := ry
  obtain ⟨its, r, ⟨⟨cls, dd, data, sl⟩, at_, hc, n, hd⟩, hs⟩ := I.tuple hT
  simp only at hc hd
  subst hc hd
  have hi : its.toArray.isEmpty = false := by
    cases r with
    | nil => exact absurd rfl ne
    | cons _ _ => rfl
  have k01 : k = 0 ∨ k = 1 := by omega
  rcases k01 with e | e
  · subst e
    refine wpAny_binaryOp_repeat_ref (T := "tuple") (U := "int") (by decide) ⟨_, at_, rfl⟩ (fun s1 => typeIs_int s1 _ t) noFill_tuple_mul F.fills_int_mul F.slot_int_rmul repeat_tuple F.slot_int_index.lookup (call_meets F.slot_int_rmul (typeIs_int s _ t) F.entry_int_rmul (F.args_int_rmul_2 _ _) (int_rmul_tuple _ t l its.toArray n dd sl) ⟨at_, rfl, ⟨_, at_, rfl⟩, call_meets F.slot_tuple_mul ⟨_, at_, rfl⟩ F.entry_tuple_mul (F.args_tuple_mul_2 _ _) (mulT0 l its.toArray n dd sl t hi) ⟨at_, ?_⟩⟩)
    have fr : H s.heap.objs.size = none := I.hok.fresh (Nat.le_refl _)
    exact ⟨.ref _, upd H s.heap.objs.size (.tup []), I.laid (t' := s.toks) (fun b o g => Heap.get?_push_of_some _ g) (Nat.le_refl _) ⟨by show 0 ≤ sizeLine; decide, [], .nil, IsTup.new _ _⟩, rfl, q _ _ (same_new fr) (SqT.of upd_same)⟩
  · subst e
    refine wpAny_binaryOp_repeat_ref (T := "tuple") (U := "int") (by decide) ⟨_, at_, rfl⟩ (fun s1 => typeIs_int s1 _ t) noFill_tuple_mul F.fills_int_mul F.slot_int_rmul repeat_tuple F.slot_int_index.lookup (call_meets F.slot_int_rmul (typeIs_int s _ t) F.entry_int_rmul (F.args_int_rmul_2 _ _) (int_rmul_tuple _ t l its.toArray n dd sl) ⟨at_, rfl, ⟨_, at_, rfl⟩, call_meets F.slot_tuple_mul ⟨_, at_, rfl⟩ F.entry_tuple_mul (F.args_tuple_mul_2 _ _) (mulT1 l its.toArray n dd sl t) ⟨at_, ?_⟩⟩)
    exact ⟨.ref l, H, I, rfl, q l H (Same.refl _) (by show SqT X.K H l (xs ++ []); rw [List.append_nil]; exact hT)⟩
end
end Z
namespace Z
open PySem L2 SX
/-! ### data, by place -/
section
variable {K : PySem.W.Frag} {H : Hp}
theorem DV.any {ds : List D} {v : V} {i : Nat} {d : D} (h : DV K H (.tup ds) v) (e : ds[i]? = some d) : ∃ a us u, v = .ref a ∧ SqT K H a us ∧ us[i]? = some u ∧ DV K H d u := by
  obtain ⟨a, us, rfl, hS, hs⟩ := h
  obtain ⟨u, eu, du⟩ := hs.get e
  exact ⟨a, us, u, rfl, hS, eu, du⟩
theorem DV.sub {ds es : List D} {v : V} {i : Nat} (h : DV K H (.tup ds) v) (e : ds[i]? = some (.tup es)) : ∃ a us c ws, v = .ref a ∧ SqT K H a us ∧ us[i]? = some (V.ref c) ∧ SqT K H c ws ∧ DVs K H es ws := by
  obtain ⟨a, us, u, rfl, hS, eu, du⟩ := h.any e
  obtain ⟨c, ws, rfl, hc, hw⟩ := du
  exact ⟨a, us, c, ws, rfl, hS, eu, hc, hw⟩
theorem DV.leafS {ds : List D} {v : V} {i : Nat} {x : Str} (h : DV K H (.tup ds) v) (e : ds[i]? = some (.str x)) : ∃ a us, v = .ref a ∧ SqT K H a us ∧ us[i]? = some (V.str x) := by
  obtain ⟨a, us, u, rfl, hS, eu, du⟩ := h.any e
  unfold DV at du
  subst du
  exact ⟨a, us, rfl, hS, eu⟩
theorem DVs.map_get {α : Type} {f : α → D} : ∀ {l : List α} {us : List V} {i : Nat} {u : V}, DVs K H (l.map f) us → us[i]? = some u → ∃ x, l[i]? = some x ∧ DV K H (f x) u
  | [], _, i, u, h, e => by unfold DVs at h; subst h; simp at e
  | x :: l, us, i, u, h, e => by
    obtain ⟨v, r, rfl, q, t⟩ := h
    cases i with
    | zero =>
      have : v = u := Option.some.inj e
      subst this
      exact ⟨x, rfl, q⟩
    | succ i => exact DVs.map_get (i := i) t e
theorem DVs.map_len {α : Type} {f : α → D} {l : List α} {us : List V} (h : DVs K H (l.map f) us) : us.length = l.length := by rw [h.len, List.length_map]
/-- values that are data of some of these -/
theorem DVs.pick {α : Type} {f : α → D} {xs : List V} {l : List α} : ∀ {ys : List V}, DVs K H (l.map f) xs → (∀ y ∈ ys, y ∈ xs) → ∃ m : List α, DVs K H (m.map f) ys ∧ m.length = ys.length ∧ ∀ x ∈ m, x ∈ l
  | [], _, _ => ⟨[], by unfold List.map DVs; rfl, rfl, fun _ h => by cases h⟩
  | y :: ys, h, k => by
    obtain ⟨m, h1, h2, h3⟩ := DVs.pick h fun z hz => k z (List.mem_cons_of_mem _ hz)
    obtain ⟨i, hi⟩ := List.getElem?_of_mem (k y (by simp))
    obtain ⟨x, hx, dx⟩ := h.map_get hi
    refine ⟨x :: m, ?_, by rw [List.length_cons, List.length_cons, h2], fun z hz => ?_⟩
    · exact ⟨y, ys, rfl, dx, h1⟩
    · rcases List.mem_cons.mp hz with e | e
      · rw [e]; exact List.mem_of_getElem? hx
      · exact h3 z e
theorem DVs.snoc {α : Type} {f : α → D} {x : α} {u : V} : ∀ {l : List α} {us : List V}, DVs K H (l.map f) us → DV K H (f x) u → DVs K H ((l ++ [x]).map f) (us ++ [u])
  | [], _, h, d => by unfold List.map DVs at h; subst h; exact ⟨u, [], rfl, d, by unfold List.map DVs; rfl⟩
  | y :: l, us, h, d => by
    obtain ⟨v, r, rfl, q, t⟩ := h
    exact ⟨v, r ++ [u], rfl, q, DVs.snoc t d⟩
theorem DVs.tk {H' : Hp} (t : TK K H H') {ds : List D} {us : List V} (h : DVs K H ds us) : DVs K H' ds us := DVs.ext t h
theorem DV.tk {H' : Hp} (t : TK K H H') {d : D} {u : V} (h : DV K H d u) : DV K H' d u := DV.ext t h
end
theorem find_step {α : Type} {p : α → Bool} {l : List α} {i : Nat} {x : α} (h : (l.take i).find? p = none) (e : l[i]? = some x) (hx : p x = false) : (l.take (i + 1)).find? p = none := by
  rw [List.take_add_one, e, List.find?_append, h]
  show (none : Option α).or ([x].find? p) = none
  simp [hx]
theorem find_hit {α : Type} {p : α → Bool} {l : List α} {i : Nat} {x : α} (h : (l.take i).find? p = none) (e : l[i]? = some x) (hx : p x = true) : l.find? p = some x := by
  have el : l = l.take i ++ x :: l.drop (i + 1) := by
    obtain ⟨h1, h2⟩ := List.getElem?_eq_some_iff.mp e
    rw [← h2, List.getElem_cons_drop, List.take_append_drop]
  rw [el, List.find?_append, h]
  show (none : Option α).or ((x :: l.drop (i + 1)).find? p) = some x
  rw [List.find?_cons_of_pos hx]; rfl
/-! ### books -/
structure Si where
  n : Str
  o : Int
  m : Int
  r : Int
  p : Str
structure Fd where
  g : Str
  t : Str
  p : Str
  h : Int
  z : Int
structure Sw where
  p : Str
  a : Str
  y : D
structure Bk where
  w : Int
  x : Int
  y : Int
  si : List Si
  ln : List (Str × Str)
  fd : List Fd
  sw : List Sw
  li : List D
def siD (s : Si) : D := .tup [.str (Str.ofString "site"), .str s.n, .int s.o, .int s.m, .int s.r, .str s.p]
def lnD (l : Str × Str) : D := .tup [.str l.1, .str l.2]
def fdD (f : Fd) : D := .tup [.str (Str.ofString "feed"), .str f.g, .str f.t, .str f.p, .int f.h, .int f.z]
def swD (s : Sw) : D := .tup [.str (Str.ofString "steward"), .str s.p, .str s.a, s.y]
def bkD (b : Bk) : D := .tup [.str (Str.ofString "book"), .int b.w, .tup [.int b.x, .int b.y], .tup (b.si.map siD), .tup (b.ln.map lnD), .tup (b.fd.map fdD), .tup (b.sw.map swD), .tup b.li]
structure BkOk (b : Bk) : Prop where
  si : b.si.length ≤ 10
  ln : b.ln.length ≤ 30
  fd : b.fd.length ≤ 100
  sw : b.sw.length ≤ 10
  sp : ∀ s ∈ b.si, (tl s.p).length ≤ 3000
  wp : ∀ s ∈ b.sw, (tl s.p).length ≤ 3000
  sn : ∀ s ∈ b.si, Low (tl s.n) ∧ (tl s.n).length ≤ 8
  fn : ∀ f ∈ b.fd, Low (tl f.g) ∧ Low (tl f.t)
def siteOf (b : Bk) (n : Str) : Option Si := b.si.find? fun s => decide (s.n = n)
def feedOf (b : Bk) (g t : Str) : Option Fd := b.fd.find? fun f => decide (f.g = g) && decide (f.t = t)
noncomputable def stwOf (b : Bk) (d : List Nat) : Option Sw := b.sw.find? fun s => letsL (parts (tl s.p)) d
def polOf (b : Bk) (a : Str) : Option Sw := b.sw.find? fun s => decide (s.a = a)
def optD {α : Type} (f : α → D) : Option α → D
  | none => .non
  | some x => f x
def nearL (b : Bk) (n : Str) : List Str := ((b.ln.filter fun l => decide (l.1 = n)).map (·.2)) ++ ((b.ln.filter fun l => decide (l.2 = n)).map (·.1))
/-- the seals so far, and a board more -/
noncomputable def sealF (b : Bk) (acc : List Str) (d : Str) : List Str := match stwOf b (tl d) with
  | none => acc
  | some s => if s.a ∈ acc then acc else acc ++ [s.a]
noncomputable def sealsL (b : Bk) (bs : List Str) : List Str := bs.foldl (sealF b) []
def sp_site_of (K : PySem.W.Frag) : Sp := fun vs H Q _ => ∃ (b : Bk) (v : V) (n : Str), vs = [v, .str n] ∧ DV K H (bkD b) v ∧ ∀ u, DV K H (optD siD (siteOf b n)) u → Q u H
def sp_feed_of (K : PySem.W.Frag) : Sp := fun vs H Q _ => ∃ (b : Bk) (v : V) (g t : Str), vs = [v, .str g, .str t] ∧ DV K H (bkD b) v ∧ BkOk b ∧ Low (tl g) ∧ Low (tl t) ∧ ∀ u H', Same H H' → DV K H' (optD fdD (feedOf b g t)) u → Q u H'
def sp_neighbours (K : PySem.W.Frag) : Sp := fun vs H Q _ => ∃ (b : Bk) (v : V) (n : Str), vs = [v, .str n] ∧ DV K H (bkD b) v ∧ BkOk b ∧ ∀ (t : Addr) (ys : List Str) (H' : Hp), Same H H' → SqT K H' t (ys.map V.str) → ys.Perm (nearL b n) → PyProof.Rows.sortedS ys = true → Q (.ref t) H'
noncomputable def carriesB (b : Bk) (n : Str) (bs : List Str) : Bool := match siteOf b n with
  | none => false
  | some s => bs.any fun d => letsL (parts (tl s.p)) (tl d)
def sp_carries (K : PySem.W.Frag) : Sp := fun vs H Q _ => ∃ (b : Bk) (v : V) (n : Str) (a : Addr) (bs : List Str), vs = [v, .str n, .ref a] ∧ DV K H (bkD b) v ∧ BkOk b ∧ SqT K H a (bs.map V.str) ∧ bs.length ≤ 1000 ∧ (∀ d ∈ bs, Clean (tl d)) ∧ ∀ H', Same H H' → Q (.bl (carriesB b n bs)) H'
def swA (s : Sw) : D := .str s.a
def sp_steward_of (K : PySem.W.Frag) : Sp := fun vs H Q _ => ∃ (b : Bk) (v : V) (d : Str), vs = [v, .str d] ∧ DV K H (bkD b) v ∧ BkOk b ∧ Clean (tl d) ∧ ∀ u H', Same H H' → DV K H' (optD swA (stwOf b (tl d))) u → Q u H'
def sp_seals (K : PySem.W.Frag) : Sp := fun vs H Q _ => ∃ (b : Bk) (v : V) (a : Addr) (bs : List Str), vs = [v, .ref a] ∧ DV K H (bkD b) v ∧ BkOk b ∧ SqT K H a (bs.map V.str) ∧ bs.length ≤ 1000 ∧ (∀ d ∈ bs, Clean (tl d)) ∧ ∀ (t : Addr) H', Same H H' → SqT K H' t ((sealsL b bs).map V.str) → Q (.ref t) H'
def sp_policy_of (K : PySem.W.Frag) : Sp := fun vs H Q _ => ∃ (b : Bk) (v : V) (a : Str), vs = [v, .str a] ∧ DV K H (bkD b) v ∧ ∀ u, DV K H (optD Sw.y (polOf b a)) u → Q u H
/-! ### what the law draws -/
def sp3__law_pick (K : PySem.W.Frag) : Sp := fun vs H Q _ =>
  (∃ (s a r : Addr) (xs : List V) (c : Nat), vs = [.ref s, .ref r] ∧ SqL K H r xs ∧ r ≠ s ∧ xs ≠ [] ∧ xs.length ≤ 100000 ∧ Src H s a (c + 1) ∧ ∀ (v : V) (H' : Hp), v ∈ xs → Ext s H H' → Src H' s a c → Q v H') ∨
  (∃ (s a : Addr) (x : Str) (c : Nat), vs = [.ref s, .str x] ∧ tl x ≠ [] ∧ (tl x).length ≤ 100000 ∧ Src H s a (c + 1) ∧ ∀ (ch : Nat) (H' : Hp), ch ∈ tl x → Ext s H H' → Src H' s a c → Q (.str (S [ch])) H') ∨
  (∃ (s a r : Addr) (xs : List V) (c : Nat), vs = [.ref s, .ref r] ∧ SqT K H r xs ∧ xs ≠ [] ∧ xs.length ≤ 100000 ∧ Src H s a (c + 1) ∧ ∀ (v : V) (H' : Hp), v ∈ xs → Ext s H H' → Src H' s a c → Q v H')
def Nms (us : List Str) : Prop := us.Nodup ∧ ∀ x ∈ us, Nm (tl x) ∧ (tl x).length ≤ 8
def sp9__law_new_name (K : PySem.W.Frag) : Sp := fun vs H Q _ => ∃ (s a u : Addr) (us : List Str) (c : Nat), vs = [.ref s, .ref u] ∧ SqL K H u (us.map V.str) ∧ u ≠ s ∧ us.length ≤ 9 ∧ Src H s a (c + 8) ∧
  ∀ (x : Str) (H' : Hp), Nm (tl x) → (tl x).length ≤ 8 → x ∉ us → Ext s H H' → Src H' s a c → Q (.str x) H'
def sp9__law_names (K : PySem.W.Frag) : Sp := fun vs H Q _ => ∃ (s a : Addr) (m c : Nat), vs = [.ref s, .int m] ∧ m ≤ 9 ∧ Src H s a (c + 8 * m) ∧
  ∀ (u : Addr) (us : List Str) (H' : Hp), H u = none → H' u = some (.lst (us.map V.str)) → us.length = m → Nms us → Ext s H H' → Src H' s a c → Q (.ref u) H'
def sp_lines (K : PySem.W.Frag) : Sp := fun vs H Q _ => ∃ (s a u : Addr) (us : List Str) (c : Nat), vs = [.ref s, .ref u] ∧ SqL K H u (us.map V.str) ∧ u ≠ s ∧ 1 ≤ us.length ∧ us.length ≤ 9 ∧ (∀ x ∈ us, Low (tl x)) ∧ Src H s a (c + 100) ∧
  ∀ (L : Addr) (ws : List V) (ls : List (Str × Str)) (H' : Hp), H L = none → H' L = some (.lst ws) → DVs K H' (ls.map lnD) ws → ls.length ≤ 20 → (∀ l ∈ ls, Low (tl l.1) ∧ Low (tl l.2)) → Ext s H H' → Src H' s a c → Q (.ref L) H'
def sp_feeds (K : PySem.W.Frag) : Sp := fun vs H Q _ => ∃ (s a L w : Addr) (ws : List V) (ls : List (Str × Str)) (us : List Str) (k : Int) (c : Nat), vs = [.ref s, .ref L, .ref w, .int k] ∧ SqL K H L ws ∧ L ≠ s ∧ DVs K H (ls.map lnD) ws ∧ ls.length ≤ 20 ∧ (∀ l ∈ ls, Low (tl l.1) ∧ Low (tl l.2)) ∧ SqL K H w (us.map V.str) ∧ w ≠ s ∧ Wds us ∧ 0 < k ∧ k ≤ 100 ∧ Src H s a (c + 20000) ∧
  ∀ (u : V) (fs : List Fd) (H' : Hp), DV K H' (.tup (fs.map fdD)) u → fs.length ≤ 40 → (∀ f ∈ fs, Low (tl f.g) ∧ Low (tl f.t)) → Ext s H H' → Src H' s a c → Q u H'
def sp_sites (K : PySem.W.Frag) : Sp := fun vs H Q _ => ∃ (s a u w o : Addr) (us ws : List Str) (z : Int) (is : List Int) (c : Nat), vs = [.ref s, .ref u, .ref w, .int z, .ref o] ∧ SqL K H u (us.map V.str) ∧ u ≠ s ∧ us.length ≤ 9 ∧ SqL K H w (ws.map V.str) ∧ w ≠ s ∧ Wds ws ∧ H o = some (.lst (is.map V.int)) ∧ o ≠ s ∧ is.length = us.length ∧ Src H s a (c + 5000) ∧
  ∀ (v : V) (l : List Si) (H' : Hp), DV K H' (.tup (l.map siD)) v → l.map (·.n) = us → (∀ x ∈ l, (tl x.p).length ≤ 200) → Ext s H H' → Src H' s a c → Q v H'
def sp_book (K : PySem.W.Frag) : Sp := fun vs H Q _ => ∃ (s a w : Addr) (ws : List Str) (m : Nat) (c : Nat), vs = [.ref s, .int (m : Int), .ref w] ∧ 1 ≤ m ∧ m ≤ 9 ∧ SqL K H w (ws.map V.str) ∧ w ≠ s ∧ Wds ws ∧ Src H s a (c + 30000) ∧
  ∀ (v : V) (b : Bk) (H' : Hp), DV K H' (bkD b) v → BkOk b → b.sw = [] → b.si ≠ [] → (b.si.map (·.n)).Nodup → Ext s H H' → Src H' s a c → Q v H'
def sp_stewards (K : PySem.W.Frag) : Sp := fun vs H Q _ => ∃ (s a w : Addr) (v : V) (b : Bk) (ws : List Str) (c : Nat), vs = [.ref s, v, .ref w] ∧ DV K H (bkD b) v ∧ b.si ≠ [] ∧ BkOk b ∧ SqL K H w (ws.map V.str) ∧ w ≠ s ∧ Wds ws ∧ Src H s a (c + 5000) ∧
  ∀ (u : V) (l : List Sw) (H' : Hp), DV K H' (.tup (l.map swD)) u → l.length ≤ 3 → (∀ x ∈ l, (tl x.p).length ≤ 200 ∧ (tl x.a).length ≤ 20 ∧ DL 4 x.y) → (l.map (·.a)).Nodup → Ext s H H' → Src H' s a c → Q u H'
/-! ### sorted texts, told by what they are -/
open PyProof.Rows in
theorem eqv_pair (a b c d : Str) : PyData.eqv (.tuple [.str a, .str b]) (.tuple [.str c, .str d]) = (decide (a = c) && decide (b = d)) := by
  simp [PyData.eqv, PyData.eqvAll]
  by_cases h1 : a = c <;> by_cases h2 : b = d <;> simp [h1, h2]
theorem ok_low {x : Str} (h : Low (tl x)) : PyData.strOk x = true := by
  unfold PyData.strOk
  rw [← Array.all_toList, List.all_eq_true]
  intro c m
  have := h c m
  exact decide_eq_true (by omega)
theorem pair_shaped {x y : Str} (hx : Low (tl x)) (hy : Low (tl y)) : SeqAt.shaped (.tuple [.str x, .str y]) = true := by
  simp [SeqAt.shaped, PyData.canLay0, PyData.canLayAll0, PyData.depth, PyData.depthAll, ok_low hx, ok_low hy]
end Z
namespace Z
open PySem L2 SX
open PyProof.Rows PySem.Spec
theorem find_uniq {α : Type} {f : α → Str} : ∀ {l : List α} {i : Nat} {x : α}, (l.map f).Nodup → l[i]? = some x → l.find? (fun y => decide (f y = f x)) = some x
  | [], i, x, _, h => by simp at h
  | y :: r, i, x, nd, h => by
    rw [List.map_cons, List.nodup_cons] at nd
    cases i with
    | zero =>
      have : y = x := Option.some.inj h
      subst this
      rw [List.find?_cons_of_pos (by simp)]
    | succ i =>
      have hr : r[i]? = some x := h
      have ne : ¬ f y = f x := fun e => nd.1 (by rw [e]; exact List.mem_map_of_mem (List.mem_of_getElem? hr))
      rw [List.find?_cons_of_neg (by simpa using ne)]
      exact find_uniq nd.2 hr
theorem lt_anti : ∀ {a b : List Nat}, ltCps a b = false → ltCps b a = false → a = b
  | [], [], _, _ => rfl
  | [], _ :: _, h, _ => by simp [ltCps] at h
  | _ :: _, [], _, h => by simp [ltCps] at h
  | x :: a, y :: b, h, k => by
    simp only [ltCps, Bool.or_eq_false_iff, decide_eq_false_iff_not, Bool.and_eq_false_iff] at h k
    have e : x = y := by omega
    subst e
    have h2 := h.2.resolve_left (by simp)
    have k2 := k.2.resolve_left (by simp)
    rw [lt_anti h2 k2]
theorem lt_trans : ∀ {a b c : List Nat}, ltCps b a = false → ltCps c b = false → ltCps c a = false
  | [], _, [], _, _ => rfl
  | [], _, _ :: _, _, _ => by simp [ltCps]
  | _ :: _, [], _, h, _ => by simp [ltCps] at h
  | _ :: _, _ :: _, [], _, k => by simp [ltCps] at k
  | x :: a, y :: b, z :: c, h, k => by
    simp only [ltCps, Bool.or_eq_false_iff, decide_eq_false_iff_not, Bool.and_eq_false_iff] at h k ⊢
    refine ⟨by omega, ?_⟩
    by_cases e : z = x
    · have e1 : y = x := by omega
      have e2 : z = y := by omega
      subst e1
      subst e2
      exact .inr (lt_trans (h.2.resolve_left (by simp)) (k.2.resolve_left (by simp)))
    · exact .inl (by simpa using e)
theorem rising_pw : ∀ {l : List Str} {p : Str}, risingS p l = true → (∀ x ∈ l, ltCps x.cps.toList p.cps.toList = false) ∧ l.Pairwise (fun a b => ltCps b.cps.toList a.cps.toList = false)
  | [], _, _ => ⟨(fun _ h => by cases h), List.Pairwise.nil⟩
  | x :: r, p, h => by
    have h' : (!ltCps x.cps.toList p.cps.toList && risingS x r) = true := h
    obtain ⟨h1, h2⟩ := Bool.and_eq_true_iff.mp h'
    have h1' : ltCps x.cps.toList p.cps.toList = false := by simpa using h1
    obtain ⟨k1, k2⟩ := rising_pw h2
    refine ⟨fun y hy => ?_, List.pairwise_cons.mpr ⟨k1, k2⟩⟩
    rcases List.mem_cons.mp hy with e | e
    · rw [e]; exact h1'
    · exact lt_trans h1' (k1 y e)
theorem sorted_pw : ∀ {l : List Str}, sortedS l = true → l.Pairwise (fun a b => ltCps b.cps.toList a.cps.toList = false)
  | [], _ => List.Pairwise.nil
  | x :: r, h => List.pairwise_cons.mpr (rising_pw (show risingS x r = true from h))
theorem pw_uniq : ∀ {ys zs : List Str}, ys.Perm zs → ys.Pairwise (fun a b => ltCps b.cps.toList a.cps.toList = false) → zs.Pairwise (fun a b => ltCps b.cps.toList a.cps.toList = false) → ys = zs
  | [], zs, p, _, _ => p.nil_eq
  | y :: r, [], p, _, _ => absurd p.symm.nil_eq (by simp)
  | y :: r, z :: t, p, hy, hz => by
    obtain ⟨y1, y2⟩ := List.pairwise_cons.mp hy
    obtain ⟨z1, z2⟩ := List.pairwise_cons.mp hz
    have e : y = z := by
      have m1 : y ∈ z :: t := p.mem_iff.mp (by simp)
      have m2 : z ∈ y :: r := p.mem_iff.mpr (by simp)
      rcases List.mem_cons.mp m1 with e | e
      · exact e
      · rcases List.mem_cons.mp m2 with e2 | e2
        · exact e2.symm
        · exact tl_ext (lt_anti (z1 y e) (y1 z e2)) 
    subst e
    rw [pw_uniq ((List.perm_cons y).mp p) y2 z2]
theorem sorted_uniq {ys zs : List Str} (p : ys.Perm zs) (sy : sortedS ys = true) (sz : sortedS zs = true) : ys = zs := pw_uniq p (sorted_pw sy) (sorted_pw sz)
theorem seal_len (b : Bk) (acc : List Str) (d : Str) : (sealF b acc d).length ≤ acc.length + 1 := by
  unfold sealF
  split
  · omega
  · split
    · omega
    · rw [List.length_append]; exact Nat.le_refl _
theorem seals_len (b : Bk) : ∀ (bs acc : List Str), (bs.foldl (sealF b) acc).length ≤ acc.length + bs.length
  | [], _ => Nat.le_refl _
  | d :: r, acc => by
    have h1 := seals_len b r (sealF b acc d)
    have h2 := seal_len b acc d
    rw [List.foldl_cons, List.length_cons]; omega
end Z
namespace Z
open PySem L2 SX
/-! ### walks over lines -/
def nb (L : List (Str × Str)) (x y : Str) : Prop := (x, y) ∈ L ∨ (y, x) ∈ L
theorem nb.symm {L : List (Str × Str)} {x y : Str} (h : nb L x y) : nb L y x := Or.symm h
inductive Wk (L : List (Str × Str)) : Nat → Str → Str → Prop
  | nil (x : Str) : Wk L 0 x x
  | snoc {n : Nat} {x y z : Str} : Wk L n x y → nb L y z → Wk L (n + 1) x z
theorem Wk.trans {L : List (Str × Str)} {a : Nat} {x y : Str} (h : Wk L a x y) : ∀ {b : Nat} {z : Str}, Wk L b y z → Wk L (a + b) x z := by
  intro b z k
  induction k with
  | nil => exact h
  | snoc _ e ih => exact .snoc (ih h) e
theorem Wk.symm {L : List (Str × Str)} {a : Nat} {x y : Str} (h : Wk L a x y) : Wk L a y x := by
  induction h with
  | nil => exact .nil _
  | @snoc n x y z _ e ih =>
    have := (Wk.snoc (.nil z) e.symm).trans ih
    rwa [show 0 + 1 + n = n + 1 by omega] at this
theorem Wk.zero {L : List (Str × Str)} {x y : Str} (h : Wk L 0 x y) : x = y := by cases h; rfl
theorem Wk.inv {L : List (Str × Str)} {n : Nat} {x z : Str} (h : Wk L (n + 1) x z) : ∃ y, Wk L n x y ∧ nb L y z := by
  cases h with
  | snoc a b => exact ⟨_, a, b⟩
def Dst (L : List (Str × Str)) (s y : Str) (d : Nat) : Prop := Wk L d s y ∧ ∀ k, k < d → ¬ Wk L k s y
theorem Dst.symm {L : List (Str × Str)} {s y : Str} {d : Nat} (h : Dst L s y d) : Dst L y s d := ⟨h.1.symm, fun k hk w => h.2 k hk w.symm⟩
theorem Dst.uniq {L : List (Str × Str)} {s y : Str} {d e : Nat} (h : Dst L s y d) (k : Dst L s y e) : d = e := by
  rcases Nat.lt_trichotomy d e with c | c | c
  · exact absurd h.1 (k.2 d c)
  · exact c
  · exact absurd k.1 (h.2 e c)
theorem Dst.le {L : List (Str × Str)} {s y : Str} {d e : Nat} (h : Dst L s y d) (k : Wk L e s y) : d ≤ e := by
  rcases Nat.lt_or_ge e d with c | c
  · exact absurd k (h.2 e c)
  · exact c
theorem dst_ex {L : List (Str × Str)} {s y : Str} : ∀ {d : Nat}, Wk L d s y → ∃ e, e ≤ d ∧ Dst L s y e := by
  intro d
  induction d using Nat.strongRecOn with
  | ind d ih =>
    intro h
    by_cases c : ∃ k, k < d ∧ Wk L k s y
    · obtain ⟨k, hk, w⟩ := c
      obtain ⟨e, he, q⟩ := ih k hk w
      exact ⟨e, by omega, q⟩
    · exact ⟨d, Nat.le_refl d, h, fun k hk w => c ⟨k, hk, w⟩⟩
theorem dst_self {L : List (Str × Str)} {s : Str} : Dst L s s 0 := ⟨.nil s, fun k hk => absurd hk (Nat.not_lt_zero k)⟩
/-- a step back on a shortest way -/
theorem Dst.back {L : List (Str × Str)} {s z : Str} {d : Nat} (h : Dst L s z (d + 1)) : ∃ y, nb L y z ∧ Dst L s y d := by
  obtain ⟨y, w, e⟩ := h.1.inv
  exact ⟨y, e, w, fun k hk k2 => h.2 (k + 1) (by omega) (.snoc k2 e)⟩
theorem Dst.near {L : List (Str × Str)} {s y z : Str} {d e : Nat} (h : Dst L s y d) (k : Dst L s z e) (n : nb L y z) : e ≤ d + 1 := k.le (.snoc h.1 n)
theorem nodup_len : ∀ {l m : List Str}, l.Nodup → (∀ x ∈ l, x ∈ m) → l.length ≤ m.length
  | [], m, _, _ => Nat.zero_le _
  | x :: l, m, nd, h => by
    obtain ⟨n1, n2⟩ := List.nodup_cons.mp nd
    have hx := h x (by simp)
    have := nodup_len (l := l) (m := m.erase x) n2 fun y my => (List.mem_erase_of_ne (fun e => n1 (by rw [← e]; exact my))).mpr (h y (List.mem_cons_of_mem _ my))
    have e := List.length_erase_of_mem hx
    have p := List.length_pos_of_mem hx
    rw [List.length_cons]; omega
theorem dst_chain {L : List (Str × Str)} {s : Str} {us : List Str} (hs : s ∈ us) (hu : ∀ l ∈ L, l.1 ∈ us ∧ l.2 ∈ us) : ∀ (d : Nat) (y : Str), Dst L s y d → ∃ l : List Str, l.length = d + 1 ∧ l.Nodup ∧ ∀ x ∈ l, x ∈ us ∧ ∃ e, e ≤ d ∧ Dst L s x e := by
  intro d
  induction d with
  | zero =>
    intro y h
    have e : s = y := h.1.zero
    exact ⟨[s], rfl, by simp, fun x hx => by rw [List.mem_singleton.mp hx]; exact ⟨hs, 0, Nat.le_refl _, dst_self⟩⟩
  | succ d ih =>
    intro z h
    obtain ⟨y, e, hy⟩ := h.back
    obtain ⟨l, h1, h2, h3⟩ := ih y hy
    refine ⟨z :: l, by rw [List.length_cons, h1], List.nodup_cons.mpr ⟨fun m => ?_, h2⟩, fun x hx => ?_⟩
    · obtain ⟨_, e', he, hd⟩ := h3 z m
      have := hd.uniq h
      omega
    · rcases List.mem_cons.mp hx with c | c
      · rw [c]
        refine ⟨?_, d + 1, Nat.le_refl _, h⟩
        rcases e with e | e
        · exact (hu _ e).2
        · exact (hu _ e).1
      · obtain ⟨a, e', he, hd⟩ := h3 x c
        exact ⟨a, e', by omega, hd⟩
theorem dst_lt {L : List (Str × Str)} {s y : Str} {us : List Str} {d : Nat} (hs : s ∈ us) (hu : ∀ l ∈ L, l.1 ∈ us ∧ l.2 ∈ us) (h : Dst L s y d) : d < us.length := by
  obtain ⟨l, h1, h2, h3⟩ := dst_chain hs hu d y h
  have := nodup_len h2 fun x m => (h3 x m).1
  omega
/-! ### distances found so far -/
structure Lv (L : List (Str × Str)) (s : Str) (us : List Str) (F : List (Str × Nat)) (k : Nat) (dn : Str → Str → Prop) : Prop where
  nd : (F.map (·.1)).Nodup
  us : ∀ x ∈ F, x.1 ∈ us
  ok : ∀ x ∈ F, Dst L s x.1 x.2 ∧ x.2 ≤ k + 1
  al : ∀ y d, d ≤ k → Wk L d s y → ∃ e, (y, e) ∈ F
  dn : ∀ x z, dn x z → ∃ e, (z, e) ∈ F
def DistOk (L : List (Str × Str)) (s : Str) (F : List (Str × Nat)) : Prop := (F.map (·.1)).Nodup ∧ (∀ x ∈ F, Dst L s x.1 x.2) ∧ ∀ y d, Wk L d s y → ∃ e, (y, e) ∈ F
theorem Lv.start {L : List (Str × Str)} {s : Str} {us : List Str} (hs : s ∈ us) : Lv L s us [(s, 0)] 0 fun _ _ => False := by
  refine ⟨by simp, fun x m => ?_, fun x m => ?_, fun y d hd w => ?_, fun _ _ h => h.elim⟩
  · rw [List.mem_singleton.mp m]; exact hs
  · rw [List.mem_singleton.mp m]; exact ⟨dst_self, by omega⟩
  · have : d = 0 := by omega
    subst this
    exact ⟨0, by rw [← w.zero]; simp⟩
section
variable {L : List (Str × Str)} {s : Str} {us : List Str} {F : List (Str × Nat)} {k : Nat} {dn : Str → Str → Prop}
theorem Lv.mono (h : Lv L s us F k dn) {dn' : Str → Str → Prop} (m : ∀ x z, dn' x z → dn x z ∨ ∃ e, (z, e) ∈ F) : Lv L s us F k dn' :=
  ⟨h.nd, h.us, h.ok, h.al, fun x z q => (m x z q).elim (h.dn x z) id⟩
theorem Lv.add (h : Lv L s us F k dn) (hu : ∀ l ∈ L, l.1 ∈ us ∧ l.2 ∈ us) {x z : Str} (hx : (x, k) ∈ F) (e : nb L x z) (hz : ∀ d, (z, d) ∉ F) {dn' : Str → Str → Prop} (m : ∀ a b, dn' a b → dn a b ∨ b = z) : Lv L s us (F ++ [(z, k + 1)]) k dn' := by
  refine ⟨?_, fun y hy => ?_, fun y hy => ?_, fun y d hd w => ?_, fun a b q => ?_⟩
  · rw [List.map_append, List.nodup_append]
    refine ⟨h.nd, by simp, fun a ha b hb => ?_⟩
    have : b = z := by simpa using hb
    subst this
    intro e
    subst e
    obtain ⟨p, hp, ep⟩ := List.mem_map.mp ha
    exact hz p.2 (by rw [← ep]; exact hp)
  · rcases List.mem_append.mp hy with c | c
    · exact h.us y c
    · rw [List.mem_singleton.mp c]
      rcases e with e | e
      · exact (hu _ e).2
      · exact (hu _ e).1
  · rcases List.mem_append.mp hy with c | c
    · exact h.ok y c
    · rw [List.mem_singleton.mp c]
      refine ⟨⟨.snoc (h.ok _ hx).1.1 e, fun j hj w => ?_⟩, Nat.le_refl _⟩
      obtain ⟨e', he⟩ := h.al z j (by omega) w
      exact hz e' he
  · obtain ⟨e', he⟩ := h.al y d hd w
    exact ⟨e', List.mem_append_left _ he⟩
  · rcases m a b q with c | c
    · obtain ⟨e', he⟩ := h.dn a b c
      exact ⟨e', List.mem_append_left _ he⟩
    · exact ⟨k + 1, by rw [c]; simp⟩
theorem Lv.next (h : Lv L s us F k dn) (hd : ∀ x z, (x, k) ∈ F → nb L x z → dn x z) : Lv L s us F (k + 1) fun _ _ => False := by
  refine ⟨h.nd, h.us, fun x m => ⟨(h.ok x m).1, by have := (h.ok x m).2; omega⟩, fun y d hd' w => ?_, fun _ _ q => q.elim⟩
  by_cases c : d ≤ k
  · exact h.al y d c w
  · have : d = k + 1 := by omega
    subst this
    obtain ⟨x, wx, e⟩ := w.inv
    obtain ⟨j, hj⟩ := h.al x k (Nat.le_refl _) wx
    have dj := (h.ok _ hj).1
    have lj := dj.le wx
    by_cases c2 : j = k
    · subst c2; exact h.dn x y (hd x y hj e)
    · exact h.al y (j + 1) (show j + 1 ≤ k by simp only at lj; omega) (.snoc dj.1 e)
/-- none at the last distance: all are found -/
theorem Lv.fin (h : Lv L s us F k dn) (h0 : ∀ y, (y, k) ∉ F) (h1 : ∀ y, (y, k + 1) ∉ F) (hs : ∃ e, (s, e) ∈ F) : DistOk L s F := by
  refine ⟨h.nd, fun x m => (h.ok x m).1, fun y d w => ?_⟩
  induction w with
  | nil => exact hs
  | @snoc n x y z w e ih =>
    obtain ⟨j, hj⟩ := ih h hs
    have l := (h.ok _ hj).2
    have : j ≠ k := fun e => h0 y (e ▸ hj)
    have : j ≠ k + 1 := fun e => h1 y (e ▸ hj)
    exact h.al z (j + 1) (show j + 1 ≤ k by simp only at l; omega) (.snoc (h.ok _ hj).1.1 e)
/-- as many steps as there are places: all are found -/
theorem Lv.all (h : Lv L s us F k dn) (hs : s ∈ us) (hu : ∀ l ∈ L, l.1 ∈ us ∧ l.2 ∈ us) (hk : us.length ≤ k + 1) : DistOk L s F := by
  refine ⟨h.nd, fun x m => (h.ok x m).1, fun y d w => ?_⟩
  obtain ⟨e, _, hd⟩ := dst_ex w
  have := dst_lt hs hu hd
  exact h.al y e (by omega) hd.1
theorem Lv.len (h : Lv L s us F k dn) : F.length ≤ us.length := by
  have := nodup_len h.nd (m := us) fun x m => by
    obtain ⟨p, hp, rfl⟩ := List.mem_map.mp m
    exact h.us p hp
  rwa [List.length_map] at this
end
/-! ### dicts of them -/
def fk (F : List (Str × Nat)) : List (Key × V) := F.map fun x => (Sum.inr x.1, V.int (x.2 : Nat))
theorem fk_none {F : List (Str × Nat)} {y : Str} (h : ∀ d, (y, d) ∉ F) : valV (fk F) (Sum.inr y : Key) = none := by
  unfold valV fk
  rw [Option.map_eq_none_iff, List.find?_eq_none]
  intro kv m e
  obtain ⟨p, hp, rfl⟩ := List.mem_map.mp m
  have : p.1 = y := Sum.inr.inj (of_decide_eq_true e)
  exact h p.2 (by rw [← this]; exact hp)
theorem fk_some {y : Str} {d : Nat} : ∀ {F : List (Str × Nat)}, (F.map (·.1)).Nodup → (y, d) ∈ F → valV (fk F) (Sum.inr y : Key) = some (V.int (d : Nat))
  | [], _, m => by cases m
  | p :: F, nd, m => by
    obtain ⟨n1, n2⟩ := List.nodup_cons.mp nd
    show valV ((Sum.inr p.1, V.int (p.2 : Nat)) :: fk F) _ = _
    rcases List.mem_cons.mp m with e | e
    · subst e; exact valV_pos rfl
    · rw [valV_neg fun z => n1 (by
        have : p.1 = y := Sum.inr.inj z
        show p.1 ∈ _
        rw [this]; exact List.mem_map_of_mem (f := (·.1)) e)]
      exact fk_some n2 e
theorem fk_put {F : List (Str × Nat)} {y : Str} {d : Nat} (h : ∀ e, (y, e) ∉ F) : putK (fk F) (Sum.inr y : Key) (V.int (d : Nat)) = fk (F ++ [(y, d)]) := by
  rw [putK_new _ (fk_none h)]
  unfold fk
  rw [List.map_append]; rfl
theorem fk_len (F : List (Str × Nat)) : (fk F).length = F.length := List.length_map _
/-- what is told of y -/
def Told (L : List (Str × Str)) (s y : Str) (u : V) : Prop := (∃ d : Nat, Dst L s y d ∧ u = .int (d : Nat)) ∨ (u = .non ∧ ∀ d, ¬ Wk L d s y)
theorem told_get {L : List (Str × Str)} {s : Str} {F : List (Str × Nat)} (h : DistOk L s F) (y : Str) : Told L s y ((valV (fk F) (Sum.inr y : Key)).getD .non) := by
  by_cases c : ∃ e, (y, e) ∈ F
  · obtain ⟨e, m⟩ := c
    rw [fk_some h.1 m]
    exact .inl ⟨e, h.2.1 _ m, rfl⟩
  · rw [fk_none fun d m => c ⟨d, m⟩]
    exact .inr ⟨rfl, fun d w => c (h.2.2 y d w)⟩
theorem Told.symm {L : List (Str × Str)} {s y : Str} {u : V} (h : Told L s y u) : Told L y s u := by
  rcases h with ⟨d, h, e⟩ | ⟨e, h⟩
  · exact .inl ⟨d, h.symm, e⟩
  · exact .inr ⟨e, fun d w => h d w.symm⟩
theorem Told.uniq {L : List (Str × Str)} {s y : Str} {u v : V} (h : Told L s y u) (k : Told L s y v) : u = v := by
  rcases h with ⟨d, h, e⟩ | ⟨e, h⟩ <;> rcases k with ⟨d', h', e'⟩ | ⟨e', h'⟩
  · rw [e, e', h.uniq h']
  · exact absurd h.1 (h' d)
  · exact absurd h'.1 (h d')
  · rw [e, e']
/-- the next place on the way from x to g -/
def NS (L : List (Str × Str)) (x g : Str) (u : V) : Prop := (u = .non ∧ (x = g ∨ ∀ d, ¬ Wk L d g x)) ∨
  ∃ (y : Str) (d : Nat), u = .str y ∧ Dst L g x (d + 1) ∧ nb L x y ∧ Dst L g y d ∧ ∀ z, nb L x z → Dst L g z d → ¬ tl z < tl y
theorem NS.uniq {L : List (Str × Str)} {x g : Str} {u v : V} (h : NS L x g u) (k : NS L x g v) : u = v := by
  rcases h with ⟨e, h⟩ | ⟨y, d, e, h1, h2, h3, h4⟩ <;> rcases k with ⟨e', h'⟩ | ⟨y', d', e', h1', h2', h3', h4'⟩
  · rw [e, e']
  · rcases h with h | h
    · subst h; have := h1'.uniq dst_self; omega
    · exact absurd h1'.1 (h _)
  · rcases h' with h | h
    · subst h; have := h1.uniq dst_self; omega
    · exact absurd h1.1 (h _)
  · have : d = d' := by have := h1.uniq h1'; omega
    subst this
    have a := h4 y' h2' h3'
    have b := h4' y h2 h3
    have : tl y = tl y' := List.le_antisymm (List.not_lt.mp a) (List.not_lt.mp b)
    rw [e, e', tl_ext this]
theorem near_iff {b : Bk} {x y : Str} : y ∈ nearL b x ↔ nb b.ln x y := by
  unfold nearL nb
  rw [List.mem_append, List.mem_map, List.mem_map]
  constructor
  · rintro (⟨l, hl, e⟩ | ⟨l, hl, e⟩)
    · obtain ⟨h1, h2⟩ := List.mem_filter.mp hl
      have : l.1 = x := of_decide_eq_true h2
      exact .inl (by rw [← this, ← e]; exact h1)
    · obtain ⟨h1, h2⟩ := List.mem_filter.mp hl
      have : l.2 = x := of_decide_eq_true h2
      exact .inr (by rw [← this, ← e]; exact h1)
  · rintro (h | h)
    · exact .inl ⟨(x, y), List.mem_filter.mpr ⟨h, decide_eq_true rfl⟩, rfl⟩
    · exact .inr ⟨(y, x), List.mem_filter.mpr ⟨h, decide_eq_true rfl⟩, rfl⟩
/-! ### books with lines between their sites -/
def nms (b : Bk) : List Str := b.si.map (·.n)
structure Net (b : Bk) : Prop where
  ok : BkOk b
  nd : (nms b).Nodup
  ne : b.si ≠ []
  ln : ∀ l ∈ b.ln, l.1 ∈ nms b ∧ l.2 ∈ nms b
theorem sput {H H' : Hp} {a : Addr} {o : HO} (h : Same H H') (n : H a = none) : Same H (upd H' a o) := fun b u hb => by
  rw [upd_ne (ne_of_none hb n)]; exact h b u hb
theorem tk_upd {K : PySem.W.Frag} {H : Hp} {p : Addr} {u o : HO} (h : H p = some u) (n1 : ∀ xs, u ≠ .tup xs) (n2 : ∀ o w, u ≠ .frz o w) : TK K H (upd H p o) := fun a xs q => by
  rcases q with (q | ⟨o', q⟩) | q
  · exact .inl (.inl (by rw [upd_ne (fun e => by rw [e, h] at q; exact n1 _ (Option.some.inj q))]; exact q))
  · exact .inl (.inr ⟨o', by rw [upd_ne (fun e => by rw [e, h] at q; exact n2 _ _ (Option.some.inj q))]; exact q⟩)
  · exact .inr q
def sp53_distances (K : PySem.W.Frag) : Sp := fun vs H Q _ => ∃ (b : Bk) (v : V) (s : Str), vs = [v, .str s] ∧ DV K H (bkD b) v ∧ Net b ∧ s ∈ nms b ∧ ∀ (p : Addr) (F : List (Str × Nat)) (H' : Hp), H p = none → Same H H' → H' p = some (.dK (fk F)) → DistOk b.ln s F → Q (.ref p) H'
def sp53_distance (K : PySem.W.Frag) : Sp := fun vs H Q _ => ∃ (b : Bk) (v : V) (s y : Str), vs = [v, .str s, .str y] ∧ DV K H (bkD b) v ∧ Net b ∧ s ∈ nms b ∧ ∀ (u : V) (H' : Hp), Same H H' → Told b.ln s y u → Q u H'
def sp53_next_site (K : PySem.W.Frag) : Sp := fun vs H Q _ => ∃ (b : Bk) (v : V) (x g : Str), vs = [v, .str x, .str g] ∧ DV K H (bkD b) v ∧ Net b ∧ g ∈ nms b ∧ ∀ (u : V) (H' : Hp), Same H H' → NS b.ln x g u → Q u H'
def sp53_spread (K : PySem.W.Frag) : Sp := sp53_distances K
def sp53_onward (K : PySem.W.Frag) : Sp := fun vs H Q _ => ∃ (b : Bk) (v : V) (p : Addr) (x g : Str) (F : List (Str × Nat)), vs = [v, .ref p, .str x] ∧ DV K H (bkD b) v ∧ Net b ∧ H p = some (.dK (fk F)) ∧ DistOk b.ln g F ∧ ∀ (u : V) (H' : Hp), Same H H' → NS b.ln x g u → Q u H'
def sp53_route (K : PySem.W.Frag) : Sp := fun vs H Q _ => ∃ (b : Bk) (v : V) (x g : Str), vs = [v, .str x, .str g] ∧ DV K H (bkD b) v ∧ Net b ∧ x ∈ nms b ∧ g ∈ nms b ∧ ∀ (H' : Hp), Same H H' → Q (.bl true) H'
theorem map_get {α : Type} {f : α → V} {l : List α} {i : Nat} {x : V} (h : (l.map f)[i]? = some x) : ∃ y, l[i]? = some y ∧ x = f y := by
  rw [List.getElem?_map] at h
  cases e : l[i]? with
  | none => rw [e] at h; cases h
  | some y => rw [e] at h; exact ⟨y, rfl, (Option.some.inj h).symm⟩
theorem filt_step2 {α : Type} {p : α → Bool} {l : List α} {i : Nat} {x : α} (e : l[i]? = some x) : (l.take (i + 1)).filter p = (l.take i).filter p ++ (if p x = true then [x] else []) := by
  rw [List.take_add_one, e, List.filter_append]
  congr 1
  by_cases c : p x = true
  · rw [if_pos c]; exact List.filter_eq_self.mpr fun y hy => by rw [List.mem_singleton.mp hy]; exact c
  · rw [if_neg c]; exact List.filter_eq_nil_iff.mpr fun y hy => by rw [List.mem_singleton.mp hy]; exact c
/-- y is a step nearer -/
noncomputable def hit (F : List (Str × Nat)) (D : Nat) (y : Str) : Bool := @decide (∃ d, D = d + 1 ∧ (y, d) ∈ F) (Classical.propDecidable _)
theorem hit_iff {F : List (Str × Nat)} {D : Nat} {y : Str} : hit F D y = true ↔ ∃ d, D = d + 1 ∧ (y, d) ∈ F := by
  unfold hit; exact @decide_eq_true_iff _ (Classical.propDecidable _)
theorem mem_uniq {y : Str} {d e : Nat} : ∀ {F : List (Str × Nat)}, (F.map (·.1)).Nodup → (y, d) ∈ F → (y, e) ∈ F → d = e
  | [], _, m, _ => by cases m
  | p :: F, nd, m, k => by
    obtain ⟨n1, n2⟩ := List.nodup_cons.mp nd
    have no : ∀ {e : Nat}, (y, e) ∈ F → p.1 ≠ y := fun {e} z w => n1 (by show p.1 ∈ _; rw [w]; exact List.mem_map_of_mem (f := (·.1)) z)
    rcases List.mem_cons.mp m with e1 | e1 <;> rcases List.mem_cons.mp k with e2 | e2
    · exact (Prod.mk.inj (e1.trans e2.symm)).2
    · exact absurd (by rw [← e1]) (no e2)
    · exact absurd (by rw [← e2]) (no e1)
    · exact mem_uniq n2 e1 e2
theorem hit_val {F : List (Str × Nat)} {D e : Nat} {y : Str} (nd : (F.map (·.1)).Nodup) (h : (y, e) ∈ F) : decide (V.int (e : Nat) = V.int ((D : Nat) - 1)) = hit F D y := by
  rw [Bool.eq_iff_iff, decide_eq_true_iff, hit_iff]
  constructor
  · intro q
    have := V.int.inj q
    exact ⟨e, by omega, h⟩
  · rintro ⟨d, rfl, m⟩
    rw [mem_uniq nd h m]
    show V.int _ = V.int _
    congr 1; omega
theorem ns_some {L : List (Str × Str)} {g x y : Str} {F : List (Str × Nat)} {D : Nat} (h : DistOk L g F) (hx : (x, D) ∈ F) (hy : nb L x y) (hh : hit F D y = true) (hm : ∀ z, nb L x z → hit F D z = true → ¬ tl z < tl y) : NS L x g (.str y) := by
  obtain ⟨d, rfl, m⟩ := hit_iff.mp hh
  refine .inr ⟨y, d, rfl, h.2.1 _ hx, hy, h.2.1 _ m, fun z hz hd => hm z hz (hit_iff.mpr ⟨d, rfl, ?_⟩)⟩
  obtain ⟨e, he⟩ := h.2.2 z d hd.1
  have := (h.2.1 _ he).uniq hd
  simp only at this
  rw [← this]; exact he
theorem ns_none {L : List (Str × Str)} {g x : Str} {F : List (Str × Nat)} {D : Nat} (h : DistOk L g F) (hx : (x, D) ∈ F) (hn : ∀ y, nb L x y → hit F D y = false) : NS L x g .non := by
  have dx := h.2.1 _ hx
  cases D with
  | zero => exact .inl ⟨rfl, .inl dx.1.zero.symm⟩
  | succ d =>
    obtain ⟨y, e, hd⟩ := dx.back
    obtain ⟨j, hj⟩ := h.2.2 y d hd.1
    have := (h.2.1 _ hj).uniq hd
    simp only at this
    have t := hn y e.symm
    rw [hit_iff.mpr ⟨j, by rw [this], hj⟩] at t
    cases t
theorem ns_far {L : List (Str × Str)} {g x : Str} {F : List (Str × Nat)} (h : DistOk L g F) (hx : ∀ d, (x, d) ∉ F) : NS L x g .non :=
  .inl ⟨rfl, .inr fun d w => by obtain ⟨e, he⟩ := h.2.2 x d w; exact hx e he⟩
theorem sorted_first {y : Str} {r : List Str} (h : (y :: r).Pairwise fun a b => PySem.Spec.ltCps b.cps.toList a.cps.toList = false) : ∀ z ∈ y :: r, ¬ tl z < tl y := fun z hz => by
  rcases List.mem_cons.mp hz with e | e
  · rw [e]; exact fun q => List.lt_irrefl _ q
  · have := (List.pairwise_cons.mp h).1 z e
    rw [PyProof.Rows.ltCps_eq] at this
    exact of_decide_eq_false this
theorem iG {c : Bool} {A B : Prop} (h : c = true) (a : A) : if c = true then A else B := by rw [if_pos h]; exact a
theorem iN {c : Bool} {A B : Prop} (h : c = false) (b : B) : if c = true then A else B := by rw [if_neg (by rw [h]; exact Bool.false_ne_true)]; exact b
def sp53_lines (K : PySem.W.Frag) : Sp := fun vs H Q _ => ∃ (s a u : Addr) (us : List Str) (c : Nat), vs = [.ref s, .ref u] ∧ SqL K H u (us.map V.str) ∧ u ≠ s ∧ 1 ≤ us.length ∧ us.length ≤ 9 ∧ (∀ x ∈ us, Low (tl x)) ∧ Src H s a (c + 100) ∧
  ∀ (L : Addr) (ws : List V) (ls : List (Str × Str)) (H' : Hp), H L = none → H' L = some (.lst ws) → DVs K H' (ls.map lnD) ws → ls.length ≤ 20 → (∀ l ∈ ls, l.1 ∈ us ∧ l.2 ∈ us) → Ext s H H' → Src H' s a c → Q (.ref L) H'
def sp53_book (K : PySem.W.Frag) : Sp := fun vs H Q _ => ∃ (s a w : Addr) (ws : List Str) (m : Nat) (c : Nat), vs = [.ref s, .int (m : Int), .ref w] ∧ 1 ≤ m ∧ m ≤ 9 ∧ SqL K H w (ws.map V.str) ∧ w ≠ s ∧ Wds ws ∧ Src H s a (c + 30000) ∧
  ∀ (v : V) (b : Bk) (H' : Hp), DV K H' (bkD b) v → Net b → b.ln.length ≤ 20 → Ext s H H' → Src H' s a c → Q v H'
def sp53_over (K : PySem.W.Frag) : Sp := fun vs H Q _ => ∃ (b : Bk) (v : V) (L : Addr) (ws : List V) (ls : List (Str × Str)), vs = [v, .ref L] ∧ DV K H (bkD b) v ∧ BkOk b ∧ SqL K H L ws ∧ DVs K H (ls.map lnD) ws ∧ ls.length ≤ 30 ∧ (∀ l ∈ ls, Low (tl l.1) ∧ Low (tl l.2)) ∧
  ∀ (u : V) (fs : List Fd) (H' : Hp), DV K H' (bkD { b with ln := ls, fd := fs }) u → fs.length ≤ 100 → (∀ f ∈ fs, f ∈ b.fd) → Same H H' → Q u H'
def sp53_change (K : PySem.W.Frag) : Sp := fun vs H Q _ => ∃ (s a : Addr) (b : Bk) (v : V) (c : Nat), vs = [.ref s, v] ∧ DV K H (bkD b) v ∧ Net b ∧ b.ln.length ≤ 29 ∧ Src H s a (c + 100) ∧
  ∀ (u : V) (b' : Bk) (H' : Hp), DV K H' (bkD b') u → Net b' → nms b' = nms b → b'.ln.length ≤ b.ln.length + 1 → Ext s H H' → Src H' s a c → Q u H'
theorem alike_ln (b c : Str × Str) : PySem.W.alike (py (lnD b)) (py (lnD c)) = true := by simp [lnD, py, pys, PySem.W.alike, PySem.W.alikeAll]
theorem depth_ln (b : Str × Str) : (py (lnD b)).depth ≤ 60 := by simp [lnD, py, pys, PyData.depth, PyData.depthAll]
end Z
namespace Z
open PySem L2 SX
/-! ### addresses -/
def adr (p s : Str) : Str := p ++ Str.ofString "@" ++ s
def at2 (a : Str × Str) : Str := adr a.1 a.2
theorem tl_adr (p s : Str) : tl (adr p s) = tl p ++ 64 :: tl s := by
  unfold adr
  rw [tl_app, tl_app]
  show (tl p ++ [64]) ++ tl s = _
  rw [List.append_assoc]; rfl
theorem low_at {l : List Nat} (h : Low l) : ∀ c ∈ l, c ≠ 64 := fun c hc e => by
  have := h c hc
  omega
theorem par_at : ∀ (l acc r : List Nat), (∀ c ∈ l, c ≠ 64) → TL.par [64] acc (l ++ 64 :: r) = some (acc ++ l, r)
  | [], acc, r, _ => by
    rw [List.nil_append, List.append_nil]
    show (if TL.pre [64] (64 :: r) = true then some (acc, (64 :: r).drop 1) else _) = _
    rw [if_pos (by simp [TL.pre])]; rfl
  | c :: l, acc, r, h => by
    have hc := h c (by simp)
    rw [List.cons_append]
    show (if TL.pre [64] (c :: (l ++ 64 :: r)) = true then _ else TL.par [64] (acc ++ [c]) (l ++ 64 :: r)) = _
    rw [if_neg (by simp [TL.pre]; omega), par_at l (acc ++ [c]) r fun d m => h d (List.mem_cons_of_mem _ m), List.append_assoc]; rfl
theorem par_adr {p s : Str} (h : Low (tl p)) : TL.par [64] [] (tl (adr p s)) = some (tl p, tl s) := by
  rw [tl_adr, par_at _ _ _ (low_at h), List.nil_append]
theorem spl_none : ∀ (l acc : List Nat), (∀ c ∈ l, c ≠ 64) → TL.spl [64] 0 acc l = [acc ++ l]
  | [], acc, _ => by rw [TL.spl_nil, List.append_nil]
  | c :: l, acc, h => by
    have hc := h c (by simp)
    rw [TL.spl_miss (by simp [TL.pre]; omega), spl_none l (acc ++ [c]) fun d m => h d (List.mem_cons_of_mem _ m), List.append_assoc]; rfl
theorem spl_at : ∀ (l acc r : List Nat), (∀ c ∈ l, c ≠ 64) → (∀ c ∈ r, c ≠ 64) → TL.spl [64] 0 acc (l ++ 64 :: r) = [acc ++ l, r]
  | [], acc, r, _, hr => by
    rw [List.nil_append, List.append_nil, TL.spl_hit (by simp [TL.pre])]
    show acc :: TL.spl [64] 0 [] r = _
    rw [spl_none r [] hr]; rfl
  | c :: l, acc, r, h, hr => by
    have hc := h c (by simp)
    rw [List.cons_append, TL.spl_miss (by simp [TL.pre]; omega), spl_at l (acc ++ [c]) r (fun d m => h d (List.mem_cons_of_mem _ m)) hr, List.append_assoc]; rfl
theorem split_adr {p s : Str} (h : Low (tl p)) (k : Low (tl s)) : Txt.split (adr p s) (Str.ofString "@") = [p, s] := by
  have e := split_S (a := tl (adr p s)) (b := [64]) (by decide) (by decide)
  rw [S_tl] at e
  rw [show Str.ofString "@" = S [64] from rfl, e, tl_adr, spl_at _ _ _ (low_at h) (low_at k)]
  show [S ([] ++ tl p), S (tl s)] = _
  rw [List.nil_append, S_tl, S_tl]
theorem part_adr {p s : Str} (h : Low (tl p)) : Txt.partition (adr p s) (Str.ofString "@") = (p, Str.ofString "@", s) := by
  have e := partition_some (a := tl (adr p s)) (b := [64]) (by decide) (par_adr (s := s) h)
  rw [S_tl, S_tl, S_tl] at e
  exact e
theorem at2_inj {a b : Str × Str} (ha : Low (tl a.1)) (hb : Low (tl b.1)) (h : at2 a = at2 b) : a = b := by
  have e1 := par_adr (p := a.1) (s := a.2) ha
  have e2 := par_adr (p := b.1) (s := b.2) hb
  unfold at2 at h
  rw [h, e2] at e1
  have := Option.some.inj e1
  obtain ⟨h1, h2⟩ := Prod.mk.inj this
  exact (Prod.ext (tl_ext h1) (tl_ext h2)).symm
/-! ### lists -/
structure Li where
  h : Str × Str
  d : Option Str
  m : List (Str × Str)
def optS : Option Str → D
  | none => .non
  | some x => .str x
def liD (x : Li) : D := .tup [.str (Str.ofString "list"), .str (at2 x.h), optS x.d, .tup (x.m.map fun a => .str (at2 a))]
structure AOk (ns : List Str) (a : Str × Str) : Prop where
  p : Low (tl a.1)
  s : Low (tl a.2)
  i : a.2 ∈ ns
  l : (tl a.1).length ≤ 100 ∧ (tl a.2).length ≤ 100
structure NetL (b : Bk) (ls : List Li) : Prop where
  net : Net b
  li : b.li = ls.map liD
  ho : ∀ x ∈ ls, AOk (nms b) x.h
  bo : ∀ x ∈ ls, ∀ d, x.d = some d → Clean (tl d)
  me : ∀ x ∈ ls, ∀ a ∈ x.m, AOk (nms b) a
  nd : (ls.map (·.h)).Nodup
  ln : ls.length ≤ 10
  ml : ∀ x ∈ ls, x.m.length ≤ 20
def Rr (L : List (Str × Str)) (x y : Str) : Prop := ∃ d, Wk L d x y
theorem dist_rr {L : List (Str × Str)} {s : Str} {F : List (Str × Nat)} (h : DistOk L s F) (y : Str) : y ∈ F.map (·.1) ↔ Rr L s y := by
  constructor
  · intro m
    obtain ⟨x, hx, rfl⟩ := List.mem_map.mp m
    exact ⟨_, (h.2.1 x hx).1⟩
  · rintro ⟨d, w⟩
    obtain ⟨e, he⟩ := h.2.2 y d w
    exact List.mem_map_of_mem (f := (·.1)) he
noncomputable def cB (p : Prop) : Bool := @decide p (Classical.propDecidable p)
theorem cB_t {p : Prop} (h : p) : cB p = true := by unfold cB; exact @decide_eq_true p (Classical.propDecidable p) h
theorem cB_f {p : Prop} (h : ¬ p) : cB p = false := by unfold cB; exact @decide_eq_false p (Classical.propDecidable p) h
theorem cB_iff {p : Prop} : cB p = true ↔ p := ⟨fun h => by
  by_cases c : p
  · exact c
  · rw [cB_f c] at h; exact absurd h Bool.false_ne_true, cB_t⟩
noncomputable def nearM (b : Bk) (e : Li) : List (Str × Str) := e.m.filter fun a => cB (Rr b.ln e.h.2 a.2)
theorem nearM_iff {b : Bk} {e : Li} {a : Str × Str} : a ∈ nearM b e ↔ a ∈ e.m ∧ Rr b.ln e.h.2 a.2 := by
  unfold nearM; rw [List.mem_filter, cB_iff]
/-- who is met from here -/
inductive Mt (b : Bk) (ls : List Li) (h0 : Str × Str) : Str × Str → Prop
  | own : Mt b ls h0 h0
  | step {e : Li} {a : Str × Str} : e ∈ ls → Mt b ls h0 e.h → a ∈ nearM b e → a ∈ ls.map (·.h) → Mt b ls h0 a
def Per (b : Bk) (ls : List Li) (h0 a : Str × Str) : Prop := a ∉ ls.map (·.h) ∧ ∃ e ∈ ls, Mt b ls h0 e.h ∧ a ∈ nearM b e
def PerOk (b : Bk) (ls : List Li) (h0 : Str × Str) (cs : List Str) : Prop := cs.Nodup ∧ ∀ y, y ∈ cs ↔ ∃ a, Per b ls h0 a ∧ y = at2 a
theorem pwu {α : Type} {r : α → α → Prop} (an : ∀ a b, r a b → r b a → a = b) : ∀ {l m : List α}, l.Perm m → l.Pairwise r → m.Pairwise r → l = m
  | [], m, p, _, _ => p.nil_eq
  | y :: l, [], p, _, _ => absurd p.symm.nil_eq (by simp)
  | y :: l, z :: m, p, hy, hz => by
    obtain ⟨y1, y2⟩ := List.pairwise_cons.mp hy
    obtain ⟨z1, z2⟩ := List.pairwise_cons.mp hz
    have e : y = z := by
      rcases List.mem_cons.mp (p.mem_iff.mp (List.mem_cons_self (a := y))) with e | e
      · exact e
      · rcases List.mem_cons.mp (p.mem_iff.mpr (List.mem_cons_self (a := z))) with e2 | e2
        · exact e2.symm
        · exact an _ _ (y1 z e2) (z1 y e)
    subst e
    rw [pwu an ((List.perm_cons y).mp p) y2 z2]
/-- the same names, sorted -/
theorem sort_same {cs ds : List Str} (h1 : cs.Nodup) (h2 : ds.Nodup) (h : ∀ y, y ∈ cs ↔ y ∈ ds) : cs.mergeSort (dle D.str) = ds.mergeSort (dle D.str) := by
  have p : cs.Perm ds := (List.perm_ext_iff_of_nodup h1 h2).mpr h
  refine pwu (r := fun a b => dle D.str a b = true) (fun a b h k => ?_) ((sort_perm D.str cs).trans (p.trans (sort_perm D.str ds).symm)) (sort_pw D.str cs) (sort_pw D.str ds)
  have h : (!decide (tl b < tl a)) = true := by rw [← dle_str (f := fun x => x)]; exact h
  have k : (!decide (tl a < tl b)) = true := by rw [← dle_str (f := fun x => x)]; exact k
  simp only [Bool.not_eq_true', decide_eq_false_iff_not] at h k
  exact tl_ext (List.le_antisymm (List.not_lt.mp h) (List.not_lt.mp k))
theorem PerOk.same {b : Bk} {ls : List Li} {h0 : Str × Str} {cs ds : List Str} (h : PerOk b ls h0 cs) (k : PerOk b ls h0 ds) : cs.mergeSort (dle D.str) = ds.mergeSort (dle D.str) :=
  sort_same h.1 k.1 fun y => (h.2 y).trans (k.2 y).symm
def liOf (ls : List Li) (a : Str × Str) : Option Li := ls.find? fun x => decide (x.h = a)
theorem liOf_none {ls : List Li} {a : Str × Str} : liOf ls a = none ↔ a ∉ ls.map (·.h) := by
  unfold liOf
  rw [List.find?_eq_none]
  constructor
  · intro h m
    obtain ⟨x, hx, e⟩ := List.mem_map.mp m
    exact h x hx (decide_eq_true e)
  · intro h x hx e
    exact h (by rw [← of_decide_eq_true e]; exact List.mem_map_of_mem (f := (·.h)) hx)
theorem liOf_some {ls : List Li} {a : Str × Str} {x : Li} (h : liOf ls a = some x) : x ∈ ls ∧ x.h = a :=
  ⟨List.mem_of_find?_eq_some h, by
    have := List.find?_some h
    exact of_decide_eq_true this⟩
theorem li_one {ls : List Li} (nd : (ls.map (·.h)).Nodup) {x y : Li} (hx : x ∈ ls) (hy : y ∈ ls) (e : x.h = y.h) : x = y := by
  obtain ⟨i, hi⟩ := List.getElem?_of_mem hx
  obtain ⟨j, hj⟩ := List.getElem?_of_mem hy
  have : (ls.map (·.h))[i]? = (ls.map (·.h))[j]? := by rw [List.getElem?_map, List.getElem?_map, hi, hj]; exact congrArg some e
  have := (List.getElem?_inj (by rw [List.length_map]; exact (List.getElem?_eq_some_iff.mp hi).1) nd).mp this
  subst this
  rw [hi] at hj
  exact Option.some.inj hj
theorem pair_len : ∀ {l m : List (Str × Str)}, l.Nodup → (∀ x ∈ l, x ∈ m) → l.length ≤ m.length
  | [], m, _, _ => Nat.zero_le _
  | x :: l, m, nd, h => by
    obtain ⟨n1, n2⟩ := List.nodup_cons.mp nd
    have hx := h x (by simp)
    have := pair_len (l := l) (m := m.erase x) n2 fun y my => (List.mem_erase_of_ne (fun e => n1 (by rw [← e]; exact my))).mpr (h y (List.mem_cons_of_mem _ my))
    have e := List.length_erase_of_mem hx
    have p := List.length_pos_of_mem hx
    rw [List.length_cons]; omega
/-! ### the program's search: M met, F left, P persons -/
structure Se (b : Bk) (ls : List Li) (h0 : Str × Str) (M F P : List (Str × Str)) (at_ : Option Li) (i : Nat) : Prop where
  nd : M.Nodup
  hz : h0 ∈ M
  mt : ∀ a ∈ M, a ∈ ls.map (·.h) → Mt b ls h0 a
  pe : ∀ a ∈ M, a ∉ ls.map (·.h) → Per b ls h0 a
  fm : ∀ a ∈ F, a ∈ M ∧ a ∈ ls.map (·.h)
  pn : P.Nodup
  pm : ∀ a, a ∈ P ↔ a ∈ M ∧ a ∉ ls.map (·.h)
  dn : ∀ e ∈ ls, e.h ∈ M → e.h ∈ F ∨ (∃ x, at_ = some x ∧ e = x ∧ ∀ a ∈ (nearM b e).take i, a ∈ M) ∨ ∀ a ∈ nearM b e, a ∈ M
theorem Se.start {b : Bk} {ls : List Li} {h0 : Str × Str} (hh : h0 ∈ ls.map (·.h)) : Se b ls h0 [h0] [h0] [] none 0 := by
  refine ⟨by simp, by simp, fun a m _ => ?_, fun a m n => ?_, fun a m => ?_, List.nodup_nil, fun a => ⟨(fun h => by cases h), fun h => ?_⟩, fun e _ m => .inl m⟩
  · rw [List.mem_singleton.mp m]; exact .own
  · rw [List.mem_singleton.mp m] at n; exact absurd hh n
  · rw [List.mem_singleton.mp m]; exact ⟨by simp, hh⟩
  · rw [List.mem_singleton.mp h.1] at h; exact absurd hh h.2
/-- one is taken off -/
theorem Se.take {b : Bk} {ls : List Li} {h0 a : Str × Str} {M F P : List (Str × Str)} (h : Se b ls h0 M (F ++ [a]) P none 0) {x : Li} (hx : x ∈ ls) (ex : x.h = a) (nd : (ls.map (·.h)).Nodup) : Se b ls h0 M F P (some x) 0 := by
  refine ⟨h.nd, h.hz, h.mt, h.pe, fun c m => h.fm c (List.mem_append_left _ m), h.pn, h.pm, fun e he m => ?_⟩
  rcases h.dn e he m with c | ⟨_, c, _⟩ | c
  · rcases List.mem_append.mp c with c | c
    · exact .inl c
    · refine .inr (.inl ⟨x, rfl, li_one nd he hx (by rw [ex, List.mem_singleton.mp c]), fun a m => by rw [List.take_zero] at m; cases m⟩)
  · cases c
  · exact .inr (.inr c)
theorem Se.done {b : Bk} {ls : List Li} {h0 : Str × Str} {M F P : List (Str × Str)} {x : Li} (h : Se b ls h0 M F P (some x) (nearM b x).length) : Se b ls h0 M F P none 0 := by
  refine ⟨h.nd, h.hz, h.mt, h.pe, h.fm, h.pn, h.pm, fun e he m => ?_⟩
  rcases h.dn e he m with c | ⟨y, c, rfl, k⟩ | c
  · exact .inl c
  · obtain rfl := Option.some.inj c
    rw [List.take_length] at k
    exact .inr (.inr k)
  · exact .inr (.inr c)
theorem Se.skip {b : Bk} {ls : List Li} {h0 a : Str × Str} {M F P : List (Str × Str)} {x : Li} {i : Nat} (h : Se b ls h0 M F P (some x) i) (ha : (nearM b x)[i]? = some a) (m : a ∈ M) : Se b ls h0 M F P (some x) (i + 1) := by
  refine ⟨h.nd, h.hz, h.mt, h.pe, h.fm, h.pn, h.pm, fun e he me => ?_⟩
  rcases h.dn e he me with c | ⟨y, c, rfl, k⟩ | c
  · exact .inl c
  · obtain rfl := Option.some.inj c
    refine .inr (.inl ⟨_, rfl, rfl, fun z mz => ?_⟩)
    rw [List.take_add_one, ha] at mz
    rcases List.mem_append.mp mz with q | q
    · exact k z q
    · rw [List.mem_singleton.mp q]; exact m
  · exact .inr (.inr c)
theorem Se.grow {b : Bk} {ls : List Li} {h0 a : Str × Str} {M F P F' P' : List (Str × Str)} {x : Li} {i : Nat} (h : Se b ls h0 M F P (some x) i) (hx : x ∈ ls) (xm : x.h ∈ M) (ha : (nearM b x)[i]? = some a) (no : a ∉ M)
    (c : (a ∈ ls.map (·.h) ∧ F' = F ++ [a] ∧ P' = P) ∨ (a ∉ ls.map (·.h) ∧ F' = F ∧ P' = P ++ [a])) : Se b ls h0 (M ++ [a]) F' P' (some x) (i + 1) := by
  have an := List.mem_of_getElem? ha
  have mx : Mt b ls h0 x.h := h.mt _ xm (List.mem_map_of_mem (f := (·.h)) hx)
  have up : ∀ {z}, z ∈ M → z ∈ M ++ [a] := fun m => List.mem_append_left _ m
  have fs : ∀ {z}, z ∈ F → z ∈ F' := fun m => by
    rcases c with ⟨_, c, _⟩ | ⟨_, c, _⟩
    · rw [c]; exact List.mem_append_left _ m
    · rw [c]; exact m
  refine ⟨?_, up h.hz, fun z mz hz => ?_, fun z mz hz => ?_, fun z mz => ?_, ?_, fun z => ?_, fun e he me => ?_⟩
  · rw [List.nodup_append]
    exact ⟨h.nd, by simp, fun y hy z hz e => no (by rw [← List.mem_singleton.mp hz, ← e]; exact hy)⟩
  · rcases List.mem_append.mp mz with q | q
    · exact h.mt z q hz
    · rw [List.mem_singleton.mp q] at hz ⊢; exact .step hx mx an hz
  · rcases List.mem_append.mp mz with q | q
    · exact h.pe z q hz
    · rw [List.mem_singleton.mp q] at hz ⊢; exact ⟨hz, x, hx, mx, an⟩
  · rcases c with ⟨c1, c2, _⟩ | ⟨_, c2, _⟩
    · rw [c2] at mz
      rcases List.mem_append.mp mz with q | q
      · exact ⟨up (h.fm z q).1, (h.fm z q).2⟩
      · rw [List.mem_singleton.mp q]; exact ⟨by simp, c1⟩
    · rw [c2] at mz
      exact ⟨up (h.fm z mz).1, (h.fm z mz).2⟩
  · rcases c with ⟨_, _, c2⟩ | ⟨c1, _, c2⟩
    · rw [c2]; exact h.pn
    · rw [c2, List.nodup_append]
      exact ⟨h.pn, by simp, fun y hy z hz e => no (by rw [← List.mem_singleton.mp hz, ← e]; exact ((h.pm y).mp hy).1)⟩
  · rcases c with ⟨c1, _, c2⟩ | ⟨c1, _, c2⟩
    · rw [c2, h.pm, List.mem_append, List.mem_singleton]
      exact ⟨fun q => ⟨.inl q.1, q.2⟩, fun ⟨q1, q2⟩ => ⟨q1.elim id fun e => absurd (e ▸ c1) q2, q2⟩⟩
    · rw [c2, List.mem_append, List.mem_singleton, h.pm, List.mem_append, List.mem_singleton]
      constructor
      · rintro (q | q)
        · exact ⟨.inl q.1, q.2⟩
        · exact ⟨.inr q, q ▸ c1⟩
      · rintro ⟨q1 | q1, q2⟩
        · exact .inl ⟨q1, q2⟩
        · exact .inr q1
  · have old : e.h ∈ M → e.h ∈ F' ∨ (∃ y, some x = some y ∧ e = y ∧ ∀ z ∈ (nearM b e).take (i + 1), z ∈ M ++ [a]) ∨ ∀ z ∈ nearM b e, z ∈ M ++ [a] := fun me => by
      rcases h.dn e he me with c | ⟨y, c, rfl, k⟩ | c
      · exact .inl (fs c)
      · obtain rfl := Option.some.inj c
        refine .inr (.inl ⟨_, rfl, rfl, fun z mz => ?_⟩)
        rw [List.take_add_one, ha] at mz
        rcases List.mem_append.mp mz with q | q
        · exact up (k z q)
        · rw [List.mem_singleton.mp q]; simp
      · exact .inr (.inr fun z mz => up (c z mz))
    rcases List.mem_append.mp me with q | q
    · exact old q
    · have eh := List.mem_singleton.mp q
      have ih : a ∈ ls.map (·.h) := by rw [← eh]; exact List.mem_map_of_mem (f := (·.h)) he
      rcases c with ⟨_, c2, _⟩ | ⟨c1, _⟩
      · exact .inl (by rw [c2, eh]; simp)
      · exact absurd ih c1
theorem Se.fin {b : Bk} {ls : List Li} {h0 : Str × Str} {M P : List (Str × Str)} (h : Se b ls h0 M [] P none 0) : P.Nodup ∧ ∀ a, a ∈ P ↔ Per b ls h0 a := by
  have al : ∀ a, Mt b ls h0 a → a ∈ M := fun a ha => by
    induction ha with
    | own => exact h.hz
    | @step e a he _ an hz ih =>
      rcases h.dn e he ih with c | ⟨_, c, _⟩ | c
      · cases c
      · cases c
      · exact c a an
  refine ⟨h.pn, fun a => (h.pm a).trans ⟨fun q => h.pe a q.1 q.2, fun q => ?_⟩⟩
  obtain ⟨n, e, he, me, an⟩ := q
  rcases h.dn e he (al _ me) with c | ⟨_, c, _⟩ | c
  · cases c
  · cases c
  · exact ⟨c a an, n⟩
/-! ### the law's own search, round by round -/
def Clo (b : Bk) (ls : List Li) (M P : List (Str × Str)) : Prop := ∀ e ∈ ls, e.h ∈ M → ∀ a ∈ nearM b e, a ∈ M ∨ a ∈ P
structure Ro (b : Bk) (ls : List Li) (h0 : Str × Str) (M P : List (Str × Str)) : Prop where
  nd : M.Nodup
  hz : h0 ∈ M
  hm : ∀ a ∈ M, a ∈ ls.map (·.h)
  mt : ∀ a ∈ M, Mt b ls h0 a
  pn : P.Nodup
  pe : ∀ a ∈ P, Per b ls h0 a
theorem Ro.start {b : Bk} {ls : List Li} {h0 : Str × Str} (hh : h0 ∈ ls.map (·.h)) : Ro b ls h0 [h0] [] :=
  ⟨by simp, by simp, fun a m => by rw [List.mem_singleton.mp m]; exact hh, fun a m => by rw [List.mem_singleton.mp m]; exact .own, List.nodup_nil, (fun _ h => by cases h)⟩
theorem Ro.len {b : Bk} {ls : List Li} {h0 : Str × Str} {M P : List (Str × Str)} (h : Ro b ls h0 M P) : M.length ≤ ls.length := by
  have := pair_len h.nd h.hm
  rwa [List.length_map] at this
/-- within a round that began with M0, P0: the first j entries are done -/
structure Rj (b : Bk) (ls : List Li) (h0 : Str × Str) (M0 P0 M P : List (Str × Str)) (done : Li → Prop) : Prop where
  ro : Ro b ls h0 M P
  sub : ∃ X, M = M0 ++ X
  psub : ∀ a ∈ P0, a ∈ P
  clo : Clo b ls M0 P0 → M = M0 ∧ P = P0
  dn : ∀ e, done e → e.h ∈ M0 → ∀ a ∈ nearM b e, a ∈ M ∨ a ∈ P
theorem Rj.met {b : Bk} {ls : List Li} {h0 a : Str × Str} {M0 P0 M P : List (Str × Str)} {dn : Li → Prop} (h : Rj b ls h0 M0 P0 M P dn) {e : Li} (he : e ∈ ls) (em : e.h ∈ M) (an : a ∈ nearM b e) (ah : a ∈ ls.map (·.h)) (no : a ∉ M) : Rj b ls h0 M0 P0 (M ++ [a]) P dn := by
  obtain ⟨X, hX⟩ := h.sub
  refine ⟨⟨?_, List.mem_append_left _ h.ro.hz, fun z m => ?_, fun z m => ?_, h.ro.pn, h.ro.pe⟩, ⟨X ++ [a], by rw [hX, List.append_assoc]⟩, h.psub, fun c => ?_, fun e hd m z mz => (h.dn e hd m z mz).imp (List.mem_append_left _) id⟩
  · rw [List.nodup_append]
    exact ⟨h.ro.nd, by simp, fun y hy z hz e => no (by rw [← List.mem_singleton.mp hz, ← e]; exact hy)⟩
  · rcases List.mem_append.mp m with q | q
    · exact h.ro.hm z q
    · rw [List.mem_singleton.mp q]; exact ah
  · rcases List.mem_append.mp m with q | q
    · exact h.ro.mt z q
    · rw [List.mem_singleton.mp q]; exact .step he (h.ro.mt _ em) an ah
  · exfalso
    obtain ⟨e1, e2⟩ := h.clo c
    rcases c e he (e1 ▸ em) a an with q | q
    · exact no (e1 ▸ q)
    · exact (h.ro.pe a (e2 ▸ q)).1 ah
theorem Rj.per {b : Bk} {ls : List Li} {h0 a : Str × Str} {M0 P0 M P : List (Str × Str)} {dn : Li → Prop} (h : Rj b ls h0 M0 P0 M P dn) {e : Li} (he : e ∈ ls) (em : e.h ∈ M) (an : a ∈ nearM b e) (ah : a ∉ ls.map (·.h)) (no : a ∉ P) : Rj b ls h0 M0 P0 M (P ++ [a]) dn := by
  refine ⟨⟨h.ro.nd, h.ro.hz, h.ro.hm, h.ro.mt, ?_, fun z m => ?_⟩, h.sub, fun z m => List.mem_append_left _ (h.psub z m), fun c => ?_, fun e hd m z mz => (h.dn e hd m z mz).imp id (List.mem_append_left _)⟩
  · rw [List.nodup_append]
    exact ⟨h.ro.pn, by simp, fun y hy z hz e => no (by rw [← List.mem_singleton.mp hz, ← e]; exact hy)⟩
  · rcases List.mem_append.mp m with q | q
    · exact h.ro.pe z q
    · rw [List.mem_singleton.mp q]; exact ⟨ah, e, he, h.ro.mt _ em, an⟩
  · exfalso
    obtain ⟨e1, e2⟩ := h.clo c
    rcases c e he (e1 ▸ em) a an with q | q
    · exact ah (h.ro.hm a (e1 ▸ q))
    · exact no (e2 ▸ q)
theorem Rj.mono {b : Bk} {ls : List Li} {h0 : Str × Str} {M0 P0 M P : List (Str × Str)} {dn dn' : Li → Prop} (h : Rj b ls h0 M0 P0 M P dn) (k : ∀ e, dn' e → dn e ∨ (e.h ∈ M0 → ∀ a ∈ nearM b e, a ∈ M ∨ a ∈ P)) : Rj b ls h0 M0 P0 M P dn' :=
  ⟨h.ro, h.sub, h.psub, h.clo, fun e hd m => (k e hd).elim (fun q => h.dn e q m) fun q => q m⟩
theorem Ro.round {b : Bk} {ls : List Li} {h0 : Str × Str} {M P : List (Str × Str)} (h : Ro b ls h0 M P) : Rj b ls h0 M P M P fun _ => False :=
  ⟨h, ⟨[], by rw [List.append_nil]⟩, fun _ m => m, fun _ => ⟨rfl, rfl⟩, fun _ f => f.elim⟩
/-- a round later it is closed, or longer -/
theorem Rj.next {b : Bk} {ls : List Li} {h0 : Str × Str} {M0 P0 M P : List (Str × Str)} {r : Nat} (h : Rj b ls h0 M0 P0 M P fun e => e ∈ ls) (c : Clo b ls M0 P0 ∨ r + 1 ≤ M0.length) : Clo b ls M P ∨ r + 1 + 1 ≤ M.length := by
  obtain ⟨X, hX⟩ := h.sub
  by_cases x0 : X = []
  · rw [x0, List.append_nil] at hX
    exact .inl fun e he me => h.dn e he (hX ▸ me)
  · rcases c with c | c
    · obtain ⟨e1, e2⟩ := h.clo c
      rw [e1, e2]; exact .inl c
    · have := List.length_pos_iff.mpr x0
      refine .inr ?_
      rw [hX, List.length_append]; omega
theorem Ro.fin {b : Bk} {ls : List Li} {h0 : Str × Str} {M P : List (Str × Str)} (h : Ro b ls h0 M P) (c : Clo b ls M P) : ∀ a, a ∈ P ↔ Per b ls h0 a := by
  have al : ∀ a, Mt b ls h0 a → a ∈ M := fun a ha => by
    induction ha with
    | own => exact h.hz
    | @step e a he _ an hz ih =>
      rcases c e he ih a an with q | q
      · exact q
      · exact absurd hz (h.pe a q).1
  refine fun a => ⟨h.pe a, fun ⟨n, e, he, me, an⟩ => ?_⟩
  rcases c e he (al _ me) a an with q | q
  · exact absurd (h.hm a q) n
  · exact q
theorem per_ok {b : Bk} {ls : List Li} {h0 : Str × Str} {P : List (Str × Str)} (nl : NetL b ls) (nd : P.Nodup) (h : ∀ a, a ∈ P ↔ Per b ls h0 a) : PerOk b ls h0 (P.map at2) := by
  have lo : ∀ a ∈ P, Low (tl a.1) := fun a m => by
    obtain ⟨_, e, he, _, an⟩ := (h a).mp m
    exact (nl.me e he a (nearM_iff.mp an).1).p
  refine ⟨?_, fun y => ?_⟩
  · refine List.pairwise_map.mpr (nd.imp_of_mem fun {x y} hx hy ne e => ne (at2_inj (lo x hx) (lo y hy) e))
  · rw [List.mem_map]
    exact ⟨fun ⟨a, m, e⟩ => ⟨a, (h a).mp m, e.symm⟩, fun ⟨a, m, e⟩ => ⟨a, (h a).mpr m, e.symm⟩⟩
/-! ### gates -/
noncomputable def gatesL (b : Bk) (ls : List Li) (s : Str) (bs : List Str) : List Str := (ls.filter fun x => decide (x.h.2 = s) && match x.d with
  | none => false
  | some d => decide (d ∈ bs) && match siteOf b s with
    | none => false
    | some y => letsL (parts (tl y.p)) (tl d)).map fun x => at2 x.h
/-! ### promises -/
def sp57_split (K : PySem.W.Frag) : Sp := fun vs H Q _ => ∃ (p s : Str), vs = [.str (adr p s)] ∧ Low (tl p) ∧ (tl p).length ≤ 1000 ∧ (tl s).length ≤ 1000 ∧ ∀ v H', Same H H' → DV K H' (.tup [.str p, .str s]) v → Q v H'
def sp57_list_of (K : PySem.W.Frag) : Sp := fun vs H Q _ => ∃ (b : Bk) (ls : List Li) (v : V) (a : Str × Str), vs = [v, .str (at2 a)] ∧ DV K H (bkD b) v ∧ NetL b ls ∧ Low (tl a.1) ∧ ∀ u, DV K H (optD liD (liOf ls a)) u → Q u H
def sp57_near (K : PySem.W.Frag) : Sp := fun vs H Q _ => ∃ (b : Bk) (ls : List Li) (v : V) (e : Li) (u : V), vs = [v, u] ∧ DV K H (bkD b) v ∧ NetL b ls ∧ e ∈ ls ∧ DV K H (liD e) u ∧ ∀ (p : Addr) (H' : Hp), H p = none → Same H H' → H' p = some (.lst ((nearM b e).map fun a => V.str (at2 a))) → Q (.ref p) H'
def sp57_members (K : PySem.W.Frag) : Sp := fun vs H Q _ => ∃ (b : Bk) (ls : List Li) (v : V) (h : Str × Str), vs = [v, .str (at2 h)] ∧ DV K H (bkD b) v ∧ NetL b ls ∧ h ∈ ls.map (·.h) ∧ ∀ (x : V) (cs : List Str) (H' : Hp), Same H H' → DV K H' (.tup ((cs.mergeSort (dle D.str)).map D.str)) x → PerOk b ls h cs → cs.length ≤ 1000 → Q x H'
def sp57_gates (K : PySem.W.Frag) : Sp := fun vs H Q _ => ∃ (b : Bk) (ls : List Li) (v : V) (s : Str) (a : Addr) (bs : List Str), vs = [v, .str s, .ref a] ∧ DV K H (bkD b) v ∧ NetL b ls ∧ s ∈ nms b ∧ SqT K H a (bs.map V.str) ∧ bs.length ≤ 1000 ∧ ∀ (x : V) (H' : Hp), Same H H' → DV K H' (.tup ((gatesL b ls s bs).map D.str)) x → Q x H'
def sp57_book (K : PySem.W.Frag) : Sp := fun vs H Q _ => ∃ (s a w : Addr) (ws : List Str) (m : Nat) (c : Nat), vs = [.ref s, .int (m : Int), .ref w] ∧ 1 ≤ m ∧ m ≤ 9 ∧ SqL K H w (ws.map V.str) ∧ w ≠ s ∧ Wds ws ∧ Src H s a (c + 30000) ∧
  ∀ (v : V) (b : Bk) (H' : Hp), DV K H' (bkD b) v → Net b → b.ln.length ≤ 20 → b.sw = [] → b.li = [] → Ext s H H' → Src H' s a c → Q v H'
def sp57_change (K : PySem.W.Frag) : Sp := fun vs H Q _ => ∃ (s a : Addr) (b : Bk) (v : V) (c : Nat), vs = [.ref s, v] ∧ DV K H (bkD b) v ∧ Net b ∧ b.ln.length ≤ 29 ∧ Src H s a (c + 100) ∧
  ∀ (u : V) (b' : Bk) (H' : Hp), DV K H' (bkD b') u → Net b' → (b'.si = b.si ∧ b'.sw = b.sw ∧ b'.li = b.li) → b'.ln.length ≤ b.ln.length + 1 → Ext s H H' → Src H' s a c → Q u H'
/-- its stewards have addresses -/
def SwOk (b : Bk) : Prop := b.sw.length ≤ 1 ∧ ∀ x ∈ b.sw, ∃ a : Str × Str, x.a = at2 a ∧ AOk (nms b) a
def sp57_wide (K : PySem.W.Frag) : Sp := fun vs H Q _ => ∃ (s a w : Addr) (ws : List Str) (m : Int) (c : Nat), vs = [.ref s, .ref w, .int m] ∧ 0 < m ∧ m ≤ 8 ∧ SqL K H w (ws.map V.str) ∧ w ≠ s ∧ Wds ws ∧ Src H s a (c + 31000) ∧
  ∀ (v : V) (b : Bk) (H' : Hp), DV K H' (bkD b) v → Net b → b.ln.length ≤ 21 → SwOk b → Ext s H H' → Src H' s a c → Q v H'
def sp57_nets (K : PySem.W.Frag) : Sp := fun vs H Q _ => ∃ (s a w : Addr) (b : Bk) (v : V) (ws : List Str) (c : Nat), vs = [.ref s, v, .ref w] ∧ DV K H (bkD b) v ∧ Net b ∧ b.ln.length ≤ 21 ∧ SwOk b ∧ SqL K H w (ws.map V.str) ∧ w ≠ s ∧ Wds ws ∧ Src H s a (c + 2000) ∧
  ∀ (u : V) (b' : Bk) (ls : List Li) (H' : Hp), DV K H' (bkD b') u → NetL b' ls → ls ≠ [] → b'.ln.length ≤ 21 → Ext s H H' → Src H' s a c → Q u H'
/-- the distances from each site -/
def SprOk (K : PySem.W.Frag) (H : Hp) (s : Addr) (b : Bk) (p : Addr) : Prop := p ≠ s ∧ ∃ kvs : List (Key × V), H p = some (.dK kvs) ∧ ∀ y ∈ nms b, ∃ (a : Addr) (F : List (Str × Nat)), valV kvs (Sum.inr y : Key) = some (.ref a) ∧ a ≠ s ∧ H a = some (.dK (fk F)) ∧ DistOk b.ln y F
def sp57_spreads (K : PySem.W.Frag) : Sp := fun vs H Q _ => ∃ (b : Bk) (v : V) (s a : Addr) (c : Nat), vs = [v] ∧ DV K H (bkD b) v ∧ Net b ∧ Src H s a c ∧ ∀ (p : Addr) (H' : Hp), Same H H' → SprOk K H' s b p → Q (.ref p) H'
def sp57_joined (K : PySem.W.Frag) : Sp := fun vs H Q _ => ∃ (b : Bk) (ls : List Li) (v : V) (s p : Addr) (h : Str × Str), vs = [v, .ref p, .str (at2 h)] ∧ DV K H (bkD b) v ∧ NetL b ls ∧ SprOk K H s b p ∧ h ∈ ls.map (·.h) ∧ ∀ (x : V) (cs : List Str) (H' : Hp), Same H H' → DV K H' (.tup ((cs.mergeSort (dle D.str)).map D.str)) x → PerOk b ls h cs → Q x H'
def sp57_asked (K : PySem.W.Frag) : Sp := fun vs H Q _ => ∃ (s a w : Addr) (b : Bk) (ls : List Li) (v : V) (ws : List Str) (c : Nat), vs = [.ref s, v, .ref w] ∧ DV K H (bkD b) v ∧ NetL b ls ∧ ls ≠ [] ∧ SqL K H w (ws.map V.str) ∧ w ≠ s ∧ Wds ws ∧ Src H s a (c + 300) ∧
  ∀ (t : Addr) (bs : List Str) (H' : Hp), SqT K H' t (bs.map V.str) → bs.length ≤ 20 → (∀ x ∈ bs, Clean (tl x)) → Ext s H H' → Src H' s a c → Q (.ref t) H'
end Z
namespace Z
open PySem L2
section
variable {P : Program} {w : World} {K : PySem.W.Frag} {mg : Str → Option Value} {base : Heap}
theorem ok__law_mix (D : Df K mg "_law_mix" s__law_mix ["seed", "turn"]) (T : Tx mg) : Cal P w K mg base "_law_mix" ["seed", "turn"] 1 sp__law_mix := by
  obtain ⟨f, fd, F, gf, bf⟩ := D
  refine ⟨f, fd, F.ok sc__law_mix (fun vs H Q E h => ?_) (fun cdv A outer s H vs Q E hr h => ?_), gf, F.kp, bf⟩
  · obtain ⟨x, y, rfl, _⟩ := h; rfl
  · obtain ⟨x, y, rfl, x0, x1, y0, y1, q⟩ := h
    refine ⟨_, (pss_cons (ps_set (i := 2) sc__law_mix.nd rfl (Or.inl rfl) (pe_op op_mod (pe_callTy call_int1 (by rfl) T.n_int (by decide +kernel) (pa_cons (pe_op op_add (pe_op op_add (pe_op op_mul (pv 0) pe_int) (pe_op op_mul (pv 1) pe_int)) pe_int) pa_nil)) pe_int))
      (pss_cons (ps_set (i := 2) sc__law_mix.nd rfl (Or.inl rfl) (pe_op op_mod (pe_callTy call_int1 (by rfl) T.n_int (by decide +kernel) (pa_cons (pe_op op_add (pe_op op_add (pe_op op_mul (pv 2) (pv 2)) (pe_op op_mul (pv 1) pe_int)) pe_int) pa_nil)) pe_int))
      (pss_cons (ps_set (i := 2) sc__law_mix.nd rfl (Or.inl rfl) (pe_op op_mod (pe_callTy call_int1 (by rfl) T.n_int (by decide +kernel) (pa_cons (pe_op op_add (pe_op op_add (pe_op op_mul (pv 2) pe_int) (pe_op op_mul (pe_op op_mul (pv 1) (pv 1)) pe_int)) pe_int) pa_nil)) pe_int))
      (pss_one (ps_ret (pv 2)))))), ?_⟩

    refine ⟨_, rfl, _, _, rfl, rfl, .inr (by decide), _, rfl, _, _, rfl, rfl, .inr (by decide), _, _, rfl, rfl, _, _, rfl, rfl, .inl ⟨_, rfl, _, _, rfl, rfl, (by show (0 : Int) < _; decide), ?_⟩⟩
    refine ⟨_, rfl, _, rfl, _, _, rfl, rfl, .inl ⟨by omega, by omega⟩, _, rfl, _, _, rfl, rfl, .inr (by decide), _, _, rfl, rfl, _, _, rfl, rfl, .inl ⟨_, rfl, _, _, rfl, rfl, (by show (0 : Int) < _; decide), ?_⟩⟩
    refine ⟨_, rfl, _, _, rfl, rfl, .inr (by decide), _, rfl, _, rfl, _, _, rfl, rfl, .inl ⟨by omega, by omega⟩, _, _, rfl, rfl, .inr (by decide), _, _, rfl, rfl, _, _, rfl, rfl, .inl ⟨_, rfl, _, _, rfl, rfl, (by show (0 : Int) < _; decide), ?_⟩⟩
    exact ⟨_, rfl, q _ (Int.emod_nonneg _ (by decide)) (by omega)⟩
end
end Z
namespace Z
open PySem L2
section
variable {P : Program} {w : World} {K : PySem.W.Frag} {mg : Str → Option Value} {base : Heap}
theorem ok__law_source (D : Df K mg "_law_source" s__law_source ["script"]) (T : Tx mg) (C__law_mix : Cal P w K mg base "_law_mix" ["seed", "turn"] 1 sp__law_mix) : Cal P w K mg base "_law_source" ["script"] 2 (sp__law_source K) := by
  obtain ⟨f__law_mix, fd__law_mix, G__law_mix, g__law_mix, k__law_mix, b__law_mix⟩ := C__law_mix
  obtain ⟨f, fd, F, gf, bf⟩ := D
  refine ⟨f, fd, F.ok sc__law_source (fun vs H Q E h => ?_) (fun cdv A outer s H vs Q E hr h => ?_), gf, F.kp, bf⟩
  · obtain ⟨a, ns, rfl, _⟩ := h; rfl
  · obtain ⟨a, ns, rfl, hS, hlen, q⟩ := h
    refine ⟨_, (pss_cons (ps_set (i := 1) sc__law_source.nd rfl (Or.inl rfl) pe_int)
      (pss_cons (ps_for PassesOwn.never rfl (pi_range1 (by rfl) T.n_range (pa_cons (pe_callB call_len_seq (by rfl) T.n_len PySem.boot_len (pa_cons (pv 0) pa_nil)) pa_nil)) (pg_name (i := 2) sc__law_source.nd rfl (Or.inl rfl))
      (pss_one (ps_set (i := 1) sc__law_source.nd rfl (Or.inl rfl) (pe_call G__law_mix (hr.mono (by decide)) (by rfl) g__law_mix k__law_mix b__law_mix .nil pass0 (pa_cons (pe_op op_add (pv 1) (pe_op op_mod (pe_callTy call_int1 (by rfl) T.n_int (by decide +kernel) (pa_cons (pe_ix ix_list (pv 0) (pv 2) (fun _ _ => rfl)) pa_nil)) pe_int)) (pa_cons (pv 2) pa_nil))))))
      (pss_one (ps_ret (pe_lst (pa_cons (pe_callTy call_list_of (by rfl) T.n_list (by decide +kernel) (pa_cons (pv 0) pa_nil)) (pa_cons pe_int (pa_cons pe_int (pa_cons (pv 1) (pa_cons pe_int pa_nil)))))))))), ?_⟩
    refine ⟨_, rfl, a, _, rfl, .inl hS, _, rfl, by rw [List.length_map]; omega, by rw [List.length_map]; omega, ?_⟩
    refine for_range (lo := 0) (n := (((ns.map V.int).length : Int)).toNat) (fun i σ H' => ∃ (e : Int) (v : Option V), σ = [some (.ref a), some (.int e), v] ∧ H' = H ∧ 0 ≤ e ∧ e < 2147483647) ⟨17, none, rfl, rfl, by decide, by decide⟩ ?_ ?_
    · rintro i σ H' hi ⟨e, v, rfl, rfl, e0, e1⟩
      rw [List.length_map] at hi
      have hi' : i < ns.length := by omega
      refine ⟨_, rfl, _, rfl, _, rfl, a, _, _, .int ns[i], rfl, rfl, hS, ?_, .inl ⟨_, rfl, _, _, rfl, rfl, (by show (0 : Int) < _; decide), _, _, rfl, rfl, _, rfl, ?_⟩⟩
      · rw [Int.zero_add]
        exact atI_nat (by rw [List.getElem?_map, List.getElem?_eq_getElem hi']; rfl)
      · refine ⟨_, _, rfl, ?_, ?_, ?_, ?_, fun v v0 v1 => ?_⟩
        · have := Int.emod_nonneg ns[i] (by decide : (2147483647 : Int) ≠ 0); omega
        · have := Int.emod_lt_of_pos ns[i] (by decide : (0 : Int) < 2147483647); omega
        · omega
        · omega
        · exact ⟨v, _, rfl, rfl, v0, v1⟩
    · rintro σ H' ⟨e, v, rfl, rfl, e0, e1⟩
      refine ⟨_, rfl, a, _, rfl, .inl hS, fun l hl => ?_⟩
      refine ⟨_, rfl, by show 5 ≤ sizeLine; decide, fun s hs => ?_⟩
      have hsl : s ≠ l := fun z => by rw [z, upd_same] at hs; cases hs
      have hs0 : H' s = none := by rw [upd_ne hsl] at hs; exact hs
      refine q s l _ hs0 ((same_new hl).trans (same_new hs)) ⟨ns, 0, 0, e, 0, upd_same, by rw [upd_ne hsl.symm, upd_same], hsl.symm, hlen, by decide, by decide, by decide, e0, e1, by decide, by decide⟩
end
end Z
namespace Z
open PySem L2
section
variable {P : Program} {w : World} {K : PySem.W.Frag} {mg : Str → Option Value} {base : Heap}
theorem ok__law_draw (D : Df K mg "_law_draw" s__law_draw ["source", "many"]) (T : Tx mg) (C__law_mix : Cal P w K mg base "_law_mix" ["seed", "turn"] 1 sp__law_mix) : Cal P w K mg base "_law_draw" ["source", "many"] 2 sp__law_draw := by
  obtain ⟨f__law_mix, fd__law_mix, G__law_mix, g__law_mix, k__law_mix, b__law_mix⟩ := C__law_mix
  obtain ⟨f, fd, F, gf, bf⟩ := D
  refine ⟨f, fd, F.ok sc__law_draw (fun vs H Q E h => ?_) (fun cdv A outer s H vs Q E hr h => ?_), gf, F.kp, bf⟩
  · obtain ⟨s, a, m, c, rfl, _⟩ := h; rfl
  · obtain ⟨s, a, m, c, rfl, m0, m1, hS, q⟩ := h
    refine ⟨_, (C8.pss_cut (ps_if (PW.pt (pw_and (pt_cmpR op_eq (pe_ix ix_list (pv 0) pe_int (fun _ _ => rfl)) pe_int (nomark _)) (pw_and (pt_cmpR op_lt (pe_ix ix_list (pv 0) pe_int (fun _ _ => rfl)) (pe_callB call_len_seq (by rfl) T.n_len PySem.boot_len (pa_cons (pe_ix ix_list (pv 0) pe_int (fun _ _ => rfl)) pa_nil)) (nomark _)) (pw_and1 (pt_cmpR op_eq (pe_op op_mod (pe_callTy call_int1 (by rfl) T.n_int (by decide +kernel) (pa_cons (pe_ix ix_list (pv 0) pe_int (fun _ _ => rfl)) pa_nil)) pe_int) pe_int (nomark _))))))
      (pss_cons (ps_set (i := 2) sc__law_draw.nd rfl (Or.inl rfl) (pe_ix ix_list (pe_ix ix_list (pv 0) pe_int (fun _ _ => rfl)) (pe_ix ix_list (pv 0) pe_int (fun _ _ => rfl)) (fun _ _ => rfl)))
        (pss_cons (ps_asg (pe_op op_add (pe_ix ix_list (pv 0) pe_int (fun _ _ => rfl)) pe_int) (pg_sub (pv 0) pe_int set_list))
        (pss_one (ps_if (pt_cmpR op_ge (pe_callB call_abs (by rfl) T.n_abs (by decide +kernel) (pa_cons (pv 2) pa_nil)) (pe_op op_pow pe_int pe_int) (nomark _))
        (pss_one (ps_asg (pe_op op_and (pe_callB call_abs (by rfl) T.n_abs (by decide +kernel) (pa_cons (pv 2) pa_nil)) (pe_op op_sub (pe_op op_shl pe_int pe_int) pe_int)) (pg_sub (pv 0) pe_int set_list)))
        (pss_one (ps_asg (pe_call G__law_mix (hr.mono (by decide)) (by rfl) g__law_mix k__law_mix b__law_mix .nil pass0 (pa_cons (pe_op op_add (pe_ix ix_list (pv 0) pe_int (fun _ _ => rfl)) (pe_op op_mod (pe_callTy call_int1 (by rfl) T.n_int (by decide +kernel) (pa_cons (pv 2) pa_nil)) pe_int)) (pa_cons (pe_ix ix_list (pv 0) pe_int (fun _ _ => rfl)) pa_nil))) (pg_sub (pv 0) pe_int set_list)))))))
      pss_nil)
      (pss_cons (ps_if (pt_cmpR op_gt (pe_ix ix_list (pv 0) pe_int (fun _ _ => rfl)) pe_int (nomark _))
      (pss_cons (ps_set (i := 3) sc__law_draw.nd rfl (Or.inl rfl) (pe_op op_mod (pe_callTy call_int1 (by rfl) T.n_int (by decide +kernel) (pa_cons (pe_ix ix_list (pv 0) pe_int (fun _ _ => rfl)) pa_nil)) (pv 1)))
        (pss_cons (ps_asg (pe_op op_fdivN (pe_callTy call_int1 (by rfl) T.n_int (by decide +kernel) (pa_cons (pe_ix ix_list (pv 0) pe_int (fun _ _ => rfl)) pa_nil)) (pv 1)) (pg_sub (pv 0) pe_int set_list))
        (pss_one (ps_ret (pv 3)))))
      pss_nil)
      (pss_cons (ps_asg (pe_op op_add (pe_ix ix_list (pv 0) pe_int (fun _ _ => rfl)) pe_int) (pg_sub (pv 0) pe_int set_list))
      (pss_one (ps_ret (pe_op op_mod (pe_callTy call_int1 (by rfl) T.n_int (by decide +kernel) (pa_cons (pe_op op_fdiv (pe_call G__law_mix (hr.mono (by decide)) (by rfl) g__law_mix k__law_mix b__law_mix .nil pass0 (pa_cons (pe_ix ix_list (pv 0) pe_int (fun _ _ => rfl)) (pa_cons (pe_ix ix_list (pv 0) pe_int (fun _ _ => rfl)) pa_nil))) pe_int) pa_nil)) (pv 1))))))), ?_⟩
    refine ⟨fun σ' H' => (∃ v2 v3, σ' = [some (.ref s), some (.int m), v2, v3]) ∧ Src H' s a (c + 1) ∧ Ext s H H', ?_, ?_⟩
    · obtain ⟨ns, i, b, e, t, h1, h2, as, h4, h5, h6, h7, h8, h9, h10, h11⟩ := id hS
      have hL : SqL K H s [.ref a, .int i, .int b, .int e, .int t] := SqL.of h1
      refine ⟨_, rfl, _, _, _, _, rfl, rfl, hL, rfl, rfl, _, rfl, ite2 (fun c1 => ?_) (fun c1 => iteF ⟨⟨_, _, rfl⟩, hS, Ext.refl _ _⟩)⟩
      refine ⟨_, rfl, _, _, _, _, rfl, rfl, hL, rfl, _, rfl, _, _, _, _, rfl, rfl, hL, rfl, a, _, rfl, .inl (SqL.of h2), _, _, rfl, rfl, _, rfl, ite2 (fun c2 => ?_) (fun c2 => iteF ⟨⟨_, _, rfl⟩, hS, Ext.refl _ _⟩)⟩
      refine ⟨_, rfl, _, _, _, _, rfl, rfl, hL, rfl, .inl ⟨_, rfl, _, _, rfl, rfl, (by show (0 : Int) < 6; decide), rfl, _, rfl, ite2 (fun c3 => ?_) (fun c3 => ⟨⟨_, _, rfl⟩, hS, Ext.refl _ _⟩)⟩⟩
      have hi : i < ns.length := by
        have := of_decide_eq_true c2
        rw [List.length_map] at this
        exact this
      have hi' : i.toNat < ns.length := by omega
      -- cell = source[0][source[1]]
      refine ⟨_, rfl, _, _, _, _, rfl, rfl, hL, rfl, _, rfl, _, _, _, _, rfl, rfl, hL, rfl, a, _, _, .int ns[i.toNat], rfl, rfl, SqL.of h2, at_of (j := i.toNat) (by omega) (by rw [List.getElem?_map, List.getElem?_eq_getElem hi']; rfl), ?_⟩
      -- source[1] = source[1] + 1
      refine ⟨_, rfl, _, _, _, _, rfl, rfl, hL, rfl, _, _, rfl, rfl, _, rfl, _, _, _, 1, rfl, rfl, h1, rfl, ?_⟩
      refine ⟨_, rfl, _, rfl, _, _, rfl, rfl, ⟨by decide, by decide, by decide⟩, _, _, rfl, rfl, _, rfl, ite2 (fun c4 => ?_) (fun c4 => ?_)⟩
      · refine ⟨_, rfl, _, rfl, _, _, rfl, rfl, ⟨by decide, by decide, by decide⟩, _, _, rfl, rfl, _, _, rfl, rfl, _, rfl, _, _, _, 2, rfl, rfl, upd_same, rfl, ?_⟩
        refine ⟨⟨_, _, rfl⟩, ?_, ?_⟩
        · refine ⟨ns, i + 1, _, e, t, upd_same, by rw [upd_ne as, upd_ne as]; exact h2, as, h4, by omega, by omega, ?_, h8, h9, h10, h11⟩
          exact and_nn (by split <;> omega) _
        · exact Ext.put.trans Ext.put
      · refine ⟨_, rfl, _, _, _, _, rfl, rfl, SqL.of upd_same, rfl, _, rfl, .inl ⟨_, rfl, _, _, rfl, rfl, (by show (0 : Int) < 2147483647; decide), _, _, rfl, rfl, _, rfl, _, _, _, _, rfl, rfl, SqL.of upd_same, rfl, _, _, rfl, ?_, ?_, ?_, ?_, fun v v0 v1 => ?_⟩⟩
        · have := Int.emod_nonneg ns[i.toNat] (by decide : (2147483647 : Int) ≠ 0); omega
        · have := Int.emod_lt_of_pos ns[i.toNat] (by decide : (0 : Int) < 2147483647); omega
        · omega
        · omega
        · refine ⟨_, rfl, _, _, _, 3, rfl, rfl, upd_same, rfl, ⟨_, _, rfl⟩, ?_, Ext.put.trans Ext.put⟩
          exact ⟨ns, i + 1, b, v, t, upd_same, by rw [upd_ne as, upd_ne as]; exact h2, as, h4, by omega, by omega, h7, v0, v1, h10, h11⟩
    · rintro σ' H' ⟨⟨v2, v3, rfl⟩, hS', hx⟩
      obtain ⟨ns, i, b, e, t, h1, h2, as, h4, h5, h6, h7, h8, h9, h10, h11⟩ := id hS'
      have hL : SqL K H' s [.ref a, .int i, .int b, .int e, .int t] := SqL.of h1
      refine ⟨_, rfl, _, _, _, _, rfl, rfl, hL, rfl, _, _, rfl, rfl, _, rfl, ite2 (fun c1 => ?_) (fun c1 => ?_)⟩
      · refine ⟨_, rfl, _, _, _, _, rfl, rfl, hL, rfl, .inl ⟨_, rfl, _, rfl, _, _, rfl, rfl, m0, ?_⟩⟩
        refine ⟨_, rfl, _, _, _, _, rfl, rfl, hL, rfl, .inl ⟨_, rfl, _, rfl, _, _, rfl, rfl, ⟨by omega, by omega⟩, _, rfl, _, _, _, 2, rfl, rfl, h1, rfl, ?_⟩⟩
        refine ⟨_, rfl, q _ _ (Int.emod_nonneg _ (by omega)) (Int.emod_lt_of_pos _ m0) (hx.trans Ext.put) ?_⟩
        refine ⟨ns, i, _, e, t, upd_same, by rw [upd_ne as]; exact h2, as, h4, h5, h6, ?_, h8, h9, h10, by omega⟩
        exact Int.fdiv_nonneg h7 (by omega)
      · refine ⟨_, rfl, _, _, _, _, rfl, rfl, hL, rfl, _, _, rfl, rfl, _, rfl, _, _, _, 4, rfl, rfl, h1, rfl, ?_⟩
        refine ⟨_, rfl, _, _, _, _, rfl, rfl, SqL.of upd_same, rfl, _, rfl, _, _, _, _, rfl, rfl, SqL.of upd_same, rfl, _, _, rfl, h8, by omega, by omega, by omega, fun v v0 v1 => ?_⟩
        refine ⟨_, _, rfl, rfl, ⟨by decide, by decide⟩, .inl ⟨_, rfl, _, rfl, _, _, rfl, rfl, m0, ?_⟩⟩
        refine q _ _ (Int.emod_nonneg _ (by omega)) (Int.emod_lt_of_pos _ m0) (hx.trans Ext.put) ?_
        exact ⟨ns, i, b, e, t + 1, upd_same, by rw [upd_ne as]; exact h2, as, h4, h5, h6, h7, h8, h9, by omega, by omega⟩
end
end Z
namespace Z
open PySem L2
section
variable {P : Program} {w : World} {K : PySem.W.Frag} {mg : Str → Option Value} {base : Heap}
theorem ok__law_is_int (D : Df K mg "_law_is_int" s__law_is_int ["value"]) (T : Tx mg)  : Cal P w K mg base "_law_is_int" ["value"] 1 (sp__law_is_int K) := by
  obtain ⟨f, fd, F, gf, bf⟩ := D
  refine ⟨f, fd, F.ok sc__law_is_int (fun vs H Q E h => ?_) (fun cdv A outer s H vs Q E hr h => ?_), gf, F.kp, bf⟩
  · obtain ⟨i, rfl, _⟩ := h; rfl
  · obtain ⟨i, rfl, q⟩ := h
    refine ⟨_, (pss_one (ps_ret (pe_and (pe_callB call_isi (by rfl) T.n_isinstance (by decide +kernel) (pa_cons (pv 0) (pa_cons (pe_bltn (v := .ty "int") (by rfl) T.n_int (by decide +kernel) rfl) pa_nil))) (pe_one (pe_not (pe_callB call_isi (by rfl) T.n_isinstance (by decide +kernel) (pa_cons (pv 0) (pa_cons (pe_bltn (v := .ty "bool") (by rfl) T.n_bool (by decide +kernel) rfl) pa_nil)))))))), ?_⟩
    refine ⟨_, rfl, _, _, _, _, true, rfl, .ty _, .base (.int i), kit_ty (by decide +kernel), _, rfl, ?_⟩
    refine iteT ⟨_, rfl, _, _, _, _, false, rfl, .ty _, .base (.int i), kit_ty (by decide +kernel), _, rfl, q⟩

theorem ok__law_same (D : Df K mg "_law_same" s__law_same ["actual", "due"]) (T : Tx mg) (C__law_is_int : Cal P w K mg base "_law_is_int" ["value"] 1 (sp__law_is_int K)) : ∀ n, Cal P w K mg base "_law_same" ["actual", "due"] (n + 1) (sp__law_same K n)
  | 0 => by
    obtain ⟨f, fd, F, gf, bf⟩ := D
    exact ⟨f, fd, ⟨fun vs H Q E h => by obtain ⟨_, _, _, _, _, _, h, _⟩ := h; exact h.elim, fun A outer s H args us vs Q E _ _ _ _ h => by obtain ⟨_, _, _, _, _, _, h, _⟩ := h; exact h.elim⟩, gf, F.kp, bf⟩
  | n + 1 => by
    obtain ⟨f__law_same, fd__law_same, G__law_same, g__law_same, k__law_same, b__law_same⟩ := ok__law_same D T C__law_is_int n
    obtain ⟨f__law_is_int, fd__law_is_int, G__law_is_int, g__law_is_int, k__law_is_int, b__law_is_int⟩ := C__law_is_int
    obtain ⟨f, fd, F, gf, bf⟩ := D
    refine ⟨f, fd, F.ok sc__law_same (fun vs H Q E h => ?_) (fun cdv A outer s H vs Q E hr h => ?_), gf, F.kp, bf⟩
    · obtain ⟨d, v, u, rfl, _⟩ := h; rfl
    · obtain ⟨d, v, u, rfl, hv, hu, hd, q⟩ := h
      refine ⟨_, (pss_cons (ps_if (pt_val (pe_callB call_isi (by rfl) T.n_isinstance (by decide +kernel) (pa_cons (pv 1) (pa_cons (pe_bltn (v := .ty "tuple") (by rfl) T.n_tuple (by decide +kernel) rfl) pa_nil))))
      (pss_cons (ps_if (PW.pt (pw_or (pt_not (pt_val (pe_callB call_isi (by rfl) T.n_isinstance (by decide +kernel) (pa_cons (pv 0) (pa_cons (pe_bltn (v := .ty "tuple") (by rfl) T.n_tuple (by decide +kernel) rfl) pa_nil))))) (pw_or1 (pt_cmpR op_ne (pe_callB call_len_seq (by rfl) T.n_len PySem.boot_len (pa_cons (pv 0) pa_nil)) (pe_callB call_len_seq (by rfl) T.n_len PySem.boot_len (pa_cons (pv 1) pa_nil)) (nomark _)))))
        (pss_one (ps_ret pe_bl))
        pss_nil)
        (pss_cons (ps_for PassesOwn.never rfl (pi_range1 (by rfl) T.n_range (pa_cons (pe_callB call_len_seq (by rfl) T.n_len PySem.boot_len (pa_cons (pv 1) pa_nil)) pa_nil)) (pg_name (i := 2) sc__law_same.nd rfl (Or.inl rfl))
        (pss_one (ps_if (pt_not (pt_val (pe_call G__law_same hr (by rfl) g__law_same k__law_same b__law_same .nil pass0 (pa_cons (pe_ix ix_tup (pv 0) (pv 2) (fun _ _ => rfl)) (pa_cons (pe_ix ix_tup (pv 1) (pv 2) (fun _ _ => rfl)) pa_nil)))))
          (pss_one (ps_ret pe_bl))
          pss_nil)))
        (pss_one (ps_ret pe_bl))))
      pss_nil)
      (pss_cons (ps_if (pt_cmpR op_isN (pv 1) pe_non (nomark _))
      (pss_one (ps_ret (pe_cmpR op_isN (pv 0) pe_non (nomark _))))
      pss_nil)
      (pss_cons (ps_if (pt_val (pe_callB call_isi (by rfl) T.n_isinstance (by decide +kernel) (pa_cons (pv 1) (pa_cons (pe_bltn (v := .ty "bool") (by rfl) T.n_bool (by decide +kernel) rfl) pa_nil))))
      (pss_one (ps_ret (pe_and (pe_callB call_isi (by rfl) T.n_isinstance (by decide +kernel) (pa_cons (pv 0) (pa_cons (pe_bltn (v := .ty "bool") (by rfl) T.n_bool (by decide +kernel) rfl) pa_nil))) (pe_one (pe_cmpR op_eq (pv 0) (pv 1) (nomark _))))))
      pss_nil)
      (pss_cons (ps_if (pt_val (pe_callB call_isi (by rfl) T.n_isinstance (by decide +kernel) (pa_cons (pv 1) (pa_cons (pe_bltn (v := .ty "int") (by rfl) T.n_int (by decide +kernel) rfl) pa_nil))))
      (pss_one (ps_ret (pe_and (pe_call G__law_is_int (hr.mono (by omega)) (by rfl) g__law_is_int k__law_is_int b__law_is_int .nil pass0 (pa_cons (pv 0) pa_nil)) (pe_one (pe_cmpR op_eq (pv 0) (pv 1) (nomark _))))))
      pss_nil)
      (pss_one (ps_ret (pe_and (pe_callB call_isi (by rfl) T.n_isinstance (by decide +kernel) (pa_cons (pv 0) (pa_cons (pe_bltn (v := .ty "str") (by rfl) T.n_str (by decide +kernel) rfl) pa_nil))) (pe_one (pe_cmpR op_eq (pv 0) (pv 1) (nomark _)))))))))), ?_⟩
      cases d with
      | non =>
        unfold DV at hv hu; subst hv hu
        refine ⟨_, rfl, _, _, _, _, false, rfl, .ty _, .base .non, kit_ty (by decide +kernel), _, rfl, iteF ?_⟩
        exact ⟨_, rfl, rfl, _, rfl, iteT ⟨_, rfl, rfl, q⟩⟩
      | bl b =>
        unfold DV at hv hu; subst hv hu
        refine ⟨_, rfl, _, _, _, _, false, rfl, .ty _, .base (.bl b), kit_ty (by decide +kernel), _, rfl, iteF ?_⟩
        refine ⟨_, rfl, rfl, _, rfl, iteF ?_⟩
        refine ⟨_, rfl, _, _, _, _, true, rfl, .ty _, .base (.bl b), kit_ty (by decide +kernel), _, rfl, iteT ?_⟩
        refine ⟨_, rfl, _, _, _, _, true, rfl, .ty _, .base (.bl b), kit_ty (by decide +kernel), _, rfl, iteT ?_⟩
        refine ⟨_, rfl, _, rfl, rfl, ?_⟩
        rw [decide_eq_true rfl]; exact q
      | int b =>
        unfold DV at hv hu; subst hv hu
        refine ⟨_, rfl, _, _, _, _, false, rfl, .ty _, .base (.int b), kit_ty (by decide +kernel), _, rfl, iteF ?_⟩
        refine ⟨_, rfl, rfl, _, rfl, iteF ?_⟩
        refine ⟨_, rfl, _, _, _, _, false, rfl, .ty _, .base (.int b), kit_ty (by decide +kernel), _, rfl, iteF ?_⟩
        refine ⟨_, rfl, _, _, _, _, true, rfl, .ty _, .base (.int b), kit_ty (by decide +kernel), _, rfl, iteT ?_⟩
        refine ⟨_, rfl, _, rfl, _, rfl, iteT ?_⟩
        refine ⟨_, rfl, _, rfl, rfl, ?_⟩
        rw [decide_eq_true rfl]; exact q
      | str b =>
        unfold DV at hv hu; subst hv hu
        refine ⟨_, rfl, _, _, _, _, false, rfl, .ty _, .base (.str b), kit_ty (by decide +kernel), _, rfl, iteF ?_⟩
        refine ⟨_, rfl, rfl, _, rfl, iteF ?_⟩
        refine ⟨_, rfl, _, _, _, _, false, rfl, .ty _, .base (.str b), kit_ty (by decide +kernel), _, rfl, iteF ?_⟩
        refine ⟨_, rfl, _, _, _, _, false, rfl, .ty _, .base (.str b), kit_ty (by decide +kernel), _, rfl, iteF ?_⟩
        refine ⟨_, rfl, _, _, _, _, true, rfl, .ty _, .base (.str b), kit_ty (by decide +kernel), _, rfl, iteT ?_⟩
        refine ⟨_, rfl, _, rfl, rfl, ?_⟩
        rw [decide_eq_true rfl]; exact q
      | tup ds =>
        unfold DV at hv hu
        obtain ⟨a, vs, rfl, ha, hvs⟩ := hv
        obtain ⟨b, us, rfl, hb, hus⟩ := hu
        have hl := hvs.len
        have hm := hus.len
        refine ⟨_, rfl, _, _, _, _, true, rfl, .ty _, TyX.ofT hb, kit_ty (by decide +kernel), _, rfl, iteT ?_⟩
        refine ⟨_, rfl, _, _, _, _, true, rfl, .ty _, TyX.ofT ha, kit_ty (by decide +kernel), _, rfl, iteF ?_⟩
        refine ⟨_, rfl, a, _, rfl, .inr ha, _, rfl, b, _, rfl, .inr hb, rfl, _, rfl, iteNS (by rw [hl, hm]) ?_⟩
        refine ⟨_, rfl, b, _, rfl, .inr hb, _, rfl, by omega, by have := hd.1; omega, ?_⟩
        refine for_range (lo := 0) (n := ((us.length : Int)).toNat) (fun i σ H' => ∃ (x : Option V), σ = [some (.ref a), some (.ref b), x] ∧ H' = H) ⟨none, rfl, rfl⟩ ?_ ?_
        · rintro i σ H' hi ⟨x, rfl, rfl⟩
          have hi' : i < us.length := by omega
          have hi2 : i < ds.length := by omega
          obtain ⟨v1, e1, q1⟩ := hvs.get (List.getElem?_eq_getElem hi2)
          obtain ⟨v2, e2, q2⟩ := hus.get (List.getElem?_eq_getElem hi2)
          refine ⟨_, rfl, _, rfl, a, _, _, v1, rfl, rfl, ha, at_of (j := i) (by omega) e1, _, rfl, _, rfl, b, _, _, v2, rfl, rfl, hb, at_of (j := i) (by omega) e2, ?_⟩
          refine ⟨ds[i], v1, v2, rfl, q1, q2, hd.2 _ (List.getElem_mem hi2), _, rfl, iteF ?_⟩
          exact ⟨_, rfl, rfl⟩
        · rintro σ H' ⟨x, rfl, rfl⟩
          exact q
end
end Z
namespace Z
open PySem L2 SX
section
variable {P : Program} {w : World} {K : PySem.W.Frag} {mg : Str → Option Value} {base : Heap}
theorem ok__law_row (D : Df K mg "_law_row" s__law_row ["source", "size"]) (T : Tx mg) (C__law_draw : Cal P w K mg base "_law_draw" ["source", "many"] 2 sp__law_draw) : Cal P w K mg base "_law_row" ["source", "size"] 3 sp__law_row := by
  obtain ⟨f__law_draw, fd__law_draw, G__law_draw, g__law_draw, k__law_draw, b__law_draw⟩ := C__law_draw
  obtain ⟨f, fd, F, gf, bf⟩ := D
  refine ⟨f, fd, F.ok sc__law_row (fun vs H Q E h => ?_) (fun cdv A outer s H vs Q E hr h => ?_), gf, F.kp, bf⟩
  · obtain ⟨s, a, m, c, rfl, _⟩ := h; rfl
  · obtain ⟨s, a, m', c, rfl, hm0, hm', hS, q⟩ := h
    obtain ⟨m, rfl⟩ := Int.eq_ofNat_of_zero_le hm0
    have hm : m ≤ 1000 := by omega
    rw [Int.toNat_natCast] at hS q
    refine ⟨_, (pss_cons (ps_set (i := 2) sc__law_row.nd rfl (Or.inr rfl) pe_str)
      (pss_one (ps_ret (pe_join pe_str (pe_lc (own := [("k", 3)]) (g := gName 3) (tt := tYes) rfl sc__law_row.nd (pi_range1 (by rfl) T.n_range (pa_cons (pv 1) pa_nil)) (blkOk_by (own := [("k", 3)]) (N := N__law_row) (sc := defScope s__law_row) (by decide +kernel)) (fun _ _ _ _ _ => pg_name (i := 3) sc__law_row.nd rfl (Or.inl rfl)) (fun _ _ _ _ _ => pts_nil) (fun _ _ _ _ _ => (pe_item_str (pv 2) (pe_call G__law_draw (hr.mono (by decide)) (by rfl) g__law_draw k__law_draw b__law_draw .nil pass0 (pa_cons (pv 0) (pa_cons (pe_callB call_lenS (by rfl) T.n_len PySem.boot_len (pa_cons (pv 2) pa_nil)) pa_nil))) (fun _ _ => rfl)))))))), ?_⟩
    refine ⟨⟨_, rfl⟩, _, rfl, _, rfl, by omega, by omega, fun D hD => ?_⟩
    have Ds : D ≠ s := hS.ne hD
    refine lc_range (lo := 0) (n := ((m : Int)).toNat) (fun i H' => ∃ xs : List Str, H' D = some (.lst (xs.map V.str)) ∧ xs.length = i ∧ (∀ x ∈ xs, ∃ c, tl x = [c] ∧ 32 ≤ c ∧ c ≤ 126) ∧ Ext s H H' ∧ Src H' s a (c + (m - i))) ?_ ?_ ?_
    · exact ⟨[], upd_same, rfl, (fun _ h => by cases h), Ext.new hD, (hS.new hD).mono (by omega)⟩
    · rintro i H' hi ⟨xs, hx, hl, hA, hE, hS'⟩
      refine ⟨rfl, _, rfl, _, rfl, _, rfl, _, rfl, by decide, s, a, _, c + (m - (i + 1)), rfl, by decide, by decide, by rw [show c + (m - (i + 1)) + 1 = c + (m - i) by omega]; exact hS', fun v H2 v0 v1 hE2 hS2 => ?_⟩
      obtain ⟨ch, e1, _, e3⟩ := at_str v0 v1
      refine ⟨_, _, ch, rfl, rfl, v0, Int.lt_of_lt_of_le v1 (by decide +kernel), v1, e1, xs.map V.str, hE2 _ _ Ds hx, ?_, ?_⟩
      · rw [List.length_map]; exact small1000 (by omega)
      · refine ⟨xs ++ [S [ch]], by rw [upd_same, List.map_append]; rfl, by rw [List.length_append]; simp [hl], fun x hx' => ?_, ?_, ?_⟩
        · rcases List.mem_append.mp hx' with h | h
          · exact hA x h
          · have : x = S [ch] := List.mem_singleton.mp h
            subst this
            exact ⟨ch, rfl, Asc.by_ (by decide +kernel) ch e3⟩
        · intro b o hb hH
          have : b ≠ D := ne_of_none hH hD
          rw [upd_ne this]; exact hE2 _ _ hb (hE _ _ hb hH)
        · exact hS2.put Ds (hS.nea hD)
    · rintro H' ⟨xs, hx, hl, hA, hE, hS'⟩
      refine ⟨_, D, xs, rfl, rfl, .inl (SqL.of hx), ?_, ?_⟩
      · rw [ones_room hA]
        omega
      · refine q _ H' ?_ ?_ hE (hS'.mono (by omega))
        · rw [ones_joinE hA]; exact ones_asc hA
        · rw [ones_joinE hA, heads_len]
          omega
end
end Z
namespace Z
open PySem L2 SX
theorem nodup_le : ∀ {l us : List (List Nat)}, l.Nodup → (∀ x ∈ l, x ∈ us) → l.length ≤ us.length
  | [], us, _, _ => Nat.zero_le _
  | x :: l, us, h, k => by
    have hh := List.nodup_cons.mp h
    have m := k x (by simp)
    have := nodup_le (us := us.erase x) hh.2 fun y hy => (List.mem_erase_of_ne (fun e : y = x => hh.1 (by rw [e] at hy; exact hy))).mpr (k y (List.mem_cons_of_mem _ hy))
    rw [List.length_erase_of_mem m] at this
    have p := List.length_pos_of_mem m
    rw [List.length_cons]; omega
def sfxL (j : Nat) : List Nat := if j = 0 then [] else [48 + j]
theorem sfx_nodup : ((List.range 10).map sfxL).Nodup := by decide +kernel
theorem tried_nodup (p : List Nat) {m : Nat} (h : m ≤ 10) : ((List.range m).map fun j => p ++ sfxL j).Nodup := by
  have h1 : ((List.range m).map sfxL).Nodup := by
    have e : List.range m = (List.range 10).take m := by rw [List.take_range, Nat.min_eq_left h]
    rw [e, List.map_take]
    exact sfx_nodup.sublist (List.take_sublist _ _)
  rw [List.nodup_iff_pairwise_ne, List.pairwise_map] at h1 ⊢
  exact h1.imp fun ne e => ne (List.append_cancel_left e)
section
variable {P : Program} {w : World} {K : PySem.W.Frag} {mg : Str → Option Value} {base : Heap}
theorem ok__law_pick (D : Df K mg "_law_pick" s__law_pick ["source", "row"]) (T : Tx mg)  (C__law_draw : Cal P w K mg base "_law_draw" ["source", "many"] 2 sp__law_draw) : Cal P w K mg base "_law_pick" ["source", "row"] 3 (sp3__law_pick K) := by
  obtain ⟨f__law_draw, fd__law_draw, G__law_draw, g__law_draw, k__law_draw, b__law_draw⟩ := C__law_draw
  obtain ⟨f, fd, F, gf, bf⟩ := D
  refine ⟨f, fd, F.ok sc__law_pick (fun vs H Q E h => ?_) (fun cdv A outer s₀ H vs Q E hr h => ?_), gf, F.kp, bf⟩
  · rcases h with ⟨s, a, r, xs, c, rfl, _⟩ | ⟨s, a, x, c, rfl, _⟩ | ⟨s, a, r, xs, c, rfl, _⟩ <;> rfl
  · refine ⟨_, (pss_one (ps_ret (pe_ix ix_seq (pv 1) (pe_call G__law_draw (hr.mono (by decide)) (by rfl) g__law_draw k__law_draw b__law_draw .nil pass0 (pa_cons (pv 0) (pa_cons (pe_callB call_len (by rfl) T.n_len PySem.boot_len (pa_cons (pv 1) pa_nil)) pa_nil))) (fun _ _ => rfl)))), ?_⟩
    rcases h with ⟨s, a, r, xs, c, rfl, hR, rs, ne, hl, hS, q⟩ | ⟨s, a, x, c, rfl, ne, hl, hS, q⟩ | ⟨s, a, r, xs, c, rfl, hR, ne, hl, hS, q⟩
    · have n0 : 0 < xs.length := List.length_pos_iff.mpr ne
      refine ⟨_, rfl, _, rfl, _, rfl, _, _, rfl, .inl ⟨xs, hR, rfl⟩, s, a, (xs.length : Int), c, rfl, by omega, by omega, hS, fun v H' v0 v1 hE hS' => ?_⟩
      have hv : v.toNat < xs.length := by omega
      exact .inl ⟨r, xs, v, xs[v.toNat], rfl, rfl, hE.seqL rs hR, atI_pos v0 (List.getElem?_eq_getElem hv), q _ _ (List.getElem_mem hv) hE hS'⟩
    · have n0 : 0 < (tl x).length := List.length_pos_iff.mpr ne
      have hx := tl_len x
      refine ⟨_, rfl, _, rfl, _, rfl, _, x.length, rfl, ⟨by rw [hx]; exact Nat.le_trans hl (by decide), rfl⟩, s, a, (x.length : Int), c, rfl, by omega, by omega, hS, fun v H' v0 v1 hE hS' => ?_⟩
      have hv : v.toNat < (tl x).length := by omega
      exact .inr (.inr ⟨x, v, (tl x)[v.toNat], rfl, rfl, by rw [hx]; exact Nat.le_trans hl (by decide), atI_pos v0 (List.getElem?_eq_getElem hv), q _ _ (List.getElem_mem hv) hE hS'⟩)
    · have n0 : 0 < xs.length := List.length_pos_iff.mpr ne
      refine ⟨_, rfl, _, rfl, _, rfl, _, _, rfl, .inr ⟨xs, hR, rfl⟩, s, a, (xs.length : Int), c, rfl, by omega, by omega, hS, fun v H' v0 v1 hE hS' => ?_⟩
      have hv : v.toNat < xs.length := by omega
      exact .inr (.inl ⟨r, xs, v, xs[v.toNat], rfl, rfl, TK.ext hE hS _ _ hR, atI_pos v0 (List.getElem?_eq_getElem hv), q _ _ (List.getElem_mem hv) hE hS'⟩)
end
section
variable {P : Program} {w : World} {K : PySem.W.Frag} {mg : Str → Option Value} {base : Heap}
theorem ok__law_new_name (D : Df K mg "_law_new_name" s__law_new_name ["source", "used"]) (T : Tx mg)  (C__law_draw : Cal P w K mg base "_law_draw" ["source", "many"] 2 sp__law_draw) : Cal P w K mg base "_law_new_name" ["source", "used"] 3 (sp9__law_new_name K) := by
  obtain ⟨f__law_draw, fd__law_draw, G__law_draw, g__law_draw, k__law_draw, b__law_draw⟩ := C__law_draw
  obtain ⟨f, fd, F, gf, bf⟩ := D
  refine ⟨f, fd, F.ok sc__law_new_name (fun vs H Q E h => ?_) (fun cdv A outer s₀ H vs Q E hr h => ?_), gf, F.kp, bf⟩
  · obtain ⟨s, a, u, us, c, rfl, _⟩ := h; rfl
  · obtain ⟨s, a, u, us, c, rfl, hU, hus, hul, hS, q⟩ := h
    refine ⟨_, (pss_cons (ps_set (i := 2) sc__law_new_name.nd rfl (Or.inl rfl) pe_str)
      (pss_cons (ps_set (i := 3) sc__law_new_name.nd rfl (Or.inl rfl) (pe_op op_add pe_int (pe_call G__law_draw (hr.mono (by decide)) (by rfl) g__law_draw k__law_draw b__law_draw .nil pass0 (pa_cons (pv 0) (pa_cons pe_int pa_nil)))))
      (pss_cons (ps_set (i := 4) sc__law_new_name.nd rfl (Or.inl rfl) (pe_item_str (pv 2) (pe_call G__law_draw (hr.mono (by decide)) (by rfl) g__law_draw k__law_draw b__law_draw .nil pass0 (pa_cons (pv 0) (pa_cons pe_int pa_nil))) (fun _ _ => rfl)))
      (pss_cons (ps_for PassesOwn.never rfl (pi_range1 (by rfl) T.n_range (pa_cons (pe_op op_sub (pv 3) pe_int) pa_nil)) (pg_name (i := 5) sc__law_new_name.nd rfl (Or.inl rfl))
      (pss_one (ps_set (i := 4) sc__law_new_name.nd rfl (Or.inl rfl) (pe_op op_add_str (pv 4) (pe_item_str (pe_op op_add_str (pv 2) pe_str) (pe_call G__law_draw (hr.mono (by decide)) (by rfl) g__law_draw k__law_draw b__law_draw .nil pass0 (pa_cons (pv 0) (pa_cons pe_int pa_nil))) (fun _ _ => rfl))))))
      (pss_cons (ps_for PassesOwn.never rfl (pi_range1 (by rfl) T.n_range (pa_cons (pe_op op_add (pe_callB call_len_seq (by rfl) T.n_len PySem.boot_len (pa_cons (pv 1) pa_nil)) pe_int) pa_nil)) (pg_name (i := 5) sc__law_new_name.nd rfl (Or.inl rfl))
      (pss_cons (ps_set (i := 6) sc__law_new_name.nd rfl (Or.inl rfl) (pe_op op_add_str (pv 4) (pe_ix ix_list (pe_lst (pa_cons pe_str (pa_cons (pe_callTy call_str_int (by rfl) T.n_str (by decide +kernel) (pa_cons (pv 5) pa_nil)) pa_nil))) (pe_callTy call_int1 (by rfl) T.n_int (by decide +kernel) (pa_cons (pe_cmpR op_gt (pv 5) pe_int (nomark _)) pa_nil)) (fun _ _ => rfl))))
        (pss_one (ps_if (pt_cmpR op_notIn_seq (pv 6) (pv 1) (by rfl))
        (pss_one (ps_ret (pv 6)))
        pss_nil))))
      (pss_one (ps_ret (pv 4)))))))), ?_⟩
    refine ⟨_, rfl, s, a, _, c + 7, rfl, by decide, by decide, hS, fun v1 H1 v10 v11 x1 S1 => ?_⟩
    refine ⟨_, _, rfl, rfl, ?_⟩
    refine ⟨_, rfl, _, rfl, s, a, _, c + 6, rfl, by decide, by decide, S1, fun v2 H2 v20 v21 x2 S2 => ?_⟩
    obtain ⟨ch, e1, _, e3⟩ := at_str (x := Str.ofString "abcdefghijklmnopqrstuvwxyz") v20 v21
    refine ⟨_, _, ch, rfl, rfl, v20, by omega, v21, e1, ?_⟩
    have hch : 97 ≤ ch ∧ ch ≤ 122 := alpha_mem e3
    refine ⟨_, rfl, _, _, rfl, rfl, _, rfl, by omega, by omega, ?_⟩
    refine for_range (lo := 0) (n := (1 + v1 - 1).toNat) (fun i σ H' => ∃ (x : Str) (v : Option V), σ = [some (.ref s), some (.ref u), some (.str "abcdefghijklmnopqrstuvwxyz"), some (.int (1 + v1)), some (.str x), v, none] ∧ Nm (tl x) ∧ (tl x).length = i + 1 ∧ Ext s H H' ∧ Src H' s a (c + (5 - i))) ?_ ?_ ?_
    · exact ⟨S [ch], none, rfl, ⟨⟨ch, [], rfl, hch⟩, fun y hy => by rw [List.mem_singleton.mp hy]; exact .inl hch⟩, rfl, x1.trans x2, S2.mono (by omega)⟩
    · rintro i σ H' hi ⟨x, v, rfl, hN, hl, hE, hS'⟩
      refine ⟨_, rfl, _, rfl, _, _, rfl, rfl, by decide +kernel, ?_⟩
      refine ⟨_, rfl, s, a, _, c + (5 - (i + 1)), rfl, by decide, by decide, hS'.mono (by omega), fun v3 H3 v30 v31 x3 S3 => ?_⟩
      obtain ⟨d, e1, _, e3⟩ := at_str (x := Str.ofString "abcdefghijklmnopqrstuvwxyz" ++ Str.ofString "0123456789") v30 v31
      refine ⟨_, _, d, rfl, rfl, v30, by omega, v31, e1, _, _, rfl, rfl, ?_, ?_⟩
      · rw [tl_len, hl]; exact Nat.le_trans (show i + 1 + 1 ≤ 10 by omega) (by decide)
      · exact ⟨_, _, rfl, by rw [tl_app]; exact hN.app (fun y hy => by rw [List.mem_singleton.mp hy]; exact low_mem e3), by rw [tl_app, List.length_append, hl]; rfl, hE.trans x3, S3⟩
    · rintro σ H3 ⟨x, v, rfl, hN, hl, hE, hS'⟩
      have hU3 : SqL K H3 u (us.map V.str) := hE.seqL hus hU
      refine ⟨_, rfl, u, _, rfl, .inl hU3, _, _, rfl, rfl, _, rfl, by rw [List.length_map]; omega, by rw [List.length_map]; omega, ?_⟩
      refine for_range (lo := 0) (n := ((((us.map V.str).length : Int)) + 1).toNat) (fun i σ H' => ∃ (v t : Option V), σ = [some (.ref s), some (.ref u), some (.str "abcdefghijklmnopqrstuvwxyz"), some (.int (1 + v1)), some (.str x), v, t] ∧ Same H3 H' ∧ ∀ j, j < i → tl x ++ sfxL j ∈ us.map tl) ⟨_, _, rfl, Same.refl _, fun j hj => by omega⟩ ?_ ?_
      · rintro i σ H' hi ⟨v', t', rfl, hM, hall⟩
        rw [List.length_map] at hi
        obtain ⟨y, hy, hyl, hya⟩ : ∃ y : Str, atI [V.str (Str.ofString ""), V.str (Str.ofString (toString (0 + (i : Int))))] (if decide ((0 : Int) < 0 + (i : Int)) = true then 1 else 0) = some (.str y) ∧ tl y = sfxL i ∧ Low (tl y) := by
          by_cases h0 : i = 0
          · subst h0
            exact ⟨Str.ofString "", rfl, rfl, Low.nil⟩
          · rw [if_pos (decide_eq_true (by omega))]
            refine ⟨_, rfl, ?_, ?_⟩
            · rw [Int.zero_add, num_S, tl_S, TL.numL_lt (by omega)]
              unfold sfxL; rw [if_neg h0]
            · rw [Int.zero_add, num_S, tl_S]
              exact low_num i
        have yl : (tl y).length ≤ 1 := by rw [hyl]; unfold sfxL; split <;> simp
        refine ⟨_, rfl, _, rfl, _, rfl, log_small (by omega), by show 2 ≤ sizeLine; decide, fun p hp => ?_⟩
        refine ⟨_, rfl, _, _, rfl, rfl, .inr ⟨_, rfl, p, _, _, _, rfl, rfl, SqL.of upd_same, hy, _, _, rfl, rfl, ?_, ?_⟩⟩
        · rw [tl_len, tl_len]; exact Nat.le_trans (show _ ≤ 70 by omega) (by decide)
        have hM' : Same H3 (upd H' p (HO.lst [V.str (Str.ofString ""), V.str (Str.ofString (toString (0 + (i : Int))))])) := hM.trans (same_new hp)
        have ein := inV_strs (x ++ y) us
        refine ⟨_, rfl, _, rfl, u, _, rfl, .inl (hM'.seq hU3), rfl, flat_strs us, _, rfl, ite2 (fun cc => ?_) (fun cc => ⟨_, _, rfl, hM', fun j hj => ?_⟩)⟩
        · refine ⟨_, rfl, q _ _ (by rw [tl_app]; exact hN.app hya) (by rw [tl_app, List.length_append]; omega) (fun m => ?_) (hE.trans (Ext.of hM')) ((hS'.ext hM').mono (by omega))⟩
          have cc' : (!inV (V.str (x ++ y)) (us.map V.str)) = true := cc
          rw [ein, decide_eq_true m] at cc'
          cases cc'
        · by_cases e : j < i
          · exact hall j e
          · have : j = i := by omega
            subst this
            have cc' : ¬ (!inV (V.str (x ++ y)) (us.map V.str)) = true := cc
            rw [ein] at cc'
            have m : x ++ y ∈ us := by simpa using cc'
            have := List.mem_map_of_mem (f := tl) m
            rw [tl_app, hyl] at this
            exact this
      · rintro σ H' ⟨v', t', rfl, hM, hall⟩
        rw [List.length_map] at hall
        have h1 := nodup_le (us := us.map tl) (tried_nodup (tl x) (m := us.length + 1) (by omega)) fun z hz => by
          obtain ⟨j, hj, rfl⟩ := List.mem_map.mp hz
          exact hall j (by have := List.mem_range.mp hj; omega)
        rw [List.length_map, List.length_map, List.length_range] at h1
        omega
end
section
variable {P : Program} {w : World} {K : PySem.W.Frag} {mg : Str → Option Value} {base : Heap}
theorem ok__law_names (D : Df K mg "_law_names" s__law_names ["source", "many"]) (T : Tx mg)  (C__law_new_name : Cal P w K mg base "_law_new_name" ["source", "used"] 3 (sp9__law_new_name K)) : Cal P w K mg base "_law_names" ["source", "many"] 4 (sp9__law_names K) := by
  obtain ⟨f__law_new_name, fd__law_new_name, G__law_new_name, g__law_new_name, k__law_new_name, b__law_new_name⟩ := C__law_new_name
  obtain ⟨f, fd, F, gf, bf⟩ := D
  refine ⟨f, fd, F.ok sc__law_names (fun vs H Q E h => ?_) (fun cdv A outer s₀ H vs Q E hr h => ?_), gf, F.kp, bf⟩
  · obtain ⟨s, a, m, c, rfl, _⟩ := h; rfl
  · obtain ⟨s, a, m, c, rfl, hm, hS, q⟩ := h
    refine ⟨_, (pss_cons (ps_set (i := 2) sc__law_names.nd rfl (Or.inl rfl) (pe_lst pa_nil))
      (pss_cons (ps_for PassesOwn.never rfl (pi_range1 (by rfl) T.n_range (pa_cons (pv 1) pa_nil)) (pg_name (i := 3) sc__law_names.nd rfl (Or.inl rfl))
      (pss_one (ps_expr (pe_bm PySem.F.plainAttrs_list PySem.F.slot_list_append PySem.F.type_list_append mt_append (pv 2) (pa_cons (pe_call G__law_new_name (hr.mono (by decide)) (by rfl) g__law_new_name k__law_new_name b__law_new_name .nil pass0 (pa_cons (pv 0) (pa_cons (pv 2) pa_nil))) pa_nil)))))
      (pss_one (ps_ret (pv 2))))), ?_⟩
    refine ⟨Nat.zero_le _, fun u hu => ?_⟩
    have us : u ≠ s := hS.ne hu
    have ua : u ≠ a := hS.nea hu
    refine ⟨_, rfl, _, rfl, by omega, by omega, ?_⟩
    refine for_range (lo := 0) (n := ((m : Int)).toNat) (fun i σ H' => ∃ (xs : List Str) (v : Option V), σ = [some (.ref s), some (.int m), some (.ref u), v] ∧ H' u = some (.lst (xs.map V.str)) ∧ xs.length = i ∧ Nms xs ∧ Ext s H H' ∧ Src H' s a (c + 8 * (m - i))) ?_ ?_ ?_
    · exact ⟨[], none, rfl, upd_same, rfl, ⟨List.nodup_nil, (fun _ h => by cases h)⟩, Ext.new hu, (hS.new hu).mono (by omega)⟩
    · rintro i σ H' hi ⟨xs, v, rfl, hx, hl, hA, hE, hS'⟩
      refine ⟨_, rfl, .inl ⟨rfl, _, SqL.of hx⟩, _, rfl, _, rfl, s, a, u, xs, c + 8 * (m - (i + 1)), rfl, SqL.of hx, us, by omega, by rw [show c + 8 * (m - (i + 1)) + 8 = c + 8 * (m - i) by omega]; exact hS', fun x H2 hN hl2 hnew hE2 hS2 => ?_⟩
      refine ⟨u, _, _, rfl, rfl, hE2 _ _ us hx, ?_, ?_⟩
      · rw [List.length_map]; exact small1000 (by omega)
      · refine ⟨xs ++ [x], _, rfl, by rw [upd_same, List.map_append]; rfl, by rw [List.length_append]; simp [hl], ⟨?_, fun y hy => ?_⟩, ?_, hS2.put us ua⟩
        · rw [List.nodup_append]
          exact ⟨hA.1, by simp, fun a ha b hb e => by rw [List.mem_singleton.mp hb] at e; exact hnew (e ▸ ha)⟩
        · rcases List.mem_append.mp hy with h | h
          · exact hA.2 y h
          · rw [List.mem_singleton.mp h]; exact ⟨hN, hl2⟩
        · intro b o hb hH
          rw [upd_ne (ne_of_none hH hu)]; exact hE2 _ _ hb (hE _ _ hb hH)
    · rintro σ H' ⟨xs, v, rfl, hx, hl, hA, hE, hS'⟩
      exact ⟨_, rfl, q u xs H' hu hx (by omega) hA hE (hS'.mono (by omega))⟩
end

end Z
namespace Z
open PySem L2 SX
section
variable {P : Program} {w : World} {K : PySem.W.Frag} {mg : Str → Option Value} {base : Heap}
theorem ok_add_place (D : Df K mg "add_place" s_add_place ["glob", "places", "place"]) (T : Tx mg)  : Cal P w K mg base "add_place" ["glob", "places", "place"] 1 sp_add_place := by
  obtain ⟨f, fd, F, gf, bf⟩ := D
  refine ⟨f, fd, F.ok sc_add_place (fun vs H Q E h => ?_) (fun cdv A outer s₀ H vs Q E hr h => ?_), gf, F.kp, bf⟩
  · obtain ⟨g, p, x, L, m, A, rfl, _⟩ := h; rfl
  · obtain ⟨g, p, x, L, m, A, rfl, hL, hU, hm, hx, hb, gl, q⟩ := h
    refine ⟨_, (pss_cons (ps_if (PW.pt (pw_and (pt_truth (pv 1) (by intro _; rfl)) (pw_and1 (pt_cmpR op_ge (pe_ix ix_list (pv 1) (pe_un un_neg pe_int) (fun _ _ => rfl)) (pv 2) (nomark _)))))
      (pss_one ps_retN)
      pss_nil)
      (pss_cons (ps_expr (pe_bm PySem.F.plainAttrs_list PySem.F.slot_list_append PySem.F.type_list_append mt_append (pv 1) (pa_cons (pv 2) pa_nil)))
      (pss_one (ps_while PassesOwn.never (PW.pt (pw_and (pt_cmpR op_lt (pv 2) (pe_callB call_lenS (by rfl) T.n_len PySem.boot_len (pa_cons (pv 0) pa_nil)) (nomark _)) (pw_and1 (pt_cmpR op_eq (pe_item_str (pv 0) (pv 2) (fun _ _ => rfl)) pe_str (nomark _)))))
      (pss_cons (ps_aug (i := 2) sc_add_place.nd rfl (Or.inl rfl) pe_int ip_add)
        (pss_one (ps_expr (pe_bm PySem.F.plainAttrs_list PySem.F.slot_list_append PySem.F.type_list_append mt_append (pv 1) (pa_cons (pv 2) pa_nil))))))))), ?_⟩
    have lg := tl_len g
    have small : ∀ n : Nat, n ≤ 30000 → n < sizeLine := fun n h => Nat.lt_of_le_of_lt h (by decide)
    have Ll : L.length ≤ (tl g).length + 1 := Asd.len (M := fun y => y ∈ L) ⟨hU.asc, fun _ => Iff.rfl⟩ hb
    refine ⟨_, rfl, !(nts L).isEmpty, .inl ⟨_, SqL.of hL, rfl⟩, ?_⟩
    -- what is put in
    have go : ∀ (hl : ∀ y ∈ L, y < x), tSeq (tDrop (tBM K "list" rAppend (tVar 1) (tCons (tVar 2) tNil))) (tWhile (tAnd (tTest (tOp (rI0 fun i j => V.bl (decide (i < j))) (tVar 2) (tCB (fun xs H Q => ∃ x : Str, xs = [.str x] ∧ x.length ≤ sizeLine ∧ Q (.int x.length) H) (tCons (tVar 0) tNil)))) (tTest (tOp rEq (tOp (fun x y H Q => ∃ z i c, x = .str z ∧ y = .int i ∧ 0 ≤ i ∧ i < 2 ^ 63 ∧ i < z.length ∧ z.cps[i.toNat]? = some c ∧ Q (.str ⟨#[c]⟩) H) (tVar 0) (tVar 2)) (tC (.str (Str.ofString "*")))))) (tSeq (tAug 2 (tC (.int 1)) (ipI fun i j => i + j)) (tDrop (tBM K "list" rAppend (tVar 1) (tCons (tVar 2) tNil))))) { nx := fun _ H' => Q .non H', rt := Q } [some (.str g), some (.ref p), some (.int (x : Int))] H := by
      intro hl
      refine ⟨_, rfl, .inl ⟨rfl, _, SqL.of hL⟩, _, rfl, p, _, _, rfl, rfl, hL, ?_, ?_⟩
      · rw [List.length_map]; exact small _ (by omega)
      refine ⟨fun n σ H' => ∃ k, σ = [some (.str g), some (.ref p), some (.int ((x + k : Nat) : Int))] ∧ H' p = some (.lst (nts (L ++ List.range' x (k + 1)))) ∧ (∀ b, b ≠ p → H' b = H b) ∧ (∀ j, j < k → (tl g)[x + j]? = some 42) ∧ x + k ≤ (tl g).length ∧ n = (tl g).length - (x + k), ⟨_, 0, rfl, ?_, fun b hb => upd_ne hb, fun j hj => by omega, by omega, rfl⟩, ?_⟩
      · rw [upd_same]; show some (HO.lst (nts L ++ nts [x])) = _; unfold nts; rw [← List.map_append]; rfl
      rintro n σ H' ⟨k, rfl, hp, hH, hs, hk, rfl⟩
      have stop : (tl g)[x + k]? ≠ some 42 → Q .non H' := fun ns => by
        refine q _ H' hp hH (hU.more hl ⟨hs, ns⟩) fun y hy => ?_
        rcases List.mem_append.mp hy with h | h
        · exact hb y h
        · have := (run_mem.mp h).2; omega
      refine ⟨_, rfl, _, rfl, g, rfl, Nat.le_of_lt (small _ (by omega)), _, _, rfl, rfl, _, rfl, ite2 (fun c1 => ?_) (fun c1 => iteF (stop fun e => ?_))⟩
      · have c1 : x + k < (tl g).length := by have := of_decide_eq_true c1; omega
        obtain ⟨d, g1, g2, g3⟩ := at_str (x := g) (i := ((x + k : Nat) : Int)) (by omega) (by omega)
        rw [Int.toNat_natCast] at g2
        refine ⟨_, rfl, _, rfl, g, _, d, rfl, rfl, by omega, by omega, by omega, g1, rfl, _, rfl, ite2 (fun c2 => ?_) (fun c2 => stop fun e => ?_)⟩
        · have ed : d = 42 := (List.cons.inj (congrArg tl (V.str.inj (of_decide_eq_true c2)))).1
          subst ed
          refine ⟨fun σ2 H2 => ∃ m', m' < (tl g).length - (x + k) ∧ ∃ k, σ2 = [some (.str g), some (.ref p), some (.int ((x + k : Nat) : Int))] ∧ H2 p = some (.lst (nts (L ++ List.range' x (k + 1)))) ∧ (∀ b, b ≠ p → H2 b = H b) ∧ (∀ j, j < k → (tl g)[x + j]? = some 42) ∧ x + k ≤ (tl g).length ∧ m' = (tl g).length - (x + k), fun σ2 H2 h => h, ?_⟩
          refine ⟨_, rfl, _, _, rfl, rfl, ?_⟩
          refine ⟨_, rfl, .inl ⟨rfl, _, SqL.of hp⟩, _, rfl, p, _, _, rfl, rfl, hp, ?_, ?_⟩
          · rw [List.length_map, List.length_append, List.length_range']; exact small _ (by omega)
          refine ⟨_, ?_, k + 1, rfl, ?_, fun b hb => by rw [upd_ne hb]; exact hH b hb, fun j hj => ?_, by omega, rfl⟩
          · omega
          · rw [upd_same]
            show some (HO.lst (nts (L ++ List.range' x (k + 1)) ++ nts [x + k + 1])) = _
            unfold nts
            rw [← List.map_append, List.append_assoc]
            congr 4
            rw [List.range'_concat (n := k + 1), Nat.one_mul, Nat.add_assoc]
          · by_cases e : j = k
            · subst e; exact g2
            · exact hs j (by omega)
        · rw [g2] at e
          have : d = 42 := Option.some.inj e
          subst this
          exact c2 (decide_eq_true rfl)
      · have := (List.getElem?_eq_some_iff.mp e).1
        exact c1 (decide_eq_true (by omega))
    by_cases hE : L = []
    · subst hE
      exact iteF (go fun _ h => by cases h)
    · rw [show (!(nts L).isEmpty) = true by unfold nts; cases L with | nil => exact absurd rfl hE | cons _ _ => rfl]
      refine iteT ?_
      obtain ⟨r, z, e⟩ : ∃ r z, L = r ++ [z] := ⟨L.dropLast, L.getLast hE, (List.dropLast_concat_getLast hE).symm⟩
      have hz : atI (nts L) (-1) = some (.int (z : Int)) := by rw [e]; unfold nts; rw [List.map_append]; exact atI_last _ _
      have zm : z ∈ L := by rw [e]; simp
      have zmax : ∀ y ∈ L, y ≤ z := fun y hy => by
        have ha := hU.asc
        rw [e] at hy ha
        rcases List.mem_append.mp hy with h | h
        · have := (List.pairwise_append.mp ha).2.2 y h z (by simp); omega
        · rw [List.mem_singleton.mp h]; exact Nat.le_refl _
      refine ⟨_, rfl, 1, rfl, p, _, _, _, rfl, rfl, SqL.of hL, hz, _, rfl, _, _, rfl, rfl, _, rfl, ite2 (fun c1 => ?_) (fun c1 => go fun y hy => ?_)⟩
      · have : x ≤ z := by have := of_decide_eq_true c1; omega
        exact q L H hL (fun _ _ => rfl) (hU.stay hm zm this) hb
      · have := zmax y hy
        simp at c1; omega
end
section
variable {P : Program} {w : World} {K : PySem.W.Frag} {mg : Str → Option Value} {base : Heap}
theorem ok_follows (D : Df K mg "follows" s_follows ["glob", "standing", "character"]) (T : Tx mg) (C_add_place : Cal P w K mg base "add_place" ["glob", "places", "place"] 1 sp_add_place) : Cal P w K mg base "follows" ["glob", "standing", "character"] 2 (sp_follows K) := by
  obtain ⟨f_add_place, fd_add_place, G_add_place, g_add_place, k_add_place, b_add_place⟩ := C_add_place
  obtain ⟨f, fd, F, gf, bf⟩ := D
  refine ⟨f, fd, F.ok sc_follows (fun vs H Q E h => ?_) (fun cdv A outer s₀ H vs Q E hr h => ?_), gf, F.kp, bf⟩
  · obtain ⟨g, a, c, ps, M, rfl, _⟩ := h; rfl
  · obtain ⟨g, a, c, ps, M, rfl, hA, hP, hC, hW, hc, gl, q⟩ := h
    refine ⟨_, (pss_cons (ps_set (i := 3) sc_follows.nd rfl (Or.inl rfl) (pe_lst pa_nil))
      (pss_cons (ps_for PassesOwn.never rfl (pi_tup (pv 1)) (pg_name (i := 4) sc_follows.nd rfl (Or.inl rfl))
      (C8.pss_cut (ps_if (PW.pt (pw_and (pt_cmpR op_gt (pv 4) pe_int (nomark _)) (pw_and1 (pt_cmpR op_eq (pe_item_str (pv 0) (pe_op op_sub (pv 4) pe_int) (fun _ _ => rfl)) pe_str (nomark _)))))
        (pss_one (ps_expr (pe_call G_add_place (hr.mono (by decide)) (by rfl) g_add_place k_add_place b_add_place .nil pass0 (pa_cons (pv 0) (pa_cons (pv 3) (pa_cons (pv 4) pa_nil))))))
        pss_nil)
        (pss_one (ps_if (PW.pt (pw_and (pt_cmpR op_lt (pv 4) (pe_callB call_lenS (by rfl) T.n_len PySem.boot_len (pa_cons (pv 0) pa_nil)) (nomark _)) (pw_and1 (pt_cmpR op_in_seq (pe_item_str (pv 0) (pv 4) (fun _ _ => rfl)) (pe_tup (pa_cons pe_str (pa_cons (pv 2) pa_nil))) (by rfl)))))
        (pss_one (ps_expr (pe_call G_add_place (hr.mono (by decide)) (by rfl) g_add_place k_add_place b_add_place .nil pass0 (pa_cons (pv 0) (pa_cons (pv 3) (pa_cons (pe_op op_add (pv 4) pe_int) pa_nil))))))
        pss_nil))))
      (pss_one (ps_ret (pe_callTy call_tuple_of (by rfl) T.n_tuple (by decide +kernel) (pa_cons (pv 3) pa_nil)))))), ?_⟩
    have lg := tl_len g
    have pl := hP.len hW
    have small : ∀ n : Nat, n ≤ 30000 → n < sizeLine := fun n h => Nat.lt_of_le_of_lt h (by decide)
    refine ⟨Nat.zero_le _, fun L hL => ?_⟩
    refine ⟨_, rfl, a, rfl, ⟨_, (same_new hL).tup hA⟩, ?_⟩
    refine for_tup (K := K) (a := a) (xs := nts ps) (fun i σ H' => ∃ (qs : List Nat) (m : Nat) (v : Option V), σ = [some (.str g), some (.ref a), some (.str (S [c])), some (.ref L), v] ∧ H' L = some (.lst (nts qs)) ∧ Same H H' ∧ Up (tl g) qs m (puts (tl g) c (fun y => y ∈ ps.take i)) ∧ (∀ y ∈ qs, y ≤ (tl g).length) ∧ (∀ y, y ∈ ps.drop i → m ≤ y)) ?_ ?_ ?_ ?_
    · exact ⟨[], 0, _, rfl, upd_same, same_new hL, (Up.nil _).congr fun y => ⟨fun h => h.elim, fun h => by
        rcases h with ⟨h, _⟩ | ⟨i, _, h, _⟩ <;> (rw [List.take_zero] at h; cases h)⟩, (fun _ h => by cases h), fun _ _ => Nat.zero_le _⟩
    · rintro i σ H' _ ⟨_, _, _, _, _, hS, _⟩
      exact hS.tup hA
    · rintro i y σ H' hi ⟨qs, m, v, rfl, hQ, hS, hU, hB, hm⟩
      rw [List.getElem?_map] at hi
      obtain ⟨x, hx, rfl⟩ := Option.map_eq_some_iff.mp hi
      have xm := List.mem_of_getElem? hx
      have xM := (hP.2 x).mp xm
      have xw := hW x xM
      have ed : ps.drop i = x :: ps.drop (i + 1) := by
        obtain ⟨h1, h2⟩ := List.getElem?_eq_some_iff.mp hx
        rw [← h2, List.getElem_cons_drop]
      have et : ps.take (i + 1) = ps.take i ++ [x] := by rw [List.take_add_one, hx]; rfl
      have mx : m ≤ x := hm x (by rw [ed]; simp)
      have later : ∀ z, z ∈ ps.drop (i + 1) → x < z := fun z hz => by
        have := hP.1.sublist (List.drop_sublist i ps)
        rw [ed] at this
        exact (List.pairwise_cons.mp this).1 z hz
      -- the place behind a star
      refine ⟨fun σ2 H2 => ∃ (qs2 : List Nat) (m2 : Nat), σ2 = [some (.str g), some (.ref a), some (.str (S [c])), some (.ref L), some (.int (x : Int))] ∧ H2 L = some (.lst (nts qs2)) ∧ Same H H2 ∧ Up (tl g) qs2 m2 (fun z => puts (tl g) c (fun y => y ∈ ps.take i) z ∨ (z = x ∧ ∃ j, x = j + 1 ∧ (tl g)[j]? = some 42)) ∧ (∀ y ∈ qs2, y ≤ (tl g).length) ∧ m2 ≤ x, ?_, ?_⟩
      · have no : (¬ ∃ j, x = j + 1 ∧ (tl g)[j]? = some 42) → ∃ (qs2 : List Nat) (m2 : Nat), ([some (V.str g), some (V.ref a), some (V.str (S [c])), some (V.ref L), some (V.int (x : Int))] : St) = [some (.str g), some (.ref a), some (.str (S [c])), some (.ref L), some (.int (x : Int))] ∧ H' L = some (.lst (nts qs2)) ∧ Same H H' ∧ Up (tl g) qs2 m2 (fun z => puts (tl g) c (fun y => y ∈ ps.take i) z ∨ (z = x ∧ ∃ j, x = j + 1 ∧ (tl g)[j]? = some 42)) ∧ (∀ y ∈ qs2, y ≤ (tl g).length) ∧ m2 ≤ x := fun h =>
          ⟨qs, m, rfl, hQ, hS, hU.congr fun y => ⟨.inl, fun z => z.elim id fun w => absurd w.2 h⟩, hB, mx⟩
        refine ⟨_, rfl, _, _, rfl, rfl, _, rfl, ite2 (fun c1 => ?_) (fun c1 => iteF (no fun ⟨j, e, _⟩ => c1 (decide_eq_true (by omega))))⟩
        have x1 : 0 < x := by have := of_decide_eq_true c1; omega
        obtain ⟨d, g1, g2, g3⟩ := at_str (x := g) (i := (x : Int) - 1) (by omega) (by omega)
        rw [show ((x : Int) - 1).toNat = x - 1 by omega] at g2
        refine ⟨_, rfl, _, rfl, _, _, rfl, rfl, g, _, d, rfl, rfl, by omega, by omega, by omega, g1, rfl, _, rfl, ite2 (fun c2 => ?_) (fun c2 => no fun ⟨j, e, h⟩ => ?_)⟩
        · have e42 : d = 42 := (List.cons.inj (congrArg tl (V.str.inj (of_decide_eq_true c2)))).1
          subst e42
          refine ⟨_, rfl, _, rfl, _, rfl, g, L, x, qs, m, _, rfl, hQ, hU, mx, xw, hB, gl, fun qs' H2 h1 h2 h3 h4 => ?_⟩
          refine ⟨qs', x, rfl, h1, fun b o hb => ?_, h3.congr fun y => ⟨fun z => z.elim .inl fun e => .inr ⟨e, x - 1, by omega, g2⟩, fun z => z.elim .inl fun w => .inr w.1⟩, h4, Nat.le_refl _⟩
          rw [h2 b (ne_of_none hb hL)]; exact hS _ _ hb
        · rw [show x - 1 = j by omega] at g2
          rw [g2] at h
          have : d = 42 := Option.some.inj h
          subst this
          exact c2 (decide_eq_true rfl)
      · rintro σ2 H2 ⟨qs2, m2, rfl, hQ2, hS2, hU2, hB2, hm2⟩
        have ends : ∀ (qs3 : List Nat) (m3 : Nat) (H3 : Hp) (Z : Prop), H3 L = some (.lst (nts qs3)) → Same H H3 → Up (tl g) qs3 m3 (fun z => (puts (tl g) c (fun y => y ∈ ps.take i) z ∨ (z = x ∧ ∃ j, x = j + 1 ∧ (tl g)[j]? = some 42)) ∨ (z = x + 1 ∧ ((tl g)[x]? = some 63 ∨ (tl g)[x]? = some c))) → (∀ y ∈ qs3, y ≤ (tl g).length) → m3 ≤ x + 1 →
            ∃ (qs : List Nat) (m : Nat) (v : Option V), ([some (V.str g), some (V.ref a), some (V.str (S [c])), some (V.ref L), some (V.int (x : Int))] : St) = [some (.str g), some (.ref a), some (.str (S [c])), some (.ref L), v] ∧ H3 L = some (.lst (nts qs)) ∧ Same H H3 ∧ Up (tl g) qs m (puts (tl g) c (fun y => y ∈ ps.take (i + 1))) ∧ (∀ y ∈ qs, y ≤ (tl g).length) ∧ (∀ y, y ∈ ps.drop (i + 1) → m ≤ y) := fun qs3 m3 H3 _ h1 h2 h3 h4 h5 => by
          refine ⟨qs3, m3, _, rfl, h1, h2, h3.congr fun z => ?_, h4, fun y hy => by have := later y hy; omega⟩
          unfold puts
          rw [et]
          simp only [List.mem_append, List.mem_singleton]
          constructor
          · rintro (((⟨h, k⟩ | ⟨j, e, h, k⟩) | ⟨e, k⟩) | ⟨e, k⟩)
            · exact .inl ⟨.inl h, k⟩
            · exact .inr ⟨j, e, .inl h, k⟩
            · exact .inl ⟨.inr e, by rw [e]; exact k⟩
            · exact .inr ⟨x, e, .inr rfl, k⟩
          · rintro (⟨h | e, k⟩ | ⟨j, e, h | e2, k⟩)
            · exact .inl (.inl (.inl ⟨h, k⟩))
            · exact .inl (.inr ⟨e, by rw [e] at k; exact k⟩)
            · exact .inl (.inl (.inr ⟨j, e, h, k⟩))
            · subst e2; exact .inr ⟨e, k⟩
        have no : (¬ ((tl g)[x]? = some 63 ∨ (tl g)[x]? = some c)) → _ := fun h => ends qs2 m2 H2 True hQ2 hS2 (hU2.congr fun z => ⟨.inl, fun w => w.elim id fun q => absurd q.2 h⟩) hB2 (by omega)
        have noT : ∀ (t : Addr) (us : List V), H2 t = none → (¬ ((tl g)[x]? = some 63 ∨ (tl g)[x]? = some c)) → _ := fun t us ht h => ends qs2 m2 (upd H2 t (.tup us)) True ((same_new ht) _ _ hQ2) (hS2.trans (same_new ht)) (hU2.congr fun z => ⟨.inl, fun w => w.elim id fun q => absurd q.2 h⟩) hB2 (by omega)
        refine ⟨_, rfl, _, rfl, g, rfl, Nat.le_of_lt (small _ (by omega)), _, _, rfl, rfl, _, rfl, ite2 (fun c1 => ?_) (fun c1 => iteF (no fun e => ?_))⟩
        · have xl : x < (tl g).length := by have := of_decide_eq_true c1; omega
          obtain ⟨d, g1, g2, g3⟩ := at_str (x := g) (i := (x : Int)) (by omega) (by omega)
          rw [Int.toNat_natCast] at g2
          refine ⟨_, rfl, _, rfl, g, _, d, rfl, rfl, by omega, by omega, by omega, g1, ?_⟩
          refine ⟨_, rfl, by show 2 ≤ sizeLine; decide, fun t ht => ?_⟩
          refine ⟨t, [Str.ofString "?", S [c]].map V.str, rfl, .inr (SqT.of upd_same), rfl, flat_strs _, _, rfl, ?_⟩
          have eb : (if false = true then !inV (V.str (S [d])) ([Str.ofString "?", S [c]].map V.str) else inV (V.str (S [d])) ([Str.ofString "?", S [c]].map V.str)) = decide (S [d] ∈ [Str.ofString "?", S [c]]) := inV_strs _ _
          by_cases hin : S [d] ∈ [Str.ofString "?", S [c]]
          · have hmt : (tl g)[x]? = some 63 ∨ (tl g)[x]? = some c := by
              rw [g2]
              rcases List.mem_cons.mp hin with e | e
              · exact .inl (congrArg some (List.cons.inj (congrArg tl e)).1)
              · exact .inr (congrArg some (List.cons.inj (congrArg tl (List.mem_singleton.mp e))).1)
            refine ite2 (fun _ => ?_) (fun h => (h (eb.trans (decide_eq_true hin))).elim)
            refine ⟨_, rfl, _, rfl, _, rfl, _, _, rfl, rfl, g, L, x + 1, qs2, m2, _, rfl, (same_new ht) _ _ hQ2, hU2, by omega, by omega, hB2, gl, fun qs' H3 h1 h2 h3 h4 => ?_⟩
            refine ends qs' (x + 1) H3 True h1 (fun b o hb => ?_) (h3.congr fun z => ⟨fun w => w.elim .inl fun e => .inr ⟨e, hmt⟩, fun w => w.elim .inl fun q => .inr q.1⟩) h4 (Nat.le_refl _)
            rw [h2 b (ne_of_none hb hL)]; exact (hS2.trans (same_new ht)) _ _ hb
          · refine ite2 (fun h => (hin (of_decide_eq_true (eb.symm.trans h))).elim) (fun _ => noT t _ ht fun e => hin ?_)
            rw [g2] at e
            rcases e with e | e
            · have : d = 63 := Option.some.inj e
              subst this; exact List.mem_cons_self
            · have : d = c := Option.some.inj e
              subst this; exact List.mem_cons_of_mem _ (List.mem_singleton.mpr rfl)
        · have : x < (tl g).length := by rcases e with e | e <;> exact (List.getElem?_eq_some_iff.mp e).1
          exact c1 (decide_eq_true (by omega))
    · rintro σ H' ⟨qs, m, v, rfl, hQ, hS, hU, hB, hm⟩
      rw [List.length_map, List.take_length] at hU
      refine ⟨_, rfl, L, _, rfl, .inl ⟨SqL.of hQ, fun t ht => ?_⟩⟩
      exact q t qs _ (hS.trans (same_new ht)) upd_same (puts_next hc hC (hU.congr fun y => by
        unfold puts
        simp only [hP.2]))
end
section
variable {P : Program} {w : World} {K : PySem.W.Frag} {mg : Str → Option Value} {base : Heap}
theorem ok_standing (D : Df K mg "standing" s_standing ["glob", "beginning"]) (T : Tx mg) (C_add_place : Cal P w K mg base "add_place" ["glob", "places", "place"] 1 sp_add_place) (C_follows : Cal P w K mg base "follows" ["glob", "standing", "character"] 2 (sp_follows K)) : Cal P w K mg base "standing" ["glob", "beginning"] 3 (sp_standing K) := by
  obtain ⟨f_add_place, fd_add_place, G_add_place, g_add_place, k_add_place, b_add_place⟩ := C_add_place
  obtain ⟨f_follows, fd_follows, G_follows, g_follows, k_follows, b_follows⟩ := C_follows
  obtain ⟨f, fd, F, gf, bf⟩ := D
  refine ⟨f, fd, F.ok sc_standing (fun vs H Q E h => ?_) (fun cdv A outer s₀ H vs Q E hr h => ?_), gf, F.kp, bf⟩
  · obtain ⟨g, b, rfl, _⟩ := h; rfl
  · obtain ⟨g, b, rfl, hb, gl, q⟩ := h
    refine ⟨_, (pss_cons (ps_set (i := 2) sc_standing.nd rfl (Or.inl rfl) (pe_lst pa_nil))
      (pss_cons (ps_expr (pe_call G_add_place (hr.mono (by decide)) (by rfl) g_add_place k_add_place b_add_place .nil pass0 (pa_cons (pv 0) (pa_cons (pv 2) (pa_cons pe_int pa_nil)))))
      (pss_cons (ps_set (i := 3) sc_standing.nd rfl (Or.inl rfl) (pe_callTy call_tuple_of (by rfl) T.n_tuple (by decide +kernel) (pa_cons (pv 2) pa_nil)))
      (pss_cons (ps_for PassesOwn.never rfl (pi_str (pv 1)) (pg_name (i := 4) sc_standing.nd rfl (Or.inl rfl))
      (pss_one (ps_set (i := 3) sc_standing.nd rfl (Or.inl rfl) (pe_call G_follows (hr.mono (by decide)) (by rfl) g_follows k_follows b_follows .nil pass0 (pa_cons (pv 0) (pa_cons (pv 3) (pa_cons (pv 4) pa_nil)))))))
      (pss_one (ps_ret (pv 3))))))), ?_⟩
    refine ⟨Nat.zero_le _, fun L hL => ?_⟩
    refine ⟨_, rfl, _, rfl, g, L, 0, [], 0, _, rfl, upd_same, Up.nil _, Nat.le_refl _, Nat.zero_le _, (fun _ h => by cases h), gl, fun L' H1 h1 h2 h3 h4 => ?_⟩
    have s1 : Same H H1 := fun bb o hh => by rw [h2 bb (ne_of_none hh hL), upd_ne (ne_of_none hh hL)]; exact hh
    have a0 := start_asd (h3.congr fun y => ⟨fun h => h.elim (fun z => z.elim) id, .inr⟩)
    refine ⟨_, rfl, L, _, rfl, .inl ⟨SqL.of h1, fun t ht => ?_⟩⟩
    refine ⟨_, rfl, _, rfl, ?_⟩
    refine for_str (l := tl b) (fun i σ H' => ∃ (t : Addr) (ps : List Nat) (v : Option V), σ = [some (.str g), some (.str b), some (.ref L), some (.ref t), v] ∧ H' t = some (.tup (nts ps)) ∧ Same H H' ∧ Asd ps (stand (tl g) ((tl b).take i))) ⟨t, L', _, rfl, upd_same, s1.trans (same_new ht), a0⟩ ?_ ?_
    · rintro i c σ H' hi ⟨t', ps, v, rfl, hT, hS, hP⟩
      have cb := hb c (List.mem_of_getElem? hi)
      have e : (tl b).take (i + 1) = (tl b).take i ++ [c] := by rw [List.take_add_one, hi]; rfl
      obtain ⟨cl, wi⟩ := stand_ok (tl g) ((tl b).take i)
      refine ⟨_, rfl, _, rfl, _, rfl, g, t', c, ps, _, rfl, SqT.of hT, hP, cl, wi, cb, gl, fun q' qs H2 m2 e2 a2 => ?_⟩
      exact ⟨q', qs, _, rfl, e2, hS.trans m2, by rw [e, stand_snoc]; exact a2⟩
    · rintro σ H' ⟨t', ps, v, rfl, hT, hS, hP⟩
      rw [List.take_length] at hP
      exact ⟨_, rfl, q t' ps H' hS hT hP⟩
end
section
variable {P : Program} {w : World} {K : PySem.W.Frag} {mg : Str → Option Value} {base : Heap}
theorem ok_fits (D : Df K mg "fits" s_fits ["glob", "board"]) (T : Tx mg) (C_standing : Cal P w K mg base "standing" ["glob", "beginning"] 3 (sp_standing K)) : Cal P w K mg base "fits" ["glob", "board"] 4 (sp_fits K) := by
  obtain ⟨f_standing, fd_standing, G_standing, g_standing, k_standing, b_standing⟩ := C_standing
  obtain ⟨f, fd, F, gf, bf⟩ := D
  refine ⟨f, fd, F.ok sc_fits (fun vs H Q E h => ?_) (fun cdv A outer s₀ H vs Q E hr h => ?_), gf, F.kp, bf⟩
  · obtain ⟨g, b, rfl, _⟩ := h; rfl
  · obtain ⟨g, b, rfl, hb, gl, q⟩ := h
    refine ⟨_, (pss_one (ps_ret (pe_cmpR op_in_seq (pe_callB call_lenS (by rfl) T.n_len PySem.boot_len (pa_cons (pv 0) pa_nil)) (pe_call G_standing (hr.mono (by decide)) (by rfl) g_standing k_standing b_standing .nil pass0 (pa_cons (pv 0) (pa_cons (pv 1) pa_nil))) (by rfl)))), ?_⟩
    have lg := tl_len g
    refine ⟨_, rfl, g, rfl, Nat.le_trans (show g.length ≤ 10000 by omega) (by decide), ?_⟩
    refine ⟨_, rfl, _, rfl, g, b, rfl, hb, gl, fun t ps H1 m1 e1 a1 => ?_⟩
    refine ⟨t, _, rfl, .inr (SqT.of e1), rfl, flat_nts ps, ?_⟩
    have eb : (if false = true then !inV (V.int (g.length : Int)) (nts ps) else inV (V.int (g.length : Int)) (nts ps)) = decide (g.length ∈ ps) := inV_nts _ _
    have e2 : decide (g.length ∈ ps) = @decide (stand (tl g) (tl b) (tl g).length) (Classical.propDecidable _) := by
      rw [Bool.eq_iff_iff]
      simp only [decide_eq_true_iff]
      rw [lg]; exact a1.2 _
    rw [eb, e2]
    exact q H1 m1
end

end Z
namespace Z
open PySem L2 SX
section
variable {P : Program} {w : World} {K : PySem.W.Frag} {mg : Str → Option Value} {base : Heap}
theorem ok_items_of (D : Df K mg "items_of" s_items_of ["pattern"]) (T : Tx mg)  : Cal P w K mg base "items_of" ["pattern"] 1 (sp_items_of K) := by
  obtain ⟨f, fd, F, gf, bf⟩ := D
  refine ⟨f, fd, F.ok sc_items_of (fun vs H Q E h => ?_) (fun cdv A outer s₀ H vs Q E hr h => ?_), gf, F.kp, bf⟩
  · obtain ⟨p, rfl, _⟩ := h; rfl
  · obtain ⟨p, rfl, pl, q⟩ := h
    refine ⟨_, (pss_one (ps_ret (pe_callTy call_tuple_of (by rfl) T.n_tuple (by decide +kernel) (pa_cons (pe_lc (own := [("item", 1)]) (g := gName 1) (tt := tYes) rfl sc_items_of.nd (pi_list (pe_split (pv 0) pe_str)) (blkOk_by (own := [("item", 1)]) (N := N_items_of) (sc := defScope s_items_of) (by decide +kernel)) (fun _ _ _ _ _ => pg_name (i := 1) sc_items_of.nd rfl (Or.inl rfl)) (fun _ _ _ _ _ => pts_nil) (fun _ _ _ _ _ => (pe_ifExp (pt_val (pe_m1 PySem.F.slot_str_startswith PySem.F.type_str_startswith mt_startswith (pv 1) pe_str)) (pe_tup (pa_cons pe_int (pa_cons (pe_slice sl_str (pv 1) (po_some pe_int) po_none) pa_nil))) (pe_tup (pa_cons pe_int (pa_cons (pv 1) pa_nil)))))) pa_nil)))), ?_⟩
    have lp := tl_len p
    have small : ∀ n : Nat, n ≤ 30000 → n < sizeLine := fun n h => Nat.lt_of_le_of_lt h (by decide)
    refine ⟨_, rfl, ⟨_, rfl⟩, p, Str.ofString ",", rfl, rfl, rfl, Nat.le_of_lt (small _ (by omega)), fun B hB => ?_⟩
    rw [split_bar]
    have pn := parts_num (tl p)
    have hB1 : (upd H B (HO.lst (((parts (tl p)).map S).map V.str))) B = some (.lst (((parts (tl p)).map S).map V.str)) := upd_same
    refine ⟨B, rfl, ⟨_, SqL.of hB1⟩, fun D hD => ?_⟩
    refine lc_list (K := K) (a := B) (xs := ((parts (tl p)).map S).map V.str) (fun i H' => ∃ ts : List Addr, H' D = some (.lst (ts.map V.ref)) ∧ ts.length = i ∧ Same (upd H B (HO.lst (((parts (tl p)).map S).map V.str))) H' ∧ (∀ (j : Nat) (t : Addr) (it : List Nat), ts[j]? = some t → (parts (tl p))[j]? = some it → H' t = some (.tup (itemV it)))) ⟨[], upd_same, rfl, same_new hD, fun j t it h => by simp at h⟩ (fun i H' _ h => by obtain ⟨_, _, _, h, _⟩ := h; exact SqL.of (h _ _ hB1)) ?_ ?_
    · rintro i x H' hi ⟨ts, h1, h2, h3, h4⟩
      rw [List.getElem?_map, List.getElem?_map] at hi
      obtain ⟨y, hy, rfl⟩ := Option.map_eq_some_iff.mp hi
      obtain ⟨it, hit, rfl⟩ := Option.map_eq_some_iff.mp hy
      have il := parts_len (List.mem_of_getElem? hit)
      have ilt : i < (parts (tl p)).length := (List.getElem?_eq_some_iff.mp hit).1
      have fin : ∀ (t : Addr), H' t = none → ∃ acc, (upd H' t (HO.tup (itemV it))) D = some (.lst acc) ∧ acc.length < sizeLine ∧ ∃ ts : List Addr, (upd (upd H' t (HO.tup (itemV it))) D (HO.lst (acc ++ [V.ref t]))) D = some (.lst (ts.map V.ref)) ∧ ts.length = i + 1 ∧ Same (upd H B (HO.lst (((parts (tl p)).map S).map V.str))) (upd (upd H' t (HO.tup (itemV it))) D (HO.lst (acc ++ [V.ref t]))) ∧ (∀ (j : Nat) (t' : Addr) (it' : List Nat), ts[j]? = some t' → (parts (tl p))[j]? = some it' → (upd (upd H' t (HO.tup (itemV it))) D (HO.lst (acc ++ [V.ref t]))) t' = some (.tup (itemV it'))) := fun t ht => by
        have tD : t ≠ D := (ne_of_none h1 ht).symm
        refine ⟨ts.map V.ref, (same_new ht) _ _ h1, by rw [List.length_map]; exact small _ (by omega), ts ++ [t], by rw [upd_same, List.map_append]; rfl, by rw [List.length_append]; simp [h2], fun b o hb => ?_, fun j t' it' hj hj2 => ?_⟩
        · rw [upd_ne (ne_of_none hb hD)]; exact (h3.trans (same_new ht)) _ _ hb
        · by_cases e : j < ts.length
          · rw [List.getElem?_append_left e] at hj
            have h5 := h4 j t' it' hj hj2
            have : t' ≠ D := fun q => by rw [q, h1] at h5; cases h5
            rw [upd_ne this]; exact (same_new ht) _ _ h5
          · rw [List.getElem?_append_right (by omega)] at hj
            have ej : j - ts.length = 0 := by
              have := (List.getElem?_eq_some_iff.mp hj).1
              simp at this; omega
            rw [ej] at hj
            have : t = t' := by simpa using hj
            subst this
            have : j = i := by omega
            subst this
            rw [hit] at hj2
            cases hj2
            rw [upd_ne tD, upd_same]
      refine ⟨rfl, _, rfl, ⟨_, rfl⟩, _, _, rfl, rfl, _, rfl, ?_⟩
      rw [bar_starts]
      refine ite2 (fun cc => ?_) (fun cc => ?_)
      · refine ⟨_, rfl, 1, rfl, S it, rfl, Nat.le_of_lt (small _ (by show (S it).length ≤ _; rw [S_len]; omega)), by show 2 ≤ sizeLine; decide, fun t ht => ?_⟩
        have e : [V.int 0, V.str (cutS (S it) (some 1) none)] = itemV it := by
          unfold itemV globOf
          have cc' : isBar it = true := cc
          rw [if_pos cc', if_pos cc']
          have : cutS (S it) (some 1) none = S (it.drop 1) := tl_ext (cutS_from (by decide))
          rw [this]
        rw [e]
        exact fin t ht
      · refine ⟨_, rfl, by show 2 ≤ sizeLine; decide, fun t ht => ?_⟩
        have e : [V.int 1, V.str (S it)] = itemV it := by
          unfold itemV globOf
          have cc' : ¬ isBar it = true := cc
          rw [if_neg cc', if_neg cc']
        rw [e]
        exact fin t ht
    · rintro H' ⟨ts, h1, h2, h3, h4⟩
      rw [List.length_map, List.length_map] at h2
      refine ⟨D, _, rfl, .inl ⟨SqL.of h1, fun u hu => ?_⟩⟩
      exact q u ts _ (((same_new hB).trans h3).trans (same_new hu)) upd_same h2 fun i t it a b => (same_new hu) _ _ (h4 i t it a b)
end
section
variable {P : Program} {w : World} {K : PySem.W.Frag} {mg : Str → Option Value} {base : Heap}
theorem ok_lets (D : Df K mg "lets" s_lets ["pattern", "board"]) (T : Tx mg) (C_fits : Cal P w K mg base "fits" ["glob", "board"] 4 (sp_fits K)) (C_items_of : Cal P w K mg base "items_of" ["pattern"] 1 (sp_items_of K)) : Cal P w K mg base "lets" ["pattern", "board"] 5 (sp_lets K) := by
  obtain ⟨f_fits, fd_fits, G_fits, g_fits, k_fits, b_fits⟩ := C_fits
  obtain ⟨f_items_of, fd_items_of, G_items_of, g_items_of, k_items_of, b_items_of⟩ := C_items_of
  obtain ⟨f, fd, F, gf, bf⟩ := D
  refine ⟨f, fd, F.ok sc_lets (fun vs H Q E h => ?_) (fun cdv A outer s₀ H vs Q E hr h => ?_), gf, F.kp, bf⟩
  · obtain ⟨p, b, rfl, _⟩ := h; rfl
  · obtain ⟨p, b, rfl, pl, hb, q⟩ := h
    refine ⟨_, (pss_cons (ps_for PassesOwn.never rfl (RT.pi_revA (by rfl) T.n_reversed (pe_call G_items_of (hr.mono (by decide)) (by rfl) g_items_of k_items_of b_items_of .nil pass0 (pa_cons (pv 0) pa_nil))) (pg_tup rfl (pgs_cons (pg_name (i := 2) sc_lets.nd rfl (Or.inl rfl)) (pgs_cons (pg_name (i := 3) sc_lets.nd rfl (Or.inl rfl)) pgs_nil)))
      (pss_one (ps_if (pt_val (pe_call G_fits (hr.mono (by decide)) (by rfl) g_fits k_fits b_fits .nil pass0 (pa_cons (pv 3) (pa_cons (pv 1) pa_nil))))
        (pss_one (ps_ret (pe_cmpR op_eq (pv 2) pe_int (nomark _))))
        pss_nil)))
      (pss_one (ps_ret pe_bl))), ?_⟩
    refine ⟨_, rfl, p, rfl, pl, fun u ts H1 m1 e1 l1 g1 => ?_⟩
    refine ⟨u, _, rfl, .inr ⟨SqT.of e1, ?_⟩⟩
    have ln : (ts.map V.ref).length = (parts (tl p)).length := by rw [List.length_map]; exact l1
    refine RT.for_ItvT (K := K) (a := u) (xs := ts.map V.ref) (fun i σ H' => (∃ v2 v3 : Option V, σ = [some (.str p), some (.str b), v2, v3]) ∧ Same H1 H' ∧ ∀ (j : Nat) (y : List Nat), (parts (tl p)).length ≤ j + i → (parts (tl p))[j]? = some y → ¬ fit (globOf y) (tl b)) ⟨⟨_, _, rfl⟩, Same.refl _, fun j y h1 h2 => by have := (List.getElem?_eq_some_iff.mp h2).1; omega⟩ (fun i σ H' h => SqT.of (h.2.1 _ _ e1)) ?_ ?_
    · rintro i x σ H' hi hx ⟨⟨v2, v3, rfl⟩, hS, hN⟩
      rw [ln] at hi hx
      rw [List.getElem?_map] at hx
      obtain ⟨t, ht, rfl⟩ := Option.map_eq_some_iff.mp hx
      obtain ⟨it, hit⟩ : ∃ it, (parts (tl p))[(parts (tl p)).length - 1 - i]? = some it := ⟨_, List.getElem?_eq_getElem (show (parts (tl p)).length - 1 - i < (parts (tl p)).length by omega)⟩
      have il := parts_len (List.mem_of_getElem? hit)
      have gl := globOf_len it
      have hT := hS _ _ (g1 _ t it ht hit)
      refine ⟨t, _, rfl, SqT.of hT, rfl, _, _, rfl, _, _, rfl, rfl, ?_⟩
      refine ⟨_, rfl, _, rfl, S (globOf it), b, rfl, hb, by show (globOf it).length ≤ _; omega, fun H2 m2 => ?_⟩
      refine ⟨_, rfl, ite2 (fun cc => ?_) (fun cc => ⟨⟨_, _, rfl⟩, hS.trans m2, fun j y h1 h2 => ?_⟩)⟩
      · have hf : fit (globOf it) (tl b) := @of_decide_eq_true _ (Classical.propDecidable _) cc
        refine ⟨_, rfl, rfl, ?_⟩
        have e := lets_last hit hf fun j y h1 h2 => hN j y (by omega) h2
        have e2 : decide (V.int (if isBar it = true then 0 else 1) = V.int 1) = letsL (parts (tl p)) (tl b) := by
          rw [e]; cases isBar it <;> rfl
        show Q (.bl (decide (V.int (if isBar it = true then 0 else 1) = V.int 1))) H2
        rw [e2]
        exact q H2 (m1.trans (hS.trans m2))
      · by_cases e : j = (parts (tl p)).length - 1 - i
        · subst e
          rw [hit] at h2; cases h2
          exact fun hf => cc (@decide_eq_true _ (Classical.propDecidable _) hf)
        · exact hN j y (by omega) h2
    · rintro σ H' ⟨⟨v2, v3, rfl⟩, hS, hN⟩
      rw [ln] at hN
      have := q H' (m1.trans hS)
      rw [lets_none fun j y h => hN j y (by omega) h] at this
      exact this
end

end Z
namespace Z
open PySem L2 SX
section
variable {P : Program} {w : World} {K : PySem.W.Frag} {mg : Str → Option Value} {base : Heap}
theorem ok__law_fits (D : Df K mg "_law_fits" s__law_fits ["glob", "board"]) (T : Tx mg)  : Cal P w K mg base "_law_fits" ["glob", "board"] 1 (sp__law_fits K) := by
  obtain ⟨f, fd, F, gf, bf⟩ := D
  refine ⟨f, fd, F.ok sc__law_fits (fun vs H Q E h => ?_) (fun cdv A outer s₀ H vs Q E hr h => ?_), gf, F.kp, bf⟩
  · obtain ⟨g, b, rfl, _⟩ := h; rfl
  · obtain ⟨g, b, rfl, hb, gl, q⟩ := h
    refine ⟨_, (pss_cons (ps_set (i := 2) sc__law_fits.nd rfl (Or.inl rfl) (pe_op L2.op_cat (pe_lst (pa_cons pe_bl pa_nil)) (pe_op L2.op_rep (pe_lst (pa_cons pe_bl pa_nil)) (pe_callB call_lenS (by rfl) T.n_len PySem.boot_len (pa_cons (pv 0) pa_nil)))))
      (pss_cons (ps_for PassesOwn.never rfl (pi_range1 (by rfl) T.n_range (pa_cons (pe_callB call_lenS (by rfl) T.n_len PySem.boot_len (pa_cons (pv 0) pa_nil)) pa_nil)) (pg_name (i := 3) sc__law_fits.nd rfl (Or.inl rfl))
      (pss_one (ps_if (PW.pt (pw_and (pt_truth (pe_ix ix_list (pv 2) (pv 3) (fun _ _ => rfl)) (by intro _; rfl)) (pw_and1 (pt_cmpR op_eq (pe_item_str (pv 0) (pv 3) (fun _ _ => rfl)) pe_str (nomark _)))))
        (pss_one (ps_asg pe_bl (pg_sub (pv 2) (pe_op op_add (pv 3) pe_int) set_list)))
        pss_nil)))
      (pss_cons (ps_for PassesOwn.never rfl (pi_str (pv 1)) (pg_name (i := 4) sc__law_fits.nd rfl (Or.inl rfl))
      (pss_cons (ps_set (i := 5) sc__law_fits.nd rfl (Or.inl rfl) (pe_op L2.op_rep (pe_lst (pa_cons pe_bl pa_nil)) (pe_op op_add (pe_callB call_lenS (by rfl) T.n_len PySem.boot_len (pa_cons (pv 0) pa_nil)) pe_int)))
        (pss_cons (ps_for PassesOwn.never rfl (pi_range1 (by rfl) T.n_range (pa_cons (pe_callB call_lenS (by rfl) T.n_len PySem.boot_len (pa_cons (pv 0) pa_nil)) pa_nil)) (pg_name (i := 3) sc__law_fits.nd rfl (Or.inl rfl))
        (C8.pss_cut (ps_if (PW.pt (pw_and (pt_truth (pe_ix ix_list (pv 2) (pv 3) (fun _ _ => rfl)) (by intro _; rfl)) (pw_and1 (pt_cmpR op_eq (pe_item_str (pv 0) (pv 3) (fun _ _ => rfl)) pe_str (nomark _)))))
          (pss_one (ps_asg pe_bl (pg_sub (pv 5) (pv 3) set_list)))
          pss_nil)
          (pss_one (ps_if (PW.pt (pw_and (pt_truth (pe_ix ix_list (pv 2) (pv 3) (fun _ _ => rfl)) (by intro _; rfl)) (pw_and1 (pt_cmpR op_in_seq (pe_item_str (pv 0) (pv 3) (fun _ _ => rfl)) (pe_tup (pa_cons pe_str (pa_cons (pv 4) pa_nil))) (by rfl)))))
          (pss_one (ps_asg pe_bl (pg_sub (pv 5) (pe_op op_add (pv 3) pe_int) set_list)))
          pss_nil))))
        (pss_cons (ps_for PassesOwn.never rfl (pi_range1 (by rfl) T.n_range (pa_cons (pe_callB call_lenS (by rfl) T.n_len PySem.boot_len (pa_cons (pv 0) pa_nil)) pa_nil)) (pg_name (i := 3) sc__law_fits.nd rfl (Or.inl rfl))
        (pss_one (ps_if (PW.pt (pw_and (pt_truth (pe_ix ix_list (pv 5) (pv 3) (fun _ _ => rfl)) (by intro _; rfl)) (pw_and1 (pt_cmpR op_eq (pe_item_str (pv 0) (pv 3) (fun _ _ => rfl)) pe_str (nomark _)))))
          (pss_one (ps_asg pe_bl (pg_sub (pv 5) (pe_op op_add (pv 3) pe_int) set_list)))
          pss_nil)))
        (pss_one (ps_set (i := 2) sc__law_fits.nd rfl (Or.inl rfl) (pv 5)))))))
      (pss_one (ps_ret (pe_ix ix_list (pv 2) (pe_callB call_lenS (by rfl) T.n_len PySem.boot_len (pa_cons (pv 0) pa_nil)) (fun _ _ => rfl))))))), ?_⟩
    have lg := tl_len g
    have small : ∀ n : Nat, n ≤ 30000 → n < sizeLine := fun n h => Nat.lt_of_le_of_lt h (by decide)
    refine ⟨by show 1 ≤ sizeLine; decide, fun p1 h1 => ⟨by show 1 ≤ sizeLine; decide, fun p2 h2 => ?_⟩⟩
    refine ⟨_, rfl, g, rfl, Nat.le_of_lt (small _ (by omega)), p2, _, [V.bl false], rfl, rfl, upd_same, by omega, by omega, ?_, fun p3 h3 => ?_⟩
    · show 1 * _ ≤ _; rw [Nat.one_mul]; exact Nat.le_of_lt (small _ (by omega))
    have hp1 : upd (upd (upd H p1 (HO.lst [V.bl true])) p2 (HO.lst [V.bl false])) p3 (HO.lst (List.replicate ((g.length : Int)).toNat [V.bl false]).flatten) p1 = some (.lst [V.bl true]) := (same_new h3) _ _ ((same_new h2) _ _ upd_same)
    refine ⟨p1, p3, _, _, rfl, rfl, hp1, upd_same, ?_, fun L hL => ?_⟩
    · rw [flatten_one, List.length_map, List.length_replicate]; exact Nat.le_of_lt (small _ (show 1 + _ ≤ _ by omega))
    have s4 := ((same_new h1).trans (same_new h2)).trans ((same_new h3).trans (same_new (o := HO.lst ([V.bl true] ++ (List.replicate ((g.length : Int)).toNat [V.bl false]).flatten)) hL))
    have hL4 : upd (upd (upd (upd H p1 (HO.lst [V.bl true])) p2 (HO.lst [V.bl false])) p3 (HO.lst (List.replicate ((g.length : Int)).toNat [V.bl false]).flatten)) L (HO.lst ([V.bl true] ++ (List.replicate ((g.length : Int)).toNat [V.bl false]).flatten)) L = some (.lst ((true :: List.replicate (tl g).length false).map V.bl)) := by
      rw [upd_same, flatten_one, show ((g.length : Int)).toNat = (tl g).length by omega]; rfl
    have B0 : Bs (true :: List.replicate (tl g).length false) (tl g).length (fun y => st0 (tl g) y ∧ y ≤ 0) := by
      refine ⟨by rw [List.length_cons, List.length_replicate], fun y => ?_⟩
      cases y with
      | zero => exact ⟨fun _ => ⟨True.intro, Nat.le_refl _⟩, fun _ => rfl⟩
      | succ y =>
        rw [List.getElem?_cons_succ, List.getElem?_replicate]
        constructor
        · intro h; split at h <;> cases h
        · intro h; have := h.2; omega
    generalize (upd (upd (upd (upd H p1 (HO.lst [V.bl true])) p2 (HO.lst [V.bl false])) p3 (HO.lst (List.replicate ((g.length : Int)).toNat [V.bl false]).flatten)) L (HO.lst ([V.bl true] ++ (List.replicate ((g.length : Int)).toNat [V.bl false]).flatten))) = H4 at hL4 s4 ⊢
    have HL : H L = none := by
      have := hL
      refine Same.free ?_ this
      exact ((same_new h1).trans (same_new h2)).trans (same_new h3)
    refine ⟨_, rfl, g, rfl, Nat.le_of_lt (small _ (by omega)), _, rfl, by omega, by omega, ?_⟩
    refine for_range (lo := 0) (n := ((g.length : Int)).toNat) (fun i σ H' => ∃ (bs : List Bool) (v3 : Option V), σ = [some (.str g), some (.str b), some (.ref L), v3, none, none] ∧ H' L = some (.lst (bs.map V.bl)) ∧ Same H H' ∧ Bs bs (tl g).length (fun y => st0 (tl g) y ∧ y ≤ i)) ⟨_, _, rfl, hL4, s4, B0⟩ ?_ ?_
    · rintro i σ H' hi ⟨bs, v3, rfl, hl, hS, hB⟩
      have hi' : i < (tl g).length := by omega
      obtain ⟨bi, e1, e2⟩ := hB.get (k := i) (by omega)
      have no : ¬ (st0 (tl g) i ∧ (tl g)[i]? = some 42) → ∃ (bs : List Bool) (v3 : Option V), ([some (V.str g), some (V.str b), some (V.ref L), some (V.int (0 + (i : Int))), none, none] : St) = [some (.str g), some (.str b), some (.ref L), v3, none, none] ∧ H' L = some (.lst (bs.map V.bl)) ∧ Same H H' ∧ Bs bs (tl g).length (fun y => st0 (tl g) y ∧ y ≤ i + 1) := fun h => ⟨bs, _, rfl, hl, hS, hB.congr fun y => ⟨fun z => ⟨z.1, by omega⟩, fun z => ⟨z.1, by
        by_cases e : y = i + 1
        · subst e; exact absurd ⟨z.1.2, z.1.1⟩ h
        · omega⟩⟩⟩
      refine ⟨_, rfl, _, rfl, L, _, _, _, rfl, rfl, SqL.of hl, atI_bl (k := i) (by omega) e1, bi, rfl, ite2 (fun c1 => ?_) (fun c1 => iteF (no fun h => c1 (e2.mpr ⟨h.1, Nat.le_refl _⟩)))⟩
      obtain ⟨d, g1, g2, g3⟩ := at_str (x := g) (i := 0 + (i : Int)) (by omega) (by omega)
      rw [show (0 + (i : Int)).toNat = i by omega] at g2
      refine ⟨_, rfl, _, rfl, g, _, d, rfl, rfl, by omega, by omega, by omega, g1, rfl, _, rfl, ite2 (fun c2 => ?_) (fun c2 => no fun h => ?_)⟩
      · have e42 : d = 42 := (List.cons.inj (congrArg tl (V.str.inj (of_decide_eq_true c2)))).1
        subst e42
        refine ⟨_, rfl, _, rfl, _, _, rfl, rfl, L, _, _, i + 1, rfl, rfl, hl, ixN_pos (by omega) (by rw [List.length_map]; have := hB.1; omega), ?_⟩
        refine ⟨bs.set (i + 1) true, _, rfl, by rw [upd_same, map_set_bl], fun bb o hh => by rw [upd_ne (ne_of_none hh HL)]; exact hS _ _ hh, (hB.set (k := i + 1) (by omega)).congr fun y => ⟨fun z => z.elim (fun w => ⟨w.1, by omega⟩) fun e => ?_, fun z => ?_⟩⟩
        · subst e; exact ⟨⟨g2, (e2.mp c1).1⟩, Nat.le_refl _⟩
        · by_cases e : y = i + 1
          · exact .inr e
          · exact .inl ⟨z.1, by omega⟩
      · rw [g2] at h
        have : d = 42 := Option.some.inj h.2
        subst this
        exact c2 (decide_eq_true rfl)
    rintro σ H5 ⟨bs0, v3, rfl, hl0, hS0, hB0⟩
    -- the signs
    refine ⟨_, rfl, b, rfl, ?_⟩
    refine for_str (l := tl b) (fun j σ H' => ∃ (L : Addr) (bs : List Bool) (M : Nat → Prop) (v3 v4 v5 : Option V), σ = [some (.str g), some (.str b), some (.ref L), v3, v4, v5] ∧ H' L = some (.lst (bs.map V.bl)) ∧ Same H H' ∧ Bs bs (tl g).length M ∧ Lax (tl g) (stand (tl g) ((tl b).take j)) M) ⟨L, bs0, _, _, _, _, rfl, hl0, hS0, hB0.congr (N := st0 (tl g)) fun y => ⟨fun z => z.1, fun z => ⟨z, by have := st0_within (tl g) y z; omega⟩⟩, lax_start _⟩ ?_ ?_
    · rintro j c σ H' hj ⟨L, bs, M, v3, v4, v5, rfl, hl, hS, hB, hLx⟩
      have hc := hb c (List.mem_of_getElem? hj)
      have et : (tl b).take (j + 1) = (tl b).take j ++ [c] := by rw [List.take_add_one, hj]; rfl
      obtain ⟨cl, wi⟩ := stand_ok (tl g) ((tl b).take j)
      have hLx' := lax_next hc cl hLx
      rw [← stand_snoc, ← et] at hLx'
      have Mw : within (tl g) M := fun y m => by
        rcases (hLx y).mp m with n | ⟨e, _⟩
        · exact wi y n
        · have := (List.getElem?_eq_some_iff.mp e).1; omega
      refine ⟨by show 1 ≤ sizeLine; decide, fun p6 h6 => ?_⟩
      refine ⟨_, rfl, g, rfl, Nat.le_of_lt (small _ (by omega)), _, _, rfl, rfl, p6, _, [V.bl false], rfl, rfl, upd_same, by omega, by omega, ?_, fun A hA => ?_⟩
      · show 1 * _ ≤ _; rw [Nat.one_mul]; exact Nat.le_of_lt (small _ (by omega))
      have eA : upd (upd H' p6 (HO.lst [V.bl false])) A (HO.lst (List.replicate ((g.length : Int) + 1).toNat [V.bl false]).flatten) A = some (.lst ((List.replicate ((tl g).length + 1) false).map V.bl)) := by
        rw [upd_same, flatten_one, show ((g.length : Int) + 1).toNat = (tl g).length + 1 by omega]
      have sA : Same H' (upd (upd H' p6 (HO.lst [V.bl false])) A (HO.lst (List.replicate ((g.length : Int) + 1).toNat [V.bl false]).flatten)) := (same_new h6).trans (same_new hA)
      have HA' : H' A = none := Same.free (same_new h6) hA
      have LA : L ≠ A := ne_of_none hl HA'
      have HA : H A = none := Same.free hS HA'
      generalize (upd (upd H' p6 (HO.lst [V.bl false])) A (HO.lst (List.replicate ((g.length : Int) + 1).toNat [V.bl false]).flatten)) = H7 at eA sA ⊢
      refine ⟨_, rfl, g, rfl, Nat.le_of_lt (small _ (by omega)), _, rfl, by omega, by omega, ?_⟩
      refine for_range (lo := 0) (n := ((g.length : Int)).toNat) (fun i σ H8 => ∃ (as : List Bool) (v3 : Option V), σ = [some (.str g), some (.str b), some (.ref L), v3, some (.str (S [c])), some (.ref A)] ∧ H8 A = some (.lst (as.map V.bl)) ∧ H8 L = some (.lst (bs.map V.bl)) ∧ Same H H8 ∧ Bs as (tl g).length (fun y => (M y ∧ (tl g)[y]? = some 42 ∧ y < i) ∨ ∃ k, k < i ∧ y = k + 1 ∧ M k ∧ ((tl g)[k]? = some 63 ∨ (tl g)[k]? = some c))) ⟨_, _, rfl, eA, sA _ _ hl, hS.trans sA, (bs_false _).congr fun y => ⟨fun z => z.elim, fun z => by
        rcases z with ⟨_, _, z⟩ | ⟨k, z, _⟩ <;> omega⟩⟩ ?_ ?_
      · rintro i σ H8 hi ⟨as, v3, rfl, ha, hl8, hS8, hB8⟩
        have hi' : i < (tl g).length := by omega
        obtain ⟨bi, e1, e2⟩ := hB.get (k := i) (by omega)
        obtain ⟨d, g1, g2, g3⟩ := at_str (x := g) (i := 0 + (i : Int)) (by omega) (by omega)
        rw [show (0 + (i : Int)).toNat = i by omega] at g2
        refine ⟨fun σ2 H9 => ∃ (as : List Bool), σ2 = [some (.str g), some (.str b), some (.ref L), some (.int (0 + (i : Int))), some (.str (S [c])), some (.ref A)] ∧ H9 A = some (.lst (as.map V.bl)) ∧ H9 L = some (.lst (bs.map V.bl)) ∧ Same H H9 ∧ Bs as (tl g).length (fun y => (M y ∧ (tl g)[y]? = some 42 ∧ y < i + 1) ∨ ∃ k, k < i ∧ y = k + 1 ∧ M k ∧ ((tl g)[k]? = some 63 ∨ (tl g)[k]? = some c)), ?_, ?_⟩
        · have no : ¬ (M i ∧ (tl g)[i]? = some 42) → ∃ (as : List Bool), ([some (V.str g), some (V.str b), some (V.ref L), some (V.int (0 + (i : Int))), some (V.str (S [c])), some (V.ref A)] : St) = [some (.str g), some (.str b), some (.ref L), some (.int (0 + (i : Int))), some (.str (S [c])), some (.ref A)] ∧ H8 A = some (.lst (as.map V.bl)) ∧ H8 L = some (.lst (bs.map V.bl)) ∧ Same H H8 ∧ Bs as (tl g).length (fun y => (M y ∧ (tl g)[y]? = some 42 ∧ y < i + 1) ∨ ∃ k, k < i ∧ y = k + 1 ∧ M k ∧ ((tl g)[k]? = some 63 ∨ (tl g)[k]? = some c)) := fun h => ⟨as, rfl, ha, hl8, hS8, hB8.congr fun y => ⟨fun z => z.elim (fun w => .inl ⟨w.1, w.2.1, by omega⟩) .inr, fun z => z.elim (fun w => .inl ⟨w.1, w.2.1, by
            by_cases e : y = i
            · subst e; exact absurd ⟨w.1, w.2.1⟩ h
            · omega⟩) .inr⟩⟩
          refine ⟨_, rfl, _, rfl, L, _, _, _, rfl, rfl, SqL.of hl8, atI_bl (k := i) (by omega) e1, bi, rfl, ite2 (fun c1 => ?_) (fun c1 => iteF (no fun h => c1 (e2.mpr h.1)))⟩
          refine ⟨_, rfl, _, rfl, g, _, d, rfl, rfl, by omega, by omega, by omega, g1, rfl, _, rfl, ite2 (fun c2 => ?_) (fun c2 => no fun h => ?_)⟩
          · have e42 : d = 42 := (List.cons.inj (congrArg tl (V.str.inj (of_decide_eq_true c2)))).1
            subst e42
            refine ⟨_, rfl, _, rfl, A, _, _, i, rfl, rfl, ha, ixN_pos (by omega) (by rw [List.length_map]; have := hB8.1; omega), ?_⟩
            refine ⟨as.set i true, rfl, by rw [upd_same, map_set_bl], by rw [upd_ne LA]; exact hl8, fun bb o hh => by rw [upd_ne (ne_of_none hh HA)]; exact hS8 _ _ hh, (hB8.set (k := i) (by omega)).congr fun y => ⟨fun z => ?_, fun z => ?_⟩⟩
            · rcases z with (w | w) | e
              · exact .inl ⟨w.1, w.2.1, by omega⟩
              · exact .inr w
              · subst e; exact .inl ⟨e2.mp c1, g2, by omega⟩
            · rcases z with w | w
              · by_cases e : y = i
                · exact .inr e
                · exact .inl (.inl ⟨w.1, w.2.1, by omega⟩)
              · exact .inl (.inr w)
          · rw [g2] at h
            have : d = 42 := Option.some.inj h.2
            subst this
            exact c2 (decide_eq_true rfl)
        · rintro σ2 H9 ⟨as2, rfl, ha9, hl9, hS9, hB9⟩
          have ends : ∀ (as3 : List Bool) (H10 : Hp), H10 A = some (.lst (as3.map V.bl)) → H10 L = some (.lst (bs.map V.bl)) → Same H H10 → Bs as3 (tl g).length (fun y => ((M y ∧ (tl g)[y]? = some 42 ∧ y < i + 1) ∨ ∃ k, k < i ∧ y = k + 1 ∧ M k ∧ ((tl g)[k]? = some 63 ∨ (tl g)[k]? = some c)) ∨ (y = i + 1 ∧ M i ∧ ((tl g)[i]? = some 63 ∨ (tl g)[i]? = some c))) → ∃ (as : List Bool) (v3 : Option V), ([some (V.str g), some (V.str b), some (V.ref L), some (V.int (0 + (i : Int))), some (V.str (S [c])), some (V.ref A)] : St) = [some (.str g), some (.str b), some (.ref L), v3, some (.str (S [c])), some (.ref A)] ∧ H10 A = some (.lst (as.map V.bl)) ∧ H10 L = some (.lst (bs.map V.bl)) ∧ Same H H10 ∧ Bs as (tl g).length (fun y => (M y ∧ (tl g)[y]? = some 42 ∧ y < i + 1) ∨ ∃ k, k < i + 1 ∧ y = k + 1 ∧ M k ∧ ((tl g)[k]? = some 63 ∨ (tl g)[k]? = some c)) := fun as3 H10 h1 h2 h3 h4 => ⟨as3, _, rfl, h1, h2, h3, h4.congr fun y => ⟨fun z => by
            rcases z with (w | ⟨k, w1, w2⟩) | ⟨w1, w2⟩
            · exact .inl w
            · exact .inr ⟨k, by omega, w2⟩
            · exact .inr ⟨i, by omega, w1, w2⟩, fun z => by
            rcases z with w | ⟨k, w1, w2, w3⟩
            · exact .inl (.inl w)
            · by_cases e : k = i
              · subst e; exact .inr ⟨w2, w3⟩
              · exact .inl (.inr ⟨k, by omega, w2, w3⟩)⟩⟩
          refine ⟨_, rfl, _, rfl, L, _, _, _, rfl, rfl, SqL.of hl9, atI_bl (k := i) (by omega) e1, bi, rfl, ite2 (fun c1 => ?_) (fun c1 => iteF (ends as2 H9 ha9 hl9 hS9 (hB9.congr fun y => ⟨.inl, fun z => z.elim id fun w => absurd (e2.mpr w.2.1) c1⟩)))⟩
          refine ⟨_, rfl, _, rfl, g, _, d, rfl, rfl, by omega, by omega, by omega, g1, ?_⟩
          refine ⟨_, rfl, by show 2 ≤ sizeLine; decide, fun t ht => ?_⟩
          refine ⟨t, [Str.ofString "?", S [c]].map V.str, rfl, .inr (SqT.of upd_same), rfl, flat_strs _, _, rfl, ?_⟩
          have eb : (if false = true then !inV (V.str (S [d])) ([Str.ofString "?", S [c]].map V.str) else inV (V.str (S [d])) ([Str.ofString "?", S [c]].map V.str)) = decide (S [d] ∈ [Str.ofString "?", S [c]]) := inV_strs _ _
          have tn := same_new (o := HO.tup [V.str (Str.ofString "?"), V.str (S [c])]) ht
          by_cases hin : S [d] ∈ [Str.ofString "?", S [c]]
          · have hmt : (tl g)[i]? = some 63 ∨ (tl g)[i]? = some c := by
              rw [g2]
              rcases List.mem_cons.mp hin with e | e
              · exact .inl (congrArg some (List.cons.inj (congrArg tl e)).1)
              · exact .inr (congrArg some (List.cons.inj (congrArg tl (List.mem_singleton.mp e))).1)
            refine ite2 (fun _ => ?_) (fun h => (h (eb.trans (decide_eq_true hin))).elim)
            refine ⟨_, rfl, _, rfl, _, _, rfl, rfl, A, _, _, i + 1, rfl, rfl, tn _ _ ha9, ixN_pos (by omega) (by rw [List.length_map]; have := hB9.1; omega), ?_⟩
            refine ends (as2.set (i + 1) true) _ (by rw [upd_same, map_set_bl]) (by rw [upd_ne LA]; exact tn _ _ hl9) (fun bb o hh => by rw [upd_ne (ne_of_none hh HA)]; exact (hS9.trans tn) _ _ hh) ((hB9.set (k := i + 1) (by omega)).congr fun y => ⟨fun z => z.elim .inl fun e => .inr ⟨e, e2.mp c1, hmt⟩, fun z => z.elim .inl fun w => .inr w.1⟩)
          · refine ite2 (fun h => (hin (of_decide_eq_true (eb.symm.trans h))).elim) (fun _ => ends as2 _ (tn _ _ ha9) (tn _ _ hl9) (hS9.trans tn) (hB9.congr fun y => ⟨.inl, fun z => z.elim id fun w => absurd ?_ hin⟩))
            have e := w.2.2
            rw [g2] at e
            rcases e with e | e
            · have : d = 63 := Option.some.inj e
              subst this; exact List.mem_cons_self
            · have : d = c := Option.some.inj e
              subst this; exact List.mem_cons_of_mem _ (List.mem_singleton.mpr rfl)
      -- along the stars
      rintro σ8 H8 ⟨as, v3', rfl, ha, hl8, hS8, hB8⟩
      have hB8' : Bs as (tl g).length (lawA (tl g) M c) := hB8.congr fun y => by
        unfold lawA
        constructor
        · rintro (w | ⟨k, _, w⟩)
          · exact .inl ⟨w.1, w.2.1⟩
          · exact .inr ⟨k, w⟩
        · rintro (w | ⟨k, w⟩)
          · exact .inl ⟨w.1, w.2, by have := (List.getElem?_eq_some_iff.mp w.2).1; omega⟩
          · refine .inr ⟨k, ?_, w⟩
            have : k < (tl g).length := by rcases w.2.2 with e | e <;> exact (List.getElem?_eq_some_iff.mp e).1
            omega
      refine ⟨_, rfl, g, rfl, Nat.le_of_lt (small _ (by omega)), _, rfl, by omega, by omega, ?_⟩
      refine for_range (lo := 0) (n := ((g.length : Int)).toNat) (fun i σ H9 => ∃ (as : List Bool) (v3 : Option V), σ = [some (.str g), some (.str b), some (.ref L), v3, some (.str (S [c])), some (.ref A)] ∧ H9 A = some (.lst (as.map V.bl)) ∧ Same H H9 ∧ Bs as (tl g).length (fun y => (y ≤ i ∧ lawB (tl g) (lawA (tl g) M c) y) ∨ (i < y ∧ lawA (tl g) M c y))) ⟨as, _, rfl, ha, hS8, hB8'.congr fun y => ?_⟩ ?_ ?_
      · cases y with
        | zero => exact ⟨fun z => .inl ⟨Nat.le_refl _, z⟩, fun z => z.elim (fun w => w.2) fun w => w.2⟩
        | succ y => exact ⟨fun z => .inr ⟨by omega, z⟩, fun z => z.elim (fun w => by omega) fun w => w.2⟩
      · rintro i σ H9 hi ⟨as, v3, rfl, ha, hS9, hB9⟩
        have hi' : i < (tl g).length := by omega
        obtain ⟨bi, e1, e2⟩ := hB9.get (k := i) (by omega)
        have e3 : bi = true ↔ lawB (tl g) (lawA (tl g) M c) i := e2.trans ⟨fun z => z.elim (fun w => w.2) fun w => by omega, fun z => .inl ⟨Nat.le_refl _, z⟩⟩
        have no : ¬ (lawB (tl g) (lawA (tl g) M c) i ∧ (tl g)[i]? = some 42) → ∃ (as : List Bool) (v3 : Option V), ([some (V.str g), some (V.str b), some (V.ref L), some (V.int (0 + (i : Int))), some (V.str (S [c])), some (V.ref A)] : St) = [some (.str g), some (.str b), some (.ref L), v3, some (.str (S [c])), some (.ref A)] ∧ H9 A = some (.lst (as.map V.bl)) ∧ Same H H9 ∧ Bs as (tl g).length (fun y => (y ≤ i + 1 ∧ lawB (tl g) (lawA (tl g) M c) y) ∨ (i + 1 < y ∧ lawA (tl g) M c y)) := fun h => ⟨as, _, rfl, ha, hS9, hB9.congr fun y => by
          by_cases e : y = i + 1
          · subst e
            constructor
            · rintro (w | w)
              · omega
              · exact .inl ⟨Nat.le_refl _, .inl w.2⟩
            · rintro (⟨_, w | w⟩ | w)
              · exact .inr ⟨by omega, w⟩
              · exact absurd w h
              · omega
          · constructor
            · rintro (w | w)
              · exact .inl ⟨by omega, w.2⟩
              · exact .inr ⟨by omega, w.2⟩
            · rintro (w | w)
              · exact .inl ⟨by omega, w.2⟩
              · exact .inr ⟨by omega, w.2⟩⟩
        refine ⟨_, rfl, _, rfl, A, _, _, _, rfl, rfl, SqL.of ha, atI_bl (k := i) (by omega) e1, bi, rfl, ite2 (fun c1 => ?_) (fun c1 => iteF (no fun h => c1 (e3.mpr h.1)))⟩
        obtain ⟨d, g1, g2, g3⟩ := at_str (x := g) (i := 0 + (i : Int)) (by omega) (by omega)
        rw [show (0 + (i : Int)).toNat = i by omega] at g2
        refine ⟨_, rfl, _, rfl, g, _, d, rfl, rfl, by omega, by omega, by omega, g1, rfl, _, rfl, ite2 (fun c2 => ?_) (fun c2 => no fun h => ?_)⟩
        · have e42 : d = 42 := (List.cons.inj (congrArg tl (V.str.inj (of_decide_eq_true c2)))).1
          subst e42
          refine ⟨_, rfl, _, rfl, _, _, rfl, rfl, A, _, _, i + 1, rfl, rfl, ha, ixN_pos (by omega) (by rw [List.length_map]; have := hB9.1; omega), ?_⟩
          refine ⟨as.set (i + 1) true, _, rfl, by rw [upd_same, map_set_bl], fun bb o hh => by rw [upd_ne (ne_of_none hh HA)]; exact hS9 _ _ hh, (hB9.set (k := i + 1) (by omega)).congr fun y => ?_⟩
          by_cases e : y = i + 1
          · subst e
            exact ⟨fun _ => .inl ⟨Nat.le_refl _, .inr ⟨e3.mp c1, g2⟩⟩, fun _ => .inr rfl⟩
          · constructor
            · rintro ((w | w) | w)
              · exact .inl ⟨by omega, w.2⟩
              · exact .inr ⟨by omega, w.2⟩
              · exact absurd w e
            · rintro (w | w)
              · exact .inl (.inl ⟨by omega, w.2⟩)
              · exact .inl (.inr ⟨by omega, w.2⟩)
        · rw [g2] at h
          have : d = 42 := Option.some.inj h.2
          subst this
          exact c2 (decide_eq_true rfl)
      · rintro σ9 H9 ⟨as, v3, rfl, ha, hS9, hB9⟩
        refine ⟨_, rfl, A, as, lawB (tl g) (lawA (tl g) M c), _, _, _, rfl, ha, hS9, hB9.congr fun y => ⟨fun z => z.elim (fun w => w.2) fun w => ?_, fun z => ?_⟩, hLx'⟩
        · have hw := w.1
          exfalso
          rcases w.2 with ⟨m, _⟩ | ⟨k, e, m, r⟩
          · have := Mw y m; omega
          · have : k < (tl g).length := by rcases r with r | r <;> exact (List.getElem?_eq_some_iff.mp r).1
            omega
        · by_cases e : y ≤ ((g.length : Int)).toNat
          · exact .inl ⟨e, z⟩
          · exfalso
            have h9 := (hLx' y).mp z
            obtain ⟨_, wi2⟩ := stand_ok (tl g) ((tl b).take (j + 1))
            rcases h9 with n | ⟨q, _⟩
            · have := wi2 y n; omega
            · have := (List.getElem?_eq_some_iff.mp q).1; omega
    · rintro σ H' ⟨L, bs, M, v3, v4, v5, rfl, hl, hS, hB, hLx⟩
      rw [List.take_length] at hLx
      obtain ⟨bi, e1, e2⟩ := hB.get (k := (tl g).length) (Nat.le_refl _)
      refine ⟨_, rfl, _, rfl, g, rfl, Nat.le_of_lt (small _ (by omega)), L, _, _, .bl bi, rfl, rfl, SqL.of hl, atI_bl (k := (tl g).length) (by omega) e1, ?_⟩
      have ef : bi = @decide (fit (tl g) (tl b)) (Classical.propDecidable _) := by
        rw [Bool.eq_iff_iff, e2]
        simp only [decide_eq_true_iff]
        refine (hLx _).trans ⟨fun z => z.elim id fun w => ?_, .inl⟩
        have := (List.getElem?_eq_some_iff.mp w.1).1; omega
      rw [ef]
      exact q H' hS
end

end Z
namespace Z
open PySem L2 SX
section
variable {P : Program} {w : World} {K : PySem.W.Frag} {mg : Str → Option Value} {base : Heap}
theorem ok__law_lets (D : Df K mg "_law_lets" s__law_lets ["pattern", "board"]) (T : Tx mg) (C__law_fits : Cal P w K mg base "_law_fits" ["glob", "board"] 1 (sp__law_fits K)) : Cal P w K mg base "_law_lets" ["pattern", "board"] 2 (sp__law_lets K) := by
  obtain ⟨f__law_fits, fd__law_fits, G__law_fits, g__law_fits, k__law_fits, b__law_fits⟩ := C__law_fits
  obtain ⟨f, fd, F, gf, bf⟩ := D
  refine ⟨f, fd, F.ok sc__law_lets (fun vs H Q E h => ?_) (fun cdv A outer s₀ H vs Q E hr h => ?_), gf, F.kp, bf⟩
  · obtain ⟨p, b, rfl, _⟩ := h; rfl
  · obtain ⟨p, b, rfl, pl, hb, q⟩ := h
    refine ⟨_, (pss_cons (ps_set (i := 2) sc__law_lets.nd rfl (Or.inl rfl) pe_bl)
      (pss_cons (ps_for PassesOwn.never rfl (pi_list (pe_split (pv 0) pe_str)) (pg_name (i := 3) sc__law_lets.nd rfl (Or.inl rfl))
      (pss_one (ps_if (pt_cmpR op_eq (pe_slice sl_str (pv 3) po_none (po_some pe_int)) pe_str (nomark _))
        (pss_one (ps_if (pt_val (pe_call G__law_fits (hr.mono (by decide)) (by rfl) g__law_fits k__law_fits b__law_fits .nil pass0 (pa_cons (pe_slice sl_str (pv 3) (po_some pe_int) po_none) (pa_cons (pv 1) pa_nil))))
          (pss_one (ps_set (i := 2) sc__law_lets.nd rfl (Or.inl rfl) pe_bl))
          pss_nil))
        (pss_one (ps_if (pt_val (pe_call G__law_fits (hr.mono (by decide)) (by rfl) g__law_fits k__law_fits b__law_fits .nil pass0 (pa_cons (pv 3) (pa_cons (pv 1) pa_nil))))
          (pss_one (ps_set (i := 2) sc__law_lets.nd rfl (Or.inl rfl) pe_bl))
          pss_nil)))))
      (pss_one (ps_ret (pv 2))))), ?_⟩
    have lp := tl_len p
    have small : ∀ n : Nat, n ≤ 30000 → n ≤ sizeLine := fun n h => Nat.le_trans h (by decide)
    refine ⟨_, rfl, ⟨_, rfl⟩, p, Str.ofString ",", rfl, rfl, rfl, small _ (by omega), fun B hB => ?_⟩
    rw [split_bar]
    have hB1 : (upd H B (HO.lst (((parts (tl p)).map S).map V.str))) B = some (.lst (((parts (tl p)).map S).map V.str)) := upd_same
    refine ⟨B, rfl, ⟨_, SqL.of hB1⟩, ?_⟩
    refine for_list (K := K) (a := B) (xs := ((parts (tl p)).map S).map V.str) (fun i σ H' => (∃ v3 : Option V, σ = [some (.str p), some (.str b), some (.bl (letsL ((parts (tl p)).take i) (tl b))), v3]) ∧ Same (upd H B (HO.lst (((parts (tl p)).map S).map V.str))) H') ⟨⟨_, rfl⟩, Same.refl _⟩ (fun i σ H' _ h => SqL.of (h.2 _ _ hB1)) ?_ ?_
    · rintro i x σ H' hi ⟨⟨v3, rfl⟩, hS⟩
      rw [List.getElem?_map, List.getElem?_map] at hi
      obtain ⟨y, hy, rfl⟩ := Option.map_eq_some_iff.mp hi
      obtain ⟨it, hit, rfl⟩ := Option.map_eq_some_iff.mp hy
      have il := parts_len (List.mem_of_getElem? hit)
      have et : (parts (tl p)).take (i + 1) = (parts (tl p)).take i ++ [it] := by rw [List.take_add_one, hit]; rfl
      have step : letsL ((parts (tl p)).take (i + 1)) (tl b) = (if @decide (fit (globOf it) (tl b)) (Classical.propDecidable _) = true then !isBar it else letsL ((parts (tl p)).take i) (tl b)) := by
        rw [et]
        show List.foldl _ _ (_ ++ [it]) = _
        rw [List.foldl_append]
        show (@ite _ (fit (globOf it) (tl b)) (Classical.propDecidable _) (!isBar it) (letsL ((parts (tl p)).take i) (tl b))) = _
        by_cases h : fit (globOf it) (tl b)
        · rw [if_pos h, if_pos (@decide_eq_true _ (Classical.propDecidable _) h)]
        · rw [if_neg h, if_neg (fun e => h (@of_decide_eq_true _ (Classical.propDecidable _) e))]
      refine ⟨_, rfl, 1, rfl, S it, rfl, small _ (by show (S it).length ≤ _; rw [S_len]; omega), rfl, _, rfl, ?_⟩
      rw [bar_cut]
      refine ite2 (fun cc => ?_) (fun cc => ?_)
      · have cc' : isBar it = true := cc
        have eg : globOf it = it.drop 1 := by unfold globOf; rw [if_pos cc']
        have ec : tl (cutS (S it) (some 1) none) = globOf it := by rw [eg]; exact cutS_from (by decide)
        refine ⟨_, rfl, 1, rfl, S it, rfl, small _ (by show (S it).length ≤ _; rw [S_len]; omega), _, rfl, cutS (S it) (some 1) none, b, rfl, hb, by rw [ec]; have := globOf_len it; omega, fun H2 m2 => ?_⟩
        rw [ec]
        refine ⟨_, rfl, ite2 (fun c2 => ?_) (fun c2 => ?_)⟩
        · refine ⟨⟨some (.str (S it)), ?_⟩, hS.trans m2⟩
          rw [step, if_pos c2, cc']; rfl
        · refine ⟨⟨some (.str (S it)), ?_⟩, hS.trans m2⟩
          rw [step, if_neg c2]; rfl
      · have cc' : ¬ isBar it = true := cc
        have eg : globOf it = it := by unfold globOf; rw [if_neg cc']
        refine ⟨_, rfl, _, rfl, S it, b, rfl, hb, by show it.length ≤ _; omega, fun H2 m2 => ?_⟩
        rw [show tl (S it) = globOf it from eg.symm]
        refine ⟨_, rfl, ite2 (fun c2 => ?_) (fun c2 => ?_)⟩
        · refine ⟨⟨some (.str (S it)), ?_⟩, hS.trans m2⟩
          rw [step, if_pos c2, show isBar it = false by simpa using cc']; rfl
        · refine ⟨⟨some (.str (S it)), ?_⟩, hS.trans m2⟩
          rw [step, if_neg c2]; rfl
    · rintro σ H' ⟨⟨v3, rfl⟩, hS⟩
      rw [List.length_map, List.length_map, List.take_length]
      exact ⟨_, rfl, q H' ((same_new hB).trans hS)⟩
end
section
variable {P : Program} {w : World} {K : PySem.W.Frag} {mg : Str → Option Value} {base : Heap}
theorem ok__law_lets_some (D : Df K mg "_law_lets_some" s__law_lets_some ["pattern", "boards"]) (T : Tx mg) (C__law_lets : Cal P w K mg base "_law_lets" ["pattern", "board"] 2 (sp__law_lets K)) : Cal P w K mg base "_law_lets_some" ["pattern", "boards"] 3 (sp__law_lets_some K) := by
  obtain ⟨f__law_lets, fd__law_lets, G__law_lets, g__law_lets, k__law_lets, b__law_lets⟩ := C__law_lets
  obtain ⟨f, fd, F, gf, bf⟩ := D
  refine ⟨f, fd, F.ok sc__law_lets_some (fun vs H Q E h => ?_) (fun cdv A outer s₀ H vs Q E hr h => ?_), gf, F.kp, bf⟩
  · obtain ⟨p, a, bs, rfl, _⟩ := h; rfl
  · obtain ⟨p, a, bs, rfl, hA, pl, bl, hb, q⟩ := h
    refine ⟨_, (pss_cons (ps_for PassesOwn.never rfl (pi_tup (pv 1)) (pg_name (i := 2) sc__law_lets_some.nd rfl (Or.inl rfl))
      (pss_one (ps_if (pt_val (pe_call G__law_lets (hr.mono (by decide)) (by rfl) g__law_lets k__law_lets b__law_lets .nil pass0 (pa_cons (pv 0) (pa_cons (pv 2) pa_nil))))
        (pss_one (ps_ret pe_bl))
        pss_nil)))
      (pss_one (ps_ret pe_bl))), ?_⟩
    refine ⟨_, rfl, a, rfl, ⟨_, hA⟩, ?_⟩
    refine for_tup (K := K) (a := a) (xs := bs.map V.str) (fun i σ H' => (∃ v2 : Option V, σ = [some (.str p), some (.ref a), v2]) ∧ Same H H' ∧ (bs.take i).any (fun b => letsL (parts (tl p)) (tl b)) = false) ⟨⟨_, rfl⟩, Same.refl _, rfl⟩ (fun i σ H' _ h => h.2.1.tup hA) ?_ ?_
    · rintro i x σ H' hi ⟨⟨v2, rfl⟩, hS, hN⟩
      rw [List.getElem?_map] at hi
      obtain ⟨b, hbi, rfl⟩ := Option.map_eq_some_iff.mp hi
      have et : bs.take (i + 1) = bs.take i ++ [b] := by rw [List.take_add_one, hbi]; rfl
      refine ⟨_, rfl, _, rfl, p, b, rfl, pl, hb b (List.mem_of_getElem? hbi), fun H2 m2 => ?_⟩
      refine ⟨_, rfl, ite2 (fun cc => ?_) (fun cc => ⟨⟨_, rfl⟩, hS.trans m2, ?_⟩)⟩
      · have := q H2 (hS.trans m2)
        rw [show (bs.any fun b => letsL (parts (tl p)) (tl b)) = true from List.any_eq_true.mpr ⟨b, List.mem_of_getElem? hbi, cc⟩] at this
        exact this
      · rw [et, List.any_append, hN]
        show (false || (letsL (parts (tl p)) (tl b) || false)) = false
        rw [show letsL (parts (tl p)) (tl b) = false by simpa using cc]; rfl
    · rintro σ H' ⟨⟨v2, rfl⟩, hS, hN⟩
      rw [List.length_map, List.take_length] at hN
      have := q H' hS
      rw [hN] at this
      exact this
end

end Z
namespace Z
open PySem L2 SX
section
variable {P : Program} {w : World} {K : PySem.W.Frag} {mg : Str → Option Value} {base : Heap}
theorem ok__law_words (D : Df K mg "_law_words" s__law_words ["source"]) (T : Tx mg)  (C__law_draw : Cal P w K mg base "_law_draw" ["source", "many"] 2 sp__law_draw) (C__law_names : Cal P w K mg base "_law_names" ["source", "many"] 4 (sp9__law_names K)) : Cal P w K mg base "_law_words" ["source"] 5 (sp2__law_words K) := by
  obtain ⟨f__law_draw, fd__law_draw, G__law_draw, g__law_draw, k__law_draw, b__law_draw⟩ := C__law_draw
  obtain ⟨f__law_names, fd__law_names, G__law_names, g__law_names, k__law_names, b__law_names⟩ := C__law_names
  obtain ⟨f, fd, F, gf, bf⟩ := D
  refine ⟨f, fd, F.ok sc__law_words (fun vs H Q E h => ?_) (fun cdv A outer s₀ H vs Q E hr h => ?_), gf, F.kp, bf⟩
  · obtain ⟨s, a, c, rfl, _⟩ := h; rfl
  · obtain ⟨s, a, c, rfl, hS, q⟩ := h
    refine ⟨_, (pss_one (ps_ret (pe_call G__law_names (hr.mono (by decide)) (by rfl) g__law_names k__law_names b__law_names .nil pass0 (pa_cons (pv 0) (pa_cons (pe_op op_add pe_int (pe_call G__law_draw (hr.mono (by decide)) (by rfl) g__law_draw k__law_draw b__law_draw .nil pass0 (pa_cons (pv 0) (pa_cons pe_int pa_nil)))) pa_nil))))), ?_⟩
    refine ⟨_, rfl, _, rfl, s, a, _, c + 99, rfl, by decide, by decide, hS, fun v H1 v0 v1 x1 S1 => ?_⟩
    obtain ⟨m, rfl⟩ := Int.eq_ofNat_of_zero_le v0
    refine ⟨_, _, rfl, rfl, s, a, m + 2, c + 50, ?_, by omega, S1.mono (by omega), fun u us H2 hu h2 ul uA x2 S2 => ?_⟩
    · show [V.ref s, V.int (2 + (m : Int))] = [V.ref s, V.int ((m + 2 : Nat) : Int)]
      rw [show ((m + 2 : Nat) : Int) = 2 + (m : Int) by omega]
    · have hu0 : H u = none := ext_free x1 S1 hu
      exact q u us H2 hu0 h2 ⟨fun e => by rw [e] at ul; simp at ul, by omega, uA.2⟩ (x1.trans x2) (S2.mono (by omega))
end
section
variable {P : Program} {w : World} {K : PySem.W.Frag} {mg : Str → Option Value} {base : Heap}
theorem ok__law_board (D : Df K mg "_law_board" s__law_board ["source", "words"]) (T : Tx mg)  (C__law_draw : Cal P w K mg base "_law_draw" ["source", "many"] 2 sp__law_draw) (C__law_pick : Cal P w K mg base "_law_pick" ["source", "row"] 3 (sp3__law_pick K)) : Cal P w K mg base "_law_board" ["source", "words"] 4 (sp2__law_board K) := by
  obtain ⟨f__law_draw, fd__law_draw, G__law_draw, g__law_draw, k__law_draw, b__law_draw⟩ := C__law_draw
  obtain ⟨f__law_pick, fd__law_pick, G__law_pick, g__law_pick, k__law_pick, b__law_pick⟩ := C__law_pick
  obtain ⟨f, fd, F, gf, bf⟩ := D
  refine ⟨f, fd, F.ok sc__law_board (fun vs H Q E h => ?_) (fun cdv A outer s₀ H vs Q E hr h => ?_), gf, F.kp, bf⟩
  · obtain ⟨s, a, u, us, c, rfl, _⟩ := h; rfl
  · obtain ⟨s, a, u, us, c, rfl, hU, hus, hW, hS, q⟩ := h
    refine ⟨_, (pss_cons (ps_set (i := 2) sc__law_board.nd rfl (Or.inl rfl) (pe_op op_add pe_int (pe_call G__law_draw (hr.mono (by decide)) (by rfl) g__law_draw k__law_draw b__law_draw .nil pass0 (pa_cons (pv 0) (pa_cons pe_int pa_nil)))))
      (pss_one (ps_ret (pe_join pe_str (pe_lc (own := [("k", 3)]) (g := gName 3) (tt := tYes) rfl sc__law_board.nd (pi_range1 (by rfl) T.n_range (pa_cons (pv 2) pa_nil)) (blkOk_by (own := [("k", 3)]) (N := N__law_board) (sc := defScope s__law_board) (by decide +kernel)) (fun _ _ _ _ _ => pg_name (i := 3) sc__law_board.nd rfl (Or.inl rfl)) (fun _ _ _ _ _ => pts_nil) (fun _ _ _ _ _ => (pe_call G__law_pick (hr.mono (by decide)) (by rfl) g__law_pick k__law_pick b__law_pick .nil pass0 (pa_cons (pv 0) (pa_cons (pv 1) pa_nil))))))))), ?_⟩
    obtain ⟨un, ul, uA⟩ := hW
    refine ⟨_, rfl, s, a, _, c + 9, rfl, by decide, by decide, hS, fun v H1 v0 v1 x1 S1 => ?_⟩
    refine ⟨_, _, rfl, rfl, ?_⟩
    refine ⟨⟨_, rfl⟩, _, rfl, _, rfl, by omega, by omega, fun D hD => ?_⟩
    refine lc_strs (n := (1 + v).toNat) (d := 1) (c := c) (fun x => Nm (tl x) ∧ (tl x).length ≤ 8) hD (S1.mono (by omega)) (by omega) (fun _ => rfl) (fun i c' Hx R hi hE' hS' k => ?_) (fun xs H3 hx3 hl3 hA3 hE3 hS3 => ?_)
    · refine ⟨_, rfl, _, rfl, .inl ⟨s, a, u, us.map V.str, c', rfl, hE'.seqL hus (x1.seqL hus hU), hus, fun e => un (List.map_eq_nil_iff.mp e), by rw [List.length_map]; omega, hS', fun w H4 wm x4 S4 => ?_⟩⟩
      obtain ⟨z, zm, rfl⟩ := List.mem_map.mp wm
      exact k z H4 (uA z zm) x4 S4
    · have hs := sum_len (n := 8) (xs := xs) fun x m => (hA3 x m).2
      refine ⟨_, D, xs, rfl, rfl, .inl (SqL.of hx3), ?_, ?_⟩
      · show _ + xs.length * 1 ≤ _; omega
      refine q _ H3 ?_ ?_ ?_ (x1.trans hE3) hS3
      · rw [tl_joinS]
        intro ch hc
        rcases joinL_mem hc with e | ⟨l, m, e⟩
        · rw [List.mem_singleton.mp e]; exact .inr (.inr rfl)
        · obtain ⟨x, hx, rfl⟩ := List.mem_map.mp m
          exact (hA3 x hx).1.2.bdc ch e
      · rw [tl_joinS]
        refine joinL_ne (fun e => ?_) (fun l m => ?_)
        · have := List.map_eq_nil_iff.mp e
          rw [this] at hl3; simp at hl3; omega
        · obtain ⟨x, hx, rfl⟩ := List.mem_map.mp m
          exact (hA3 x hx).1.ne
      · rw [tl_joinS]
        refine Nat.le_trans (joinL_len (n := 8) fun l m => ?_) ?_
        · obtain ⟨x, hx, rfl⟩ := List.mem_map.mp m
          exact (hA3 x hx).2
        · rw [List.length_map]; show xs.length * (8 + 1) ≤ 30; omega
end
section
variable {P : Program} {w : World} {K : PySem.W.Frag} {mg : Str → Option Value} {base : Heap}
theorem ok__law_glob (D : Df K mg "_law_glob" s__law_glob ["source", "words"]) (T : Tx mg)  (C__law_board : Cal P w K mg base "_law_board" ["source", "words"] 4 (sp2__law_board K)) (C__law_pick : Cal P w K mg base "_law_pick" ["source", "row"] 3 (sp3__law_pick K)) : Cal P w K mg base "_law_glob" ["source", "words"] 5 (sp2__law_glob K) := by
  obtain ⟨f__law_board, fd__law_board, G__law_board, g__law_board, k__law_board, b__law_board⟩ := C__law_board
  obtain ⟨f__law_pick, fd__law_pick, G__law_pick, g__law_pick, k__law_pick, b__law_pick⟩ := C__law_pick
  obtain ⟨f, fd, F, gf, bf⟩ := D
  refine ⟨f, fd, F.ok sc__law_glob (fun vs H Q E h => ?_) (fun cdv A outer s₀ H vs Q E hr h => ?_), gf, F.kp, bf⟩
  · obtain ⟨s, a, u, us, c, rfl, _⟩ := h; rfl
  · obtain ⟨s, a, u, us, c, rfl, hU, hus, hW, hS, q⟩ := h
    refine ⟨_, (pss_cons (ps_set (i := 2) sc__law_glob.nd rfl (Or.inl rfl) (pe_call G__law_pick (hr.mono (by decide)) (by rfl) g__law_pick k__law_pick b__law_pick .nil pass0 (pa_cons (pv 0) (pa_cons (pv 1) pa_nil))))
      (pss_cons (ps_set (i := 3) sc__law_glob.nd rfl (Or.inl rfl) (pe_lst (pa_cons (pe_call G__law_board (hr.mono (by decide)) (by rfl) g__law_board k__law_board b__law_board .nil pass0 (pa_cons (pv 0) (pa_cons (pv 1) pa_nil))) (pa_cons (pe_op op_add_str (pv 2) pe_str) (pa_cons (pe_op op_add_str pe_str (pv 2)) (pa_cons (pe_op op_add_str (pv 2) pe_str) (pa_cons (pe_op op_add_str (pe_op op_add_str pe_str (pe_slice sl_str (pv 2) (po_some pe_int) po_none)) pe_str) pa_nil)))))))
      (pss_one (ps_ret (pe_call G__law_pick (hr.mono (by decide)) (by rfl) g__law_pick k__law_pick b__law_pick .nil pass0 (pa_cons (pv 0) (pa_cons (pe_op L2.op_cat (pv 3) (pe_lst (pa_cons (pe_op op_add_str (pe_op op_add_str pe_str (pe_slice sl_str (pv 2) (po_some (pe_un un_neg pe_int)) po_none)) pe_str) (pa_cons (pe_op op_add_str (pv 2) pe_str) (pa_cons pe_str pa_nil))))) pa_nil))))))), ?_⟩
    obtain ⟨un, ul, uA⟩ := id hW
    have small : ∀ n : Nat, n ≤ 30000 → n ≤ sizeLine := fun n h => Nat.le_trans h (by decide)
    refine ⟨_, rfl, _, rfl, .inl ⟨s, a, u, us.map V.str, c + 19, rfl, hU, hus, fun e => un (List.map_eq_nil_iff.mp e), by rw [List.length_map]; omega, hS, fun w H1 wm x1 S1 => ?_⟩⟩
    obtain ⟨z, zm, rfl⟩ := List.mem_map.mp wm
    have zl := (uA z zm).2
    have zn := (uA z zm).1.ne
    have zo := (uA z zm).1.2.okc
    have lz := tl_len z
    refine ⟨_, rfl, _, rfl, s, a, u, us, c + 9, rfl, x1.seqL hus hU, hus, hW, S1, fun x H2 xB xn xl x2 S2 => ?_⟩
    have ap : ∀ {p q : List Nat}, (∀ c ∈ p, okc c = true) → (∀ c ∈ q, okc c = true) → ∀ c ∈ p ++ q, okc c = true := fun h1 h2 c m => (List.mem_append.mp m).elim (h1 c) (h2 c)
    have w1 : ∀ c ∈ tl (Str.ofString ".*"), okc c = true := by decide +kernel
    have w2 : ∀ c ∈ tl (Str.ofString "*."), okc c = true := by decide +kernel
    have w3 : ∀ c ∈ tl (Str.ofString "*"), okc c = true := by decide +kernel
    have w4 : ∀ c ∈ tl (Str.ofString "?"), okc c = true := by decide +kernel
    have w5 : ∀ c ∈ tl (Str.ofString "?*"), okc c = true := by decide +kernel
    have w6 : ∀ c ∈ tl (Str.ofString ".?*"), okc c = true := by decide +kernel
    have l1 : okG (tl (z ++ Str.ofString ".*")) ∧ (tl (z ++ Str.ofString ".*")).length ≤ 40 := by
      rw [tl_app]; exact ⟨⟨fun e => zn (List.append_eq_nil_iff.mp e).1, ap zo w1⟩, by rw [List.length_append]; show _ + 2 ≤ _; omega⟩
    have l2 : okG (tl (Str.ofString "*." ++ z)) ∧ (tl (Str.ofString "*." ++ z)).length ≤ 40 := by
      rw [tl_app]; exact ⟨⟨fun e => zn (List.append_eq_nil_iff.mp e).2, ap w2 zo⟩, by rw [List.length_append]; show 2 + _ ≤ _; omega⟩
    have l3 : okG (tl (z ++ Str.ofString "*")) ∧ (tl (z ++ Str.ofString "*")).length ≤ 40 := by
      rw [tl_app]; exact ⟨⟨fun e => zn (List.append_eq_nil_iff.mp e).1, ap zo w3⟩, by rw [List.length_append]; show _ + 1 ≤ _; omega⟩
    have lc1 : (tl (cutS z (some 1) none)).length ≤ 8 := Nat.le_trans (cut_le _ _ _) zl
    have l4 : okG (tl (Str.ofString "?" ++ cutS z (some 1) none ++ Str.ofString "*")) ∧ (tl (Str.ofString "?" ++ cutS z (some 1) none ++ Str.ofString "*")).length ≤ 40 := by
      rw [tl_app, tl_app]
      exact ⟨⟨by show 63 :: _ ≠ []; simp, ap (ap w4 fun c m => zo c (cut_mem _ _ _ c m)) w3⟩, by rw [List.length_append, List.length_append]; show (1 + _) + 1 ≤ _; omega⟩
    have lc2 : (tl (cutS z (some (-1)) none)).length ≤ 8 := Nat.le_trans (cut_le _ _ _) zl
    have l5 : okG (tl (Str.ofString "*" ++ cutS z (some (-1)) none ++ Str.ofString "?*")) ∧ (tl (Str.ofString "*" ++ cutS z (some (-1)) none ++ Str.ofString "?*")).length ≤ 40 := by
      rw [tl_app, tl_app]
      exact ⟨⟨by show 42 :: _ ≠ []; simp, ap (ap w3 fun c m => zo c (cut_mem _ _ _ c m)) w5⟩, by rw [List.length_append, List.length_append]; show (1 + _) + 2 ≤ _; omega⟩
    have l6 : okG (tl (z ++ Str.ofString ".?*")) ∧ (tl (z ++ Str.ofString ".?*")).length ≤ 40 := by
      rw [tl_app]; exact ⟨⟨fun e => zn (List.append_eq_nil_iff.mp e).1, ap zo w6⟩, by rw [List.length_append]; show _ + 3 ≤ _; omega⟩
    refine ⟨_, rfl, _, _, rfl, rfl, small _ (by rw [tl_len, tl_len]; show _ + 2 ≤ _; omega), _, rfl, _, _, rfl, rfl, small _ (by rw [tl_len, tl_len]; show 2 + _ ≤ _; omega), _, rfl, _, _, rfl, rfl, small _ (by rw [tl_len, tl_len]; show _ + 1 ≤ _; omega), ?_⟩
    refine ⟨_, rfl, 1, rfl, z, rfl, small _ (by omega), _, _, rfl, rfl, small _ (by rw [tl_len, tl_len]; show 1 + _ ≤ _; omega), _, _, rfl, rfl, small _ (by rw [tl_len, tl_len, tl_app, List.length_append]; show (1 + _) + 1 ≤ _; omega), by show 5 ≤ sizeLine; decide, fun M hM => ?_⟩
    have n1 := same_new (o := HO.lst ([x, z ++ Str.ofString ".*", Str.ofString "*." ++ z, z ++ Str.ofString "*", Str.ofString "?" ++ cutS z (some 1) none ++ Str.ofString "*"].map V.str)) hM
    refine ⟨_, rfl, _, rfl, _, rfl, 1, rfl, -1, rfl, z, rfl, small _ (by omega), _, _, rfl, rfl, small _ (by rw [tl_len, tl_len]; show 1 + _ ≤ _; omega), _, _, rfl, rfl, small _ (by rw [tl_len, tl_len, tl_app, List.length_append]; show (1 + _) + 2 ≤ _; omega), _, rfl, _, _, rfl, rfl, small _ (by rw [tl_len, tl_len]; show _ + 3 ≤ _; omega), by show 3 ≤ sizeLine; decide, fun N hN => ?_⟩
    have n2 := same_new (o := HO.lst ([Str.ofString "*" ++ cutS z (some (-1)) none ++ Str.ofString "?*", z ++ Str.ofString ".?*", Str.ofString "*"].map V.str)) hN
    refine ⟨M, N, _, _, rfl, rfl, n2 _ _ upd_same, upd_same, by show 5 + 3 ≤ sizeLine; decide, fun R hR => ?_⟩
    have n3 := same_new (o := HO.lst (([x, z ++ Str.ofString ".*", Str.ofString "*." ++ z, z ++ Str.ofString "*", Str.ofString "?" ++ cutS z (some 1) none ++ Str.ofString "*"] ++ [Str.ofString "*" ++ cutS z (some (-1)) none ++ Str.ofString "?*", z ++ Str.ofString ".?*", Str.ofString "*"]).map V.str)) hR
    have S3 := ((S2.ext n1).ext n2).ext n3
    refine .inl ⟨s, a, R, ([x, z ++ Str.ofString ".*", Str.ofString "*." ++ z, z ++ Str.ofString "*", Str.ofString "?" ++ cutS z (some 1) none ++ Str.ofString "*"] ++ [Str.ofString "*" ++ cutS z (some (-1)) none ++ Str.ofString "?*", z ++ Str.ofString ".?*", Str.ofString "*"]).map V.str, c + 8, rfl, SqL.of upd_same, (((S2.ext n1).ext n2).ne hR), by simp, by show 8 ≤ 100000; decide, S3, fun w H4 wm x4 S4 => ?_⟩
    obtain ⟨y, ym, rfl⟩ := List.mem_map.mp wm
    have yy : okG (tl y) ∧ (tl y).length ≤ 40 := by
      simp only [List.mem_append, List.mem_cons, List.not_mem_nil, or_false] at ym
      rcases ym with (e | e | e | e | e) | (e | e | e) <;> subst e
      · exact ⟨⟨xn, xB.okc⟩, by omega⟩
      · exact l1
      · exact l2
      · exact l3
      · exact l4
      · exact l5
      · exact l6
      · exact ⟨⟨by decide, w3⟩, by decide⟩
    exact q y H4 yy.1 yy.2 (x1.trans (x2.trans ((Ext.of (n1.trans (n2.trans n3))).trans x4))) (S4.mono (by omega))
end
section
variable {P : Program} {w : World} {K : PySem.W.Frag} {mg : Str → Option Value} {base : Heap}
theorem ok__law_pattern (D : Df K mg "_law_pattern" s__law_pattern ["source", "words"]) (T : Tx mg)  (C__law_draw : Cal P w K mg base "_law_draw" ["source", "many"] 2 sp__law_draw) (C__law_glob : Cal P w K mg base "_law_glob" ["source", "words"] 5 (sp2__law_glob K)) : Cal P w K mg base "_law_pattern" ["source", "words"] 6 (sp2__law_pattern K) := by
  obtain ⟨f__law_draw, fd__law_draw, G__law_draw, g__law_draw, k__law_draw, b__law_draw⟩ := C__law_draw
  obtain ⟨f__law_glob, fd__law_glob, G__law_glob, g__law_glob, k__law_glob, b__law_glob⟩ := C__law_glob
  obtain ⟨f, fd, F, gf, bf⟩ := D
  refine ⟨f, fd, F.ok sc__law_pattern (fun vs H Q E h => ?_) (fun cdv A outer s₀ H vs Q E hr h => ?_), gf, F.kp, bf⟩
  · obtain ⟨s, a, u, us, c, rfl, _⟩ := h; rfl
  · obtain ⟨s, a, u, us, c, rfl, hU, hus, hW, hS, q⟩ := h
    refine ⟨_, (pss_cons (ps_set (i := 2) sc__law_pattern.nd rfl (Or.inl rfl) (pe_op op_add pe_int (pe_call G__law_draw (hr.mono (by decide)) (by rfl) g__law_draw k__law_draw b__law_draw .nil pass0 (pa_cons (pv 0) (pa_cons pe_int pa_nil)))))
      (pss_cons (ps_setLc (i := 3) (own := [("k", 4)]) (g := gName 4) (tt := tYes) rfl sc__law_pattern.nd rfl rfl (sw_true rfl rfl rfl (by decide +kernel)) (pi_range1 (by rfl) T.n_range (pa_cons (pv 2) pa_nil)) (blkOk_by (own := [("k", 4)]) (N := N__law_pattern) (sc := defScope s__law_pattern) (by decide +kernel)) (fun _ _ _ _ _ => pg_name (i := 4) sc__law_pattern.nd rfl (Or.inl rfl)) (fun _ _ _ _ _ => pts_nil) (fun _ _ _ _ _ => (pe_op op_add_str (pe_ix (ix_listQ (K := K) rfl) (pe_lst (pa_cons pe_str (pa_cons pe_str pa_nil))) (pe_callTy call_int1 (by rfl) T.n_int (by decide +kernel) (pa_cons (pe_and (pe_cmpR op_gt (pv 4) pe_int (nomark _)) (pe_one (pe_cmpR op_eq (pe_call G__law_draw (hr.mono (by decide)) (by rfl) g__law_draw k__law_draw b__law_draw .nil pass0 (pa_cons (pv 0) (pa_cons pe_int pa_nil))) pe_int (nomark _)))) pa_nil)) (fun _ _ => rfl)) (pe_call G__law_glob (hr.mono (by decide)) (by rfl) g__law_glob k__law_glob b__law_glob .nil pass0 (pa_cons (pv 0) (pa_cons (pv 1) pa_nil))))))
      (pss_cons (ps_while PassesOwn.never (PW.pt (pw_and (pt_cmpR op_gt (pe_callB call_len_seq (by rfl) T.n_len PySem.boot_len (pa_cons (pv 3) pa_nil)) pe_int (nomark _)) (pw_and1 (pt_cmpR op_gt (pe_callB call_lenS (by rfl) T.n_len PySem.boot_len (pa_cons (pe_join pe_str (pv 3)) pa_nil)) pe_int (nomark _)))))
      (pss_one (ps_expr (pe_bm0 PySem.F.plainAttrs_list PySem.F.slot_list_pop PySem.F.type_list_pop mt_pop (pv 3)))))
      (pss_one (ps_ret (pe_join pe_str (pv 3))))))), ?_⟩
    have small : ∀ n : Nat, n ≤ 30000 → n ≤ sizeLine := fun n h => Nat.le_trans h (by decide)
    refine ⟨_, rfl, s, a, _, c + 199, rfl, by decide, by decide, hS, fun v H1 v0 v1 x1 S1 => ?_⟩
    refine ⟨_, _, rfl, rfl, ?_⟩
    refine ⟨_, rfl, _, rfl, by omega, by omega, fun D hD => ?_⟩
    refine lc_strs (n := (1 + v).toNat) (d := 22) (c := c) (fun x => goodItem (tl x) = true ∧ (tl x).length ≤ 41) hD (S1.mono (by omega)) (by omega) (fun _ => rfl) (fun i c' Hx R hi hE' hS' k => ?_) (fun xs H3 hx3 hl3 hA3 hE3 hS3 => ?_)
    · have fin : ∀ (z : Str) (H4 : Hp), (z = Str.ofString "" ∨ z = Str.ofString "!") → Ext s Hx H4 → Src H4 s a (c' + 20) → ∀ (g : Str) (H5 : Hp), okG (tl g) → (tl g).length ≤ 40 → Ext s H4 H5 → Src H5 s a c' → z.length + g.length ≤ sizeLine ∧ R (.str (z ++ g)) H5 := fun z H4 zz x4 S4 g H5 go gl x5 S5 => by
        have zl : (tl z).length ≤ 1 := by rcases zz with e | e <;> subst e <;> decide
        refine ⟨small _ (by rw [tl_len, tl_len]; omega), k _ H5 ⟨?_, by rw [tl_app, List.length_append]; omega⟩ (x4.trans x5) S5⟩
        rw [tl_app]
        rcases zz with e | e <;> subst e
        · exact (good_glob go).1
        · exact (good_glob go).2
      refine ⟨by show 2 ≤ sizeLine; decide, fun p hp => ?_⟩
      have S2 := hS'.new (o := HO.lst ([Str.ofString "", Str.ofString "!"].map V.str)) hp
      have ps := hS'.ne hp
      refine ⟨_, rfl, _, _, rfl, rfl, _, rfl, ite2 (fun _ => ?_) (fun _ => ?_)⟩
      · refine ⟨_, rfl, s, a, _, c' + 21, rfl, by decide, by decide, S2, fun w H4 w0 w1 x4 S4 => ?_⟩
        obtain ⟨z, zm, ez⟩ := strs_at [Str.ofString "", Str.ofString "!"] (v := if decide (V.int w = V.int 1) = true then 1 else 0) (by split <;> decide) (by split <;> decide)
        have zl : z = Str.ofString "" ∨ z = Str.ofString "!" := by
          rcases List.mem_cons.mp zm with e | e
          · exact .inl e
          · exact .inr (List.mem_singleton.mp e)
        refine ⟨rfl, .inr ⟨_, rfl, p, _, _, _, rfl, rfl, SqL.of (x4 _ _ ps upd_same), ez, ?_⟩⟩
        have xx := hE'.trans ((Ext.new hp).trans x4)
        refine ⟨_, rfl, _, rfl, s, a, u, us, c', rfl, xx.seqL hus (x1.seqL hus hU), hus, hW, S4.mono (by omega), fun g H5 go gl x5 S5 => ?_⟩
        obtain ⟨f1, f2⟩ := fin z H4 zl ((Ext.new hp).trans x4) (S4.mono (by omega)) g H5 go gl x5 S5
        exact ⟨_, _, rfl, rfl, f1, f2⟩
      · refine .inr ⟨_, rfl, p, _, _, .str (Str.ofString ""), rfl, rfl, SqL.of upd_same, rfl, ?_⟩
        have xx := hE'.trans (Ext.new (o := HO.lst ([Str.ofString "", Str.ofString "!"].map V.str)) (s := s) hp)
        refine ⟨_, rfl, _, rfl, s, a, u, us, c', rfl, xx.seqL hus (x1.seqL hus hU), hus, hW, S2.mono (by omega), fun g H5 go gl x5 S5 => ?_⟩
        obtain ⟨f1, f2⟩ := fin (Str.ofString "") _ (.inl rfl) (Ext.new hp) (S2.mono (by omega)) g H5 go gl x5 S5
        exact ⟨_, _, rfl, rfl, f1, f2⟩
    have Ds := S1.ne hD
    have Da := S1.nea hD
    have jl : ∀ ys : List Str, (∀ x ∈ ys, goodItem (tl x) = true ∧ (tl x).length ≤ 41) → ys.length ≤ 3 → (tl (Txt.join (Str.ofString ",") ys)).length ≤ 130 := fun ys hy hl => by
      rw [tl_joinS]
      refine Nat.le_trans (joinL_len (n := 41) fun l m => ?_) ?_
      · obtain ⟨x, hx, rfl⟩ := List.mem_map.mp m
        exact (hy x hx).2
      · rw [List.length_map]; show ys.length * (41 + 1) ≤ 130; omega
    have jg : ∀ ys : List Str, (∀ x ∈ ys, goodItem (tl x) = true ∧ (tl x).length ≤ 41) → ys ≠ [] → GP (tl (Txt.join (Str.ofString ",") ys)) := fun ys hy hn => by
      rw [tl_joinS]
      refine GP.join (fun e => hn (List.map_eq_nil_iff.mp e)) fun it m => ?_
      obtain ⟨x, hx, rfl⟩ := List.mem_map.mp m
      exact (hy x hx).1
    have js : ∀ ys : List Str, (∀ x ∈ ys, goodItem (tl x) = true ∧ (tl x).length ≤ 41) → ys.length ≤ 3 → (ys.map (·.length)).sum + ys.length * (Str.ofString ",").length ≤ 16777216 := fun ys hy hl => by
      have := sum_len (n := 41) fun x m => (hy x m).2
      show _ + ys.length * 1 ≤ _; omega
    refine ⟨fun n σ H' => ∃ ys : List Str, σ = [some (.ref s), some (.ref u), some (.int (1 + v)), some (.ref D), none] ∧ H' D = some (.lst (ys.map V.str)) ∧ (∀ x ∈ ys, goodItem (tl x) = true ∧ (tl x).length ≤ 41) ∧ ys.length ≤ 3 ∧ ys ≠ [] ∧ Ext s H H' ∧ Src H' s a c ∧ n = ys.length, ⟨_, xs, rfl, hx3, hA3, by omega, (fun e => by rw [e] at hl3; simp at hl3; omega), x1.trans hE3, hS3, rfl⟩, ?_⟩
    rintro n σ H' ⟨ys, rfl, hy, yA, yl, yn, hE, hS', rfl⟩
    have fin : ∃ a_1, [some (V.ref s), some (V.ref u), some (V.int (1 + v)), some (V.ref D), none][3]? = some (some a_1) ∧ ∃ a p zs, V.str (Str.ofString ",") = V.str a ∧ [a_1] = [V.ref p] ∧ (SqL K H' p (zs.map V.str) ∨ SqT K H' p (zs.map V.str)) ∧ (zs.map (·.length)).sum + zs.length * a.length ≤ 16777216 ∧ Q (V.str (Txt.join a zs)) H' := ⟨_, rfl, _, D, ys, rfl, rfl, .inl (SqL.of hy), js ys yA yl, q _ H' (jg ys yA yn) (jl ys yA yl) hE hS'⟩
    refine ⟨_, rfl, D, _, rfl, .inl (SqL.of hy), _, _, rfl, rfl, _, rfl, ite2 (fun c1 => ?_) (fun c1 => iteF ⟨⟨_, rfl⟩, fin⟩)⟩
    have y1 : 1 < ys.length := by have := of_decide_eq_true c1; rw [List.length_map] at this; omega
    have ll : (tl (Txt.join (Str.ofString ",") ys)).length ≤ 130 := jl ys yA yl
    refine ⟨⟨_, rfl⟩, _, rfl, _, D, ys, rfl, rfl, .inl (SqL.of hy), js ys yA yl, _, rfl, small _ (by rw [tl_len]; omega), _, _, rfl, rfl, _, rfl, ite2 (fun c2 => ?_) (fun c2 => ⟨⟨_, rfl⟩, fin⟩)⟩
    refine ⟨fun σ2 H2 => ∃ m', m' < ys.length ∧ ∃ ys : List Str, σ2 = [some (.ref s), some (.ref u), some (.int (1 + v)), some (.ref D), none] ∧ H2 D = some (.lst (ys.map V.str)) ∧ (∀ x ∈ ys, goodItem (tl x) = true ∧ (tl x).length ≤ 41) ∧ ys.length ≤ 3 ∧ ys ≠ [] ∧ Ext s H H2 ∧ Src H2 s a c ∧ m' = ys.length, fun σ2 H2 h => h, ?_⟩
    obtain ⟨r, z, e⟩ : ∃ r z, ys = r ++ [z] := ⟨ys.dropLast, ys.getLast (by intro e; rw [e] at y1; simp at y1), (List.dropLast_concat_getLast _).symm⟩
    subst e
    refine ⟨_, rfl, .inl ⟨rfl, _, SqL.of hy⟩, D, _, .str z, rfl, rfl, hy, ?_, ?_⟩
    · rw [List.map_append, List.length_append, List.length_map]
      show (r.map V.str ++ [V.str z])[r.length + 1 - 1]? = _
      rw [Nat.add_sub_cancel, List.getElem?_append_right (by rw [List.length_map]; exact Nat.le_refl _), List.length_map, Nat.sub_self]; rfl
    · have ed : ((r ++ [z]).map V.str).dropLast = r.map V.str := by rw [List.map_append]; exact List.dropLast_concat
      rw [ed]
      rw [List.length_append] at y1 yl
      refine ⟨_, ?_, r, rfl, upd_same, fun x hx => yA x (List.mem_append_left _ hx), by omega, (fun e => by rw [e] at y1; simp at y1), fun b o hb hh => ?_, hS'.put Ds Da, rfl⟩
      · rw [List.length_append]; show _ < _ + 1; omega
      · have : H1 D = none := hD
        have hh1 := x1 _ _ hb hh
        rw [upd_ne (ne_of_none hh1 hD)]; exact hE _ _ hb hh
end
section
variable {P : Program} {w : World} {K : PySem.W.Frag} {mg : Str → Option Value} {base : Heap}
theorem ok__law_shuffled (D : Df K mg "_law_shuffled" s__law_shuffled ["source", "row"]) (T : Tx mg)  (C__law_draw : Cal P w K mg base "_law_draw" ["source", "many"] 2 sp__law_draw) : Cal P w K mg base "_law_shuffled" ["source", "row"] 3 (sp__law_shuffled K) := by
  obtain ⟨f__law_draw, fd__law_draw, G__law_draw, g__law_draw, k__law_draw, b__law_draw⟩ := C__law_draw
  obtain ⟨f, fd, F, gf, bf⟩ := D
  refine ⟨f, fd, F.ok sc__law_shuffled (fun vs H Q E h => ?_) (fun cdv A outer s₀ H vs Q E hr h => ?_), gf, F.kp, bf⟩
  · obtain ⟨s, a, r, xs, c, rfl, _⟩ := h; rfl
  · obtain ⟨s, a, r, xs, c, rfl, hR, rs, xl, hS, q⟩ := h
    refine ⟨_, (pss_cons (ps_set (i := 2) sc__law_shuffled.nd rfl (Or.inl rfl) (pe_callTy call_list_of (by rfl) T.n_list (by decide +kernel) (pa_cons (pv 1) pa_nil)))
      (pss_cons (ps_set (i := 3) sc__law_shuffled.nd rfl (Or.inl rfl) (pe_lst pa_nil))
      (pss_cons (ps_for PassesOwn.never rfl (pi_range1 (by rfl) T.n_range (pa_cons (pe_callB call_len_seq (by rfl) T.n_len PySem.boot_len (pa_cons (pv 1) pa_nil)) pa_nil)) (pg_name (i := 4) sc__law_shuffled.nd rfl (Or.inl rfl))
      (pss_one (ps_expr (pe_bm PySem.F.plainAttrs_list PySem.F.slot_list_append PySem.F.type_list_append mt_append (pv 3) (pa_cons (pe_bm PySem.F.plainAttrs_list PySem.F.slot_list_pop PySem.F.type_list_pop mt_popAt (pv 2) (pa_cons (pe_call G__law_draw (hr.mono (by decide)) (by rfl) g__law_draw k__law_draw b__law_draw .nil pass0 (pa_cons (pv 0) (pa_cons (pe_callB call_len_seq (by rfl) T.n_len PySem.boot_len (pa_cons (pv 2) pa_nil)) pa_nil))) pa_nil)) pa_nil)))))
      (pss_one (ps_ret (pv 3)))))), ?_⟩
    refine ⟨_, rfl, r, xs, rfl, .inl hR, fun L hL => ?_⟩
    have n1 := same_new (o := HO.lst xs) hL
    refine ⟨Nat.zero_le _, fun D hD => ?_⟩
    have n2 := same_new (o := HO.lst []) hD
    have S1 := (hS.ext n1).ext n2
    have Ls := hS.ne hL
    have La := hS.nea hL
    have HD : H D = none := Same.free n1 hD
    have Ds := hS.ne HD
    have Da := hS.nea HD
    have LD : L ≠ D := ne_of_none upd_same hD
    refine ⟨_, rfl, r, xs, rfl, .inl ((n1.trans n2).seq hR), _, rfl, by omega, by omega, ?_⟩
    refine for_range (lo := 0) (n := ((xs.length : Int)).toNat) (fun i σ H' => ∃ (ls ys : List V) (v4 : Option V), σ = [some (.ref s), some (.ref r), some (.ref L), some (.ref D), v4] ∧ H' L = some (.lst ls) ∧ H' D = some (.lst ys) ∧ ls.length + i = xs.length ∧ ys.length = i ∧ (∀ y ∈ ls, y ∈ xs) ∧ (∀ y ∈ ys, y ∈ xs) ∧ Ext s H H' ∧ Src H' s a (c + (xs.length - i))) ?_ ?_ ?_
    · exact ⟨xs, [], _, rfl, n2 _ _ upd_same, upd_same, by simp, rfl, (fun _ h => h), (fun _ h => by cases h), Ext.of (n1.trans n2), S1.mono (by omega)⟩
    · rintro i σ H' hi ⟨ls, ys, v4, rfl, hl, hy, l1, l2, m1, m2, hE, hS'⟩
      refine ⟨_, rfl, .inl ⟨rfl, _, SqL.of hy⟩, _, rfl, .inl ⟨rfl, _, SqL.of hl⟩, _, rfl, _, rfl, L, _, rfl, .inl (SqL.of hl), s, a, (ls.length : Int), c + (xs.length - (i + 1)), rfl, by omega, by omega, hS'.mono (by omega), fun v H2 v0 v1 x2 S2 => ?_⟩
      have hv : v.toNat < ls.length := by omega
      have hl2 := x2 _ _ Ls hl
      have hy2 := x2 _ _ Ds hy
      refine ⟨L, ls, v, v.toNat, ls[v.toNat], rfl, rfl, hl2, by omega, by omega, ?_, List.getElem?_eq_getElem hv, ?_⟩
      · exact seqIndex_of v0 v1
      refine ⟨D, ys, _, rfl, rfl, by rw [upd_ne LD.symm]; exact hy2, small1000 (by omega), ?_⟩
      refine ⟨ls.eraseIdx v.toNat, ys ++ [ls[v.toNat]], _, rfl, by rw [upd_ne LD, upd_same], upd_same, ?_, by rw [List.length_append]; simp [l2], fun y h => m1 y (List.mem_of_mem_eraseIdx h), fun y h => ?_, fun b o hb hh => ?_, (S2.put Ls La).put Ds Da⟩
      · rw [List.length_eraseIdx, if_pos hv]; omega
      · rcases List.mem_append.mp h with q1 | q1
        · exact m2 y q1
        · rw [List.mem_singleton.mp q1]; exact m1 _ (List.getElem_mem hv)
      · rw [upd_ne (ne_of_none hh HD), upd_ne (ne_of_none hh hL)]; exact x2 _ _ hb (hE _ _ hb hh)
    · rintro σ H' ⟨ls, ys, v4, rfl, hl, hy, l1, l2, m1, m2, hE, hS'⟩
      exact ⟨_, rfl, q D ys H' HD hy (by omega) m2 hE (hS'.mono (by omega))⟩
end

end Z
namespace Z
open PySem L2 SX
theorem filt_step {α : Type} {p : α → Bool} {l : List α} {i : Nat} {x : α} (e : l[i]? = some x) : (l.take (i + 1)).filter p = (l.take i).filter p ++ (if p x = true then [x] else []) := by
  rw [List.take_add_one, e, List.filter_append]
  show _ ++ [x].filter p = _
  congr 1
  by_cases h : p x = true
  · rw [if_pos h, List.filter_cons_of_pos h]; rfl
  · rw [if_neg h, List.filter_cons_of_neg h]; rfl
theorem sealF_none {b : Bk} {acc : List Str} {d : Str} (h : stwOf b (tl d) = none) : sealF b acc d = acc := by unfold sealF; rw [h]
theorem sealF_some {b : Bk} {acc : List Str} {d : Str} {s : Sw} (h : stwOf b (tl d) = some s) : sealF b acc d = if s.a ∈ acc then acc else acc ++ [s.a] := by unfold sealF; rw [h]
theorem seals_step {b : Bk} {bs : List Str} {i : Nat} {d : Str} (e : bs[i]? = some d) : sealsL b (bs.take (i + 1)) = sealF b (sealsL b (bs.take i)) d := by
  unfold sealsL
  rw [List.take_add_one, e, List.foldl_append]; rfl
theorem str_eq {x y : Str} (h : decide (V.str x = V.str y) = true) : x = y := by injection of_decide_eq_true h
theorem str_ne {x y : Str} (h : ¬ decide (V.str x = V.str y) = true) : decide (x = y) = false := decide_eq_false fun e => h (decide_eq_true (by rw [e]))
theorem DV_str {K : PySem.W.Frag} {H : Hp} {v : V} {x : Str} (h : DV K H (.str x) v) : v = .str x := by unfold DV at h; exact h
theorem DV_non {K : PySem.W.Frag} {H : Hp} {v : V} (h : DV K H .non v) : v = .non := by unfold DV at h; exact h
section
variable {P : Program} {w : World} {K : PySem.W.Frag} {mg : Str → Option Value} {base : Heap}
theorem ok_site_of (D : Df K mg "site_of" s_site_of ["book", "name"]) (T : Tx mg)   : Cal P w K mg base "site_of" ["book", "name"] 1 (sp_site_of K) := by
  obtain ⟨f, fd, F, gf, bf⟩ := D
  refine ⟨f, fd, F.ok sc_site_of (fun vs H Q E h => ?_) (fun cdv A outer s₀ H vs Q E hr h => ?_), gf, F.kp, bf⟩
  · obtain ⟨b, v, n, rfl, _⟩ := h; rfl
  · obtain ⟨b, v, n, rfl, hb, q⟩ := h
    refine ⟨_, (pss_cons (ps_for PassesOwn.never rfl (pi_tup (pe_ix ix_tup (pv 0) pe_int (fun _ _ => rfl))) (pg_name (i := 2) sc_site_of.nd rfl (Or.inl rfl))
      (pss_one (ps_if (pt_cmpR op_eq (pe_ix ix_tup (pv 2) pe_int (fun _ _ => rfl)) (pv 1) (nomark _))
        (pss_one (ps_ret (pv 2)))
        pss_nil)))
      (pss_one (ps_ret pe_non))), ?_⟩
    obtain ⟨ba, bus, c, ws, rfl, hB, e3, hC, hw⟩ := DV.sub (i := 3) (es := b.si.map siD) hb rfl
    refine ⟨_, rfl, ba, bus, 3, .ref c, rfl, rfl, hB, atI_nat (j := 3) e3, c, rfl, ⟨_, hC⟩, ?_⟩
    refine for_tup (K := K) (a := c) (xs := ws) (fun i σ H' => (∃ v2 : Option V, σ = [some (.ref ba), some (.str n), v2]) ∧ H' = H ∧ (b.si.take i).find? (fun s => decide (s.n = n)) = none) ⟨⟨_, rfl⟩, rfl, rfl⟩ (fun i σ H' _ h => by rw [h.2.1]; exact hC) ?_ ?_
    · rintro i x σ H' hi ⟨⟨v2, rfl⟩, rfl, hN⟩
      obtain ⟨si, hsi, dx⟩ := hw.map_get hi
      obtain ⟨sa, sus, rfl, hS, e1⟩ := DV.leafS (i := 1) (x := si.n) dx rfl
      refine ⟨_, rfl, sa, sus, 1, _, rfl, rfl, hS, atI_nat (j := 1) e1, _, rfl, rfl, _, rfl, ite2 (fun cc => ?_) (fun cc => ?_)⟩
      · have hf : siteOf b n = some si := find_hit hN hsi (decide_eq_true (str_eq cc))
        exact ⟨_, rfl, q _ (by rw [hf]; exact dx)⟩
      · exact ⟨⟨_, rfl⟩, rfl, find_step hN hsi (str_ne cc)⟩
    · rintro σ H' ⟨⟨v2, rfl⟩, rfl, hN⟩
      rw [hw.map_len, List.take_length] at hN
      exact q _ (by rw [show siteOf b n = none from hN]; unfold optD DV; rfl)
end
section
variable {P : Program} {w : World} {K : PySem.W.Frag} {mg : Str → Option Value} {base : Heap}
theorem ok__law_steward (D : Df K mg "_law_steward" s__law_steward ["book", "board"]) (T : Tx mg)  (C__law_lets : Cal P w K mg base "_law_lets" ["pattern", "board"] 2 (sp__law_lets K)) : Cal P w K mg base "_law_steward" ["book", "board"] 3 (sp_steward_of K) := by
  obtain ⟨f__law_lets, fd__law_lets, G__law_lets, g__law_lets, k__law_lets, b__law_lets⟩ := C__law_lets
  obtain ⟨f, fd, F, gf, bf⟩ := D
  refine ⟨f, fd, F.ok sc__law_steward (fun vs H Q E h => ?_) (fun cdv A outer s₀ H vs Q E hr h => ?_), gf, F.kp, bf⟩
  · obtain ⟨b, v, d, rfl, _⟩ := h; rfl
  · obtain ⟨b, v, d, rfl, hb, ok, cl, q⟩ := h
    refine ⟨_, (pss_cons (ps_for PassesOwn.never rfl (pi_tup (pe_ix ix_tup (pv 0) pe_int (fun _ _ => rfl))) (pg_name (i := 2) sc__law_steward.nd rfl (Or.inl rfl))
      (pss_one (ps_if (pt_val (pe_call G__law_lets (hr.mono (by decide)) (by rfl) g__law_lets k__law_lets b__law_lets .nil pass0 (pa_cons (pe_ix ix_tup (pv 2) pe_int (fun _ _ => rfl)) (pa_cons (pv 1) pa_nil))))
        (pss_one (ps_ret (pe_ix ix_tup (pv 2) pe_int (fun _ _ => rfl))))
        pss_nil)))
      (pss_one (ps_ret pe_non))), ?_⟩
    obtain ⟨ba, bus, c, ws, rfl, hB, e3, hC, hw⟩ := DV.sub (i := 6) (es := b.sw.map swD) hb rfl
    refine ⟨_, rfl, ba, bus, 6, .ref c, rfl, rfl, hB, atI_nat (j := 6) e3, c, rfl, ⟨_, hC⟩, ?_⟩
    refine for_tup (K := K) (a := c) (xs := ws) (fun i σ H' => (∃ v2 : Option V, σ = [some (.ref ba), some (.str d), v2]) ∧ Same H H' ∧ (b.sw.take i).find? (fun s => letsL (parts (tl s.p)) (tl d)) = none) ⟨⟨_, rfl⟩, Same.refl _, rfl⟩ (fun i σ H' _ h => h.2.1.tup hC) ?_ ?_
    · rintro i x σ H' hi ⟨⟨v2, rfl⟩, hM, hN⟩
      obtain ⟨si, hsi, dx⟩ := hw.map_get hi
      obtain ⟨sa, sus, rfl, hS, e1⟩ := DV.leafS (i := 1) (x := si.p) dx rfl
      obtain ⟨_, sus', e, hS2, e2⟩ := DV.leafS (i := 2) (x := si.a) dx rfl
      cases e
      refine ⟨_, rfl, sa, sus, 1, _, rfl, rfl, hM.tup hS, atI_nat (j := 1) e1, _, rfl, si.p, d, rfl, ok.wp si (List.mem_of_getElem? hsi), cl, fun H2 m2 => ⟨_, rfl, ite2 (fun cc => ?_) (fun cc => ?_)⟩⟩
      · have hf : stwOf b (tl d) = some si := find_hit hN hsi cc
        exact ⟨_, rfl, sa, sus', 2, _, rfl, rfl, (hM.trans m2).tup hS2, atI_nat (j := 2) e2, q _ _ (hM.trans m2) (by rw [hf]; show DV K _ (.str _) _; unfold DV; rfl)⟩
      · exact ⟨⟨_, rfl⟩, hM.trans m2, find_step hN hsi (by simpa using cc)⟩
    · rintro σ H' ⟨⟨v2, rfl⟩, hM, hN⟩
      rw [hw.map_len, List.take_length] at hN
      exact q _ _ hM (by rw [show stwOf b (tl d) = none from hN]; unfold optD DV; rfl)
end

end Z
namespace Z
open PySem L2 SX
theorem iteGo {c : Bool} {A B : Prop} (h : c = true) (a : A) : if c = true then A else B := by rw [if_pos h]; exact a
theorem iteNo {c : Bool} {A B : Prop} (h : c = false) (b : B) : if c = true then A else B := by rw [if_neg (by rw [h]; exact Bool.false_ne_true)]; exact b
section
variable {P : Program} {w : World} {K : PySem.W.Frag} {mg : Str → Option Value} {base : Heap}
theorem ok_neighbours (D : Df K mg "neighbours" s_neighbours ["book", "name"]) (T : Tx mg)   : Cal P w K mg base "neighbours" ["book", "name"] 1 (sp_neighbours K) := by
  obtain ⟨f, fd, F, gf, bf⟩ := D
  refine ⟨f, fd, F.ok sc_neighbours (fun vs H Q E h => ?_) (fun cdv A outer s₀ H vs Q E hr h => ?_), gf, F.kp, bf⟩
  · obtain ⟨b, v, n, rfl, _⟩ := h; rfl
  · obtain ⟨b, v, n, rfl, hb, ok, q⟩ := h
    refine ⟨_, (pss_cons (ps_setLc (i := 2) (own := [("line", 4)]) (g := gName 4) rfl sc_neighbours.nd rfl rfl (sw_true rfl rfl rfl (by decide +kernel)) (pi_tup (pe_ix ix_tup (pv 0) pe_int (fun _ _ => rfl))) (blkOk_by (own := [("line", 4)]) (N := N_neighbours) (sc := defScope s_neighbours) (by decide +kernel)) (fun _ _ _ _ _ => pg_name (i := 4) sc_neighbours.nd rfl (Or.inl rfl)) (fun _ _ _ _ _ => pts_one (pt_cmpR op_eq (pe_ix (ix_tupQ (K := K) rfl) (pv 4) pe_int (fun _ _ => rfl)) (pv 1) (nomark _))) (fun _ _ _ _ _ => (pe_ix (ix_tupQ (K := K) rfl) (pv 4) pe_int (fun _ _ => rfl))))
      (pss_cons (ps_setLc (i := 3) (own := [("line", 4)]) (g := gName 4) rfl sc_neighbours.nd rfl rfl (sw_true rfl rfl rfl (by decide +kernel)) (pi_tup (pe_ix ix_tup (pv 0) pe_int (fun _ _ => rfl))) (blkOk_by (own := [("line", 4)]) (N := N_neighbours) (sc := defScope s_neighbours) (by decide +kernel)) (fun _ _ _ _ _ => pg_name (i := 4) sc_neighbours.nd rfl (Or.inl rfl)) (fun _ _ _ _ _ => pts_one (pt_cmpR op_eq (pe_ix (ix_tupQ (K := K) rfl) (pv 4) pe_int (fun _ _ => rfl)) (pv 1) (nomark _))) (fun _ _ _ _ _ => (pe_ix (ix_tupQ (K := K) rfl) (pv 4) pe_int (fun _ _ => rfl))))
      (pss_one (ps_ret (pe_callTy call_tuple_of (by rfl) T.n_tuple (by decide +kernel) (pa_cons (pe_callB cr_sortedS (by rfl) T.n_sorted (by decide +kernel) (pa_cons (pe_op L2.op_cat (pv 2) (pv 3)) pa_nil)) pa_nil)))))), ?_⟩
    have small : ∀ n : Nat, n ≤ 30000 → n < sizeLine := fun n h => Nat.lt_of_le_of_lt h (by decide)
    obtain ⟨ba, bus, c, ws, rfl, hB, e4, hC, hw⟩ := DV.sub (i := 4) (es := b.ln.map lnD) hb rfl
    have lnl := ok.ln
    refine ⟨_, rfl, ba, bus, 4, .ref c, rfl, rfl, hB, atI_nat (j := 4) e4, c, rfl, ⟨_, hC⟩, fun D hD => ?_⟩
    refine lc_tup (K := K) (a := c) (xs := ws) (fun i H' => H' D = some (.lst ((((b.ln.take i).filter fun l => decide (l.1 = n)).map (·.2)).map V.str)) ∧ Same H H') ⟨upd_same, same_new hD⟩ (fun i H' _ h => h.2.tup hC) ?_ ?_
    · rintro i x H' hi ⟨h1, h2⟩
      obtain ⟨l, hl, dx⟩ := hw.map_get hi
      obtain ⟨t, rfl, hT⟩ := DV_pair_inv (dx.tk (TK.same h2))
      refine ⟨rfl, _, rfl, t, _, 0, _, rfl, rfl, hT, atI_nat (j := 0) rfl, _, rfl, rfl, _, rfl, ite2 (fun cc => ?_) (fun cc => ?_)⟩
      · have e := filt_step (p := fun l : Str × Str => decide (l.1 = n)) hl
        rw [if_pos (decide_eq_true (str_eq cc))] at e
        refine ⟨_, rfl, t, _, 1, _, rfl, rfl, hT, atI_nat (j := 1) rfl, _, h1, ?_, ?_, ?_⟩
        · rw [List.length_map, List.length_map]
          exact small _ (by have := List.length_filter_le (fun l : Str × Str => decide (l.1 = n)) (b.ln.take i); rw [List.length_take] at this; omega)
        · rw [upd_same, e, List.map_append, List.map_append]; rfl
        · intro bb o hh
          rw [upd_ne (ne_of_none hh hD)]; exact h2 _ _ hh
      · have e := filt_step (p := fun l : Str × Str => decide (l.1 = n)) hl
        rw [if_neg (by rw [str_ne cc]; exact Bool.false_ne_true), List.append_nil] at e
        exact ⟨by rw [h1, e], h2⟩
    rintro H1 ⟨h1, m1⟩
    rw [hw.map_len, List.take_length] at h1
    have hB1 := m1.tup hB
    have hC1 := m1.tup hC
    refine ⟨_, rfl, ba, bus, 4, .ref c, rfl, rfl, hB1, atI_nat (j := 4) e4, c, rfl, ⟨_, hC1⟩, fun G hG => ?_⟩
    refine lc_tup (K := K) (a := c) (xs := ws) (fun i H' => H' G = some (.lst ((((b.ln.take i).filter fun l => decide (l.2 = n)).map (·.1)).map V.str)) ∧ Same H1 H') ⟨upd_same, same_new hG⟩ (fun i H' _ h => h.2.tup hC1) ?_ ?_
    · rintro i x H' hi ⟨h1', h2⟩
      obtain ⟨l, hl, dx⟩ := hw.map_get hi
      obtain ⟨t, rfl, hT⟩ := DV_pair_inv (dx.tk (TK.same (m1.trans h2)))
      refine ⟨rfl, _, rfl, t, _, 1, _, rfl, rfl, hT, atI_nat (j := 1) rfl, _, rfl, rfl, _, rfl, ite2 (fun cc => ?_) (fun cc => ?_)⟩
      · have e := filt_step (p := fun l : Str × Str => decide (l.2 = n)) hl
        rw [if_pos (decide_eq_true (str_eq cc))] at e
        refine ⟨_, rfl, t, _, 0, _, rfl, rfl, hT, atI_nat (j := 0) rfl, _, h1', ?_, ?_, ?_⟩
        · rw [List.length_map, List.length_map]
          exact small _ (by have := List.length_filter_le (fun l : Str × Str => decide (l.2 = n)) (b.ln.take i); rw [List.length_take] at this; omega)
        · rw [upd_same, e, List.map_append, List.map_append]; rfl
        · intro bb o hh
          rw [upd_ne (ne_of_none hh hG)]; exact h2 _ _ hh
      · have e := filt_step (p := fun l : Str × Str => decide (l.2 = n)) hl
        rw [if_neg (by rw [str_ne cc]; exact Bool.false_ne_true), List.append_nil] at e
        exact ⟨by rw [h1', e], h2⟩
    rintro H2 ⟨h2, m2⟩
    rw [hw.map_len, List.take_length] at h2
    have l1 := List.length_filter_le (fun l : Str × Str => decide (l.1 = n)) b.ln
    have l2 := List.length_filter_le (fun l : Str × Str => decide (l.2 = n)) b.ln
    refine ⟨_, rfl, _, rfl, D, G, _, _, rfl, rfl, m2 _ _ h1, h2, ?_, fun M hM => ?_⟩
    · rw [List.length_map, List.length_map, List.length_map, List.length_map]
      exact Nat.le_of_lt (small _ (by omega))
    have en : (((b.ln.filter fun l => decide (l.1 = n)).map (·.2)).map V.str) ++ (((b.ln.filter fun l => decide (l.2 = n)).map (·.1)).map V.str) = (nearL b n).map V.str := by unfold nearL; rw [List.map_append]
    rw [en]
    have n3 := same_new (o := HO.lst ((nearL b n).map V.str)) hM
    refine ⟨M, nearL b n, rfl, SqL.of upd_same, ?_, fun ys p py ps hp => ?_⟩
    · unfold nearL
      rw [List.length_append, List.length_map, List.length_map]; omega
    have n4 := same_new (o := HO.lst (ys.map V.str)) hp
    refine ⟨p, _, rfl, .inl ⟨SqL.of upd_same, fun u hu => ?_⟩⟩
    exact q u ys _ (m1.trans (m2.trans (n3.trans (n4.trans (same_new hu))))) (SqT.of upd_same) py ps
end
section
variable {P : Program} {w : World} {K : PySem.W.Frag} {mg : Str → Option Value} {base : Heap}
theorem ok__law_needed (D : Df K mg "_law_needed" s__law_needed ["book", "boards"]) (T : Tx mg)  (C__law_steward : Cal P w K mg base "_law_steward" ["book", "board"] 3 (sp_steward_of K)) : Cal P w K mg base "_law_needed" ["book", "boards"] 4 (sp_seals K) := by
  obtain ⟨f__law_steward, fd__law_steward, G__law_steward, g__law_steward, k__law_steward, b__law_steward⟩ := C__law_steward
  obtain ⟨f, fd, F, gf, bf⟩ := D
  refine ⟨f, fd, F.ok sc__law_needed (fun vs H Q E h => ?_) (fun cdv A outer s₀ H vs Q E hr h => ?_), gf, F.kp, bf⟩
  · obtain ⟨b, v, a, bs, rfl, _⟩ := h; rfl
  · obtain ⟨b, v, a, bs, rfl, hb, ok, hA, bl, bc, q⟩ := h
    refine ⟨_, (pss_cons (ps_set (i := 2) sc__law_needed.nd rfl (Or.inl rfl) (pe_lst pa_nil))
      (pss_cons (ps_for PassesOwn.never rfl (pi_tup (pv 1)) (pg_name (i := 3) sc__law_needed.nd rfl (Or.inl rfl))
      (pss_cons (ps_set (i := 4) sc__law_needed.nd rfl (Or.inl rfl) (pe_call G__law_steward (hr.mono (by decide)) (by rfl) g__law_steward k__law_steward b__law_steward .nil pass0 (pa_cons (pv 0) (pa_cons (pv 3) pa_nil))))
        (pss_one (ps_if (PW.pt (pw_and (pt_cmpR op_notN (pv 4) pe_non (nomark _)) (pw_and1 (pt_cmpR op_notIn_seq (pv 4) (pv 2) (by rfl)))))
        (pss_one (ps_expr (pe_bm PySem.F.plainAttrs_list PySem.F.slot_list_append PySem.F.type_list_append mt_append (pv 2) (pa_cons (pv 4) pa_nil))))
        pss_nil))))
      (pss_one (ps_ret (pe_callTy call_tuple_of (by rfl) T.n_tuple (by decide +kernel) (pa_cons (pv 2) pa_nil)))))), ?_⟩
    refine ⟨Nat.zero_le _, fun L hL => ?_⟩
    refine ⟨_, rfl, a, rfl, ⟨_, (same_new hL).tup hA⟩, ?_⟩
    refine for_tup (K := K) (a := a) (xs := bs.map V.str) (fun i σ H' => (∃ v3 v4 : Option V, σ = [some v, some (.ref a), some (.ref L), v3, v4]) ∧ H' L = some (.lst ((sealsL b (bs.take i)).map V.str)) ∧ (sealsL b (bs.take i)).length ≤ i ∧ Same H H') ⟨⟨_, _, rfl⟩, upd_same, Nat.le_refl _, same_new hL⟩ (fun i σ H' _ h => h.2.2.2.tup hA) ?_ ?_
    · rintro i x σ H' hi ⟨⟨v3, v4, rfl⟩, h1, hl, hM⟩
      rw [List.getElem?_map] at hi
      obtain ⟨d, hd, rfl⟩ := Option.map_eq_some_iff.mp hi
      have ib := (List.getElem?_eq_some_iff.mp hd).1
      have es := seals_step (b := b) hd
      refine ⟨_, rfl, _, rfl, b, v, d, rfl, DV.tk (TK.same hM) hb, ok, bc d (List.mem_of_getElem? hd), fun u H2 m2 du => ?_⟩
      have h2 := m2 _ _ h1
      cases hs : stwOf b (tl d) with
      | none =>
        rw [hs] at du
        obtain rfl := DV_non du
        rw [sealF_none hs] at es
        refine ⟨_, rfl, rfl, _, rfl, ?_⟩
        refine iteNo (by simp) ?_
        exact iteF ⟨⟨_, _, rfl⟩, by rw [es]; exact h2, by rw [es]; omega, hM.trans m2⟩
      | some s =>
        rw [hs] at du
        obtain rfl := DV_str du
        rw [sealF_some hs] at es
        refine ⟨_, rfl, rfl, _, rfl, ?_⟩
        refine iteGo (by simp) ?_
        have ein := inV_strs s.a (sealsL b (bs.take i))
        refine ⟨_, rfl, _, rfl, L, _, rfl, .inl (SqL.of h2), rfl, flat_strs _, _, rfl, ite2 (fun cc => ?_) (fun cc => ?_)⟩
        · have cc' : (!inV (V.str s.a) ((sealsL b (bs.take i)).map V.str)) = true := cc
          rw [ein] at cc'
          have nm : s.a ∉ sealsL b (bs.take i) := by simpa using cc'
          rw [if_neg nm] at es
          refine ⟨_, rfl, .inl ⟨rfl, _, SqL.of h2⟩, _, rfl, L, _, _, rfl, rfl, h2, ?_, ⟨_, _, rfl⟩, ?_, ?_, fun bb o hh => ?_⟩
          · rw [List.length_map]; exact small1000 (by omega)
          · rw [upd_same, es, List.map_append]; rfl
          · rw [es, List.length_append]; show _ + 1 ≤ _; omega
          · rw [upd_ne (ne_of_none hh hL)]; exact (hM.trans m2) _ _ hh
        · have cc' : ¬ (!inV (V.str s.a) ((sealsL b (bs.take i)).map V.str)) = true := cc
          rw [ein] at cc'
          have nm : s.a ∈ sealsL b (bs.take i) := by simpa using cc'
          rw [if_pos nm] at es
          exact ⟨⟨_, _, rfl⟩, by rw [es]; exact h2, by rw [es]; omega, hM.trans m2⟩
    · rintro σ H' ⟨⟨v3, v4, rfl⟩, h1, hl, hM⟩
      rw [List.length_map, List.take_length] at h1
      refine ⟨_, rfl, L, _, rfl, .inl ⟨SqL.of h1, fun t ht => ?_⟩⟩
      exact q t _ (hM.trans (same_new ht)) (SqT.of upd_same)
end

end Z
namespace Z
open PySem L2 SX
abbrev LP := Addr × (Str × Str)
def LPok (us : List Str) (s : Addr) (H : Hp) (p : LP) : Prop := p.1 ≠ s ∧ H p.1 = some (.tup [.str p.2.1, .str p.2.2]) ∧ p.2.1 ∈ us ∧ p.2.2 ∈ us
theorem LPok.ext {us : List Str} {s : Addr} {H H' : Hp} {p : LP} (x : Ext s H H') (h : LPok us s H p) : LPok us s H' p := ⟨h.1, x _ _ h.1 h.2.1, h.2.2⟩
theorem LPok.upd {us : List Str} {s : Addr} {H : Hp} {p : LP} {L : Addr} {o : HO} (e : L ≠ p.1) (h : LPok us s H p) : LPok us s (upd H L o) p := ⟨h.1, by rw [upd_ne e.symm]; exact h.2.1, h.2.2⟩
def lpD (p : LP) : PyData := .tuple [.str p.2.1, .str p.2.2]
theorem lp_dp {K : PySem.W.Frag} {us : List Str} {s : Addr} {H : Hp} : ∀ {ps : List LP}, (∀ p ∈ ps, LPok us s H p) → DpAll K H (ps.map fun p => V.ref p.1) (ps.map lpD)
  | [], _ => .nil
  | p :: ps, h => .cons (.tup (SqT.of (h p (by simp)).2.1) (.cons (.str _) (.cons (.str _) .nil))) (lp_dp fun q hq => h q (List.mem_cons_of_mem _ hq))
theorem lp_lay {us : List Str} (uA : ∀ x ∈ us, Low (tl x)) {s : Addr} {H : Hp} : ∀ {ps : List LP}, (∀ p ∈ ps, LPok us s H p) → PyData.canLayAll0 (ps.map lpD) = true ∧ PyData.depthAll (ps.map lpD) ≤ 2
  | [], _ => ⟨by simp [PyData.canLayAll0], by simp [PyData.depthAll]⟩
  | p :: ps, h => by
    obtain ⟨h1, h2⟩ := lp_lay uA (ps := ps) fun q hq => h q (List.mem_cons_of_mem _ hq)
    obtain ⟨_, _, l1, l2⟩ := h p (by simp)
    have h3 := pair_shaped (uA _ l1) (uA _ l2)
    have h4 := SeqAt.canLay_of_shaped h3
    have h5 : (lpD p).depth ≤ 2 := by simp [lpD, PyData.depth, PyData.depthAll]
    constructor
    · rw [List.map_cons]
      simp only [PyData.canLayAll0, h1, Bool.and_true]
      exact h4
    · rw [List.map_cons]
      simp only [PyData.depthAll]
      omega
theorem lp_shaped {us : List Str} (uA : ∀ x ∈ us, Low (tl x)) {s : Addr} {H : Hp} {ps : List LP} (h : ∀ p ∈ ps, LPok us s H p) : SeqAt.shaped (.list (ps.map lpD)) = true := by
  obtain ⟨h1, h2⟩ := lp_lay uA h
  have h3 : PyData.depth (.list (ps.map lpD)) ≤ 64 := by simp only [PyData.depth]; omega
  show (PyData.canLay0 (.list (ps.map lpD)) && decide (PyData.depth (.list (ps.map lpD)) ≤ 64)) = true
  rw [Bool.and_eq_true]
  exact ⟨by simp only [PyData.canLay0]; exact h1, decide_eq_true h3⟩
theorem lp_out {K : PySem.W.Frag} {us : List Str} {s : Addr} {H : Hp} {ps : List LP} (h : ∀ p ∈ ps, LPok us s H p) : ∀ {ys : List Addr}, (∀ y ∈ ys, ∃ p ∈ ps, p.1 = y) → ∃ ls : List (Str × Str), DVs K H (ls.map lnD) (ys.map V.ref) ∧ ls.length = ys.length ∧ ∀ l ∈ ls, l.1 ∈ us ∧ l.2 ∈ us
  | [], _ => ⟨[], by unfold List.map DVs; rfl, rfl, fun _ h => by cases h⟩
  | y :: ys, k => by
    obtain ⟨ls, d, e, w⟩ := lp_out h (ys := ys) fun z hz => k z (List.mem_cons_of_mem _ hz)
    obtain ⟨p, hp, rfl⟩ := k y (by simp)
    obtain ⟨_, hh, l1, l2⟩ := h p hp
    refine ⟨p.2 :: ls, ⟨_, _, rfl, DV_pair (SqT.of hh), d⟩, by rw [List.length_cons, List.length_cons, e], fun l hl => ?_⟩
    rcases List.mem_cons.mp hl with e | e
    · rw [e]; exact ⟨l1, l2⟩
    · exact w l e
section
variable {P : Program} {w : World} {K : PySem.W.Frag} {mg : Str → Option Value} {base : Heap}
theorem ok__law_lines (D : Df K mg "_law_lines" s__law_lines ["source", "names"]) (T : Tx mg)  (C__law_draw : Cal P w K mg base "_law_draw" ["source", "many"] 2 sp__law_draw) (C__law_pick : Cal P w K mg base "_law_pick" ["source", "row"] 3 (sp3__law_pick K)) : Cal P w K mg base "_law_lines" ["source", "names"] 4 (sp53_lines K) := by
  obtain ⟨f__law_draw, fd__law_draw, G__law_draw, g__law_draw, k__law_draw, b__law_draw⟩ := C__law_draw
  obtain ⟨f__law_pick, fd__law_pick, G__law_pick, g__law_pick, k__law_pick, b__law_pick⟩ := C__law_pick
  obtain ⟨f, fd, F, gf, bf⟩ := D
  refine ⟨f, fd, F.ok sc__law_lines (fun vs H Q E h => ?_) (fun cdv A outer s₀ H vs Q E hr h => ?_), gf, F.kp, bf⟩
  · obtain ⟨s, a, u, us, c, rfl, _⟩ := h; rfl
  · obtain ⟨s, a, u, us, c, rfl, hU, hus, u1, u9, uA, hS, q⟩ := h
    refine ⟨_, (pss_cons (ps_set (i := 2) sc__law_lines.nd rfl (Or.inl rfl) (pe_lst pa_nil))
      (pss_cons (ps_for PassesOwn.never rfl (pi_range2 (by rfl) T.n_range (pa_cons pe_int (pa_cons (pe_callB call_len_seq (by rfl) T.n_len PySem.boot_len (pa_cons (pv 1) pa_nil)) pa_nil))) (pg_name (i := 3) sc__law_lines.nd rfl (Or.inl rfl))
      (pss_cons (ps_set (i := 4) sc__law_lines.nd rfl (Or.inl rfl) (pe_ix ix_list (pv 1) (pe_call G__law_draw (hr.mono (by decide)) (by rfl) g__law_draw k__law_draw b__law_draw .nil pass0 (pa_cons (pv 0) (pa_cons (pv 3) pa_nil))) (fun _ _ => rfl)))
        (pss_one (ps_expr (pe_bm PySem.F.plainAttrs_list PySem.F.slot_list_append PySem.F.type_list_append mt_append (pv 2) (pa_cons (pe_tup (pa_cons (pe_callB (call_minS rfl) (by rfl) T.n_min (by decide +kernel) (pa_cons (pv 4) (pa_cons (pe_ix ix_list (pv 1) (pv 3) (fun _ _ => rfl)) pa_nil))) (pa_cons (pe_callB (call_maxS rfl) (by rfl) T.n_max (by decide +kernel) (pa_cons (pv 4) (pa_cons (pe_ix ix_list (pv 1) (pv 3) (fun _ _ => rfl)) pa_nil))) pa_nil))) pa_nil))))))
      (pss_cons (ps_for PassesOwn.never rfl (pi_range1 (by rfl) T.n_range (pa_cons (pe_call G__law_draw (hr.mono (by decide)) (by rfl) g__law_draw k__law_draw b__law_draw .nil pass0 (pa_cons (pv 0) (pa_cons (pe_callB call_len_seq (by rfl) T.n_len PySem.boot_len (pa_cons (pv 1) pa_nil)) pa_nil))) pa_nil)) (pg_name (i := 3) sc__law_lines.nd rfl (Or.inl rfl))
      (pss_cons (ps_set (i := 4) sc__law_lines.nd rfl (Or.inl rfl) (pe_call G__law_pick (hr.mono (by decide)) (by rfl) g__law_pick k__law_pick b__law_pick .nil pass0 (pa_cons (pv 0) (pa_cons (pv 1) pa_nil))))
        (pss_cons (ps_set (i := 5) sc__law_lines.nd rfl (Or.inl rfl) (pe_call G__law_pick (hr.mono (by decide)) (by rfl) g__law_pick k__law_pick b__law_pick .nil pass0 (pa_cons (pv 0) (pa_cons (pv 1) pa_nil))))
        (pss_one (ps_if (PW.pt (pw_and (pt_cmpR op_ne (pv 4) (pv 5) (nomark _)) (pw_and1 (pt_cmpR (op_notInD (room65 hr)) (pe_tup (pa_cons (pe_callB (call_minS rfl) (by rfl) T.n_min (by decide +kernel) (pa_cons (pv 4) (pa_cons (pv 5) pa_nil))) (pa_cons (pe_callB (call_maxS rfl) (by rfl) T.n_max (by decide +kernel) (pa_cons (pv 4) (pa_cons (pv 5) pa_nil))) pa_nil))) (pv 2) (by rfl)))))
        (pss_one (ps_expr (pe_bm PySem.F.plainAttrs_list PySem.F.slot_list_append PySem.F.type_list_append mt_append (pv 2) (pa_cons (pe_tup (pa_cons (pe_callB (call_minS rfl) (by rfl) T.n_min (by decide +kernel) (pa_cons (pv 4) (pa_cons (pv 5) pa_nil))) (pa_cons (pe_callB (call_maxS rfl) (by rfl) T.n_max (by decide +kernel) (pa_cons (pv 4) (pa_cons (pv 5) pa_nil))) pa_nil))) pa_nil))))
        pss_nil)))))
      (pss_one (ps_ret (pe_callB (cr_sortedX (shape := fun _ => true)) (by rfl) T.n_sorted (by decide +kernel) (pa_cons (pv 2) pa_nil))))))), ?_⟩
    refine ⟨Nat.zero_le _, fun L hL => ?_⟩
    have Ls := hS.ne hL
    have La := hS.nea hL
    have keep : ∀ {H1 : Hp} (o : HO), Ext s H H1 → Ext s H (upd H1 L o) := fun o x b w hb hh => by
      rw [upd_ne (ne_of_none hh hL)]; exact x _ _ hb hh
    -- a pair is put at the end
    have put : ∀ (ps : List LP) (H1 : Hp) (x y : Str) (t : Addr) (c' : Nat), x ∈ us → y ∈ us → H1 L = some (.lst (ps.map fun p => V.ref p.1)) → (∀ p ∈ ps, LPok us s H1 p) → Ext s H H1 → Src H1 s a c' → H1 t = none →
        (upd H1 t (HO.tup [V.str x, V.str y])) L = some (.lst (ps.map fun p => V.ref p.1)) ∧
        (upd (upd H1 t (HO.tup [V.str x, V.str y])) L (HO.lst ((ps.map fun p => V.ref p.1) ++ [V.ref t]))) L = some (.lst ((ps ++ [(t, (x, y))]).map fun p => V.ref p.1)) ∧
        (∀ p ∈ ps ++ [(t, (x, y))], LPok us s (upd (upd H1 t (HO.tup [V.str x, V.str y])) L (HO.lst ((ps.map fun p => V.ref p.1) ++ [V.ref t]))) p) ∧
        Ext s H (upd (upd H1 t (HO.tup [V.str x, V.str y])) L (HO.lst ((ps.map fun p => V.ref p.1) ++ [V.ref t]))) ∧ Src (upd (upd H1 t (HO.tup [V.str x, V.str y])) L (HO.lst ((ps.map fun p => V.ref p.1) ++ [V.ref t]))) s a c' := fun ps H1 x y t c' hx hy h1 hp hE hS' ht => by
      have n1 := same_new (o := HO.tup [V.str x, V.str y]) ht
      have tL : L ≠ t := ne_of_none h1 ht
      have ts := hS'.ne ht
      refine ⟨n1 _ _ h1, by rw [upd_same, List.map_append]; rfl, fun p hp' => ?_, keep _ (hE.trans (Ext.of n1)), (hS'.ext n1).put Ls La⟩
      rcases List.mem_append.mp hp' with e | e
      · have := hp p e
        refine LPok.upd (fun e2 => ?_) ((LPok.ext (Ext.of n1) this))
        have h2 := this.2.1
        rw [← e2, h1] at h2
        cases h2
      · rw [List.mem_singleton.mp e]
        exact LPok.upd tL ⟨ts, upd_same, hx, hy⟩
    refine ⟨_, rfl, u, _, rfl, .inl ((same_new hL).seq hU), 1, _, rfl, ⟨by decide, by decide, by rw [List.length_map]; omega, by rw [List.length_map]; omega⟩, ?_⟩
    refine for_range (lo := 1) (n := (((us.map V.str).length : Int) - 1).toNat) (fun i σ H' => ∃ (ps : List LP) (v3 v4 : Option V), σ = [some (.ref s), some (.ref u), some (.ref L), v3, v4, none] ∧ H' L = some (.lst (ps.map fun p => V.ref p.1)) ∧ (∀ p ∈ ps, LPok us s H' p) ∧ ps.length ≤ i ∧ Ext s H H' ∧ Src H' s a (c + (100 - i))) ?_ ?_ ?_
    · exact ⟨[], _, _, rfl, upd_same, (fun _ h => by cases h), Nat.le_refl _, Ext.new hL, hS.new hL⟩
    · rintro i σ H' hi ⟨ps, v3, v4, rfl, h1, hp, hl, hE, hS'⟩
      rw [List.length_map] at hi
      refine ⟨_, rfl, _, rfl, _, rfl, s, a, _, c + (100 - (i + 1)), rfl, by omega, by omega, hS'.mono (by omega), fun v H2 v0 v1 x2 S2 => ?_⟩
      obtain ⟨x, xm, ex⟩ := strs_at us v0 (by omega)
      obtain ⟨y, ym, ey⟩ := strs_at us (v := 1 + (i : Int)) (by omega) (by omega)
      have xx := hE.trans x2
      refine ⟨u, _, _, _, rfl, rfl, xx.seqL hus hU, ex, ?_⟩
      have h2 := x2 _ _ Ls h1
      have hp2 : ∀ p ∈ ps, LPok us s H2 p := fun p m => (hp p m).ext x2
      refine ⟨_, rfl, .inl ⟨rfl, _, SqL.of h2⟩, ?_⟩
      refine ⟨_, rfl, _, rfl, _, rfl, u, _, _, _, rfl, rfl, xx.seqL hus hU, ey, x, y, rfl, ?_, ?_⟩ <;> refine ⟨_, rfl, _, rfl, _, rfl, u, _, _, _, rfl, rfl, xx.seqL hus hU, ey, x, y, rfl, ?_, ?_⟩ <;> refine ⟨by show 2 ≤ sizeLine; decide, fun t ht => ?_⟩ <;>
        exact ⟨L, _, _, rfl, rfl, (put ps H2 _ _ t _ (by first | exact xm | exact ym) (by first | exact xm | exact ym) h2 hp2 xx S2 ht).1, by rw [List.length_map]; exact small1000 (by omega), _, _, _, rfl, (put ps H2 _ _ t _ (by first | exact xm | exact ym) (by first | exact xm | exact ym) h2 hp2 xx S2 ht).2.1, (put ps H2 _ _ t _ (by first | exact xm | exact ym) (by first | exact xm | exact ym) h2 hp2 xx S2 ht).2.2.1, by rw [List.length_append]; show _ + 1 ≤ _; omega, (put ps H2 _ _ t _ (by first | exact xm | exact ym) (by first | exact xm | exact ym) h2 hp2 xx S2 ht).2.2.2.1, (put ps H2 _ _ t _ (by first | exact xm | exact ym) (by first | exact xm | exact ym) h2 hp2 xx S2 ht).2.2.2.2⟩
    · rintro σ H1 ⟨ps, v3, v4, rfl, h1, hp, hl, hE, hS'⟩
      rw [List.length_map] at hl
      refine ⟨_, rfl, _, rfl, u, _, rfl, .inl (hE.seqL hus hU), s, a, _, c + 90, rfl, by rw [List.length_map]; omega, by rw [List.length_map]; omega, hS'.mono (by rw [List.length_map]; omega), fun v H2 v0 v1 x2 S2 => ?_⟩
      rw [List.length_map] at v1
      refine ⟨_, rfl, by omega, by omega, ?_⟩
      refine for_range (lo := 0) (n := v.toNat) (fun i σ H' => ∃ (ps : List LP) (v3 v4 v5 : Option V), σ = [some (.ref s), some (.ref u), some (.ref L), v3, v4, v5] ∧ H' L = some (.lst (ps.map fun p => V.ref p.1)) ∧ (∀ p ∈ ps, LPok us s H' p) ∧ ps.length ≤ i + 8 ∧ Ext s H H' ∧ Src H' s a (c + (90 - 2 * i))) ?_ ?_ ?_
      · exact ⟨ps, _, _, _, rfl, x2 _ _ Ls h1, fun p m => (hp p m).ext x2, by omega, hE.trans x2, S2⟩
      · rintro i σ H3 hi ⟨ps, v3, v4, v5, rfl, h3, hp3, hl3, hE3, hS3⟩
        have ne : us.map V.str ≠ [] := fun e => by have := List.map_eq_nil_iff.mp e; rw [this] at u1; simp at u1
        refine ⟨_, rfl, _, rfl, .inl ⟨s, a, u, us.map V.str, c + (90 - 2 * (i + 1)) + 1, rfl, hE3.seqL hus hU, hus, ne, by rw [List.length_map]; omega, hS3.mono (by omega), fun w H4 wm x4 S4 => ?_⟩⟩
        obtain ⟨x, xm, rfl⟩ := List.mem_map.mp wm
        refine ⟨_, rfl, _, rfl, .inl ⟨s, a, u, us.map V.str, c + (90 - 2 * (i + 1)), rfl, (hE3.trans x4).seqL hus hU, hus, ne, by rw [List.length_map]; omega, S4, fun w H5 wm x5' S5' => ?_⟩⟩
        obtain ⟨y, ym, rfl⟩ := List.mem_map.mp wm
        have h5' := x5' _ _ Ls (x4 _ _ Ls h3)
        have hp5' : ∀ p ∈ ps, LPok us s H5 p := fun p m => ((hp3 p m).ext x4).ext x5'
        have e5' := (hE3.trans x4).trans x5'
        refine ⟨_, rfl, _, rfl, rfl, _, rfl, ite2 (fun _ => ?_) (fun _ => iteF ⟨ps, _, _, _, rfl, h5', hp5', by omega, e5', S5'⟩)⟩
        refine ⟨_, rfl, _, rfl, x, y, rfl, ?_, ?_⟩ <;> refine ⟨_, rfl, _, rfl, x, y, rfl, ?_, ?_⟩ <;> refine ⟨by show 2 ≤ sizeLine; decide, fun t1 ht1 => ?_⟩ <;>
          refine ⟨_, rfl, _, ps.map lpD, .tup (SqT.of upd_same) (.cons (.str _) (.cons (.str _) .nil)), .lst (SqL.of ((same_new ht1) _ _ h5')) (lp_dp fun p m => (hp5' p m).ext (Ext.of (same_new ht1))), pair_shaped (uA _ (by first | exact xm | exact ym)) (uA _ (by first | exact xm | exact ym)), lp_shaped uA hp5', _, rfl, ite2 (fun _ => ?_) (fun _ => ⟨ps, _, _, _, rfl, (same_new ht1) _ _ h5', fun p m => (hp5' p m).ext (Ext.of (same_new ht1)), by omega, e5'.trans (Ext.of (same_new ht1)), S5'.ext (same_new ht1)⟩)⟩ <;>
          (generalize hG : upd H5 t1 _ = H6
           have n6 : Same H5 H6 := by rw [← hG]; exact same_new ht1
           have h5 := n6 _ _ h5'
           have hp5 : ∀ p ∈ ps, LPok us s H6 p := fun p m => (hp5' p m).ext (Ext.of n6)
           have x5 := e5'.trans (Ext.of (s := s) n6)
           have S5 := S5'.ext n6
           refine ⟨_, rfl, .inl ⟨rfl, _, SqL.of h5⟩, ?_⟩
           refine ⟨_, rfl, _, rfl, x, y, rfl, ?_, ?_⟩ <;> refine ⟨_, rfl, _, rfl, x, y, rfl, ?_, ?_⟩ <;> refine ⟨by show 2 ≤ sizeLine; decide, fun t ht => ?_⟩ <;>
             exact ⟨L, _, _, rfl, rfl, (put ps H6 _ _ t _ (by first | exact xm | exact ym) (by first | exact xm | exact ym) h5 hp5 x5 S5 ht).1, by rw [List.length_map]; exact small1000 (by omega), _, _, _, _, rfl, (put ps H6 _ _ t _ (by first | exact xm | exact ym) (by first | exact xm | exact ym) h5 hp5 x5 S5 ht).2.1, (put ps H6 _ _ t _ (by first | exact xm | exact ym) (by first | exact xm | exact ym) h5 hp5 x5 S5 ht).2.2.1, by rw [List.length_append]; show _ + 1 ≤ _; omega, (put ps H6 _ _ t _ (by first | exact xm | exact ym) (by first | exact xm | exact ym) h5 hp5 x5 S5 ht).2.2.2.1, (put ps H6 _ _ t _ (by first | exact xm | exact ym) (by first | exact xm | exact ym) h5 hp5 x5 S5 ht).2.2.2.2⟩)
      · rintro σ H3 ⟨ps, v3, v4, v5, rfl, h3, hp3, hl3, hE3, hS3⟩
        have em : (ps.map fun p => V.ref p.1) = (ps.map (·.1)).map V.ref := by rw [List.map_map]; rfl
        rw [em] at h3
        refine ⟨_, rfl, L, ps.map (·.1), rfl, SqL.of h3, fun t ht => ?_, fun ys p py hp => ?_⟩
        · obtain ⟨p, hp, rfl⟩ := List.mem_map.mp ht
          exact ⟨_, (hp3 p hp).2.1, ⟨rfl, rfl, True.intro⟩, by simp⟩
        · have n := same_new (o := HO.lst (ys.map V.ref)) hp
          obtain ⟨ls, d, e, w⟩ := lp_out (K := K) (fun p m => (hp3 p m).ext (Ext.of n)) (ys := ys) fun y hy => by
            obtain ⟨p, hp, e⟩ := List.mem_map.mp (py.mem_iff.mp hy)
            exact ⟨p, hp, e⟩
          have le := py.length_eq
          rw [List.length_map] at le
          exact q p _ ls _ (ext_free hE3 hS3 hp) upd_same d (by omega) w (hE3.trans (Ext.of n)) ((hS3.ext n).mono (by omega))
end

end Z
namespace Z
open PySem L2 SX
theorem dls {K : PySem.W.Frag} {H : Hp} (x : Str) : DV K H (.str x) (.str x) := by unfold DV; rfl
theorem dli {K : PySem.W.Frag} {H : Hp} (x : Int) : DV K H (.int x) (.int x) := by unfold DV; rfl
theorem dln {K : PySem.W.Frag} {H : Hp} : DVs K H [] [] := by unfold DVs; rfl
theorem dlc {K : PySem.W.Frag} {H : Hp} {d : D} {ds : List D} {v : V} {vs : List V} (h : DV K H d v) (t : DVs K H ds vs) : DVs K H (d :: ds) (v :: vs) := ⟨v, vs, rfl, h, t⟩
theorem tk_put {K : PySem.W.Frag} {H : Hp} {M : Addr} {ys : List V} {o : HO} (h : H M = some (.lst ys)) : TK K H (upd H M o) := fun a xs q => Ext.seqT (s := M) (fun b o hb hh => by rw [upd_ne hb]; exact hh) h q
theorem tk_new {K : PySem.W.Frag} {H : Hp} {M : Addr} {o : HO} (h : H M = none) : TK K H (upd H M o) := TK.same (same_new h)
section
variable {P : Program} {w : World} {K : PySem.W.Frag} {mg : Str → Option Value} {base : Heap}
theorem ok__law_feeds (D : Df K mg "_law_feeds" s__law_feeds ["source", "lines", "words", "wide"]) (T : Tx mg)  (C__law_draw : Cal P w K mg base "_law_draw" ["source", "many"] 2 sp__law_draw) (C__law_pattern : Cal P w K mg base "_law_pattern" ["source", "words"] 6 (sp2__law_pattern K)) (C__law_shuffled : Cal P w K mg base "_law_shuffled" ["source", "row"] 3 (sp__law_shuffled K)) : Cal P w K mg base "_law_feeds" ["source", "lines", "words", "wide"] 7 (sp_feeds K) := by
  obtain ⟨f__law_draw, fd__law_draw, G__law_draw, g__law_draw, k__law_draw, b__law_draw⟩ := C__law_draw
  obtain ⟨f__law_pattern, fd__law_pattern, G__law_pattern, g__law_pattern, k__law_pattern, b__law_pattern⟩ := C__law_pattern
  obtain ⟨f__law_shuffled, fd__law_shuffled, G__law_shuffled, g__law_shuffled, k__law_shuffled, b__law_shuffled⟩ := C__law_shuffled
  obtain ⟨f, fd, F, gf, bf⟩ := D
  refine ⟨f, fd, F.ok sc__law_feeds (fun vs H Q E h => ?_) (fun cdv A outer s₀ H vs Q E hr h => ?_), gf, F.kp, bf⟩
  · obtain ⟨s, a, L, w, ws, ls, us, k, c, rfl, _⟩ := h; rfl
  · obtain ⟨s, a, L, w, ws, ls, us, k, c, rfl, hL, Ls, hw, ll, lA, hW, wns, hWds, k0, k1, hS, q⟩ := h
    refine ⟨_, (pss_cons (ps_set (i := 4) sc__law_feeds.nd rfl (Or.inl rfl) (pe_lst pa_nil))
      (pss_cons (ps_for PassesOwn.never rfl (pi_list (pv 1)) (pg_name (i := 5) sc__law_feeds.nd rfl (Or.inl rfl))
      (pss_one (ps_for PassesOwn.never rfl (pi_range1 (by rfl) T.n_range (pa_cons pe_int pa_nil)) (pg_name (i := 6) sc__law_feeds.nd rfl (Or.inl rfl))
        (pss_cons (ps_set (i := 7) sc__law_feeds.nd rfl (Or.inl rfl) (pe_ix ix_tup (pv 5) (pv 6) (fun _ _ => rfl)))
          (pss_cons (ps_set (i := 8) sc__law_feeds.nd rfl (Or.inl rfl) (pe_ix ix_tup (pv 5) (pe_op op_sub pe_int (pv 6)) (fun _ _ => rfl)))
          (pss_one (ps_if (pt_cmpR op_ne (pe_call G__law_draw (hr.mono (by decide)) (by rfl) g__law_draw k__law_draw b__law_draw .nil pass0 (pa_cons (pv 0) (pa_cons pe_int pa_nil))) pe_int (nomark _))
          (pss_cons (ps_set (i := 9) sc__law_feeds.nd rfl (Or.inl rfl) pe_str)
            (C8.pss_cut (ps_if (pt_cmpR op_eq (pe_call G__law_draw (hr.mono (by decide)) (by rfl) g__law_draw k__law_draw b__law_draw .nil pass0 (pa_cons (pv 0) (pa_cons (pv 3) pa_nil))) pe_int (nomark _))
            (pss_one (ps_set (i := 9) sc__law_feeds.nd rfl (Or.inl rfl) (pe_call G__law_pattern (hr.mono (by decide)) (by rfl) g__law_pattern k__law_pattern b__law_pattern .nil pass0 (pa_cons (pv 0) (pa_cons (pv 2) pa_nil)))))
            pss_nil)
            (pss_cons (ps_set (i := 10) sc__law_feeds.nd rfl (Or.inl rfl) (pe_op op_add pe_int (pe_call G__law_draw (hr.mono (by decide)) (by rfl) g__law_draw k__law_draw b__law_draw .nil pass0 (pa_cons (pv 0) (pa_cons pe_int pa_nil)))))
            (pss_cons (ps_set (i := 11) sc__law_feeds.nd rfl (Or.inl rfl) (pe_op op_add pe_int (pe_call G__law_draw (hr.mono (by decide)) (by rfl) g__law_draw k__law_draw b__law_draw .nil pass0 (pa_cons (pv 0) (pa_cons pe_int pa_nil)))))
            (pss_one (ps_expr (pe_bm PySem.F.plainAttrs_list PySem.F.slot_list_append PySem.F.type_list_append mt_append (pv 4) (pa_cons (pe_tup (pa_cons pe_str (pa_cons (pv 7) (pa_cons (pv 8) (pa_cons (pv 9) (pa_cons (pv 10) (pa_cons (pv 11) pa_nil))))))) pa_nil))))))))
          pss_nil)))))))
      (pss_one (ps_ret (pe_callTy call_tuple_of (by rfl) T.n_tuple (by decide +kernel) (pa_cons (pe_call G__law_shuffled (hr.mono (by decide)) (by rfl) g__law_shuffled k__law_shuffled b__law_shuffled .nil pass0 (pa_cons (pv 0) (pa_cons (pv 4) pa_nil))) pa_nil)))))), ?_⟩
    refine ⟨Nat.zero_le _, fun M hM => ?_⟩
    have Ms := hS.ne hM
    have Ma := hS.nea hM
    have keep : ∀ {H1 : Hp} (o : HO), Ext s H H1 → Ext s H (upd H1 M o) := fun o x b w hb hh => by
      rw [upd_ne (ne_of_none hh hM)]; exact x _ _ hb hh
    refine ⟨_, rfl, L, rfl, ⟨_, (same_new hM).seq hL⟩, ?_⟩
    refine for_list (K := K) (a := L) (xs := ws) (fun i σ H' => ∃ (fs : List Fd) (vs' : List V) (v5 v6 v7 v8 v9 v10 v11 : Option V), σ = [some (.ref s), some (.ref L), some (.ref w), some (.int k), some (.ref M), v5, v6, v7, v8, v9, v10, v11] ∧ H' M = some (.lst vs') ∧ DVs K H' (fs.map fdD) vs' ∧ fs.length ≤ 2 * i ∧ (∀ f ∈ fs, Low (tl f.g) ∧ Low (tl f.t)) ∧ Ext s H H' ∧ Src H' s a (c + (20000 - 600 * i))) ?_ (fun i σ H' _ h => by obtain ⟨_, _, _, _, _, _, _, _, _, _, _, _, _, _, hE, _⟩ := h; exact hE.seqL Ls hL) ?_ ?_
    · exact ⟨[], [], _, _, _, _, _, _, _, rfl, upd_same, dln, Nat.le_refl _, (fun _ h => by cases h), Ext.new hM, (hS.new hM).mono (by omega)⟩
    · rintro i x σ H1 hi ⟨fs, vs', v5, v6, v7, v8, v9, v10, v11, rfl, h1, hd, hl, hA, hE, hS'⟩
      obtain ⟨l, hll, dx⟩ := hw.map_get hi
      obtain ⟨t, rfl, hT⟩ := DV_pair_inv dx
      have lb := lA l (List.mem_of_getElem? hll)
      have il := (List.getElem?_eq_some_iff.mp hll).1
      refine ⟨2, rfl, by decide, by decide, ?_⟩
      refine for_range (lo := 0) (n := 2) (fun j σ H' => ∃ (fs : List Fd) (vs' : List V) (v6 v7 v8 v9 v10 v11 : Option V), σ = [some (.ref s), some (.ref L), some (.ref w), some (.int k), some (.ref M), some (.ref t), v6, v7, v8, v9, v10, v11] ∧ H' M = some (.lst vs') ∧ DVs K H' (fs.map fdD) vs' ∧ fs.length ≤ 2 * i + j ∧ (∀ f ∈ fs, Low (tl f.g) ∧ Low (tl f.t)) ∧ Ext s H H' ∧ Src H' s a (c + (20000 - 600 * i - 300 * j))) ?_ ?_ ?_
      · exact ⟨fs, vs', _, _, _, _, _, _, rfl, h1, hd, by omega, hA, hE, hS'⟩
      · rintro j σ H2 hj ⟨fs, vs', v6, v7, v8, v9, v10, v11, rfl, h2, hd, hl, hA, hE, hS2⟩
        have hT2 := TK.ext hE hS _ _ hT
        obtain ⟨g, hg, lg, h, hh, lh⟩ : ∃ g : Str, atI [V.str l.1, V.str l.2] (0 + (j : Int)) = some (.str g) ∧ Low (tl g) ∧ ∃ h : Str, atI [V.str l.1, V.str l.2] (1 - (0 + (j : Int))) = some (.str h) ∧ Low (tl h) := by
          have : j = 0 ∨ j = 1 := by omega
          rcases this with e | e <;> subst e
          · exact ⟨_, rfl, lb.1, _, rfl, lb.2⟩
          · exact ⟨_, rfl, lb.2, _, rfl, lb.1⟩
        refine ⟨_, rfl, _, rfl, t, _, _, _, rfl, rfl, hT2, hg, ?_⟩
        refine ⟨_, rfl, _, rfl, _, _, rfl, rfl, t, _, _, _, rfl, rfl, hT2, hh, ?_⟩
        refine ⟨_, rfl, s, a, _, c + (20000 - 600 * i - 300 * j - 1), rfl, by decide, by decide, hS2.mono (by omega), fun v H3 v0 v1 x3 S3 => ⟨rfl, _, rfl, ite2 (fun _ => ?_) (fun _ => ?_)⟩⟩
        rotate_left
        · exact ⟨fs, vs', _, _, _, _, _, _, rfl, x3 _ _ Ms h2, hd.tk (TK.ext x3 hS2), by omega, hA, hE.trans x3, S3.mono (by omega)⟩
        have h3 := x3 _ _ Ms h2
        have hd3 := hd.tk (TK.ext x3 hS2)
        have e3 := hE.trans x3
        refine ⟨fun σ' H' => ∃ (p : Str), σ' = [some (.ref s), some (.ref L), some (.ref w), some (.int k), some (.ref M), some (.ref t), some (.int (0 + (j : Int))), some (.str g), some (.str h), some (.str p), v10, v11] ∧ H' M = some (.lst vs') ∧ DVs K H' (fs.map fdD) vs' ∧ Ext s H H' ∧ Src H' s a (c + (20000 - 600 * i - 300 * j - 210)), ?_, ?_⟩
        · refine ⟨_, rfl, _, rfl, s, a, _, c + (20000 - 600 * i - 300 * j - 2), rfl, k0, by omega, S3.mono (by omega), fun v' H4 w0 w1 x4 S4 => ⟨rfl, _, rfl, ite2 (fun _ => ?_) (fun _ => ⟨_, rfl, x4 _ _ Ms h3, hd3.tk (TK.ext x4 S3), e3.trans x4, S4.mono (by omega)⟩)⟩⟩
          refine ⟨_, rfl, _, rfl, s, a, w, us, c + (20000 - 600 * i - 300 * j - 202), rfl, (e3.trans x4).seqL wns hW, wns, hWds, S4.mono (by omega), fun p H5 pg pl x5 S5 => ?_⟩
          exact ⟨p, rfl, x5 _ _ Ms (x4 _ _ Ms h3), (hd3.tk (TK.ext x4 S3)).tk (TK.ext x5 S4), (e3.trans x4).trans x5, S5.mono (by omega)⟩
        · rintro σ' H4 ⟨p, rfl, h4, hd4, e4, S4⟩
          refine ⟨_, rfl, s, a, _, c + (20000 - 600 * i - 300 * j - 211), rfl, by decide, by decide, S4.mono (by omega), fun hp H5 _ _ x5 S5 => ⟨_, _, rfl, rfl, ?_⟩⟩
          refine ⟨_, rfl, s, a, _, c + (20000 - 600 * i - 300 * j - 212), rfl, by decide, by decide, S5.mono (by omega), fun sz H6 _ _ x6 S6 => ⟨_, _, rfl, rfl, ?_⟩⟩
          have h6 := x6 _ _ Ms (x5 _ _ Ms h4)
          have hd6 := (hd4.tk (TK.ext x5 S4)).tk (TK.ext x6 S5)
          refine ⟨_, rfl, .inl ⟨rfl, _, SqL.of h6⟩, _, rfl, _, rfl, _, rfl, _, rfl, _, rfl, by show 6 ≤ sizeLine; decide, fun r hr' => ?_⟩
          have n7 := same_new (o := HO.tup [V.str (Str.ofString "feed"), V.str g, V.str h, V.str p, V.int (1 + hp), V.int (1 + sz)]) hr'
          have h7 := n7 _ _ h6
          have vl : vs'.length = fs.length := hd6.map_len
          refine ⟨M, _, _, rfl, rfl, h7, small1000 (by omega), fs ++ [⟨g, h, p, 1 + hp, 1 + sz⟩], _, _, _, _, _, _, _, rfl, upd_same, DVs.snoc (hd6.tk ((TK.same n7).trans (tk_put h7))) ?_, by rw [List.length_append]; show _ + 1 ≤ _; omega, fun f hf => ?_, keep _ ((e4.trans (x5.trans x6)).trans (Ext.of n7)), ((S6.ext n7).put Ms Ma).mono (by omega)⟩
          · exact ⟨r, _, rfl, tk_put h7 _ _ (SqT.of upd_same), dlc (dls _) (dlc (dls _) (dlc (dls _) (dlc (dls _) (dlc (dli _) (dlc (dli _) dln)))))⟩
          · rcases List.mem_append.mp hf with e | e
            · exact hA f e
            · rw [List.mem_singleton.mp e]; exact ⟨lg, lh⟩
      · rintro σ H2 ⟨fs, vs', v6, v7, v8, v9, v10, v11, rfl, h2, hd, hl, hA, hE, hS2⟩
        exact ⟨fs, vs', _, _, _, _, _, _, _, rfl, h2, hd, by omega, hA, hE, hS2.mono (by omega)⟩
    · rintro σ H1 ⟨fs, vs', v5, v6, v7, v8, v9, v10, v11, rfl, h1, hd, hl, hA, hE, hS'⟩
      have wl := hw.map_len
      have vl : vs'.length = fs.length := hd.map_len
      refine ⟨_, rfl, _, rfl, s, a, M, vs', c + 100, rfl, SqL.of h1, Ms, by omega, hS'.mono (by omega), fun D ys H2 hD h2 yl ym x2 S2 => ?_⟩
      obtain ⟨m, dm, lm, km⟩ := DVs.pick (hd.tk (TK.ext x2 hS')) ym
      refine ⟨D, _, rfl, .inl ⟨SqL.of h2, fun T hT => ?_⟩⟩
      have n := same_new (o := HO.tup ys) hT
      exact q (.ref T) m _ ⟨T, _, rfl, SqT.of upd_same, dm.tk (TK.same n)⟩ (by omega) (fun f hf => hA f (km f hf)) (hE.trans (x2.trans (Ext.of n))) ((S2.ext n).mono (by omega))
end
section
variable {P : Program} {w : World} {K : PySem.W.Frag} {mg : Str → Option Value} {base : Heap}
theorem ok__law_sites (D : Df K mg "_law_sites" s__law_sites ["source", "names", "words", "window", "offsets"]) (T : Tx mg)  (C__law_draw : Cal P w K mg base "_law_draw" ["source", "many"] 2 sp__law_draw) (C__law_pattern : Cal P w K mg base "_law_pattern" ["source", "words"] 6 (sp2__law_pattern K)) : Cal P w K mg base "_law_sites" ["source", "names", "words", "window", "offsets"] 7 (sp_sites K) := by
  obtain ⟨f__law_draw, fd__law_draw, G__law_draw, g__law_draw, k__law_draw, b__law_draw⟩ := C__law_draw
  obtain ⟨f__law_pattern, fd__law_pattern, G__law_pattern, g__law_pattern, k__law_pattern, b__law_pattern⟩ := C__law_pattern
  obtain ⟨f, fd, F, gf, bf⟩ := D
  refine ⟨f, fd, F.ok sc__law_sites (fun vs H Q E h => ?_) (fun cdv A outer s₀ H vs Q E hr h => ?_), gf, F.kp, bf⟩
  · obtain ⟨s, a, u, w, o, us, ws, z, is, c, rfl, _⟩ := h; rfl
  · obtain ⟨s, a, u, w, o, us, ws, z, is, c, rfl, hU, hus, ul, hW, wns, hWds, ho, os, il, hS, q⟩ := h
    refine ⟨_, (pss_cons (ps_set (i := 5) sc__law_sites.nd rfl (Or.inl rfl) (pe_lst pa_nil))
      (pss_cons (ps_set (i := 6) sc__law_sites.nd rfl (Or.inl rfl) (pe_callB (cr_max rfl) (by rfl) T.n_max (by decide +kernel) (pa_cons (pe_op L2.op_cat (pe_lst (pa_cons pe_int pa_nil)) (pv 4)) pa_nil)))
      (pss_cons (ps_for PassesOwn.never rfl (pi_range1 (by rfl) T.n_range (pa_cons (pe_callB call_len_seq (by rfl) T.n_len PySem.boot_len (pa_cons (pv 1) pa_nil)) pa_nil)) (pg_name (i := 7) sc__law_sites.nd rfl (Or.inl rfl))
      (pss_cons (ps_set (i := 8) sc__law_sites.nd rfl (Or.inl rfl) pe_str)
        (C8.pss_cut (ps_if (pt_cmpR op_eq (pe_call G__law_draw (hr.mono (by decide)) (by rfl) g__law_draw k__law_draw b__law_draw .nil pass0 (pa_cons (pv 0) (pa_cons pe_int pa_nil))) pe_int (nomark _))
        (pss_one (ps_set (i := 8) sc__law_sites.nd rfl (Or.inl rfl) (pe_call G__law_pattern (hr.mono (by decide)) (by rfl) g__law_pattern k__law_pattern b__law_pattern .nil pass0 (pa_cons (pv 0) (pa_cons (pv 2) pa_nil)))))
        pss_nil)
        (pss_cons (ps_set (i := 9) sc__law_sites.nd rfl (Or.inl rfl) (pe_op op_add (pe_op op_add (pv 3) (pv 6)) (pe_call G__law_draw (hr.mono (by decide)) (by rfl) g__law_draw k__law_draw b__law_draw .nil pass0 (pa_cons (pv 0) (pa_cons pe_int pa_nil)))))
        (pss_cons (ps_set (i := 10) sc__law_sites.nd rfl (Or.inl rfl) (pe_call G__law_draw (hr.mono (by decide)) (by rfl) g__law_draw k__law_draw b__law_draw .nil pass0 (pa_cons (pv 0) (pa_cons pe_int pa_nil))))
        (pss_one (ps_expr (pe_bm PySem.F.plainAttrs_list PySem.F.slot_list_append PySem.F.type_list_append mt_append (pv 5) (pa_cons (pe_tup (pa_cons pe_str (pa_cons (pe_ix ix_list (pv 1) (pv 7) (fun _ _ => rfl)) (pa_cons (pe_ix ix_list (pv 4) (pv 7) (fun _ _ => rfl)) (pa_cons (pv 9) (pa_cons (pv 10) (pa_cons (pv 8) pa_nil))))))) pa_nil)))))))))
      (pss_one (ps_ret (pe_callTy call_tuple_of (by rfl) T.n_tuple (by decide +kernel) (pa_cons (pv 5) pa_nil))))))), ?_⟩
    refine ⟨Nat.zero_le _, fun M hM => ?_⟩
    have Ms := hS.ne hM
    have Ma := hS.nea hM
    have keep : ∀ {H1 : Hp} (o : HO), Ext s H H1 → Ext s H (upd H1 M o) := fun o x b w hb hh => by
      rw [upd_ne (ne_of_none hh hM)]; exact x _ _ hb hh
    refine ⟨by show 1 ≤ sizeLine; decide, fun N hN => ?_⟩
    have n1 := same_new (o := HO.lst []) hM
    have n2 := same_new (o := HO.lst [V.int 0]) hN
    refine ⟨_, rfl, N, o, _, _, rfl, rfl, upd_same, n2 _ _ (n1 _ _ ho), by rw [List.length_map]; show 1 + is.length ≤ _; exact Nat.le_trans (show 1 + is.length ≤ 30000 by omega) (by decide), fun R hR => ?_⟩
    have n3 := same_new (o := HO.lst ([V.int 0] ++ is.map V.int)) hR
    refine ⟨R, 0 :: is, rfl, SqL.of upd_same, by simp, fun gr _ _ => ?_⟩
    have nn := n1.trans (n2.trans n3)
    have hM3 := (n2.trans n3) _ _ (upd_same (H := H) (a := M) (o := HO.lst []))
    have S3 := hS.ext nn
    have E3 : Ext s H _ := Ext.of nn
    generalize upd (upd (upd H M (HO.lst [])) N (HO.lst [V.int 0])) R (HO.lst ([V.int 0] ++ is.map V.int)) = H3 at nn hM3 S3 E3 ⊢
    refine ⟨_, rfl, u, _, rfl, .inl (E3.seqL hus hU), _, rfl, by rw [List.length_map]; omega, by rw [List.length_map]; omega, ?_⟩
    refine for_range (lo := 0) (n := ((us.map V.str).length : Int).toNat) (fun i σ H' => ∃ (l : List Si) (vs' : List V) (v7 v8 v9 v10 : Option V), σ = [some (.ref s), some (.ref u), some (.ref w), some (.int z), some (.ref o), some (.ref M), some (.int gr), v7, v8, v9, v10] ∧ H' M = some (.lst vs') ∧ DVs K H' (l.map siD) vs' ∧ l.map (·.n) = us.take i ∧ (∀ x ∈ l, (tl x.p).length ≤ 200) ∧ Ext s H H' ∧ Src H' s a (c + (5000 - 300 * i))) ?_ ?_ ?_
    · exact ⟨[], [], _, _, _, _, rfl, hM3, dln, rfl, (fun _ h => by cases h), E3, S3.mono (by omega)⟩
    · rintro i σ H4 hi ⟨l, vs', v7, v8, v9, v10, rfl, h4, hd4, hn, hp, e4, S4⟩
      rw [List.length_map] at hi
      have hi' : i < us.length := by omega
      obtain ⟨n, hn'⟩ : ∃ n, us[i]? = some n := ⟨_, List.getElem?_eq_getElem hi'⟩
      obtain ⟨oz, ho'⟩ : ∃ y, is[i]? = some y := ⟨_, List.getElem?_eq_getElem (by omega)⟩
      have an : atI (us.map V.str) (0 + (i : Int)) = some (.str n) := at_of (j := i) (by omega) (by rw [List.getElem?_map, hn']; rfl)
      have ao : atI (is.map V.int) (0 + (i : Int)) = some (.int oz) := at_of (j := i) (by omega) (by rw [List.getElem?_map, ho']; rfl)
      refine ⟨fun σ' H' => ∃ (p : Str), σ' = [some (.ref s), some (.ref u), some (.ref w), some (.int z), some (.ref o), some (.ref M), some (.int gr), some (.int (0 + (i : Int))), some (.str p), v9, v10] ∧ (tl p).length ≤ 200 ∧ H' M = some (.lst vs') ∧ DVs K H' (l.map siD) vs' ∧ Ext s H H' ∧ Src H' s a (c + (5000 - 300 * i - 210)), ?_, ?_⟩
      · refine ⟨_, rfl, s, a, _, c + (5000 - 300 * i - 2), rfl, by decide, by decide, S4.mono (by omega), fun v' H5 w0 w1 x5 S5 => ⟨rfl, _, rfl, ite2 (fun _ => ?_) (fun _ => ⟨_, rfl, by decide, x5 _ _ Ms h4, hd4.tk (TK.ext x5 S4), e4.trans x5, S5.mono (by omega)⟩)⟩⟩
        refine ⟨_, rfl, _, rfl, s, a, w, ws, c + (5000 - 300 * i - 202), rfl, (e4.trans x5).seqL wns hW, wns, hWds, S5.mono (by omega), fun p H6 pg pl x6 S6 => ?_⟩
        exact ⟨p, rfl, by omega, x6 _ _ Ms (x5 _ _ Ms h4), (hd4.tk (TK.ext x5 S4)).tk (TK.ext x6 S5), (e4.trans x5).trans x6, S6.mono (by omega)⟩
      · rintro σ' H5 ⟨p, rfl, pl, h5, hd5, e5, S5⟩
        refine ⟨_, rfl, _, rfl, _, _, rfl, rfl, _, rfl, s, a, _, c + (5000 - 300 * i - 211), rfl, by decide, by decide, S5.mono (by omega), fun mm H6 _ _ x6 S6 => ⟨_, _, rfl, rfl, ?_⟩⟩
        refine ⟨_, rfl, s, a, _, c + (5000 - 300 * i - 212), rfl, by decide, by decide, S6.mono (by omega), fun tm H7 _ _ x7 S7 => ?_⟩
        have h7 := x7 _ _ Ms (x6 _ _ Ms h5)
        have hd7 := (hd5.tk (TK.ext x6 S5)).tk (TK.ext x7 S6)
        have e7 := (e5.trans x6).trans x7
        refine ⟨_, rfl, .inl ⟨rfl, _, SqL.of h7⟩, _, rfl, _, rfl, u, _, _, _, rfl, rfl, e7.seqL hus hU, an, _, rfl, _, rfl, o, _, _, _, rfl, rfl, SqL.of (e7 _ _ os ho), ao, _, rfl, _, rfl, _, rfl, by show 6 ≤ sizeLine; decide, fun r hr' => ?_⟩
        have n8 := same_new (o := HO.tup [V.str (Str.ofString "site"), V.str n, V.int oz, V.int (z + gr + mm), V.int tm, V.str p]) hr'
        have h8 := n8 _ _ h7
        have vl : vs'.length = l.length := hd7.map_len
        have ll : l.length ≤ 9 := by
          have := congrArg List.length hn
          rw [List.length_map, List.length_take] at this; omega
        refine ⟨M, _, _, rfl, rfl, h8, small1000 (by omega), l ++ [⟨n, oz, z + gr + mm, tm, p⟩], _, _, _, _, _, rfl, upd_same, DVs.snoc (hd7.tk ((TK.same n8).trans (tk_put h8))) ?_, ?_, fun x hx => ?_, keep _ (e7.trans (Ext.of n8)), ((S7.ext n8).put Ms Ma).mono (by omega)⟩
        · exact ⟨r, _, rfl, tk_put h8 _ _ (SqT.of upd_same), dlc (dls _) (dlc (dls _) (dlc (dli _) (dlc (dli _) (dlc (dli _) (dlc (dls _) dln)))))⟩
        · rw [List.map_append, hn, List.take_add_one, hn']; rfl
        · rcases List.mem_append.mp hx with e | e
          · exact hp x e
          · rw [List.mem_singleton.mp e]; exact pl
    · rintro σ H4 ⟨l, vs', v7, v8, v9, v10, rfl, h4, hd4, hn, hp, e4, S4⟩
      rw [List.length_map, Int.toNat_natCast, List.take_length] at hn
      refine ⟨_, rfl, M, _, rfl, .inl ⟨SqL.of h4, fun T hT => ?_⟩⟩
      have n := same_new (o := HO.tup vs') hT
      exact q (.ref T) l _ ⟨T, _, rfl, SqT.of upd_same, hd4.tk (TK.same n)⟩ hn hp (e4.trans (Ext.of n)) ((S4.ext n).mono (by omega))
end

end Z
namespace Z
open PySem L2 SX
section
variable {P : Program} {w : World} {K : PySem.W.Frag} {mg : Str → Option Value} {base : Heap}
theorem ok_distances (D : Df K mg "distances" s_distances ["book", "site"]) (T : Tx mg)  (C_neighbours : Cal P w K mg base "neighbours" ["book", "name"] 1 (sp_neighbours K)) : Cal P w K mg base "distances" ["book", "site"] 2 (sp53_distances K) := by
  obtain ⟨f_neighbours, fd_neighbours, G_neighbours, g_neighbours, k_neighbours, b_neighbours⟩ := C_neighbours
  obtain ⟨f, fd, F, gf, bf⟩ := D
  refine ⟨f, fd, F.ok sc_distances (fun vs H Q E h => ?_) (fun cdv A outer s₀ H vs Q E hr h => ?_), gf, F.kp, bf⟩
  · obtain ⟨b, v, s, rfl, _⟩ := h; rfl
  · obtain ⟨b, v, s, rfl, hb, ok, hs, q⟩ := h
    refine ⟨_, (pss_cons (ps_set (i := 2) sc_distances.nd rfl (Or.inl rfl) (pe_disp (pps_cons (pv 1) pe_int pps_nil) (by rfl) (by rfl) (fun z => by cases z) (by decide)))
      (pss_cons (ps_set (i := 3) sc_distances.nd rfl (Or.inl rfl) (pe_lst (pa_cons (pv 1) pa_nil)))
      (pss_cons (ps_while PassesOwn.never (pt_truth (pv 3) (by intro _; rfl))
      (pss_cons (ps_set (i := 4) sc_distances.nd rfl (Or.inl rfl) (pe_lst pa_nil))
        (pss_cons (ps_for PassesOwn.never rfl (pi_list (pv 3)) (pg_name (i := 5) sc_distances.nd rfl (Or.inl rfl))
        (pss_one (ps_for PassesOwn.never rfl (pi_tup (pe_call G_neighbours (hr.mono (by decide)) (by rfl) g_neighbours k_neighbours b_neighbours .nil pass0 (pa_cons (pv 0) (pa_cons (pv 5) pa_nil)))) (pg_name (i := 6) sc_distances.nd rfl (Or.inl rfl))
          (pss_one (ps_if (pt_cmp (pc_dnotin (hu_of hr) (pv 6) (pv 2)))
            (pss_cons (ps_dput (hu_of hr) (pv 2) (pv 6) (pe_op op_add (pe_dget (hu_of hr) (pv 2) (pv 5) (fun _ _ => rfl)) pe_int) rfl)
              (pss_one (ps_expr (pe_bm PySem.F.plainAttrs_list PySem.F.slot_list_append PySem.F.type_list_append mt_append (pv 4) (pa_cons (pv 6) pa_nil)))))
            pss_nil)))))
        (pss_one (ps_set (i := 3) sc_distances.nd rfl (Or.inl rfl) (pv 4))))))
      (pss_one (ps_ret (pv 2)))))), ?_⟩
    have small : ∀ n : Nat, n ≤ 30000 → n < sizeLine := fun n h => Nat.lt_of_le_of_lt h (by decide)
    have ul : (nms b).length ≤ 10 := by unfold nms; rw [List.length_map]; exact ok.ok.si
    refine fun p hp => ⟨_, rfl, upd_same, [(Sum.inr s, .int 0)], rfl, by show 1 ≤ 15; decide, ?_⟩
    have e0 : upd (upd H p (HO.dK [])) p (HO.dK (mergeK [] [(Sum.inr s, V.int 0)])) = upd H p (.dK (fk [(s, 0)])) := by rw [upd_upd]; rfl
    rw [e0]
    have m0 := same_new (o := HO.dK (fk [(s, 0)])) hp
    refine ⟨_, rfl, by show 1 ≤ sizeLine; decide, fun lv hlv => ?_⟩
    have m1 := same_new (o := HO.lst [V.str s]) hlv
    refine ⟨fun n σ H' => ∃ (lv : Addr) (lev : List Str) (F : List (Str × Nat)) (k : Nat) (v4 v5 v6 : Option V), σ = [some v, some (.str s), some (.ref p), some (.ref lv), v4, v5, v6] ∧ H' p = some (.dK (fk F)) ∧ H' lv = some (.lst (lev.map V.str)) ∧ Same H H' ∧ Lv b.ln s (nms b) F k (fun _ _ => False) ∧ (∀ y, y ∈ lev ↔ (y, k) ∈ F) ∧ (∀ y, (y, k + 1) ∉ F) ∧ (∃ e, (s, e) ∈ F) ∧ lev.length ≤ 10 ∧ n = ((nms b).length - F.length) * 2 + min lev.length 1, ?_, ?_⟩
    · refine ⟨_, lv, [s], [(s, 0)], 0, _, _, _, rfl, m1 _ _ upd_same, upd_same, m0.trans m1, .start hs, fun y => ?_, fun y m => ?_, ⟨0, by simp⟩, by show 1 ≤ 10; decide, rfl⟩
      · rw [List.mem_singleton, List.mem_singleton, Prod.mk.injEq]; exact ⟨fun h => ⟨h, rfl⟩, fun h => h.1⟩
      · rw [List.mem_singleton, Prod.mk.injEq] at m; exact absurd m.2 (by decide)
    rintro n σ H1 ⟨lv, lev, F, k, v4, v5, v6, rfl, h1, hl, mm, inv, hlev, hno, hsF, ll, rfl⟩
    refine ⟨_, rfl, !(lev.map V.str).isEmpty, .inl ⟨_, SqL.of hl, rfl⟩, ?_⟩
    cases lev with
    | nil => exact iteF ⟨_, rfl, q p F H1 hp mm h1 (inv.fin (fun y m => by have := (hlev y).mpr m; cases this) hno hsF)⟩
    | cons x0 lev0 =>
      refine iteT ⟨_, fun σ2 H2 h => h, ?_⟩
      refine ⟨Nat.zero_le _, fun B hB => ?_⟩
      have mB := same_new (o := HO.lst []) hB
      have nB : H B = none := Same.free mm hB
      have pB : p ≠ B := ne_of_none h1 hB
      have lB : lv ≠ B := ne_of_none hl hB
      have lp : lv ≠ p := fun e => by rw [e, h1] at hl; cases hl
      generalize hlv' : x0 :: lev0 = lev at *
      refine ⟨_, rfl, lv, rfl, ⟨_, SqL.of (mB _ _ hl)⟩, ?_⟩
      refine for_list (K := K) (a := lv) (xs := lev.map V.str) (fun i σ H' => ∃ (F' : List (Str × Nat)) (bh : List Str) (v5 v6 : Option V), σ = [some v, some (.str s), some (.ref p), some (.ref lv), some (.ref B), v5, v6] ∧ H' p = some (.dK (fk F')) ∧ H' lv = some (.lst (lev.map V.str)) ∧ H' B = some (.lst (bh.map V.str)) ∧ Same H H' ∧ Lv b.ln s (nms b) F' k (fun x z => x ∈ lev.take i ∧ nb b.ln x z) ∧ (∀ y, y ∈ lev ↔ (y, k) ∈ F') ∧ (∀ y, y ∈ bh ↔ (y, k + 1) ∈ F') ∧ (∃ e, (s, e) ∈ F') ∧ F'.length = F.length + bh.length) ?_ (fun i σ H' _ h => by obtain ⟨_, _, _, _, _, _, h, _⟩ := h; exact SqL.of h) ?_ ?_
      · exact ⟨F, [], _, _, rfl, mB _ _ h1, mB _ _ hl, upd_same, mm.trans mB, inv.mono fun x z h => by rw [List.take_zero] at h; exact absurd h.1 (by simp), hlev, fun y => ⟨(fun h => by cases h), fun h => absurd h (hno y)⟩, hsF, rfl⟩
      · rintro i x σ H2 hi ⟨F', bh, v5, v6, rfl, h2, hl2, hB2, m2, inv', hlev', hbh, hsF', hlen⟩
        obtain ⟨x, hx, rfl⟩ : ∃ x', lev[i]? = some x' ∧ x = .str x' := by
          rw [List.getElem?_map] at hi
          cases e : lev[i]? with
          | none => rw [e] at hi; cases hi
          | some y => rw [e] at hi; exact ⟨y, rfl, (Option.some.inj hi).symm⟩
        refine ⟨_, rfl, _, rfl, b, v, x, rfl, hb.tk (TK.same m2), ok.ok, fun t ys H3 m3 ht pp _ => ?_⟩
        have h3 := m3 _ _ h2
        have hl3 := m3 _ _ hl2
        have hB3 := m3 _ _ hB2
        refine ⟨t, rfl, ⟨_, ht⟩, ?_⟩
        refine for_tup (K := K) (a := t) (xs := ys.map V.str) (fun j σ H' => ∃ (F' : List (Str × Nat)) (bh : List Str) (v6 : Option V), σ = [some v, some (.str s), some (.ref p), some (.ref lv), some (.ref B), some (.str x), v6] ∧ H' p = some (.dK (fk F')) ∧ H' lv = some (.lst (lev.map V.str)) ∧ H' B = some (.lst (bh.map V.str)) ∧ SqT K H' t (ys.map V.str) ∧ Same H H' ∧ Lv b.ln s (nms b) F' k (fun a z => (a ∈ lev.take i ∧ nb b.ln a z) ∨ (a = x ∧ z ∈ ys.take j)) ∧ (∀ y, y ∈ lev ↔ (y, k) ∈ F') ∧ (∀ y, y ∈ bh ↔ (y, k + 1) ∈ F') ∧ (∃ e, (s, e) ∈ F') ∧ F'.length = F.length + bh.length) ?_ (fun i σ H' _ h => by obtain ⟨_, _, _, _, _, _, _, h, _⟩ := h; exact h) ?_ ?_
        · exact ⟨F', bh, _, rfl, h3, hl3, hB3, ht, m2.trans m3, inv'.mono fun a z h => .inl (h.elim id fun h => by rw [List.take_zero] at h; exact absurd h.2 (by simp)), hlev', hbh, hsF', hlen⟩
        · rintro j y σ H4 hj ⟨F', bh, v6, rfl, h4, hl4, hB4, ht4, m4, inv'', hlev'', hbh', hsF'', hlen'⟩
          obtain ⟨z, hz, rfl⟩ : ∃ z', ys[j]? = some z' ∧ y = .str z' := by
            rw [List.getElem?_map] at hj
            cases e : ys[j]? with
            | none => rw [e] at hj; cases hj
            | some y => rw [e] at hj; exact ⟨y, rfl, (Option.some.inj hj).symm⟩
          have xk : (x, k) ∈ F' := (hlev'' x).mp (List.mem_of_getElem? hx)
          have ez : nb b.ln x z := near_iff.mp (pp.mem_iff.mp (List.mem_of_getElem? hz))
          have tk : ys.take (j + 1) = ys.take j ++ [z] := by rw [List.take_add_one, hz]; rfl
          refine ⟨_, rfl, _, rfl, p, _, rfl, DGet.k (k := Sum.inr z) h4, ?_⟩
          by_cases c : ∃ e, (z, e) ∈ F'
          · obtain ⟨e, he⟩ := c
            rw [fk_some inv''.nd he]
            refine ⟨_, rfl, iteF ⟨F', bh, _, rfl, h4, hl4, hB4, ht4, m4, inv''.mono fun a w h => ?_, hlev'', hbh', hsF'', hlen'⟩⟩
            rw [tk] at h
            rcases h with h | ⟨h1, h2⟩
            · exact .inl (.inl h)
            · rcases List.mem_append.mp h2 with h2 | h2
              · exact .inl (.inr ⟨h1, h2⟩)
              · rw [List.mem_singleton.mp h2]; exact .inr ⟨e, he⟩
          · have hz' : ∀ d, (z, d) ∉ F' := fun d m => c ⟨d, m⟩
            rw [fk_none hz']
            have inv3 := inv''.add (dn' := fun a z => (a ∈ lev.take i ∧ nb b.ln a z) ∨ (a = x ∧ z ∈ ys.take (j + 1))) ok.ln xk ez hz' fun a w h => by
              rw [tk] at h
              rcases h with h | ⟨h1, h2⟩
              · exact .inl (.inl h)
              · rcases List.mem_append.mp h2 with h2 | h2
                · exact .inl (.inr ⟨h1, h2⟩)
                · exact .inr (List.mem_singleton.mp h2)
            have fl := inv3.len
            rw [List.length_append] at fl
            have gx : DGet H4 p (V.str x) (some (V.int (k : Nat))) := by
              have := DGet.k (k := (Sum.inr x : Key)) h4
              rw [fk_some inv''.nd xk] at this
              exact this
            refine ⟨_, rfl, iteT ?_⟩
            refine ⟨_, rfl, _, rfl, p, _, rfl, gx, _, _, rfl, rfl, _, rfl, _, rfl, p, _, rfl, DPut.k (k := Sum.inr z) (v := V.int ((k + 1 : Nat) : Int)) h4 (by rw [fk_len]; exact small _ (by omega)), ?_⟩
            rw [fk_put hz']
            have hB5 : (upd H4 p (.dK (fk (F' ++ [(z, k + 1)])))) B = some (.lst (bh.map V.str)) := by rw [upd_ne pB.symm]; exact hB4
            refine ⟨_, rfl, .inl ⟨rfl, _, SqL.of hB5⟩, _, rfl, B, _, _, rfl, rfl, hB5, by rw [List.length_map]; exact small _ (by omega), ?_⟩
            refine ⟨F' ++ [(z, k + 1)], bh ++ [z], _, rfl, by rw [upd_ne pB, upd_same], by rw [upd_ne lB, upd_ne lp]; exact hl4, by rw [upd_same, List.map_append]; rfl, ?_, sput (sput m4 hp) nB, inv3, fun y => ?_, fun y => ?_, hsF''.elim fun e h => ⟨e, List.mem_append_left _ h⟩, by rw [List.length_append, List.length_append, hlen']; rfl⟩
            · exact tk_upd hB5 (fun _ e => by cases e) (fun _ _ e => by cases e) _ _ (tk_upd h4 (fun _ e => by cases e) (fun _ _ e => by cases e) _ _ ht4)
            · rw [hlev'' y, List.mem_append, List.mem_singleton, Prod.mk.injEq]
              exact ⟨.inl, fun h => h.elim id fun h => absurd h.2 (by omega)⟩
            · rw [List.mem_append, List.mem_append, hbh' y, List.mem_singleton, List.mem_singleton, Prod.mk.injEq]
              exact ⟨fun h => h.imp id fun h => ⟨h, rfl⟩, fun h => h.imp id fun h => h.1⟩
        · rintro σ H4 ⟨F', bh, v6, rfl, h4, hl4, hB4, ht4, m4, inv'', hlev'', hbh', hsF'', hlen'⟩
          rw [List.length_map, List.take_length] at inv''
          refine ⟨F', bh, _, _, rfl, h4, hl4, hB4, m4, inv''.mono fun a z h => ?_, hlev'', hbh', hsF'', hlen'⟩
          obtain ⟨ha, he⟩ := h
          rw [List.take_add_one, hx] at ha
          rcases List.mem_append.mp ha with ha | ha
          · exact .inl (.inl ⟨ha, he⟩)
          · have : a = x := List.mem_singleton.mp ha
            subst this
            exact .inl (.inr ⟨rfl, pp.mem_iff.mpr (near_iff.mpr he)⟩)
      · rintro σ H2 ⟨F', bh, v5, v6, rfl, h2, hl2, hB2, m2, inv', hlev', hbh, hsF', hlen⟩
        rw [List.length_map, List.take_length] at inv'
        have fl := inv'.len
        have inv2 := inv'.next fun x z hx e => ⟨(hlev' x).mpr hx, e⟩
        refine ⟨_, rfl, _, ?_, B, bh, F', k + 1, _, _, _, rfl, h2, hB2, m2, inv2, hbh, fun y m => ?_, hsF', by omega, rfl⟩
        · subst hlv'
          have z1 : min (x0 :: lev0).length 1 = 1 := Nat.min_eq_right (by rw [List.length_cons]; omega)
          rw [z1]
          cases bh with
          | nil =>
            have z2 : min ([] : List Str).length 1 = 0 := rfl
            rw [z2]
            have : F'.length = F.length := hlen
            omega
          | cons z r =>
            have z2 : min (z :: r).length 1 = 1 := Nat.min_eq_right (by rw [List.length_cons]; omega)
            rw [z2]
            rw [List.length_cons] at hlen
            omega
        · have := (inv'.ok _ m).2
          simp only at this; omega
end

end Z
namespace Z
open PySem L2 SX
section
variable {P : Program} {w : World} {K : PySem.W.Frag} {mg : Str → Option Value} {base : Heap}
theorem ok__law_spread (D : Df K mg "_law_spread" s__law_spread ["book", "start"]) (T : Tx mg)   : Cal P w K mg base "_law_spread" ["book", "start"] 1 (sp53_spread K) := by
  obtain ⟨f, fd, F, gf, bf⟩ := D
  refine ⟨f, fd, F.ok sc__law_spread (fun vs H Q E h => ?_) (fun cdv A outer s₀ H vs Q E hr h => ?_), gf, F.kp, bf⟩
  · obtain ⟨b, v, s, rfl, _⟩ := h; rfl
  · obtain ⟨b, v, s, rfl, hb, ok, hs, q⟩ := h
    refine ⟨_, (pss_cons (ps_set (i := 2) sc__law_spread.nd rfl (Or.inl rfl) pe_dnewK)
      (pss_cons (ps_dput (hu_of hr) (pv 2) (pv 1) pe_int rfl)
      (pss_cons (ps_for PassesOwn.never rfl (pi_range2 (by rfl) T.n_range (pa_cons pe_int (pa_cons (pe_callB call_len_seq (by rfl) T.n_len PySem.boot_len (pa_cons (pe_ix ix_tup (pv 0) pe_int (fun _ _ => rfl)) pa_nil)) pa_nil))) (pg_name (i := 3) sc__law_spread.nd rfl (Or.inl rfl))
      (pss_one (ps_for PassesOwn.never rfl (pi_tup (pe_ix ix_tup (pv 0) pe_int (fun _ _ => rfl))) (pg_name (i := 4) sc__law_spread.nd rfl (Or.inl rfl))
        (pss_one (ps_for PassesOwn.never rfl (pi_range1 (by rfl) T.n_range (pa_cons pe_int pa_nil)) (pg_name (i := 5) sc__law_spread.nd rfl (Or.inl rfl))
          (pss_one (ps_if (PW.pt (pw_and (pt_cmpR op_eq (pe_dget2 (hu_of hr) (pv 2) (pe_ix ix_tup (pv 4) (pv 5) (fun _ _ => rfl)) (pe_un un_neg pe_int) ⟨rfl, rfl, rfl, rfl⟩) (pe_op op_sub (pv 3) pe_int) (nomark _)) (pw_and1 (pt_cmp (pc_dnotin (hu_of hr) (pe_ix ix_tup (pv 4) (pe_op op_sub pe_int (pv 5)) (fun _ _ => rfl)) (pv 2))))))
            (pss_one (ps_dput (hu_of hr) (pv 2) (pe_ix ix_tup (pv 4) (pe_op op_sub pe_int (pv 5)) (fun _ _ => rfl)) (pv 3) rfl))
            pss_nil)))))))
      (pss_one (ps_ret (pv 2)))))), ?_⟩
    have small : ∀ n : Nat, n ≤ 30000 → n < sizeLine := fun n h => Nat.lt_of_le_of_lt h (by decide)
    obtain ⟨ba, bus, c3, ws3, rfl, hB, e3, hC3, hw3⟩ := DV.sub (i := 3) (es := b.si.map siD) hb rfl
    obtain ⟨_, bus4, c4, ws4, er, hB', e4, hC4, hw4⟩ := DV.sub (i := 4) (es := b.ln.map lnD) hb rfl
    obtain rfl := V.ref.inj er
    have l3 : ws3.length = (nms b).length := by rw [hw3.map_len]; unfold nms; rw [List.length_map]
    have ul : (nms b).length ≤ 10 := by unfold nms; rw [List.length_map]; exact ok.ok.si
    refine fun p hp => ⟨_, rfl, _, rfl, p, _, rfl, DPut.k (k := Sum.inr s) (v := V.int ((0 : Nat) : Int)) upd_same (by show 0 < sizeLine; decide), ?_⟩
    have e0 : upd (upd H p (HO.dK [])) p (HO.dK (putK [] (Sum.inr s) (V.int ((0 : Nat) : Int)))) = upd H p (.dK (fk [(s, 0)])) := by rw [upd_upd]; rfl
    rw [e0]
    have m0 := same_new (o := HO.dK (fk [(s, 0)])) hp
    refine ⟨_, rfl, ba, bus, 3, .ref c3, rfl, rfl, m0.tup hB, atI_nat (j := 3) e3, c3, ws3, rfl, .inr (m0.tup hC3), 1, _, rfl, ⟨by decide, by decide, by omega, by omega⟩, ?_⟩
    refine for_range (lo := 1) (n := ((ws3.length : Int) - 1).toNat) (fun i σ H' => ∃ (F : List (Str × Nat)) (v3 v4 v5 : Option V), σ = [some (.ref ba), some (.str s), some (.ref p), v3, v4, v5] ∧ H' p = some (.dK (fk F)) ∧ Same H H' ∧ Lv b.ln s (nms b) F i (fun _ _ => False)) ?_ ?_ ?_
    · exact ⟨_, _, _, _, rfl, upd_same, m0, .start hs⟩
    · rintro i σ H1 hi ⟨F, v3, v4, v5, rfl, h1, m1, inv⟩
      refine ⟨_, rfl, ba, bus4, 4, .ref c4, rfl, rfl, m1.tup hB', atI_nat (j := 4) e4, c4, rfl, ⟨_, m1.tup hC4⟩, ?_⟩
      refine for_tup (K := K) (a := c4) (xs := ws4) (fun j σ H' => ∃ (F : List (Str × Nat)) (v4 v5 : Option V), σ = [some (.ref ba), some (.str s), some (.ref p), some (.int (1 + (i : Int))), v4, v5] ∧ H' p = some (.dK (fk F)) ∧ Same H H' ∧ Lv b.ln s (nms b) F i (fun x z => (x, i) ∈ F ∧ ((x, z) ∈ b.ln.take j ∨ (z, x) ∈ b.ln.take j))) ?_ (fun j σ H' _ h => by obtain ⟨_, _, _, _, _, m, _⟩ := h; exact m.tup hC4) ?_ ?_
      · exact ⟨F, _, _, rfl, h1, m1, inv.mono fun x z h => by rw [List.take_zero] at h; exact absurd h.2 (by simp)⟩
      · rintro j u σ H2 hj ⟨F, v4, v5, rfl, h2, m2, inv2⟩
        obtain ⟨l, hl, dx⟩ := hw4.map_get hj
        obtain ⟨t, rfl, hT⟩ := DV_pair_inv dx
        refine ⟨2, rfl, by decide, by decide, ?_⟩
        refine for_range (lo := 0) (n := 2) (fun w σ H' => ∃ (F : List (Str × Nat)) (v5 : Option V), σ = [some (.ref ba), some (.str s), some (.ref p), some (.int (1 + (i : Int))), some (.ref t), v5] ∧ H' p = some (.dK (fk F)) ∧ Same H H' ∧ Lv b.ln s (nms b) F i (fun x z => (x, i) ∈ F ∧ (((x, z) ∈ b.ln.take j ∨ (z, x) ∈ b.ln.take j) ∨ (0 < w ∧ x = l.1 ∧ z = l.2) ∨ (1 < w ∧ x = l.2 ∧ z = l.1)))) ?_ ?_ ?_
        · exact ⟨F, _, rfl, h2, m2, inv2.mono fun x z h => .inl ⟨h.1, h.2.elim id fun h => h.elim (fun h => absurd h.1 (by decide)) fun h => absurd h.1 (by decide)⟩⟩
        · rintro w σ H3 hw ⟨F, v5, rfl, h3, m3, inv3⟩
          obtain ⟨x, z, ex, ez, hxz, hn⟩ : ∃ x z : Str, atI [V.str l.1, V.str l.2] (0 + (w : Int)) = some (.str x) ∧ atI [V.str l.1, V.str l.2] (1 - (0 + (w : Int))) = some (.str z) ∧ nb b.ln x z ∧ ∀ a c, ((0 < w + 1 ∧ a = l.1 ∧ c = l.2) ∨ (1 < w + 1 ∧ a = l.2 ∧ c = l.1)) → ((0 < w ∧ a = l.1 ∧ c = l.2) ∨ (1 < w ∧ a = l.2 ∧ c = l.1)) ∨ (a = x ∧ c = z) := by
            have ml := List.mem_of_getElem? hl
            have : w = 0 ∨ w = 1 := by omega
            rcases this with e | e <;> subst e
            · exact ⟨_, _, rfl, rfl, .inl ml, fun a c h => h.elim (fun h => .inr h.2) fun h => absurd h.1 (by decide)⟩
            · exact ⟨_, _, rfl, rfl, .inr ml, fun a c h => h.elim (fun h => .inl (.inl ⟨by decide, h.2⟩)) fun h => .inr h.2⟩
          have hT3 := m3.tup hT
          have go : ∀ (b0 : Bool), b0 = decide ((x, i) ∈ F) → (b0 = true → (∃ e, (z, e) ∈ F) ∨ True) → True := fun _ _ _ => trivial
          have skip : ((x, i) ∈ F → ∃ e, (z, e) ∈ F) → Lv b.ln s (nms b) F i (fun x z => (x, i) ∈ F ∧ (((x, z) ∈ b.ln.take j ∨ (z, x) ∈ b.ln.take j) ∨ (0 < w + 1 ∧ x = l.1 ∧ z = l.2) ∨ (1 < w + 1 ∧ x = l.2 ∧ z = l.1))) := fun k => inv3.mono fun a c h => by
            rcases h.2 with h2 | h2
            · exact .inl ⟨h.1, .inl h2⟩
            · rcases hn a c h2 with h3 | h3
              · exact .inl ⟨h.1, .inr h3⟩
              · rw [h3.2]; exact .inr (k (by rw [← h3.1]; exact h.1))
          by_cases c : (x, i) ∈ F
          rotate_left
          · -- not so far
            have done := skip fun h => absurd h c
            obtain ⟨o, ho, hs1, hs2⟩ : ∃ o : V, o = (valV (fk F) (Sum.inr x : Key)).getD (V.int (-1)) ∧ scal o (V.int ((1 + (i : Int)) - 1)) = true ∧ decide (o = V.int ((1 + (i : Int)) - 1)) = false := by
              by_cases c2 : ∃ e, (x, e) ∈ F
              · obtain ⟨e, he⟩ := c2
                refine ⟨.int (e : Nat), by rw [fk_some inv3.nd he]; rfl, rfl, decide_eq_false fun q' => c ?_⟩
                have : e = i := by have := V.int.inj q'; omega
                rw [← this]; exact he
              · refine ⟨.int (-1), by rw [fk_none fun e m => c2 ⟨e, m⟩]; rfl, rfl, decide_eq_false fun q' => ?_⟩
                have : (-1 : Int) = 1 + (i : Int) - 1 := V.int.inj q'
                omega
            refine ⟨_, rfl, p, rfl, .inl ⟨_, .inl h3⟩, _, rfl, _, rfl, t, _, _, _, rfl, rfl, hT3, ex, _, rfl, _, DGet.k (k := Sum.inr x) h3, _, rfl, _, _, rfl, rfl, ?_⟩
            have ho' : (valV (fk F) (Sum.inr x : Key)).getD ((fun i => V.int (-i)) 1) = o := ho.symm
            rw [ho']
            exact ⟨hs1, _, rfl, iN hs2 ⟨F, _, rfl, h3, m3, done⟩⟩
          have gx : DGet H3 p (V.str x) (some (V.int (i : Nat))) := by
            have := DGet.k (k := (Sum.inr x : Key)) h3
            rw [fk_some inv3.nd c] at this
            exact this
          refine ⟨_, rfl, p, rfl, .inl ⟨_, .inl h3⟩, _, rfl, _, rfl, t, _, _, _, rfl, rfl, hT3, ex, _, rfl, _, gx, _, rfl, _, _, rfl, rfl, rfl, _, rfl, iG (decide_eq_true (by show V.int _ = V.int _; congr 1; omega)) ?_⟩
          refine ⟨_, rfl, _, rfl, _, _, rfl, rfl, t, _, _, _, rfl, rfl, hT3, ez, _, rfl, p, _, rfl, DGet.k (k := Sum.inr z) h3, _, rfl, ?_⟩
          by_cases c2 : ∃ e, (z, e) ∈ F
          · obtain ⟨e, he⟩ := c2
            rw [fk_some inv3.nd he]
            exact iteF ⟨F, _, rfl, h3, m3, skip fun _ => ⟨e, he⟩⟩
          have hz' : ∀ d, (z, d) ∉ F := fun d m => c2 ⟨d, m⟩
          rw [fk_none hz']
          have inv4 := inv3.add (dn' := fun a c => (a, i) ∈ F ++ [(z, i + 1)] ∧ (((a, c) ∈ b.ln.take j ∨ (c, a) ∈ b.ln.take j) ∨ (0 < w + 1 ∧ a = l.1 ∧ c = l.2) ∨ (1 < w + 1 ∧ a = l.2 ∧ c = l.1))) ok.ln c hxz hz' fun a b h => by
            have ha : (a, i) ∈ F := (List.mem_append.mp h.1).elim id fun h => absurd (Prod.mk.inj (List.mem_singleton.mp h)).2 (by omega)
            rcases h.2 with h2 | h2
            · exact .inl ⟨ha, .inl h2⟩
            · rcases hn a b h2 with h3 | h3
              · exact .inl ⟨ha, .inr h3⟩
              · exact .inr h3.2
          have fl := inv4.len
          rw [List.length_append] at fl
          refine iteT ⟨_, rfl, _, rfl, _, rfl, _, rfl, _, _, rfl, rfl, t, _, _, _, rfl, rfl, hT3, ez, p, _, rfl, DPut.k (k := Sum.inr z) (v := V.int (1 + (i : Int))) h3 (by rw [fk_len]; exact small _ (by omega)), ?_⟩
          have ei : V.int (1 + (i : Int)) = V.int ((i + 1 : Nat) : Int) := by congr 1; omega
          rw [ei, fk_put hz']
          exact ⟨F ++ [(z, i + 1)], _, rfl, upd_same, sput m3 hp, inv4⟩
        · rintro σ H3 ⟨F, v5, rfl, h3, m3, inv3⟩
          refine ⟨F, _, _, rfl, h3, m3, inv3.mono fun x z h => .inl ⟨h.1, ?_⟩⟩
          have tk : b.ln.take (j + 1) = b.ln.take j ++ [l] := by rw [List.take_add_one, hl]; rfl
          rw [tk, List.mem_append, List.mem_append, List.mem_singleton, List.mem_singleton] at h
          rcases h.2 with (h | h) | (h | h)
          · exact .inl (.inl h)
          · exact .inr (.inl ⟨by decide, by rw [← h], by rw [← h]⟩)
          · exact .inl (.inr h)
          · exact .inr (.inr ⟨by decide, by rw [← h], by rw [← h]⟩)
      · rintro σ H2 ⟨F, v4, v5, rfl, h2, m2, inv2⟩
        rw [hw4.map_len, List.take_length] at inv2
        exact ⟨F, _, _, _, rfl, h2, m2, inv2.next fun x z hx e => ⟨hx, e⟩⟩
    · rintro σ H1 ⟨F, v3, v4, v5, rfl, h1, m1, inv⟩
      refine ⟨_, rfl, q p F H1 hp m1 h1 (inv.all hs ok.ln ?_)⟩
      omega
end

end Z
namespace Z
open PySem L2 SX
theorem ln_ok {ls : List (Str × Str)} (h : ∀ l ∈ ls, Low (tl l.1) ∧ Low (tl l.2)) : Okl (ls.map lnD) :=
  fines_ok (n := 1) (fines_map fun l m => fine_tup (fines_cons (fine_low fun c hc => by have := (h l m).1 c hc; omega) (fines_cons (fine_low fun c hc => by have := (h l m).2 c hc; omega) fines_nil)))
theorem pr_ok {x y : Str} (h : Low (tl x)) (k : Low (tl y)) : Okd (.tup [.str x, .str y]) :=
  fine_ok (n := 1) (fine_tup (fines_cons (fine_low fun c hc => by have := h c hc; omega) (fines_cons (fine_low fun c hc => by have := k c hc; omega) fines_nil)))
section
variable {P : Program} {w : World} {K : PySem.W.Frag} {mg : Str → Option Value} {base : Heap}
theorem ok__law_over_lines (D : Df K mg "_law_over_lines" s__law_over_lines ["book", "lines"]) (T : Tx mg)   : Cal P w K mg base "_law_over_lines" ["book", "lines"] 1 (sp53_over K) := by
  obtain ⟨f, fd, F, gf, bf⟩ := D
  refine ⟨f, fd, F.ok sc__law_over_lines (fun vs H Q E h => ?_) (fun cdv A outer s₀ H vs Q E hr h => ?_), gf, F.kp, bf⟩
  · obtain ⟨b, v, L, ws, ls, rfl, _⟩ := h; rfl
  · obtain ⟨b, v, L, ws, ls, rfl, hb, ok, hL, hws, ll, lA, q⟩ := h
    refine ⟨_, (pss_cons (ps_setLc (i := 2) (own := [("feed", 3)]) (g := gName 3) rfl sc__law_over_lines.nd rfl rfl (sw_true rfl rfl rfl (by decide +kernel)) (pi_tup (pe_ix ix_tup (pv 0) pe_int (fun _ _ => rfl))) (blkOk_by (own := [("feed", 3)]) (N := N__law_over_lines) (sc := defScope s__law_over_lines) (by decide +kernel)) (fun _ _ _ _ _ => pg_name (i := 3) sc__law_over_lines.nd rfl (Or.inl rfl)) (fun _ _ _ _ _ => pts_one (pt_cmpR (op_inDDQ (K := K) rfl (room65 hr)) (pe_tup (pa_cons (pe_callB (call_minS rfl) (by rfl) T.n_min (by decide +kernel) (pa_cons (pe_ix (ix_tupQ (K := K) rfl) (pv 3) pe_int (fun _ _ => rfl)) (pa_cons (pe_ix (ix_tupQ (K := K) rfl) (pv 3) pe_int (fun _ _ => rfl)) pa_nil))) (pa_cons (pe_callB (call_maxS rfl) (by rfl) T.n_max (by decide +kernel) (pa_cons (pe_ix (ix_tupQ (K := K) rfl) (pv 3) pe_int (fun _ _ => rfl)) (pa_cons (pe_ix (ix_tupQ (K := K) rfl) (pv 3) pe_int (fun _ _ => rfl)) pa_nil))) pa_nil))) (pv 1) (by rfl))) (fun _ _ _ _ _ => (pv 3)))
      (pss_one (ps_ret (pe_op (op_cat (K := K) rfl) (pe_op (op_cat (K := K) rfl) (pe_slice (sl_tupS (K := K) rfl) (pv 0) po_none (po_some pe_int)) (pe_tup (pa_cons (pe_callTy call_tuple_of (by rfl) T.n_tuple (by decide +kernel) (pa_cons (pv 1) pa_nil)) (pa_cons (pe_callTy call_tuple_of (by rfl) T.n_tuple (by decide +kernel) (pa_cons (pe_slice sl_list (pv 2) po_none (po_some pe_int)) pa_nil)) pa_nil)))) (pe_slice (sl_tupS (K := K) rfl) (pv 0) (po_some pe_int) po_none))))), ?_⟩
    have small : ∀ n : Nat, n ≤ 30000 → n ≤ sizeLine := fun n h => Nat.le_trans h (by decide)
    have small' : ∀ n : Nat, n ≤ 30000 → n < sizeLine := fun n h => Nat.lt_of_le_of_lt h (by decide)
    obtain ⟨ba, bus, rfl, hB, dB⟩ := hb
    obtain ⟨u0, r0, rfl, d0, dB⟩ := dB
    obtain ⟨u1, r1, rfl, d1, dB⟩ := dB
    obtain ⟨u2, r2, rfl, d2, dB⟩ := dB
    obtain ⟨u3, r3, rfl, d3, dB⟩ := dB
    obtain ⟨u4, r4, rfl, d4, dB⟩ := dB
    obtain ⟨u5, r5, rfl, d5, dB⟩ := dB
    obtain ⟨u6, r6, rfl, d6, dB⟩ := dB
    obtain ⟨u7, r7, rfl, d7, dB⟩ := dB
    unfold DVs at dB
    subst dB
    obtain ⟨c, fw, rfl, hC, hw⟩ := d5
    have fdl := ok.fd
    refine ⟨_, rfl, ba, _, 5, .ref c, rfl, rfl, hB, atI_nat (j := 5) rfl, c, rfl, ⟨_, hC⟩, fun M hM => ?_⟩
    have nM := same_new (o := HO.lst []) hM
    refine lc_tup (K := K) (a := c) (xs := fw) (fun i H' => ∃ (fs : List Fd) (vs' : List V), H' M = some (.lst vs') ∧ DVs K H' (fs.map fdD) vs' ∧ fs.length ≤ i ∧ (∀ f ∈ fs, f ∈ b.fd) ∧ Same H H') ⟨[], [], upd_same, dln, Nat.le_refl _, (fun _ h => by cases h), nM⟩ (fun i H' _ h => by obtain ⟨_, _, _, _, _, _, m⟩ := h; exact m.tup hC) ?_ ?_
    · rintro i u H1 hi ⟨fs, vs', h1, hd, hl, hA, m1⟩
      obtain ⟨fd', hf, dx⟩ := hw.map_get hi
      have il := (List.getElem?_eq_some_iff.mp hf).1
      have fm := List.mem_of_getElem? hf
      obtain ⟨t, tus, rfl, hT, dT⟩ := dx.tk (TK.same m1)
      obtain ⟨g0, g1⟩ : tus[1]? = some (.str fd'.g) ∧ tus[2]? = some (.str fd'.t) := by
        obtain ⟨_, _, rfl, d0, dT⟩ := dT
        obtain ⟨_, _, rfl, d1, dT⟩ := dT
        obtain ⟨_, _, rfl, d2, dT⟩ := dT
        unfold DV at d1 d2
        subst d1; subst d2
        exact ⟨rfl, rfl⟩
      have fn := ok.fn fd' fm
      have go : ∀ (x y : Str), Low (tl x) → Low (tl y) → ∀ (T : Addr), H1 T = none → ∃ (b' : Bool) (d : D) (a : Addr) (vs : List V) (ds : List D), DV K (upd H1 T (.tup [.str x, .str y])) d (.ref T) ∧ V.ref L = .ref a ∧ SqL K (upd H1 T (.tup [.str x, .str y])) a vs ∧ DVs K (upd H1 T (.tup [.str x, .str y])) ds vs ∧ Okd d ∧ Okl ds ∧ b' = ds.any fun z => eqD z d := fun x y hx hy T hT' => by
        have n := same_new (o := HO.tup [V.str x, V.str y]) hT'
        exact ⟨_, .tup [.str x, .str y], L, ws, ls.map lnD, ⟨T, _, rfl, SqT.of upd_same, dlc (dls _) (dlc (dls _) dln)⟩, rfl, (m1.trans n).seq hL, hws.tk (TK.same (m1.trans n)), pr_ok hx hy, ln_ok lA, rfl⟩
      have fin : ∀ (x y : Str) (T : Addr) (hT' : H1 T = none), ∃ acc, (upd H1 T (HO.tup [V.str x, V.str y])) M = some (.lst acc) ∧ acc.length < sizeLine ∧ ∃ (fs : List Fd) (vs' : List V), (upd (upd H1 T (HO.tup [V.str x, V.str y])) M (.lst (acc ++ [.ref t]))) M = some (.lst vs') ∧ DVs K (upd (upd H1 T (HO.tup [V.str x, V.str y])) M (.lst (acc ++ [.ref t]))) (fs.map fdD) vs' ∧ fs.length ≤ i + 1 ∧ (∀ f ∈ fs, f ∈ b.fd) ∧ Same H (upd (upd H1 T (HO.tup [V.str x, V.str y])) M (.lst (acc ++ [.ref t]))) := fun x y T hT' => by
        have n := same_new (o := HO.tup [V.str x, V.str y]) hT'
        have h2 := n _ _ h1
        have tk := (TK.same (K := K) n).trans (tk_put (o := HO.lst (vs' ++ [V.ref t])) h2)
        refine ⟨vs', h2, ?_, fs ++ [fd'], _, upd_same, DVs.snoc (hd.tk tk) (dx.tk ((TK.same m1).trans tk)), by rw [List.length_append]; show _ + 1 ≤ _; omega, fun f hf' => ?_, sput (m1.trans n) hM⟩
        · rw [hd.map_len]; exact small' _ (by omega)
        · rcases List.mem_append.mp hf' with e | e
          · exact hA f e
          · rw [List.mem_singleton.mp e]; exact fm
      refine ⟨rfl, _, rfl, t, _, 1, _, rfl, rfl, hT, atI_nat (j := 1) g0, _, rfl, t, _, 2, _, rfl, rfl, hT, atI_nat (j := 2) g1, fd'.g, fd'.t, rfl, ?_, ?_⟩ <;>
        refine ⟨_, rfl, t, _, 1, _, rfl, rfl, hT, atI_nat (j := 1) g0, _, rfl, t, _, 2, _, rfl, rfl, hT, atI_nat (j := 2) g1, fd'.g, fd'.t, rfl, ?_, ?_⟩ <;>
        refine ⟨by show 2 ≤ sizeLine; decide, fun T hT' => ⟨_, rfl, ?_⟩⟩ <;>
        first
          | (obtain ⟨b', d, a, vs, ds, k1, k2, k3, k4, k5, k6, k7⟩ := go fd'.g fd'.g fn.1 fn.1 T hT'; exact ⟨d, a, vs, ds, k1, k2, k3, k4, k5, k6, _, rfl, ite2 (fun cc => ⟨_, rfl, fin _ _ T hT'⟩) (fun cc => ⟨fs, vs', (same_new hT') _ _ h1, hd.tk (TK.same (same_new hT')), by omega, hA, m1.trans (same_new hT')⟩)⟩)
          | (obtain ⟨b', d, a, vs, ds, k1, k2, k3, k4, k5, k6, k7⟩ := go fd'.g fd'.t fn.1 fn.2 T hT'; exact ⟨d, a, vs, ds, k1, k2, k3, k4, k5, k6, _, rfl, ite2 (fun cc => ⟨_, rfl, fin _ _ T hT'⟩) (fun cc => ⟨fs, vs', (same_new hT') _ _ h1, hd.tk (TK.same (same_new hT')), by omega, hA, m1.trans (same_new hT')⟩)⟩)
          | (obtain ⟨b', d, a, vs, ds, k1, k2, k3, k4, k5, k6, k7⟩ := go fd'.t fd'.g fn.2 fn.1 T hT'; exact ⟨d, a, vs, ds, k1, k2, k3, k4, k5, k6, _, rfl, ite2 (fun cc => ⟨_, rfl, fin _ _ T hT'⟩) (fun cc => ⟨fs, vs', (same_new hT') _ _ h1, hd.tk (TK.same (same_new hT')), by omega, hA, m1.trans (same_new hT')⟩)⟩)
          | (obtain ⟨b', d, a, vs, ds, k1, k2, k3, k4, k5, k6, k7⟩ := go fd'.t fd'.t fn.2 fn.2 T hT'; exact ⟨d, a, vs, ds, k1, k2, k3, k4, k5, k6, _, rfl, ite2 (fun cc => ⟨_, rfl, fin _ _ T hT'⟩) (fun cc => ⟨fs, vs', (same_new hT') _ _ h1, hd.tk (TK.same (same_new hT')), by omega, hA, m1.trans (same_new hT')⟩)⟩)
    rintro H1 ⟨fs, vs', h1, hd, hl, hA, m1⟩
    rw [hw.map_len] at hl
    have vl := hd.map_len
    refine ⟨_, rfl, 4, rfl, ba, _, rfl, m1.tup hB, fun A1 H2 m2 hA1 => ?_⟩
    have m12 := m1.trans m2
    refine ⟨_, rfl, L, ws, rfl, .inl ⟨m12.seq hL, fun A2 hA2 => ?_⟩⟩
    have n2 := same_new (o := HO.tup ws) hA2
    have m13 := m12.trans n2
    refine ⟨_, rfl, 24, rfl, M, vs', rfl, SqL.of ((m2.trans n2) _ _ h1), fun A3 hA3 => ?_⟩
    have n3 := same_new (o := HO.lst (cutV vs' none (some 24))) hA3
    refine ⟨A3, _, rfl, .inl ⟨SqL.of upd_same, fun A4 hA4 => ?_⟩⟩
    have n4 := same_new (o := HO.tup (cutV vs' none (some 24))) hA4
    refine ⟨by show 2 ≤ sizeLine; decide, fun A5 hA5 => ?_⟩
    have n5 := same_new (o := HO.tup [V.ref A2, V.ref A4]) hA5
    have n35 := (n3.trans n4).trans n5
    have q2 := n35 _ _ (upd_same (a := A2) (o := HO.tup ws))
    have q4 := n5 _ _ (upd_same (a := A4) (o := HO.tup (cutV vs' none (some 24))))
    have ec : cutV vs' none (some 24) = vs'.take (24 : Int).toNat := cutV_to (by decide)
    rw [cutV_to (by decide)] at hA1
    refine ⟨A1, A5, _, _, rfl, rfl, (n2.trans n35).tup hA1, SqT.of upd_same, ?_, fun A6 H6 m6 hA6 => ?_⟩
    · rw [List.length_take]; exact small _ (by show min 4 _ + 2 ≤ _; omega)
    have m26 := (n2.trans n35).trans m6
    have m06 := m12.trans m26
    refine ⟨_, rfl, 6, rfl, ba, _, rfl, m06.tup hB, fun A7 H7 m7 hA7 => ?_⟩
    rw [cutV_from (by decide)] at hA7
    refine ⟨A6, A7, _, _, rfl, rfl, m7.tup hA6, hA7, by show 6 + 2 ≤ sizeLine; decide, fun A8 H8 m8 hA8 => ?_⟩
    have m68 := m7.trans m8
    have m08 := m06.trans m68
    have T08 := TK.same (K := K) m08
    have T18 : TK K H1 H8 := TK.same ((m2.trans m26).trans m68)
    obtain ⟨fm, dm, lm, km⟩ := DVs.pick hd (ys := cutV vs' none (some 24)) fun y hy => List.mem_of_mem_take (ec ▸ hy)
    refine q (.ref A8) fm H8 ⟨A8, _, rfl, hA8, dlc (d0.tk T08) (dlc (d1.tk T08) (dlc (d2.tk T08) (dlc (d3.tk T08) (dlc ⟨A2, _, rfl, m68.tup (m6.tup (SqT.of q2)), hws.tk T08⟩ (dlc ⟨A4, _, rfl, m68.tup (m6.tup (SqT.of q4)), dm.tk T18⟩ (dlc (d6.tk T08) (dlc (d7.tk T08) dln)))))))⟩ ?_ (fun f hf => hA f (km f hf)) m08
    rw [lm, ec, List.length_take]; show min 24 _ ≤ 100; omega
end

end Z
namespace Z
open PySem L2 SX
theorem nms_at {K : PySem.W.Frag} {H : Hp} {s : Si} {v : V} (h : DV K H (siD s) v) : ∃ a us, v = .ref a ∧ SqT K H a us ∧ us[1]? = some (V.str s.n) := by
  obtain ⟨a, us, rfl, hS, d⟩ := h
  obtain ⟨u0, r0, rfl, d0, d⟩ := d
  obtain ⟨u1, r1, rfl, d1, d⟩ := d
  unfold DV at d1
  subst d1
  exact ⟨a, _, rfl, hS, rfl⟩

end Z
namespace Z
open PySem L2 SX
section
variable {P : Program} {w : World} {K : PySem.W.Frag} {mg : Str → Option Value} {base : Heap}
theorem ok__law_book (D : Df K mg "_law_book" s__law_book ["source", "many", "words"]) (T : Tx mg)  (C__law_draw : Cal P w K mg base "_law_draw" ["source", "many"] 2 sp__law_draw) (C__law_feeds : Cal P w K mg base "_law_feeds" ["source", "lines", "words", "wide"] 7 (sp_feeds K)) (C__law_lines : Cal P w K mg base "_law_lines" ["source", "names"] 4 (sp53_lines K)) (C__law_names : Cal P w K mg base "_law_names" ["source", "many"] 4 (sp9__law_names K)) (C__law_sites : Cal P w K mg base "_law_sites" ["source", "names", "words", "window", "offsets"] 7 (sp_sites K)) : Cal P w K mg base "_law_book" ["source", "many", "words"] 8 (sp57_book K) := by
  obtain ⟨f__law_draw, fd__law_draw, G__law_draw, g__law_draw, k__law_draw, b__law_draw⟩ := C__law_draw
  obtain ⟨f__law_feeds, fd__law_feeds, G__law_feeds, g__law_feeds, k__law_feeds, b__law_feeds⟩ := C__law_feeds
  obtain ⟨f__law_lines, fd__law_lines, G__law_lines, g__law_lines, k__law_lines, b__law_lines⟩ := C__law_lines
  obtain ⟨f__law_names, fd__law_names, G__law_names, g__law_names, k__law_names, b__law_names⟩ := C__law_names
  obtain ⟨f__law_sites, fd__law_sites, G__law_sites, g__law_sites, k__law_sites, b__law_sites⟩ := C__law_sites
  obtain ⟨f, fd, F, gf, bf⟩ := D
  refine ⟨f, fd, F.ok sc__law_book (fun vs H Q E h => ?_) (fun cdv A outer s₀ H vs Q E hr h => ?_), gf, F.kp, bf⟩
  · obtain ⟨s, a, w, ws, m, c, rfl, _⟩ := h; rfl
  · obtain ⟨s, a, w, ws, m, c, rfl, m1, m9, hW, wns, hWds, hS, q⟩ := h
    refine ⟨_, (pss_cons (ps_set (i := 3) sc__law_book.nd rfl (Or.inl rfl) (pe_call G__law_names (hr.mono (by decide)) (by rfl) g__law_names k__law_names b__law_names .nil pass0 (pa_cons (pv 0) (pa_cons (pv 1) pa_nil))))
      (pss_cons (ps_set (i := 4) sc__law_book.nd rfl (Or.inl rfl) (pe_op op_add pe_int (pe_call G__law_draw (hr.mono (by decide)) (by rfl) g__law_draw k__law_draw b__law_draw .nil pass0 (pa_cons (pv 0) (pa_cons pe_int pa_nil)))))
      (pss_cons (ps_setLc (i := 5) (own := [("k", 11)]) (g := gName 11) (tt := tYes) rfl sc__law_book.nd rfl rfl (sw_true rfl rfl rfl (by decide +kernel)) (pi_range1 (by rfl) T.n_range (pa_cons (pv 1) pa_nil)) (blkOk_by (own := [("k", 11)]) (N := N__law_book) (sc := defScope s__law_book) (by decide +kernel)) (fun _ _ _ _ _ => pg_name (i := 11) sc__law_book.nd rfl (Or.inl rfl)) (fun _ _ _ _ _ => pts_nil) (fun _ _ _ _ _ => (pe_call G__law_draw (hr.mono (by decide)) (by rfl) g__law_draw k__law_draw b__law_draw .nil pass0 (pa_cons (pv 0) (pa_cons pe_int pa_nil)))))
      (pss_cons (ps_set (i := 6) sc__law_book.nd rfl (Or.inl rfl) (pe_op op_add pe_int (pe_call G__law_draw (hr.mono (by decide)) (by rfl) g__law_draw k__law_draw b__law_draw .nil pass0 (pa_cons (pv 0) (pa_cons pe_int pa_nil)))))
      (pss_cons (ps_set (i := 7) sc__law_book.nd rfl (Or.inl rfl) (pe_tup (pa_cons (pv 6) (pa_cons (pe_op op_add (pv 6) (pe_call G__law_draw (hr.mono (by decide)) (by rfl) g__law_draw k__law_draw b__law_draw .nil pass0 (pa_cons (pv 0) (pa_cons pe_int pa_nil)))) pa_nil))))
      (pss_cons (ps_set (i := 8) sc__law_book.nd rfl (Or.inl rfl) (pe_call G__law_lines (hr.mono (by decide)) (by rfl) g__law_lines k__law_lines b__law_lines .nil pass0 (pa_cons (pv 0) (pa_cons (pv 3) pa_nil))))
      (pss_cons (ps_set (i := 9) sc__law_book.nd rfl (Or.inl rfl) (pe_slice (sl_tupS (K := K) rfl) (pe_call G__law_feeds (hr.mono (by decide)) (by rfl) g__law_feeds k__law_feeds b__law_feeds .nil pass0 (pa_cons (pv 0) (pa_cons (pv 8) (pa_cons (pv 2) (pa_cons pe_int pa_nil))))) po_none (po_some pe_int)))
      (pss_cons (ps_set (i := 10) sc__law_book.nd rfl (Or.inl rfl) (pe_call G__law_sites (hr.mono (by decide)) (by rfl) g__law_sites k__law_sites b__law_sites .nil pass0 (pa_cons (pv 0) (pa_cons (pv 3) (pa_cons (pv 2) (pa_cons (pv 4) (pa_cons (pv 5) pa_nil)))))))
      (pss_one (ps_ret (pe_tup (pa_cons pe_str (pa_cons (pv 4) (pa_cons (pv 7) (pa_cons (pv 10) (pa_cons (pe_callTy call_tuple_of (by rfl) T.n_tuple (by decide +kernel) (pa_cons (pv 8) pa_nil)) (pa_cons (pv 9) (pa_cons (pe_tup pa_nil) (pa_cons (pe_tup pa_nil) pa_nil))))))))))))))))))), ?_⟩
    have small : ∀ n : Nat, n ≤ 30000 → n < sizeLine := fun n h => Nat.lt_of_le_of_lt h (by decide)
    refine ⟨_, rfl, _, rfl, s, a, m, c + 29900, rfl, m9, hS.mono (by omega), fun u us H1 hu hus ul uN x1 S1 => ?_⟩
    have us' : u ≠ s := hS.ne hu
    refine ⟨_, rfl, s, a, _, c + 29899, rfl, by decide, by decide, S1.mono (by omega), fun z H2 _ _ x2 S2 => ⟨_, _, rfl, rfl, ?_⟩⟩
    refine ⟨_, rfl, _, rfl, by omega, by omega, fun D hD => ?_⟩
    have Ds := S2.ne hD
    have Da := S2.nea hD
    refine lc_range (lo := 0) (n := ((m : Int)).toNat) (fun i H' => ∃ is : List Int, H' D = some (.lst (is.map V.int)) ∧ is.length = i ∧ Ext s H2 H' ∧ Src H' s a (c + (29899 - i))) ?_ ?_ ?_
    · exact ⟨[], upd_same, rfl, Ext.new hD, S2.new hD⟩
    · rintro i H' hi ⟨is, h1, hl, hE, hS'⟩
      refine ⟨rfl, _, rfl, s, a, _, c + (29899 - (i + 1)), rfl, by decide, by decide, hS'.mono (by omega), fun y H3 _ _ x3 S3 => ⟨_, x3 _ _ Ds h1, by rw [List.length_map]; exact small _ (by omega), is ++ [y], by rw [upd_same, List.map_append]; rfl, by rw [List.length_append, hl]; rfl, fun b o hb hh => ?_, S3.put Ds Da⟩⟩
      rw [upd_ne (ne_of_none hh hD)]; exact x3 _ _ hb (hE _ _ hb hh)
    rintro H3 ⟨is, h3, hl3, hE3, S3⟩
    have e3 := (x1.trans x2).trans hE3
    refine ⟨_, rfl, s, a, _, c + 29889, rfl, by decide, by decide, S3.mono (by omega), fun f1 H4 _ _ x4 S4 => ⟨_, _, rfl, rfl, ?_⟩⟩
    refine ⟨_, rfl, _, rfl, _, rfl, s, a, _, c + 29888, rfl, by decide, by decide, S4.mono (by omega), fun f2 H5 _ _ x5 S5 => ⟨_, _, rfl, rfl, by show 2 ≤ sizeLine; decide, fun W hW' => ?_⟩⟩
    have n5 := same_new (o := HO.tup [V.int (1 + f1), V.int (1 + f1 + f2)]) hW'
    have Ws := S5.ne hW'
    have e5 := ((e3.trans x4).trans x5).trans (Ext.of n5)
    have S5' := S5.ext n5
    have hW5 : (upd H5 W (HO.tup [V.int (1 + f1), V.int (1 + f1 + f2)])) W = some _ := upd_same
    have e15 : Ext s H1 (upd H5 W (HO.tup [V.int (1 + f1), V.int (1 + f1 + f2)])) := (((x2.trans hE3).trans x4).trans x5).trans (Ext.of n5)
    have e35 : Ext s H3 (upd H5 W (HO.tup [V.int (1 + f1), V.int (1 + f1 + f2)])) := (x4.trans x5).trans (Ext.of n5)
    generalize upd H5 W (HO.tup [V.int (1 + f1), V.int (1 + f1 + f2)]) = H6 at e5 S5' hW5 e15 e35 ⊢
    have hU6 := e15 _ _ us' hus
    refine ⟨_, rfl, _, rfl, s, a, u, us, c + 29700, rfl, SqL.of hU6, us', by omega, by omega, fun x hx => (uN.2 x hx).1.2, S5'.mono (by omega), fun L lws ls H7 hL0 hL dl ll lw x7 S7 => ?_⟩
    have Ls := S5'.ne hL0
    -- the feeds
    refine ⟨_, rfl, _, rfl, _, rfl, s, a, L, w, lws, ls, ws, 3, c + 9000, rfl, SqL.of hL, Ls, dl, ll, (fun l hl => ⟨(uN.2 _ (lw l hl).1).1.2, (uN.2 _ (lw l hl).2).1.2⟩), (e5.trans x7).seqL wns hW, wns, hWds, by decide, by decide, S7.mono (by omega), fun fu fs H8 df fl fw x8 S8 => ?_⟩
    obtain ⟨fa, fvs, rfl, hF, dF⟩ := df
    refine ⟨24, rfl, fa, fvs, rfl, hF, fun F1 H9 m9' hF1 => ?_⟩
    rw [cutV_to (by decide)] at hF1
    obtain ⟨fm, dm, lm, km⟩ := DVs.pick dF (ys := fvs.take (24 : Int).toNat) fun y hy => List.mem_of_mem_take hy
    have e9 := ((e5.trans x7).trans x8).trans (Ext.of m9')
    have S9 := S8.ext m9'
    have e69 : Ext s H6 H9 := (x7.trans x8).trans (Ext.of m9')
    have h39 := e35.trans e69
    have hU9 := e69 _ _ us' hU6
    -- the sites
    refine ⟨_, rfl, _, rfl, _, rfl, _, rfl, _, rfl, s, a, u, w, D, us, ws, 6 + z, is, c + 4000, rfl, SqL.of hU9, us', by omega, e9.seqL wns hW, wns, hWds, h39 _ _ Ds h3, Ds, by omega, S9.mono (by omega), fun su l H10 dsu en pl x10 S10 => ?_⟩
    obtain ⟨sa, svs, rfl, hSi, dSi⟩ := dsu
    have hL10 := ((x8.trans (Ext.of m9')).trans x10) _ _ Ls hL
    have T710 : TK K H7 H10 := (TK.ext x8 S7).trans ((TK.same m9').trans (TK.ext x10 S9))
    have T910 : TK K H9 H10 := TK.ext x10 S9
    have hW10 := (e69.trans x10) _ _ Ws hW5
    refine ⟨_, rfl, _, rfl, _, rfl, _, rfl, L, _, rfl, .inl ⟨SqL.of hL10, fun TL hTL => ?_⟩⟩
    have n1 := same_new (o := HO.tup lws) hTL
    refine ⟨_, rfl, Nat.zero_le _, fun E1 hE1 => ?_⟩
    have n2 := same_new (o := HO.tup []) hE1
    refine ⟨Nat.zero_le _, fun E2 hE2 => ?_⟩
    have n3 := same_new (o := HO.tup []) hE2
    refine ⟨by show 8 ≤ sizeLine; decide, fun B hB => ?_⟩
    have n4 := same_new (o := HO.tup [V.str (Str.ofString "book"), V.int (6 + z), V.ref W, V.ref sa, V.ref TL, V.ref F1, V.ref E1, V.ref E2]) hB
    have n14 := n1.trans (n2.trans (n3.trans n4))
    have q1 := (n2.trans (n3.trans n4)) _ _ (upd_same (a := TL) (o := HO.tup lws))
    have q2 := (n3.trans n4) _ _ (upd_same (a := E1) (o := HO.tup []))
    have q3 := n4 _ _ (upd_same (a := E2) (o := HO.tup []))
    have T10 := TK.same (K := K) n14
    have bl : l.length ≤ 9 := by
      have := congrArg List.length en
      rw [List.length_map] at this; omega
    have wl : lws.length = ls.length := dl.map_len
    refine q (.ref B) ⟨6 + z, 1 + f1, 1 + f1 + f2, l, ls, fm, [], []⟩ _ ⟨B, _, rfl, SqT.of upd_same, dlc (dls _) (dlc (dli _) (dlc ⟨W, _, rfl, T10 _ _ (SqT.of hW10), dlc (dli _) (dlc (dli _) dln)⟩ (dlc ⟨sa, svs, rfl, T10 _ _ hSi, dSi.tk T10⟩ (dlc ⟨TL, lws, rfl, SqT.of q1, (dl.tk T710).tk T10⟩ (dlc ⟨F1, _, rfl, T10 _ _ (T910 _ _ hF1), ((dm.tk (TK.same m9')).tk T910).tk T10⟩ (dlc ⟨E1, _, rfl, SqT.of q2, dln⟩ (dlc ⟨E2, _, rfl, SqT.of q3, dln⟩ dln)))))))⟩ ⟨?_, ?_, ?_, ?_⟩ ll rfl rfl ((e9.trans x10).trans (Ext.of n14)) ((S10.ext n14).mono (by omega))
    · have sb : ∀ x ∈ l, Low (tl x.n) ∧ (tl x.n).length ≤ 8 := fun x hx => by
        have : x.n ∈ us := by rw [← en]; exact List.mem_map_of_mem hx
        exact ⟨(uN.2 _ this).1.2, (uN.2 _ this).2⟩
      refine ⟨by show l.length ≤ 10; omega, by show ls.length ≤ 30; omega, ?_, Nat.zero_le _, fun x hx => ?_, (fun _ h => by cases h), sb, fun f hf => fw f (km f hf)⟩
      · show fm.length ≤ 100
        rw [lm, List.length_take]; show min 24 _ ≤ 100; omega
      · have := pl x hx; omega
    · show (l.map (·.n)).Nodup
      rw [en]; exact uN.1
    · intro e
      have e' : l = [] := e
      rw [e'] at en
      have : us.length = 0 := by rw [← en]; rfl
      omega
    · intro x hx
      have := lw x hx
      unfold nms
      show x.1 ∈ l.map (·.n) ∧ x.2 ∈ l.map (·.n)
      rw [en]; exact this
end
section
variable {P : Program} {w : World} {K : PySem.W.Frag} {mg : Str → Option Value} {base : Heap}
theorem ok__law_thinned (D : Df K mg "_law_thinned" s__law_thinned ["source", "book"]) (T : Tx mg)  (C__law_draw : Cal P w K mg base "_law_draw" ["source", "many"] 2 sp__law_draw) (C__law_over_lines : Cal P w K mg base "_law_over_lines" ["book", "lines"] 1 (sp53_over K)) : Cal P w K mg base "_law_thinned" ["source", "book"] 3 (sp57_change K) := by
  obtain ⟨f__law_draw, fd__law_draw, G__law_draw, g__law_draw, k__law_draw, b__law_draw⟩ := C__law_draw
  obtain ⟨f__law_over_lines, fd__law_over_lines, G__law_over_lines, g__law_over_lines, k__law_over_lines, b__law_over_lines⟩ := C__law_over_lines
  obtain ⟨f, fd, F, gf, bf⟩ := D
  refine ⟨f, fd, F.ok sc__law_thinned (fun vs H Q E h => ?_) (fun cdv A outer s₀ H vs Q E hr h => ?_), gf, F.kp, bf⟩
  · obtain ⟨s, a, b, v, c, rfl, _⟩ := h; rfl
  · obtain ⟨s, a, b, v, c, rfl, hb, ok, b29, hS, q⟩ := h
    refine ⟨_, (pss_cons (ps_set (i := 2) sc__law_thinned.nd rfl (Or.inr rfl) (pe_call G__law_draw (hr.mono (by decide)) (by rfl) g__law_draw k__law_draw b__law_draw .nil pass0 (pa_cons (pv 0) (pa_cons pe_int pa_nil))))
      (pss_one (ps_ret (pe_call G__law_over_lines (hr.mono (by decide)) (by rfl) g__law_over_lines k__law_over_lines b__law_over_lines .nil pass0 (pa_cons (pv 1) (pa_cons (pe_lc (own := [("pair", 3)]) (g := gName 3) rfl sc__law_thinned.nd (pi_tup (pe_ix ix_tup (pv 1) pe_int (fun _ _ => rfl))) (blkOk_by (own := [("pair", 3)]) (N := N__law_thinned) (sc := defScope s__law_thinned) (by decide +kernel)) (fun _ _ _ _ _ => pg_name (i := 3) sc__law_thinned.nd rfl (Or.inl rfl)) (fun _ _ _ _ _ => pts_one (PW.pt (pw_or (pt_cmpR op_eq (pv 2) pe_int (nomark _)) (pw_or1 (pt_cmpR op_gt (pe_call G__law_draw (hr.mono (by decide)) (by rfl) g__law_draw k__law_draw b__law_draw .nil pass0 (pa_cons (pv 0) (pa_cons (pe_op op_add pe_int (pv 2)) pa_nil))) pe_int (nomark _)))))) (fun _ _ _ _ _ => (pv 3))) pa_nil)))))), ?_⟩
    have small : ∀ n : Nat, n ≤ 30000 → n < sizeLine := fun n h => Nat.lt_of_le_of_lt h (by decide)
    refine ⟨_, rfl, s, a, _, c + 99, rfl, by decide, by decide, hS, fun wd H1 w0 w1 x1 S1 => ?_⟩
    have hb1 := hb.tk (TK.ext x1 hS)
    obtain ⟨ba, bus, c4, ws, rfl, hB, e4, hC, hw⟩ := DV.sub (i := 4) (es := b.ln.map lnD) hb1 rfl
    refine ⟨_, rfl, _, rfl, ba, bus, 4, .ref c4, rfl, rfl, hB, atI_nat (j := 4) e4, c4, rfl, ⟨_, hC⟩, fun M hM => ?_⟩
    have Ms := S1.ne hM
    have Ma := S1.nea hM
    refine lc_tup (K := K) (a := c4) (xs := ws) (fun i H' => ∃ (ls : List (Str × Str)) (vs' : List V), H' M = some (.lst vs') ∧ DVs K H' (ls.map lnD) vs' ∧ ls.length ≤ i ∧ (∀ l ∈ ls, l ∈ b.ln) ∧ Ext s H1 H' ∧ Src H' s a (c + (98 - i))) ⟨[], [], upd_same, dln, Nat.le_refl _, (fun _ h => by cases h), Ext.new hM, (S1.new hM).mono (by omega)⟩ (fun i H' _ h => by obtain ⟨_, _, _, _, _, _, e, _⟩ := h; exact TK.ext e S1 _ _ hC) ?_ ?_
    · rintro i u H2 hi ⟨ls, vs', h2, hd, hl, hA, e2, S2⟩
      obtain ⟨l, hl', dx⟩ := hw.map_get hi
      have il := (List.getElem?_eq_some_iff.mp hl').1
      have fin : ∀ (H3 : Hp), Ext s H2 H3 → Src H3 s a (c + (98 - (i + 1))) → ∃ acc, H3 M = some (.lst acc) ∧ acc.length < sizeLine ∧ ∃ (ls : List (Str × Str)) (vs' : List V), (upd H3 M (.lst (acc ++ [u]))) M = some (.lst vs') ∧ DVs K (upd H3 M (.lst (acc ++ [u]))) (ls.map lnD) vs' ∧ ls.length ≤ i + 1 ∧ (∀ l ∈ ls, l ∈ b.ln) ∧ Ext s H1 (upd H3 M (.lst (acc ++ [u]))) ∧ Src (upd H3 M (.lst (acc ++ [u]))) s a (c + (98 - (i + 1))) := fun H3 x3 S3 => by
        have h3 := x3 _ _ Ms h2
        have tk := (TK.ext (K := K) x3 S2).trans (tk_put (o := HO.lst (vs' ++ [u])) h3)
        refine ⟨vs', h3, by rw [hd.map_len]; exact small _ (by omega), ls ++ [l], _, upd_same, DVs.snoc (hd.tk tk) ((dx.tk (TK.ext e2 S1)).tk tk), by rw [List.length_append]; show _ + 1 ≤ _; omega, fun y hy => ?_, fun b' o hb' hh => ?_, S3.put Ms Ma⟩
        · rcases List.mem_append.mp hy with e | e
          · exact hA y e
          · rw [List.mem_singleton.mp e]; exact List.mem_of_getElem? hl'
        · rw [upd_ne (ne_of_none hh hM)]; exact x3 _ _ hb' (e2 _ _ hb' hh)
      refine ⟨rfl, _, rfl, rfl, _, rfl, ite2 (fun _ => iteT ⟨_, rfl, fin H2 (Ext.refl s H2) (S2.mono (by omega))⟩) (fun _ => ?_)⟩
      refine ⟨_, rfl, _, rfl, _, _, rfl, rfl, s, a, _, c + (98 - (i + 1)), rfl, by omega, by omega, S2.mono (by omega), fun v2 H3 _ _ x3 S3 => ⟨_, _, rfl, rfl, _, rfl, ite2 (fun _ => ⟨_, rfl, fin H3 x3 S3⟩) (fun _ => ⟨ls, vs', x3 _ _ Ms h2, hd.tk (TK.ext x3 S2), by omega, hA, e2.trans x3, S3⟩)⟩⟩
    rintro H2 ⟨ls, vs', h2, hd, hl, hA, e2, S2⟩
    rw [hw.map_len] at hl
    refine ⟨b, .ref ba, M, vs', ls, rfl, hb1.tk (TK.ext e2 S1), ok.ok, SqL.of h2, hd, by omega, fun l m => ?_, fun u fs H3 du fl fA m3 => ?_⟩
    · have h := ok.ln l (hA l m)
      unfold nms at h
      have lw : ∀ y ∈ b.si.map (·.n), Low (tl y) := fun y hy => by
        obtain ⟨si', hs', rfl⟩ := List.mem_map.mp hy
        exact (ok.ok.sn si' hs').1
      exact ⟨lw _ h.1, lw _ h.2⟩
    refine q u _ H3 du ⟨⟨ok.ok.si, by show ls.length ≤ 30; omega, fl, ok.ok.sw, ok.ok.sp, ok.ok.wp, ok.ok.sn, fun f hf => ok.ok.fn f (fA f hf)⟩, ok.nd, ok.ne, fun l m => ok.ln l (hA l m)⟩ ⟨rfl, rfl, rfl⟩ (by show ls.length ≤ b.ln.length + 1; omega) ((x1.trans e2).trans (Ext.of m3)) ((S2.ext m3).mono (by omega))
end

end Z
namespace Z
open PySem L2 SX
theorem dvs_strs {K : PySem.W.Frag} {H : Hp} : ∀ {w : List Str} {us : List V}, DVs K H (w.map D.str) us → us = w.map V.str
  | [], _, h => by unfold List.map DVs at h; exact h
  | x :: w, _, h => by
    obtain ⟨v, r, rfl, q, t⟩ := h
    unfold DV at q
    rw [q, dvs_strs t]; rfl
theorem si_at {K : PySem.W.Frag} {H : Hp} {s : Si} {v : V} (h : DV K H (siD s) v) : ∃ a us, v = .ref a ∧ SqT K H a us ∧ us[1]? = some (V.str s.n) ∧ us[5]? = some (V.str s.p) := by
  obtain ⟨a, us, rfl, hS, d⟩ := h
  obtain ⟨u0, r0, rfl, d0, d⟩ := d
  obtain ⟨u1, r1, rfl, d1, d⟩ := d
  obtain ⟨u2, r2, rfl, d2, d⟩ := d
  obtain ⟨u3, r3, rfl, d3, d⟩ := d
  obtain ⟨u4, r4, rfl, d4, d⟩ := d
  obtain ⟨u5, r5, rfl, d5, d⟩ := d
  unfold DV at d1 d5
  subst d1
  subst d5
  exact ⟨a, _, rfl, hS, rfl, rfl⟩
theorem li_at {K : PySem.W.Frag} {H : Hp} {x : Li} {v : V} (h : DV K H (liD x) v) : ∃ a us c3 w3, v = .ref a ∧ SqT K H a us ∧ us[1]? = some (V.str (at2 x.h)) ∧ (∃ u2, us[2]? = some u2 ∧ DV K H (optS x.d) u2) ∧ us[3]? = some (V.ref c3) ∧ SqT K H c3 w3 ∧ w3 = x.m.map fun a => V.str (at2 a) := by
  obtain ⟨a, us, rfl, hS, d⟩ := h
  obtain ⟨u0, r0, rfl, d0, d⟩ := d
  obtain ⟨u1, r1, rfl, d1, d⟩ := d
  obtain ⟨u2, r2, rfl, d2, d⟩ := d
  obtain ⟨u3, r3, rfl, d3, d⟩ := d
  unfold DV at d1
  subst d1
  obtain ⟨c3, w3, rfl, h3, e3⟩ := d3
  refine ⟨a, _, c3, w3, rfl, hS, rfl, ⟨u2, rfl, d2⟩, rfl, h3, ?_⟩
  have e : (x.m.map fun a => D.str (at2 a)) = (x.m.map at2).map D.str := by rw [List.map_map]; rfl
  rw [e] at e3
  rw [dvs_strs e3, List.map_map]; rfl
theorem at_str2 {K : PySem.W.Frag} {H : Hp} {p s : Str} {v : V} (h : DV K H (.tup [.str p, .str s]) v) : ∃ a, v = .ref a ∧ SqT K H a [.str p, .str s] := by
  obtain ⟨a, us, rfl, hS, d⟩ := h
  obtain ⟨u0, r0, rfl, d0, d⟩ := d
  obtain ⟨u1, r1, rfl, d1, d⟩ := d
  unfold DV at d0 d1
  unfold DVs at d
  subst d0; subst d1; subst d
  exact ⟨a, rfl, hS⟩
def mkL (M : List (Str × Str)) : List (Key × V) := M.map fun a => ((Sum.inr (at2 a) : Key), V.bl true)
theorem mk_get {M : List (Str × Str)} {a : Str × Str} (lo : ∀ x ∈ M, Low (tl x.1)) (la : Low (tl a.1)) : (valV (mkL M) (Sum.inr (at2 a) : Key)).isSome = decide (a ∈ M) := by
  rw [← valV_any, Bool.eq_iff_iff, List.any_eq_true, decide_eq_true_iff]
  constructor
  · rintro ⟨kv, m, e⟩
    obtain ⟨x, hx, rfl⟩ := List.mem_map.mp m
    have := at2_inj (lo x hx) la (Sum.inr.inj (of_decide_eq_true e))
    rw [← this]; exact hx
  · intro h
    exact ⟨_, List.mem_map_of_mem (f := fun a => ((Sum.inr (at2 a) : Key), V.bl true)) h, decide_eq_true rfl⟩
theorem mk_put {M : List (Str × Str)} {a : Str × Str} (lo : ∀ x ∈ M, Low (tl x.1)) (la : Low (tl a.1)) (no : a ∉ M) : putK (mkL M) (Sum.inr (at2 a) : Key) (V.bl true) = mkL (M ++ [a]) := by
  have h := mk_get lo la
  rw [decide_eq_false no] at h
  rw [putK_new _ (by cases e : valV (mkL M) (Sum.inr (at2 a) : Key) with
    | none => rfl
    | some x => rw [e] at h; cases h)]
  unfold mkL
  rw [List.map_append]; rfl
theorem Se.low {b : Bk} {ls : List Li} {h0 : Str × Str} {M F P : List (Str × Str)} {x : Option Li} {i : Nat} (nl : NetL b ls) (h : Se b ls h0 M F P x i) : ∀ a ∈ M, Low (tl a.1) := fun a m => by
  by_cases c : a ∈ ls.map (·.h)
  · obtain ⟨e, he, rfl⟩ := List.mem_map.mp c
    exact (nl.ho e he).p
  · obtain ⟨_, e, he, _, an⟩ := h.pe a m c
    exact (nl.me e he a (nearM_iff.mp an).1).p
theorem flat_len {ls : List Li} (h : ∀ x ∈ ls, x.m.length ≤ 20) : (ls.flatMap (·.m)).length ≤ 20 * ls.length := by
  induction ls with
  | nil => exact Nat.le_refl _
  | cons x l ih =>
    have h1 := h x (by simp)
    have h2 := ih fun y hy => h y (List.mem_cons_of_mem _ hy)
    rw [List.flatMap_cons, List.length_append, List.length_cons]; omega
theorem per_len {b : Bk} {ls : List Li} {h0 : Str × Str} {P : List (Str × Str)} (nl : NetL b ls) (nd : P.Nodup) (h : ∀ a ∈ P, Per b ls h0 a) : P.length ≤ 200 := by
  have := pair_len (l := P) (m := ls.flatMap (·.m)) nd fun a m => by
    obtain ⟨_, e, he, _, an⟩ := h a m
    exact List.mem_flatMap.mpr ⟨e, he, (nearM_iff.mp an).1⟩
  have := flat_len nl.ml
  have := nl.ln
  omega
theorem Se.per {b : Bk} {ls : List Li} {h0 : Str × Str} {M F P : List (Str × Str)} {x : Option Li} {i : Nat} (h : Se b ls h0 M F P x i) : ∀ a ∈ P, Per b ls h0 a := fun a m => by
  obtain ⟨h1, h2⟩ := (h.pm a).mp m
  exact h.pe a h1 h2
theorem vstrs (l : List (Str × Str)) : (l.map fun a => V.str (at2 a)) = (l.map at2).map V.str := by rw [List.map_map]; rfl
section
variable {P : Program} {w : World} {K : PySem.W.Frag} {mg : Str → Option Value} {base : Heap}
theorem ok_split_address (D : Df K mg "split_address" s_split_address ["address"]) (T : Tx mg)   : Cal P w K mg base "split_address" ["address"] 1 (sp57_split K) := by
  obtain ⟨f, fd, F, gf, bf⟩ := D
  refine ⟨f, fd, F.ok sc_split_address (fun vs H Q E h => ?_) (fun cdv A outer s₀ H vs Q E hr h => ?_), gf, F.kp, bf⟩
  · obtain ⟨p, s, rfl, _⟩ := h; rfl
  · obtain ⟨p, s, rfl, lp, l1, l2, q⟩ := h
    refine ⟨_, (pss_cons (ps_asg (pe_partition (pv 0) pe_str) (pg_tup rfl (pgs_cons (pg_name (i := 1) sc_split_address.nd rfl (Or.inl rfl)) (pgs_cons (pg_name (i := 2) sc_split_address.nd rfl (Or.inl rfl)) (pgs_cons (pg_name (i := 3) sc_split_address.nd rfl (Or.inl rfl)) pgs_nil)))))
      (pss_one (ps_ret (pe_tup (pa_cons (pv 1) (pa_cons (pv 3) pa_nil)))))), ?_⟩
    have small : ∀ n : Nat, n ≤ 30000 → n ≤ sizeLine := fun n h => Nat.le_trans h (by decide)
    have ln : (adr p s).length ≤ 3000 := by rw [tl_len, tl_adr, List.length_append, List.length_cons]; omega
    refine ⟨_, rfl, ⟨_, rfl⟩, adr p s, Str.ofString "@", rfl, rfl, rfl, small _ (by omega), fun t ht => ?_⟩
    rw [part_adr lp]
    refine ⟨t, _, rfl, SqT.of upd_same, rfl, _, _, rfl, _, _, rfl, _, _, rfl, rfl, ?_⟩
    refine ⟨_, rfl, _, rfl, by show 2 ≤ sizeLine; decide, fun B hB => ?_⟩
    exact q _ _ ((same_new ht).trans (same_new hB)) ⟨B, _, rfl, SqT.of upd_same, dlc (dls _) (dlc (dls _) dln)⟩
end
section
variable {P : Program} {w : World} {K : PySem.W.Frag} {mg : Str → Option Value} {base : Heap}
theorem ok_list_of (D : Df K mg "list_of" s_list_of ["book", "address"]) (T : Tx mg)   : Cal P w K mg base "list_of" ["book", "address"] 1 (sp57_list_of K) := by
  obtain ⟨f, fd, F, gf, bf⟩ := D
  refine ⟨f, fd, F.ok sc_list_of (fun vs H Q E h => ?_) (fun cdv A outer s₀ H vs Q E hr h => ?_), gf, F.kp, bf⟩
  · obtain ⟨b, ls, v, a, rfl, _⟩ := h; rfl
  · obtain ⟨b, ls, v, a, rfl, hb, nl, la, q⟩ := h
    refine ⟨_, (pss_cons (ps_for PassesOwn.never rfl (pi_tup (pe_ix ix_tup (pv 0) pe_int (fun _ _ => rfl))) (pg_name (i := 2) sc_list_of.nd rfl (Or.inl rfl))
      (pss_one (ps_if (pt_cmpR op_eq (pe_ix ix_tup (pv 2) pe_int (fun _ _ => rfl)) (pv 1) (nomark _))
        (pss_one (ps_ret (pv 2)))
        pss_nil)))
      (pss_one (ps_ret pe_non))), ?_⟩
    obtain ⟨ba, bus, c, ws, rfl, hB, e7, hC, hw⟩ := DV.sub (i := 7) (es := b.li) hb rfl
    rw [nl.li] at hw
    refine ⟨_, rfl, ba, bus, 7, .ref c, rfl, rfl, hB, atI_nat (j := 7) e7, c, rfl, ⟨_, hC⟩, ?_⟩
    refine for_tup (K := K) (a := c) (xs := ws) (fun i σ H' => (∃ v2 : Option V, σ = [some (.ref ba), some (.str (at2 a)), v2]) ∧ H' = H ∧ (ls.take i).find? (fun x => decide (x.h = a)) = none) ⟨⟨_, rfl⟩, rfl, rfl⟩ (fun i σ H' _ h => by rw [h.2.1]; exact hC) ?_ ?_
    · rintro i x σ H' hi ⟨⟨v2, rfl⟩, rfl, hN⟩
      obtain ⟨si, hsi, dx⟩ := hw.map_get hi
      obtain ⟨sa, sus, c3, w3, rfl, hS, e1, _⟩ := li_at dx
      refine ⟨_, rfl, sa, sus, 1, _, rfl, rfl, hS, atI_nat (j := 1) e1, _, rfl, rfl, _, rfl, ite2 (fun cc => ?_) (fun cc => ?_)⟩
      · have hf : liOf ls a = some si := find_hit hN hsi (decide_eq_true (at2_inj (nl.ho si (List.mem_of_getElem? hsi)).p la (str_eq cc)))
        exact ⟨_, rfl, q _ (by rw [hf]; exact dx)⟩
      · exact ⟨⟨_, rfl⟩, rfl, find_step hN hsi (decide_eq_false fun e => cc (decide_eq_true (by rw [e])))⟩
    · rintro σ H' ⟨⟨v2, rfl⟩, rfl, hN⟩
      rw [hw.map_len, List.take_length] at hN
      exact q _ (by rw [show liOf ls a = none from hN]; unfold optD DV; rfl)
end
section
variable {P : Program} {w : World} {K : PySem.W.Frag} {mg : Str → Option Value} {base : Heap}
theorem ok_near_members (D : Df K mg "near_members" s_near_members ["book", "entry"]) (T : Tx mg)  (C_distances : Cal P w K mg base "distances" ["book", "site"] 2 (sp53_distances K)) (C_split_address : Cal P w K mg base "split_address" ["address"] 1 (sp57_split K)) : Cal P w K mg base "near_members" ["book", "entry"] 3 (sp57_near K) := by
  obtain ⟨f_distances, fd_distances, G_distances, g_distances, k_distances, b_distances⟩ := C_distances
  obtain ⟨f_split_address, fd_split_address, G_split_address, g_split_address, k_split_address, b_split_address⟩ := C_split_address
  obtain ⟨f, fd, F, gf, bf⟩ := D
  refine ⟨f, fd, F.ok sc_near_members (fun vs H Q E h => ?_) (fun cdv A outer s₀ H vs Q E hr h => ?_), gf, F.kp, bf⟩
  · obtain ⟨b, ls, v, e, u, rfl, _⟩ := h; rfl
  · obtain ⟨b, ls, v, e, u, rfl, hb, nl, he, du, q⟩ := h
    refine ⟨_, (pss_cons (ps_set (i := 2) sc_near_members.nd rfl (Or.inr rfl) (pe_call G_distances (hr.mono (by decide)) (by rfl) g_distances k_distances b_distances .nil pass0 (pa_cons (pv 0) (pa_cons (pe_ix ix_tup (pe_call G_split_address (hr.mono (by decide)) (by rfl) g_split_address k_split_address b_split_address .nil pass0 (pa_cons (pe_ix ix_tup (pv 1) pe_int (fun _ _ => rfl)) pa_nil)) pe_int (fun _ _ => rfl)) pa_nil))))
      (pss_one (ps_ret (pe_lc (own := [("member", 3)]) (g := gName 3) rfl sc_near_members.nd (pi_tup (pe_ix ix_tup (pv 1) pe_int (fun _ _ => rfl))) (blkOk_by (own := [("member", 3)]) (N := N_near_members) (sc := defScope s_near_members) (by decide +kernel)) (fun _ _ _ _ _ => pg_name (i := 3) sc_near_members.nd rfl (Or.inl rfl)) (fun _ _ _ _ _ => pts_one (pt_cmp (pc_din (hu_of hr) (pe_ix (ix_tupQ (K := K) rfl) (pe_call G_split_address (hr.mono (by decide)) (by rfl) g_split_address k_split_address b_split_address .nil pass0 (pa_cons (pv 3) pa_nil)) pe_int (fun _ _ => rfl)) (pv 2)))) (fun _ _ _ _ _ => (pv 3)))))), ?_⟩
    have small : ∀ n : Nat, n ≤ 30000 → n < sizeLine := fun n h => Nat.lt_of_le_of_lt h (by decide)
    obtain ⟨ea, eus, c3, w3, rfl, hE, e1, _, e3, hC, rfl⟩ := li_at du
    have ho := nl.ho e he
    refine ⟨_, rfl, _, rfl, ea, eus, 1, _, rfl, rfl, hE, atI_nat (j := 1) e1, e.h.1, e.h.2, rfl, ho.p, by have := ho.l; omega, by have := ho.l; omega, fun sv H1 m1 dv => ?_⟩
    obtain ⟨sa, rfl, hS⟩ := at_str2 dv
    refine ⟨sa, _, 1, _, rfl, rfl, hS, atI_nat (j := 1) rfl, b, v, e.h.2, rfl, hb.tk (TK.same m1), nl.net, ho.i, fun p F H2 hp m2 h2 d => ?_⟩
    have m12 := m1.trans m2
    refine ⟨_, rfl, ea, eus, 3, .ref c3, rfl, rfl, m12.tup hE, atI_nat (j := 3) e3, c3, rfl, ⟨_, m12.tup hC⟩, fun M hM => ?_⟩
    have hM0 : H M = none := Same.free m12 hM
    have ml := nl.ml e he
    refine lc_tup (K := K) (a := c3) (xs := e.m.map fun a => V.str (at2 a)) (fun i H' => H' M = some (.lst (((e.m.take i).filter fun a => cB (Rr b.ln e.h.2 a.2)).map fun a => V.str (at2 a))) ∧ Same H2 H') ⟨upd_same, same_new hM⟩ (fun i H' _ h => (m12.trans h.2).tup hC) ?_ ?_
    · rintro i x H3 hi ⟨h3, m3⟩
      obtain ⟨a, ha, rfl⟩ := map_get hi
      have am := List.mem_of_getElem? ha
      have ao := nl.me e he a am
      have il := (List.getElem?_eq_some_iff.mp ha).1
      refine ⟨rfl, _, rfl, a.1, a.2, rfl, ao.p, by have := ao.l; omega, by have := ao.l; omega, fun sv H4 m4 dv => ?_⟩
      obtain ⟨sb, rfl, hSb⟩ := at_str2 dv
      refine ⟨sb, _, 1, _, rfl, rfl, hSb, atI_nat (j := 1) rfl, _, rfl, p, _, rfl, DGet.k (k := Sum.inr a.2) ((m3.trans m4) _ _ h2), ?_⟩
      by_cases c : Rr b.ln e.h.2 a.2
      · obtain ⟨x, hx, ex⟩ := List.mem_map.mp ((dist_rr d a.2).mpr c)
        rw [fk_some (d := x.2) d.1 (by rw [← ex]; exact hx)]
        refine ⟨_, rfl, iteT ⟨_, rfl, _, m4 _ _ h3, ?_, ?_, sput (m3.trans m4) hM⟩⟩
        · rw [List.length_map]
          have := List.length_filter_le (fun a : Str × Str => cB (Rr b.ln e.h.2 a.2)) (e.m.take i)
          rw [List.length_take] at this
          exact small _ (by omega)
        · rw [upd_same, filt_step2 ha, if_pos (cB_t c), List.map_append]; rfl
      · rw [fk_none fun d' m => c ((dist_rr d a.2).mp (List.mem_map_of_mem (f := (·.1)) m))]
        refine ⟨_, rfl, iteF ⟨?_, m3.trans m4⟩⟩
        rw [filt_step2 ha, if_neg (by rw [cB_f c]; exact Bool.false_ne_true), List.append_nil]
        exact m4 _ _ h3
    rintro H3 ⟨h3, m3⟩
    rw [List.length_map, List.take_length] at h3
    exact q M H3 hM0 (m12.trans m3) h3
end

end Z
namespace Z
open PySem L2 SX
theorem site57 {b : Bk} {s : Str} (h : s ∈ nms b) : ∃ y, y ∈ b.si ∧ siteOf b s = some y ∧ y.n = s := by
  unfold nms at h
  obtain ⟨y, hy, e⟩ := List.mem_map.mp h
  cases c : siteOf b s with
  | none =>
    unfold siteOf at c
    have := (List.find?_eq_none.mp c) y hy
    exact absurd (decide_eq_true e) this
  | some z =>
    have c' := c
    unfold siteOf at c'
    exact ⟨z, List.mem_of_find?_eq_some c', rfl, by have t := List.find?_some c'; exact of_decide_eq_true t⟩
noncomputable def gP (y : Si) (s : Str) (bs : List Str) (x : Li) : Bool := decide (x.h.2 = s) && match x.d with
  | none => false
  | some d => decide (d ∈ bs) && letsL (parts (tl y.p)) (tl d)
theorem gates_eq {b : Bk} {ls : List Li} {s : Str} {bs : List Str} {y : Si} (h : siteOf b s = some y) : gatesL b ls s bs = (ls.filter (gP y s bs)).map fun x => at2 x.h := by
  unfold gatesL gP
  rw [h] <;> refine congrArg _ (List.filter_congr fun x _ => ?_) <;> cases x.d <;> rfl
theorem gP_site {y : Si} {s : Str} {bs : List Str} {x : Li} (h : x.h.2 ≠ s) : gP y s bs x = false := by unfold gP; rw [decide_eq_false h]; rfl
theorem gP_none {y : Si} {s : Str} {bs : List Str} {x : Li} (h : x.d = none) : gP y s bs x = false := by unfold gP; rw [h]; exact Bool.and_false _
theorem gP_out {y : Si} {s d : Str} {bs : List Str} {x : Li} (h : x.d = some d) (k : d ∉ bs) : gP y s bs x = false := by unfold gP; rw [h]; simp [k]
theorem gP_in {y : Si} {s d : Str} {bs : List Str} {x : Li} (e : x.h.2 = s) (h : x.d = some d) (k : d ∈ bs) : gP y s bs x = letsL (parts (tl y.p)) (tl d) := by unfold gP; rw [h, decide_eq_true e]; simp [k]
theorem gP_and {y : Si} {s : Str} {bs : List Str} {ls : List Li} : (ls.filter fun x => decide (x.h.2 = s)).filter (gP y s bs) = ls.filter (gP y s bs) := by
  rw [List.filter_filter]
  refine List.filter_congr fun x _ => ?_
  by_cases c : x.h.2 = s
  · rw [decide_eq_true c, Bool.and_true]
  · rw [gP_site c]; rfl
theorem inV_non (xs : List Str) : inV .non (xs.map V.str) = false := by
  unfold inV
  rw [List.any_eq_false]
  intro x hx
  obtain ⟨y, _, rfl⟩ := List.mem_map.mp hx
  simp [eqV]
section
variable {P : Program} {w : World} {K : PySem.W.Frag} {mg : Str → Option Value} {base : Heap}
theorem ok__law_site (D : Df K mg "_law_site" s__law_site ["book", "name"]) (T : Tx mg)   : Cal P w K mg base "_law_site" ["book", "name"] 1 (sp_site_of K) := by
  obtain ⟨f, fd, F, gf, bf⟩ := D
  refine ⟨f, fd, F.ok sc__law_site (fun vs H Q E h => ?_) (fun cdv A outer s₀ H vs Q E hr h => ?_), gf, F.kp, bf⟩
  · obtain ⟨b, v, n, rfl, _⟩ := h; rfl
  · obtain ⟨b, v, n, rfl, hb, q⟩ := h
    refine ⟨_, (pss_cons (ps_for PassesOwn.never rfl (pi_tup (pe_ix ix_tup (pv 0) pe_int (fun _ _ => rfl))) (pg_name (i := 2) sc__law_site.nd rfl (Or.inl rfl))
      (pss_one (ps_if (pt_cmpR op_eq (pe_ix ix_tup (pv 2) pe_int (fun _ _ => rfl)) (pv 1) (nomark _))
        (pss_one (ps_ret (pv 2)))
        pss_nil)))
      (pss_one (ps_ret pe_non))), ?_⟩
    obtain ⟨ba, bus, c, ws, rfl, hB, e3, hC, hw⟩ := DV.sub (i := 3) (es := b.si.map siD) hb rfl
    refine ⟨_, rfl, ba, bus, 3, .ref c, rfl, rfl, hB, atI_nat (j := 3) e3, c, rfl, ⟨_, hC⟩, ?_⟩
    refine for_tup (K := K) (a := c) (xs := ws) (fun i σ H' => (∃ v2 : Option V, σ = [some (.ref ba), some (.str n), v2]) ∧ H' = H ∧ (b.si.take i).find? (fun s => decide (s.n = n)) = none) ⟨⟨_, rfl⟩, rfl, rfl⟩ (fun i σ H' _ h => by rw [h.2.1]; exact hC) ?_ ?_
    · rintro i x σ H' hi ⟨⟨v2, rfl⟩, rfl, hN⟩
      obtain ⟨si, hsi, dx⟩ := hw.map_get hi
      obtain ⟨sa, sus, rfl, hS, e1⟩ := DV.leafS (i := 1) (x := si.n) dx rfl
      refine ⟨_, rfl, sa, sus, 1, _, rfl, rfl, hS, atI_nat (j := 1) e1, _, rfl, rfl, _, rfl, ite2 (fun cc => ?_) (fun cc => ?_)⟩
      · have hf : siteOf b n = some si := find_hit hN hsi (decide_eq_true (str_eq cc))
        exact ⟨_, rfl, q _ (by rw [hf]; exact dx)⟩
      · exact ⟨⟨_, rfl⟩, rfl, find_step hN hsi (str_ne cc)⟩
    · rintro σ H' ⟨⟨v2, rfl⟩, rfl, hN⟩
      rw [hw.map_len, List.take_length] at hN
      exact q _ (by rw [show siteOf b n = none from hN]; unfold optD DV; rfl)
end
section
variable {P : Program} {w : World} {K : PySem.W.Frag} {mg : Str → Option Value} {base : Heap}
theorem ok_lists_for (D : Df K mg "lists_for" s_lists_for ["book", "site", "boards"]) (T : Tx mg)  (C_lets : Cal P w K mg base "lets" ["pattern", "board"] 5 (sp_lets K)) (C_site_of : Cal P w K mg base "site_of" ["book", "name"] 1 (sp_site_of K)) (C_split_address : Cal P w K mg base "split_address" ["address"] 1 (sp57_split K)) : Cal P w K mg base "lists_for" ["book", "site", "boards"] 6 (sp57_gates K) := by
  obtain ⟨f_lets, fd_lets, G_lets, g_lets, k_lets, b_lets⟩ := C_lets
  obtain ⟨f_site_of, fd_site_of, G_site_of, g_site_of, k_site_of, b_site_of⟩ := C_site_of
  obtain ⟨f_split_address, fd_split_address, G_split_address, g_split_address, k_split_address, b_split_address⟩ := C_split_address
  obtain ⟨f, fd, F, gf, bf⟩ := D
  refine ⟨f, fd, F.ok sc_lists_for (fun vs H Q E h => ?_) (fun cdv A outer s₀ H vs Q E hr h => ?_), gf, F.kp, bf⟩
  · obtain ⟨b, ls, v, s, a, bs, rfl, _⟩ := h; rfl
  · obtain ⟨b, ls, v, s, a, bs, rfl, hb, nl, hs, hA, bl, q⟩ := h
    refine ⟨_, (pss_cons (ps_set (i := 3) sc_lists_for.nd rfl (Or.inr rfl) (pe_ix ix_tup (pe_call G_site_of (hr.mono (by decide)) (by rfl) g_site_of k_site_of b_site_of .nil pass0 (pa_cons (pv 0) (pa_cons (pv 1) pa_nil))) pe_int (fun _ _ => rfl)))
      (pss_cons (ps_setLc (i := 4) (own := [("entry", 5)]) (g := gName 5) rfl sc_lists_for.nd rfl rfl (sw_true rfl rfl rfl (by decide +kernel)) (pi_tup (pe_ix ix_tup (pv 0) pe_int (fun _ _ => rfl))) (blkOk_by (own := [("entry", 5)]) (N := N_lists_for) (sc := defScope s_lists_for) (by decide +kernel)) (fun _ _ _ _ _ => pg_name (i := 5) sc_lists_for.nd rfl (Or.inl rfl)) (fun _ _ _ _ _ => pts_one (pt_cmpR op_eq (pe_ix (ix_tupQ (K := K) rfl) (pe_call G_split_address (hr.mono (by decide)) (by rfl) g_split_address k_split_address b_split_address .nil pass0 (pa_cons (pe_ix (ix_tupQ (K := K) rfl) (pv 5) pe_int (fun _ _ => rfl)) pa_nil)) pe_int (fun _ _ => rfl)) (pv 1) (nomark _))) (fun _ _ _ _ _ => (pv 5)))
      (pss_one (ps_ret (pe_callTy call_tuple_of (by rfl) T.n_tuple (by decide +kernel) (pa_cons (pe_lc (own := [("entry", 5)]) (g := gName 5) rfl sc_lists_for.nd (pi_list (pv 4)) (blkOk_by (own := [("entry", 5)]) (N := N_lists_for) (sc := defScope s_lists_for) (by decide +kernel)) (fun _ _ _ _ _ => pg_name (i := 5) sc_lists_for.nd rfl (Or.inl rfl)) (fun _ _ _ _ _ => pts_one (PW.pt (pw_and (pt_cmpR (in_seqQ (K := K) rfl) (pe_ix (ix_tupQ (K := K) rfl) (pv 5) pe_int (fun _ _ => rfl)) (pv 2) (by rfl)) (pw_and1 (pt_val (pe_call G_lets (hr.mono (by decide)) (by rfl) g_lets k_lets b_lets .nil pass0 (pa_cons (pv 3) (pa_cons (pe_ix (ix_tupQ (K := K) rfl) (pv 5) pe_int (fun _ _ => rfl)) pa_nil)))))))) (fun _ _ _ _ _ => (pe_ix (ix_tupQ (K := K) rfl) (pv 5) pe_int (fun _ _ => rfl)))) pa_nil)))))), ?_⟩
    have small : ∀ n : Nat, n ≤ 30000 → n < sizeLine := fun n h => Nat.lt_of_le_of_lt h (by decide)
    have lln := nl.ln
    obtain ⟨y, hy, ey, yn⟩ := site57 hs
    have yp := nl.net.ok.sp y hy
    refine ⟨_, rfl, _, rfl, b, v, s, rfl, hb, fun u du => ?_⟩
    rw [ey] at du
    obtain ⟨sa, sus, rfl, hS, _, e5⟩ := si_at (show DV K H (siD y) u from du)
    refine ⟨sa, sus, 5, _, rfl, rfl, hS, atI_nat (j := 5) e5, ?_⟩
    obtain ⟨ba, bus, c, ws, rfl, hB, e7, hC, hw⟩ := DV.sub (i := 7) (es := b.li) hb rfl
    rw [nl.li] at hw
    refine ⟨_, rfl, ba, bus, 7, .ref c, rfl, rfl, hB, atI_nat (j := 7) e7, c, rfl, ⟨_, hC⟩, fun M hM => ?_⟩
    refine lc_tup (K := K) (a := c) (xs := ws) (fun i H' => ∃ us, H' M = some (.lst us) ∧ DVs K H' (((ls.take i).filter fun x => decide (x.h.2 = s)).map liD) us ∧ Same H H') ⟨[], upd_same, dln, same_new hM⟩ (fun i H' _ h => by obtain ⟨_, _, _, m⟩ := h; exact m.tup hC) ?_ ?_
    · rintro i x H1 hi ⟨us, h1, d1, m1⟩
      obtain ⟨e, he, dx⟩ := hw.map_get hi
      have em := List.mem_of_getElem? he
      have il := (List.getElem?_eq_some_iff.mp he).1
      have ho := nl.ho e em
      obtain ⟨ea, eus, c3, w3, rfl, hE, e1, _⟩ := li_at (dx.tk (TK.same m1))
      refine ⟨rfl, _, rfl, ea, eus, 1, _, rfl, rfl, hE, atI_nat (j := 1) e1, e.h.1, e.h.2, rfl, ho.p, by have := ho.l; omega, by have := ho.l; omega, fun sv H2 m2 dv => ?_⟩
      obtain ⟨sb, rfl, hSb⟩ := at_str2 dv
      have fl := List.length_filter_le (fun x : Li => decide (x.h.2 = s)) (ls.take i)
      rw [List.length_take] at fl
      refine ⟨sb, _, 1, _, rfl, rfl, hSb, atI_nat (j := 1) rfl, _, rfl, rfl, _, rfl, ite2 (fun cc => ?_) (fun cc => ?_)⟩
      · have h2 := m2 _ _ h1
        have tk := (TK.same (K := K) m2).trans (tk_put (o := HO.lst (us ++ [V.ref ea])) h2)
        refine ⟨_, rfl, us, h2, by rw [d1.map_len]; exact small _ (by omega), us ++ [V.ref ea], upd_same, ?_, sput (m1.trans m2) hM⟩
        rw [filt_step2 he, if_pos (decide_eq_true (str_eq cc))]
        exact DVs.snoc (d1.tk tk) ((dx.tk (TK.same m1)).tk tk)
      · refine ⟨us, m2 _ _ h1, ?_, m1.trans m2⟩
        rw [filt_step2 he, if_neg (fun z => cc (decide_eq_true (by rw [of_decide_eq_true z]))), List.append_nil]
        exact d1.tk (TK.same m2)
    rintro H1 ⟨us, h1, d1, m1⟩
    rw [hw.map_len, List.take_length] at d1
    have fl := List.length_filter_le (fun x : Li => decide (x.h.2 = s)) ls
    generalize hfs : (ls.filter fun x => decide (x.h.2 = s)) = fs at d1 fl
    have fss : ∀ x ∈ fs, x ∈ ls ∧ x.h.2 = s := fun x hx => by
      rw [← hfs] at hx
      exact ⟨(List.mem_filter.mp hx).1, of_decide_eq_true (List.mem_filter.mp hx).2⟩
    have hA1 := m1.tup hA
    refine ⟨_, rfl, M, rfl, ⟨_, SqL.of h1⟩, fun N hN => ?_⟩
    refine lc_list (K := K) (a := M) (xs := us) (fun i H' => H' N = some (.lst (((fs.take i).filter (gP y s bs)).map fun x => V.str (at2 x.h))) ∧ Same H1 H') ⟨upd_same, same_new hN⟩ (fun i H' _ h => SqL.of (h.2 _ _ h1)) ?_ ?_
    · rintro i x H2 hi ⟨h2, m2⟩
      obtain ⟨e, he, dx⟩ := d1.map_get hi
      have em := List.mem_of_getElem? he
      have il := (List.getElem?_eq_some_iff.mp he).1
      obtain ⟨ea, eus, c3, w3, rfl, hE, e1, ⟨u2, e2, d2⟩, _⟩ := li_at (dx.tk (TK.same m2))
      have gl := List.length_filter_le (gP y s bs) (fs.take i)
      rw [List.length_take] at gl
      have no : gP y s bs e = false → ∀ H', Same H2 H' → H' N = some (.lst (((fs.take (i + 1)).filter (gP y s bs)).map fun x => V.str (at2 x.h))) ∧ Same H1 H' := fun g H' m => ⟨by rw [filt_step2 he, if_neg (by rw [g]; exact Bool.false_ne_true), List.append_nil]; exact m _ _ h2, m2.trans m⟩
      cases ed : e.d with
      | none =>
        rw [ed] at d2
        have d2 : u2 = .non := DV_non d2
        subst d2
        refine ⟨rfl, _, rfl, ea, eus, 2, _, rfl, rfl, hE, atI_nat (j := 2) e2, _, rfl, a, _, rfl, .inr (m2.tup hA1), rfl, flat_strs _, _, rfl, ?_⟩
        rw [show (if false = true then !inV V.non (bs.map V.str) else inV V.non (bs.map V.str)) = false by rw [if_neg Bool.false_ne_true, inV_non]]
        exact iteF (iteF (no (gP_none ed) H2 (Same.refl _)))
      | some d =>
        rw [ed] at d2
        have d2 : u2 = .str d := DV_str d2
        subst d2
        refine ⟨rfl, _, rfl, ea, eus, 2, _, rfl, rfl, hE, atI_nat (j := 2) e2, _, rfl, a, _, rfl, .inr (m2.tup hA1), rfl, flat_strs _, _, rfl, ?_⟩
        rw [show (if false = true then !inV (V.str d) (bs.map V.str) else inV (V.str d) (bs.map V.str)) = decide (d ∈ bs) by rw [if_neg Bool.false_ne_true, inV_strs]]
        by_cases db : d ∈ bs
        · refine iG (decide_eq_true db) ⟨_, rfl, _, rfl, ea, eus, 2, _, rfl, rfl, hE, atI_nat (j := 2) e2, y.p, d, rfl, yp, nl.bo e (fss e em).1 d ed, fun H3 m3 => ⟨_, rfl, ?_⟩⟩
          rw [← gP_in (y := y) (fss e em).2 ed db]
          by_cases g : gP y s bs e = true
          · refine iG g ⟨_, rfl, ea, eus, 1, _, rfl, rfl, m3.tup hE, atI_nat (j := 1) e1, _, m3 _ _ h2, by rw [List.length_map]; exact small _ (by omega), ?_, sput (m2.trans m3) hN⟩
            rw [upd_same, filt_step2 he, if_pos g, List.map_append]; rfl
          · exact iN (Bool.eq_false_iff.mpr g) (no (Bool.eq_false_iff.mpr g) H3 m3)
        · exact iN (decide_eq_false db) (iteF (no (gP_out ed db) H2 (Same.refl _)))
    rintro H2 ⟨h2, m2⟩
    rw [d1.map_len, List.take_length] at h2
    refine ⟨N, _, rfl, .inl ⟨SqL.of h2, fun T hT => ?_⟩⟩
    refine q _ _ ((m1.trans m2).trans (same_new hT)) ?_
    rw [gates_eq ey, ← gP_and (ls := ls), hfs]
    have en : ((fs.filter (gP y s bs)).map fun x => V.str (at2 x.h)) = ((fs.filter (gP y s bs)).map fun x => at2 x.h).map V.str := by rw [List.map_map]; rfl
    rw [en]
    exact ⟨T, _, rfl, SqT.of upd_same, DVs.strs _⟩
end
section
variable {P : Program} {w : World} {K : PySem.W.Frag} {mg : Str → Option Value} {base : Heap}
theorem ok__law_gates_due (D : Df K mg "_law_gates_due" s__law_gates_due ["book", "name", "boards"]) (T : Tx mg)  (C__law_lets : Cal P w K mg base "_law_lets" ["pattern", "board"] 2 (sp__law_lets K)) (C__law_site : Cal P w K mg base "_law_site" ["book", "name"] 1 (sp_site_of K)) : Cal P w K mg base "_law_gates_due" ["book", "name", "boards"] 6 (sp57_gates K) := by
  obtain ⟨f__law_lets, fd__law_lets, G__law_lets, g__law_lets, k__law_lets, b__law_lets⟩ := C__law_lets
  obtain ⟨f__law_site, fd__law_site, G__law_site, g__law_site, k__law_site, b__law_site⟩ := C__law_site
  obtain ⟨f, fd, F, gf, bf⟩ := D
  refine ⟨f, fd, F.ok sc__law_gates_due (fun vs H Q E h => ?_) (fun cdv A outer s₀ H vs Q E hr h => ?_), gf, F.kp, bf⟩
  · obtain ⟨b, ls, v, s, a, bs, rfl, _⟩ := h; rfl
  · obtain ⟨b, ls, v, s, a, bs, rfl, hb, nl, hs, hA, bl, q⟩ := h
    refine ⟨_, (pss_cons (ps_set (i := 3) sc__law_gates_due.nd rfl (Or.inl rfl) (pe_ix ix_tup (pe_call G__law_site (hr.mono (by decide)) (by rfl) g__law_site k__law_site b__law_site .nil pass0 (pa_cons (pv 0) (pa_cons (pv 1) pa_nil))) pe_int (fun _ _ => rfl)))
      (pss_cons (ps_set (i := 4) sc__law_gates_due.nd rfl (Or.inl rfl) (pe_lst pa_nil))
      (pss_cons (ps_for PassesOwn.never rfl (pi_tup (pe_ix ix_tup (pv 0) pe_int (fun _ _ => rfl))) (pg_name (i := 5) sc__law_gates_due.nd rfl (Or.inl rfl))
      (pss_one (ps_if (PW.pt (pw_and (pt_cmpR op_eq (pe_ix ix_list (pe_split (pe_ix ix_tup (pv 5) pe_int (fun _ _ => rfl)) pe_str) pe_int (fun _ _ => rfl)) (pv 1) (nomark _)) (pw_and (pt_cmpR op_in_seq (pe_ix ix_tup (pv 5) pe_int (fun _ _ => rfl)) (pv 2) (by rfl)) (pw_and1 (pt_val (pe_call G__law_lets (hr.mono (by decide)) (by rfl) g__law_lets k__law_lets b__law_lets .nil pass0 (pa_cons (pv 3) (pa_cons (pe_ix ix_tup (pv 5) pe_int (fun _ _ => rfl)) pa_nil))))))))
        (pss_one (ps_expr (pe_bm PySem.F.plainAttrs_list PySem.F.slot_list_append PySem.F.type_list_append mt_append (pv 4) (pa_cons (pe_ix ix_tup (pv 5) pe_int (fun _ _ => rfl)) pa_nil))))
        pss_nil)))
      (pss_one (ps_ret (pe_callTy call_tuple_of (by rfl) T.n_tuple (by decide +kernel) (pa_cons (pv 4) pa_nil))))))), ?_⟩
    have small : ∀ n : Nat, n ≤ 30000 → n < sizeLine := fun n h => Nat.lt_of_le_of_lt h (by decide)
    have lln := nl.ln
    obtain ⟨y, hy, ey, yn⟩ := site57 hs
    have yp := nl.net.ok.sp y hy
    refine ⟨_, rfl, _, rfl, b, v, s, rfl, hb, fun u du => ?_⟩
    rw [ey] at du
    obtain ⟨sa, sus, rfl, hS, _, e5⟩ := si_at (show DV K H (siD y) u from du)
    refine ⟨sa, sus, 5, _, rfl, rfl, hS, atI_nat (j := 5) e5, ?_⟩
    obtain ⟨ba, bus, c, ws, rfl, hB, e7, hC, hw⟩ := DV.sub (i := 7) (es := b.li) hb rfl
    rw [nl.li] at hw
    refine ⟨Nat.zero_le _, fun N hN => ?_⟩
    have n0 := same_new (o := HO.lst []) hN
    refine ⟨_, rfl, ba, bus, 7, .ref c, rfl, rfl, n0.tup hB, atI_nat (j := 7) e7, c, rfl, ⟨_, n0.tup hC⟩, ?_⟩
    refine for_tup (K := K) (a := c) (xs := ws) (fun i σ H' => (∃ v5 : Option V, σ = [some (.ref ba), some (.str s), some (.ref a), some (.str y.p), some (.ref N), v5]) ∧ H' N = some (.lst (((ls.take i).filter (gP y s bs)).map fun x => V.str (at2 x.h))) ∧ Same H H') ⟨⟨_, rfl⟩, upd_same, n0⟩ (fun i σ H' _ h => h.2.2.tup hC) ?_ ?_
    · rintro i x σ H2 hi ⟨⟨v5, rfl⟩, h2, m2⟩
      obtain ⟨e, he, dx⟩ := hw.map_get hi
      have em := List.mem_of_getElem? he
      have il := (List.getElem?_eq_some_iff.mp he).1
      have ho := nl.ho e em
      obtain ⟨ea, eus, c3, w3, rfl, hE, e1, ⟨u2, e2, d2⟩, _⟩ := li_at (dx.tk (TK.same m2))
      have gl := List.length_filter_le (gP y s bs) (ls.take i)
      rw [List.length_take] at gl
      have no : gP y s bs e = false → ∀ H', Same H2 H' → (∃ v5 : Option V, [some (.ref ba), some (.str s), some (.ref a), some (.str y.p), some (.ref N), some (V.ref ea)] = [some (.ref ba), some (.str s), some (.ref a), some (.str y.p), some (.ref N), v5]) ∧ H' N = some (.lst (((ls.take (i + 1)).filter (gP y s bs)).map fun x => V.str (at2 x.h))) ∧ Same H H' := fun g H' m => ⟨⟨_, rfl⟩, by rw [filt_step2 he, if_neg (by rw [g]; exact Bool.false_ne_true), List.append_nil]; exact m _ _ h2, m2.trans m⟩
      have ln : (at2 e.h).length + 2 ≤ 30000 := by
        have := ho.l
        unfold at2
        rw [tl_len, tl_adr, List.length_append, List.length_cons]; omega
      refine ⟨_, rfl, ea, eus, 1, _, rfl, rfl, hE, atI_nat (j := 1) e1, ⟨_, rfl⟩, at2 e.h, Str.ofString "@", rfl, rfl, rfl, Nat.le_trans ln (by decide), fun B hB2 => ?_⟩
      rw [show Txt.split (at2 e.h) (Str.ofString "@") = [e.h.1, e.h.2] from split_adr ho.p ho.s]
      have n3 := same_new (o := HO.lst ([e.h.1, e.h.2].map V.str)) hB2
      refine ⟨B, _, 1, _, rfl, rfl, SqL.of upd_same, atI_nat (j := 1) rfl, _, rfl, rfl, _, rfl, ?_⟩
      by_cases cs : e.h.2 = s
      rotate_left
      · exact iN (decide_eq_false fun h => cs (V.str.inj h)) (iteF (no (gP_site cs) _ n3))
      refine iG (decide_eq_true (by rw [cs])) ?_
      have hE3 := n3.tup hE
      cases ed : e.d with
      | none =>
        rw [ed] at d2
        have d2 : u2 = .non := DV_non d2
        subst d2
        refine ⟨_, rfl, ea, eus, 2, _, rfl, rfl, hE3, atI_nat (j := 2) e2, _, rfl, a, _, rfl, .inr (n3.tup (m2.tup hA)), rfl, flat_strs _, _, rfl, ?_⟩
        rw [show (if false = true then !inV V.non (bs.map V.str) else inV V.non (bs.map V.str)) = false by rw [if_neg Bool.false_ne_true, inV_non]]
        exact iteF (iteF (no (gP_none ed) _ n3))
      | some d =>
        rw [ed] at d2
        have d2 : u2 = .str d := DV_str d2
        subst d2
        refine ⟨_, rfl, ea, eus, 2, _, rfl, rfl, hE3, atI_nat (j := 2) e2, _, rfl, a, _, rfl, .inr (n3.tup (m2.tup hA)), rfl, flat_strs _, _, rfl, ?_⟩
        rw [show (if false = true then !inV (V.str d) (bs.map V.str) else inV (V.str d) (bs.map V.str)) = decide (d ∈ bs) by rw [if_neg Bool.false_ne_true, inV_strs]]
        by_cases db : d ∈ bs
        · refine iG (decide_eq_true db) ⟨_, rfl, _, rfl, ea, eus, 2, _, rfl, rfl, hE3, atI_nat (j := 2) e2, y.p, d, rfl, yp, nl.bo e em d ed, fun H4 m4 => ⟨_, rfl, ?_⟩⟩
          rw [← gP_in (y := y) cs ed db]
          by_cases g : gP y s bs e = true
          · refine iG g ⟨_, rfl, .inl ⟨rfl, _, SqL.of (m4 _ _ (n3 _ _ h2))⟩, _, rfl, ea, eus, 1, _, rfl, rfl, m4.tup hE3, atI_nat (j := 1) e1, N, _, _, rfl, rfl, m4 _ _ (n3 _ _ h2), by rw [List.length_map]; exact small _ (by omega), ⟨_, rfl⟩, ?_, sput (m2.trans (n3.trans m4)) hN⟩
            rw [upd_same, filt_step2 he, if_pos g, List.map_append]; rfl
          · exact iN (Bool.eq_false_iff.mpr g) (no (Bool.eq_false_iff.mpr g) H4 (n3.trans m4))
        · exact iN (decide_eq_false db) (iteF (no (gP_out ed db) _ n3))
    rintro σ H2 ⟨⟨v5, rfl⟩, h2, m2⟩
    rw [hw.map_len, List.take_length] at h2
    refine ⟨_, rfl, N, _, rfl, .inl ⟨SqL.of h2, fun T hT => ?_⟩⟩
    refine q _ _ (m2.trans (same_new hT)) ?_
    rw [gates_eq ey]
    have en : ((ls.filter (gP y s bs)).map fun x => V.str (at2 x.h)) = ((ls.filter (gP y s bs)).map fun x => at2 x.h).map V.str := by rw [List.map_map]; rfl
    rw [en]
    exact ⟨T, _, rfl, SqT.of upd_same, DVs.strs _⟩
end
section
variable {P : Program} {w : World} {K : PySem.W.Frag} {mg : Str → Option Value} {base : Heap}
theorem ok__law_spreads (D : Df K mg "_law_spreads" s__law_spreads ["book"]) (T : Tx mg)  (C__law_spread : Cal P w K mg base "_law_spread" ["book", "start"] 1 (sp53_spread K)) : Cal P w K mg base "_law_spreads" ["book"] 3 (sp57_spreads K) := by
  obtain ⟨f__law_spread, fd__law_spread, G__law_spread, g__law_spread, k__law_spread, b__law_spread⟩ := C__law_spread
  obtain ⟨f, fd, F, gf, bf⟩ := D
  refine ⟨f, fd, F.ok sc__law_spreads (fun vs H Q E h => ?_) (fun cdv A outer s₀ H vs Q E hr h => ?_), gf, F.kp, bf⟩
  · obtain ⟨b, v, s, a, c, rfl, _⟩ := h; rfl
  · obtain ⟨b, v, s, a, c, rfl, hb, nb, hS, q⟩ := h
    refine ⟨_, (pss_cons (ps_set (i := 1) sc__law_spreads.nd rfl (Or.inl rfl) pe_dnewK)
      (pss_cons (ps_for PassesOwn.never rfl (pi_tup (pe_ix ix_tup (pv 0) pe_int (fun _ _ => rfl))) (pg_name (i := 2) sc__law_spreads.nd rfl (Or.inl rfl))
      (pss_one (ps_dput (hu_of hr) (pv 1) (pe_ix ix_tup (pv 2) pe_int (fun _ _ => rfl)) (pe_call G__law_spread (hr.mono (by decide)) (by rfl) g__law_spread k__law_spread b__law_spread .nil pass0 (pa_cons (pv 0) (pa_cons (pe_ix ix_tup (pv 2) pe_int (fun _ _ => rfl)) pa_nil))) rfl)))
      (pss_one (ps_ret (pv 1))))), ?_⟩
    have small : ∀ n : Nat, n ≤ 30000 → n < sizeLine := fun n h => Nat.lt_of_le_of_lt h (by decide)
    have sl := nb.ok.si
    obtain ⟨ba, bus, c3, ws, rfl, hB, e3, hC, hw⟩ := DV.sub (i := 3) (es := b.si.map siD) hb rfl
    refine fun p hp => ?_
    have ps : p ≠ s := hS.ne hp
    have m0 := same_new (o := HO.dK []) hp
    refine ⟨_, rfl, ba, bus, 3, .ref c3, rfl, rfl, m0.tup hB, atI_nat (j := 3) e3, c3, rfl, ⟨_, m0.tup hC⟩, ?_⟩
    refine for_tup (K := K) (a := c3) (xs := ws) (fun i σ H' => ∃ (v2 : Option V) (kvs : List (Key × V)), σ = [some (.ref ba), some (.ref p), v2] ∧ H' p = some (.dK kvs) ∧ kvs.length ≤ i ∧ Same H H' ∧ ∀ y ∈ (nms b).take i, ∃ (a : Addr) (F : List (Str × Nat)), valV kvs (Sum.inr y : Key) = some (.ref a) ∧ a ≠ s ∧ a ≠ p ∧ H' a = some (.dK (fk F)) ∧ DistOk b.ln y F) ⟨_, [], rfl, upd_same, Nat.le_refl _, m0, (fun y m => by rw [List.take_zero] at m; cases m)⟩ (fun i σ H' _ h => by obtain ⟨_, _, _, _, _, m, _⟩ := h; exact m.tup hC) ?_ ?_
    · rintro i x σ H1 hi ⟨v2, kvs, rfl, h1, kl, m1, al⟩
      obtain ⟨y, hy, dx⟩ := hw.map_get hi
      have il := (List.getElem?_eq_some_iff.mp hy).1
      have ym := List.mem_of_getElem? hy
      have en : (nms b)[i]? = some y.n := by unfold nms; rw [List.getElem?_map, hy]; rfl
      have yn : y.n ∈ nms b := List.mem_of_getElem? en
      obtain ⟨ya, yus, rfl, hY, e1, _⟩ := si_at (dx.tk (TK.same m1))
      refine ⟨_, rfl, _, rfl, ya, yus, 1, _, rfl, rfl, hY, atI_nat (j := 1) e1, b, .ref ba, y.n, rfl, hb.tk (TK.same m1), nb, yn, fun r F H2 hr2 m2 h2 d => ?_⟩
      have rp : p ≠ r := ne_of_none h1 hr2
      have rs : r ≠ s := (hS.ext m1).ne hr2
      refine ⟨_, rfl, _, rfl, ya, yus, 1, _, rfl, rfl, m2.tup hY, atI_nat (j := 1) e1, p, _, rfl, DPut.k (k := Sum.inr y.n) (v := V.ref r) (m2 _ _ h1) (small _ (by omega)), ?_⟩
      have lp := length_putK kvs (Sum.inr y.n : Key) (V.ref r)
      refine ⟨_, _, rfl, upd_same, by omega, sput (m1.trans m2) hp, fun z hz => ?_⟩
      rw [List.take_add_one, en] at hz
      by_cases c : z = y.n
      · subst c
        exact ⟨r, F, by rw [valV_put, if_pos rfl], rs, rp.symm, by rw [upd_ne rp.symm]; exact h2, d⟩
      · rcases List.mem_append.mp hz with k | k
        · obtain ⟨r', F', k1, k2, k5, k3, k4⟩ := al z k
          exact ⟨r', F', by rw [valV_put, if_neg (fun e => c (Sum.inr.inj e))]; exact k1, k2, k5, by rw [upd_ne k5]; exact m2 _ _ k3, k4⟩
        · exact absurd (List.mem_singleton.mp k) c
    rintro σ H1 ⟨v2, kvs, rfl, h1, _, m1, al⟩
    refine ⟨_, rfl, q p H1 m1 ⟨ps, kvs, h1, fun y hy => ?_⟩⟩
    have wl : ws.length = (nms b).length := by rw [hw.map_len]; unfold nms; rw [List.length_map]
    obtain ⟨r, F, k1, k2, _, k3, k4⟩ := al y (by rw [wl, List.take_length]; exact hy)
    exact ⟨r, F, k1, k2, k3, k4⟩
end

end Z
namespace Z
open PySem L2 SX
theorem spl_at2 {a : Str × Str} (h : Low (tl a.1)) (k : Low (tl a.2)) : Txt.split (at2 a) (Str.ofString "@") = [a.1, a.2] := split_adr h k
theorem len_at2 {ns : List Str} {a : Str × Str} (h : AOk ns a) : (at2 a).length + 2 ≤ 30000 := by
  have := h.l
  unfold at2
  rw [tl_len, tl_adr, List.length_append, List.length_cons]; omega
theorem inV_at {M : List (Str × Str)} {a : Str × Str} (lo : ∀ x ∈ M, Low (tl x.1)) (la : Low (tl a.1)) : inV (V.str (at2 a)) (M.map fun a => V.str (at2 a)) = decide (a ∈ M) := by
  rw [vstrs, inV_strs, Bool.eq_iff_iff, decide_eq_true_iff, decide_eq_true_iff]
  constructor
  · intro h
    obtain ⟨x, hx, e⟩ := List.mem_map.mp h
    rw [← at2_inj (lo x hx) la e]; exact hx
  · exact fun h => List.mem_map_of_mem (f := at2) h
theorem flat_ats (M : List (Str × Str)) : (M.map fun a => V.str (at2 a)).all flatV = true := by rw [vstrs]; exact flat_strs _

end Z
namespace Z
open PySem L2 SX
def Sm (l : List Nat) : Prop := ∀ c ∈ l, c < 1000
theorem Low.sm {l : List Nat} (h : Low l) : Sm l := fun c m => by have := h c m; omega
theorem Bdc.sm {l : List Nat} (h : Bdc l) : Sm l := fun c m => by have := h c m; omega
theorem fine_sm {n : Nat} {x : Str} (h : Sm (tl x)) : fine n (.str x) = true := fine_low fun c hc => by have := h c hc; omega
theorem pr_sm {x y : Str} (h : Sm (tl x)) (k : Sm (tl y)) : Okd (.tup [.str x, .str y]) := fine_ok (n := 1) (fine_tup (fines_cons (fine_sm h) (fines_cons (fine_sm k) fines_nil)))
theorem ln_sm {ls : List (Str × Str)} (h : ∀ l ∈ ls, Sm (tl l.1) ∧ Sm (tl l.2)) : Okl (ls.map lnD) :=
  fines_ok (n := 1) (fines_map fun l m => fine_tup (fines_cons (fine_sm (h l m).1) (fines_cons (fine_sm (h l m).2) fines_nil)))
theorem ats_pick {l : List (Str × Str)} : ∀ {ys : List V}, (∀ y ∈ ys, y ∈ l.map fun a => V.str (at2 a)) → ∃ m : List (Str × Str), ys = (m.map fun a => V.str (at2 a)) ∧ ∀ a ∈ m, a ∈ l
  | [], _ => ⟨[], rfl, fun _ h => by cases h⟩
  | y :: ys, h => by
    obtain ⟨m, rfl, hm⟩ := ats_pick (ys := ys) fun z mz => h z (List.mem_cons_of_mem _ mz)
    obtain ⟨a, ha, e⟩ := List.mem_map.mp (h y (by simp))
    refine ⟨a :: m, by rw [List.map_cons, e], fun z mz => ?_⟩
    rcases List.mem_cons.mp mz with c | c
    · rw [c]; exact ha
    · exact hm z c
def opS : Option Str → V
  | none => .non
  | some x => .str x
theorem dv_opt {K : PySem.W.Frag} {H : Hp} (x : Option Str) : DV K H (optS x) (opS x) := by cases x <;> (unfold optS opS DV; rfl)
theorem AOk.of {ns ns' : List Str} {a : Str × Str} (h : AOk ns a) (e : ∀ x ∈ ns, x ∈ ns') : AOk ns' a := ⟨h.p, h.s, e _ h.i, h.l⟩
theorem bk_all {K : PySem.W.Frag} {H : Hp} {b : Bk} {v : V} (h : DV K H (bkD b) v) : ∃ ba u0 u1 u2 u3 u4 u5 c6 w6 c7 w7, v = .ref ba ∧ SqT K H ba [u0, u1, u2, u3, u4, u5, .ref c6, .ref c7] ∧ DV K H (.str (Str.ofString "book")) u0 ∧ DV K H (.int b.w) u1 ∧ DV K H (.tup [.int b.x, .int b.y]) u2 ∧ DV K H (.tup (b.si.map siD)) u3 ∧ DV K H (.tup (b.ln.map lnD)) u4 ∧ DV K H (.tup (b.fd.map fdD)) u5 ∧ SqT K H c6 w6 ∧ DVs K H (b.sw.map swD) w6 ∧ SqT K H c7 w7 ∧ DVs K H b.li w7 := by
  obtain ⟨ba, bus, rfl, hB, dB⟩ := h
  obtain ⟨u0, r0, rfl, d0, dB⟩ := dB
  obtain ⟨u1, r1, rfl, d1, dB⟩ := dB
  obtain ⟨u2, r2, rfl, d2, dB⟩ := dB
  obtain ⟨u3, r3, rfl, d3, dB⟩ := dB
  obtain ⟨u4, r4, rfl, d4, dB⟩ := dB
  obtain ⟨u5, r5, rfl, d5, dB⟩ := dB
  obtain ⟨u6, r6, rfl, d6, dB⟩ := dB
  obtain ⟨u7, r7, rfl, d7, dB⟩ := dB
  unfold DVs at dB
  subst dB
  obtain ⟨c6, w6, rfl, h6, e6⟩ := d6
  obtain ⟨c7, w7, rfl, h7, e7⟩ := d7
  exact ⟨ba, u0, u1, u2, u3, u4, u5, c6, w6, c7, w7, rfl, hB, d0, d1, d2, d3, d4, d5, h6, e6, h7, e7⟩
theorem sw_at {K : PySem.W.Frag} {H : Hp} {x : Sw} {v : V} (h : DV K H (swD x) v) : ∃ a us, v = .ref a ∧ SqT K H a us ∧ us[2]? = some (V.str x.a) := by
  obtain ⟨a, us, rfl, hS, d⟩ := h
  obtain ⟨u0, r0, rfl, d0, d⟩ := d
  obtain ⟨u1, r1, rfl, d1, d⟩ := d
  obtain ⟨u2, r2, rfl, d2, d⟩ := d
  unfold DV at d2
  subst d2
  exact ⟨a, _, rfl, hS, rfl⟩
theorem st_adr (n : Str) : Str.ofString "stewards@" ++ n = at2 (Str.ofString "stewards", n) := by
  show _ = Str.ofString "stewards" ++ Str.ofString "@" ++ n
  rw [show Str.ofString "stewards" ++ Str.ofString "@" = Str.ofString "stewards@" from tl_ext (by decide)]
section
variable {P : Program} {w : World} {K : PySem.W.Frag} {mg : Str → Option Value} {base : Heap}
theorem ok__law_wide_book (D : Df K mg "_law_wide_book" s__law_wide_book ["source", "words", "most"]) (T : Tx mg)  (C__law_book : Cal P w K mg base "_law_book" ["source", "many", "words"] 8 (sp57_book K)) (C__law_draw : Cal P w K mg base "_law_draw" ["source", "many"] 2 sp__law_draw) (C__law_pattern : Cal P w K mg base "_law_pattern" ["source", "words"] 6 (sp2__law_pattern K)) (C__law_pick : Cal P w K mg base "_law_pick" ["source", "row"] 3 (sp3__law_pick K)) (C__law_thinned : Cal P w K mg base "_law_thinned" ["source", "book"] 3 (sp57_change K)) : Cal P w K mg base "_law_wide_book" ["source", "words", "most"] 9 (sp57_wide K) := by
  obtain ⟨f__law_book, fd__law_book, G__law_book, g__law_book, k__law_book, b__law_book⟩ := C__law_book
  obtain ⟨f__law_draw, fd__law_draw, G__law_draw, g__law_draw, k__law_draw, b__law_draw⟩ := C__law_draw
  obtain ⟨f__law_pattern, fd__law_pattern, G__law_pattern, g__law_pattern, k__law_pattern, b__law_pattern⟩ := C__law_pattern
  obtain ⟨f__law_pick, fd__law_pick, G__law_pick, g__law_pick, k__law_pick, b__law_pick⟩ := C__law_pick
  obtain ⟨f__law_thinned, fd__law_thinned, G__law_thinned, g__law_thinned, k__law_thinned, b__law_thinned⟩ := C__law_thinned
  obtain ⟨f, fd, F, gf, bf⟩ := D
  refine ⟨f, fd, F.ok sc__law_wide_book (fun vs H Q E h => ?_) (fun cdv A outer s₀ H vs Q E hr h => ?_), gf, F.kp, bf⟩
  · obtain ⟨s, a, w, ws, m, c, rfl, _⟩ := h; rfl
  · obtain ⟨s, a, w, ws, m, c, rfl, m0, m8, hW, wns, hWds, hS, q⟩ := h
    refine ⟨_, (pss_cons (ps_set (i := 3) sc__law_wide_book.nd rfl (Or.inl rfl) (pe_call G__law_thinned (hr.mono (by decide)) (by rfl) g__law_thinned k__law_thinned b__law_thinned .nil pass0 (pa_cons (pv 0) (pa_cons (pe_call G__law_book (hr.mono (by decide)) (by rfl) g__law_book k__law_book b__law_book .nil pass0 (pa_cons (pv 0) (pa_cons (pe_op op_add pe_int (pe_call G__law_draw (hr.mono (by decide)) (by rfl) g__law_draw k__law_draw b__law_draw .nil pass0 (pa_cons (pv 0) (pa_cons (pv 2) pa_nil)))) (pa_cons (pv 1) pa_nil)))) pa_nil))))
      (pss_cons (ps_if (pt_cmpR op_eq (pe_call G__law_draw (hr.mono (by decide)) (by rfl) g__law_draw k__law_draw b__law_draw .nil pass0 (pa_cons (pv 0) (pa_cons pe_int pa_nil))) pe_int (nomark _))
      (pss_cons (ps_set (i := 4) sc__law_wide_book.nd rfl (Or.inl rfl) (pe_op op_add_str pe_str (pe_ix ix_tup (pe_call G__law_pick (hr.mono (by decide)) (by rfl) g__law_pick k__law_pick b__law_pick .nil pass0 (pa_cons (pv 0) (pa_cons (pe_ix ix_tup (pv 3) pe_int (fun _ _ => rfl)) pa_nil))) pe_int (fun _ _ => rfl))))
        (pss_one (ps_ret (pe_op (op_cat (K := K) rfl) (pe_slice (sl_tupS (K := K) rfl) (pv 3) po_none (po_some pe_int)) (pe_tup (pa_cons (pe_tup (pa_cons (pe_tup (pa_cons pe_str (pa_cons (pe_call G__law_pattern (hr.mono (by decide)) (by rfl) g__law_pattern k__law_pattern b__law_pattern .nil pass0 (pa_cons (pv 0) (pa_cons (pv 1) pa_nil))) (pa_cons (pv 4) (pa_cons (pe_tup pa_nil) pa_nil))))) pa_nil)) (pa_cons (pe_tup pa_nil) pa_nil)))))))
      pss_nil)
      (pss_one (ps_ret (pv 3))))), ?_⟩
    have small : ∀ n : Nat, n ≤ 30000 → n ≤ sizeLine := fun n h => Nat.le_trans h (by decide)
    refine ⟨_, rfl, _, rfl, _, rfl, _, rfl, s, a, m, c + 30900, rfl, m0, by omega, hS.mono (by omega), fun n H1 n0 n1 x1 S1 => ⟨_, _, rfl, rfl, ?_⟩⟩
    obtain ⟨n, rfl⟩ := Int.eq_ofNat_of_zero_le n0
    refine ⟨_, rfl, s, a, w, ws, n + 1, c + 900, (by rw [show ((n + 1 : Nat) : Int) = 1 + (n : Int) by omega]; rfl), by omega, by omega, x1.seqL wns hW, wns, hWds, S1.mono (by omega), fun v b H2 hb nb l20 bsw bli x2 S2 => ?_⟩
    refine ⟨s, a, b, v, c + 700, rfl, hb, nb, by omega, S2.mono (by omega), fun v b' H3 hb nb' keep l21 x3 S3 => ?_⟩
    have b'sw : b'.sw = [] := keep.2.1.trans bsw
    have b'li : b'.li = [] := keep.2.2.trans bli
    have e3 := (x1.trans x2).trans x3
    refine ⟨_, rfl, s, a, _, c + 690, rfl, by decide, by decide, S3.mono (by omega), fun z H4 _ _ x4 S4 => ⟨rfl, _, rfl, ite2 (fun _ => ?_) (fun _ => ?_)⟩⟩
    rotate_left
    · exact ⟨_, rfl, q v b' H4 (hb.tk (TK.ext x4 S3)) nb' (by omega) ⟨by rw [b'sw]; exact Nat.zero_le _, fun x hx => by rw [b'sw] at hx; cases hx⟩ (e3.trans x4) (S4.mono (by omega))⟩
    have hb4 := hb.tk (TK.ext x4 S3)
    obtain ⟨ba, u0, u1, u2, u3, u4, u5, c6, w6, c7, w7, rfl, hB, d0, d1, d2, d3, d4, d5, h6, e6, h7, e7⟩ := bk_all hb4
    obtain ⟨c3, w3, rfl, h3, d3⟩ := d3
    have sl := nb'.ok.si
    have wl3 := d3.map_len
    have wne : w3 ≠ [] := fun e => nb'.ne (List.length_eq_zero_iff.mp (by rw [← wl3, e]; rfl))
    refine ⟨_, rfl, _, rfl, ba, _, 3, .ref c3, rfl, rfl, hB, atI_nat (j := 3) rfl, .inr (.inr ⟨s, a, c3, w3, c + 680, rfl, h3, wne, by omega, S4.mono (by omega), fun z H5 zm x5 S5 => ?_⟩)⟩
    obtain ⟨i, hi⟩ := List.getElem?_of_mem zm
    obtain ⟨y, hy, dz⟩ := d3.map_get hi
    have ym := List.mem_of_getElem? hy
    have T5 := TK.ext (K := K) x5 S4
    obtain ⟨za, zus, rfl, hZ, e1, _⟩ := si_at (dz.tk T5)
    have yo := nb'.ok.sn y ym
    have yl := tl_len y.n
    refine ⟨za, zus, 1, _, rfl, rfl, hZ, atI_nat (j := 1) e1, _, _, rfl, rfl, small _ (by show 9 + _ ≤ 30000; omega), ?_⟩
    rw [st_adr]
    have e5 := (e3.trans x4).trans x5
    refine ⟨_, rfl, 6, rfl, ba, _, rfl, T5 _ _ hB, fun A1 H6 m6 hA1 => ?_⟩
    rw [cutV_to (by decide)] at hA1
    have S6 := S5.ext m6
    have e6' := e5.trans (Ext.of m6)
    refine ⟨_, rfl, _, rfl, s, a, w, ws, c + 470, rfl, e6'.seqL wns hW, wns, hWds, S6.mono (by omega), fun p H7 pg pl x7 S7 => ?_⟩
    refine ⟨_, rfl, Nat.zero_le _, fun E1 hE1 => ?_⟩
    have n1 := same_new (o := HO.tup []) hE1
    refine ⟨by show 4 ≤ sizeLine; decide, fun T1 hT1 => ?_⟩
    have n2 := same_new (o := HO.tup [V.str (Str.ofString "steward"), V.str p, V.str (at2 (Str.ofString "stewards", y.n)), V.ref E1]) hT1
    refine ⟨by show 1 ≤ sizeLine; decide, fun T2 hT2 => ?_⟩
    have n3 := same_new (o := HO.tup [V.ref T1]) hT2
    refine ⟨Nat.zero_le _, fun E2 hE2 => ?_⟩
    have n4 := same_new (o := HO.tup []) hE2
    refine ⟨by show 2 ≤ sizeLine; decide, fun T3 hT3 => ?_⟩
    have n5 := same_new (o := HO.tup [V.ref T2, V.ref E2]) hT3
    have q1 := (n2.trans (n3.trans (n4.trans n5))) _ _ (upd_same (a := E1) (o := HO.tup []))
    have q2 := (n3.trans (n4.trans n5)) _ _ (upd_same (a := T1) (o := HO.tup [V.str (Str.ofString "steward"), V.str p, V.str (at2 (Str.ofString "stewards", y.n)), V.ref E1]))
    have q3 := (n4.trans n5) _ _ (upd_same (a := T2) (o := HO.tup [V.ref T1]))
    have q4 := n5 _ _ (upd_same (a := E2) (o := HO.tup []))
    have nn := n1.trans (n2.trans (n3.trans (n4.trans n5)))
    have T67 := TK.ext (K := K) x7 S6
    have T7n := TK.same (K := K) nn
    refine ⟨A1, T3, _, _, rfl, rfl, T7n _ _ (T67 _ _ hA1), SqT.of upd_same, by show 6 + 2 ≤ sizeLine; decide, fun R H8 m8 hR => ?_⟩
    have T8 := TK.same (K := K) m8
    have T48 : TK K H4 H8 := T5.trans ((TK.same m6).trans (T67.trans (T7n.trans T8)))
    refine q (.ref R) { b' with sw := [⟨p, at2 (Str.ofString "stewards", y.n), .tup []⟩], li := [] } H8 ⟨R, _, rfl, hR, dlc (d0.tk T48) (dlc (d1.tk T48) (dlc (d2.tk T48) (dlc ⟨c3, w3, rfl, T48 _ _ h3, d3.tk T48⟩ (dlc (d4.tk T48) (dlc (d5.tk T48) (dlc ⟨T2, _, rfl, T8 _ _ (SqT.of q3), dlc ⟨T1, _, rfl, T8 _ _ (SqT.of q2), dlc (dls _) (dlc (dls _) (dlc (dls _) (dlc ⟨E1, _, rfl, T8 _ _ (SqT.of q1), dln⟩ dln)))⟩ dln⟩ (dlc ⟨E2, _, rfl, T8 _ _ (SqT.of q4), dln⟩ dln)))))))⟩ ⟨⟨nb'.ok.si, nb'.ok.ln, nb'.ok.fd, by show 1 ≤ 10; decide, nb'.ok.sp, fun x hx => ?_, nb'.ok.sn, nb'.ok.fn⟩, nb'.nd, nb'.ne, nb'.ln⟩ (by show b'.ln.length ≤ 21; omega) ⟨by show 1 ≤ 1; decide, fun x hx => ?_⟩ ((e6'.trans x7).trans (Ext.of (nn.trans m8))) (((S7.ext nn).ext m8).mono (by omega))
    · have hx : x ∈ ([⟨p, at2 (Str.ofString "stewards", y.n), .tup []⟩] : List Sw) := hx
      rw [List.mem_singleton.mp hx]; show (tl p).length ≤ 3000; omega
    · have hx : x ∈ ([⟨p, at2 (Str.ofString "stewards", y.n), .tup []⟩] : List Sw) := hx
      rw [List.mem_singleton.mp hx]
      refine ⟨(Str.ofString "stewards", y.n), rfl, ?_, yo.1, ?_, by show (tl (Str.ofString "stewards")).length ≤ 100; decide, by show (tl y.n).length ≤ 100; omega⟩
      · show Low (tl (Str.ofString "stewards"))
        intro c hc
        have : ∀ c ∈ tl (Str.ofString "stewards"), (97 ≤ c ∧ c ≤ 122) ∨ (48 ≤ c ∧ c ≤ 57) := by decide
        exact this c hc
      · show y.n ∈ nms b'
        unfold nms
        exact List.mem_map_of_mem (f := (·.n)) ym
end

end Z
namespace Z
open PySem L2 SX
def swAd (b : Bk) (l : List (Str × Str)) : Prop := l.map at2 = b.sw.map (·.a) ∧ ∀ a ∈ l, AOk (nms b) a
theorem sw_ads {b : Bk} : ∀ {l : List Sw}, (∀ x ∈ l, ∃ a : Str × Str, x.a = at2 a ∧ AOk (nms b) a) → ∃ m : List (Str × Str), m.map at2 = l.map (·.a) ∧ ∀ a ∈ m, AOk (nms b) a
  | [], _ => ⟨[], rfl, fun _ h => by cases h⟩
  | x :: l, h => by
    obtain ⟨m, e, hm⟩ := sw_ads (l := l) fun y my => h y (List.mem_cons_of_mem _ my)
    obtain ⟨a, ea, ha⟩ := h x (by simp)
    refine ⟨a :: m, by rw [List.map_cons, List.map_cons, e, ea], fun z mz => ?_⟩
    rcases List.mem_cons.mp mz with c | c
    · rw [c]; exact ha
    · exact hm z c
/-- what the lists that are made so far keep -/
structure LiOk (b : Bk) (ls : List Li) : Prop where
  bo : ∀ x ∈ ls, ∀ d, x.d = some d → Clean (tl d)
  me : ∀ x ∈ ls, ∀ a ∈ x.m, AOk (nms b) a
  ml : ∀ x ∈ ls, x.m.length ≤ 20
theorem LiOk.add {b : Bk} {ls : List Li} {e : Li} (h : LiOk b ls) (h1 : ∀ d, e.d = some d → Clean (tl d)) (h2 : ∀ a ∈ e.m, AOk (nms b) a) (h3 : e.m.length ≤ 20) : LiOk b (ls ++ [e]) := by
  refine ⟨fun x hx => ?_, fun x hx => ?_, fun x hx => ?_⟩ <;> rcases List.mem_append.mp hx with k | k
  · exact h.bo x k
  · rw [List.mem_singleton.mp k]; exact h1
  · exact h.me x k
  · rw [List.mem_singleton.mp k]; exact h2
  · exact h.ml x k
  · rw [List.mem_singleton.mp k]; exact h3
section
variable {P : Program} {w : World} {K : PySem.W.Frag} {mg : Str → Option Value} {base : Heap}
theorem ok__law_nets (D : Df K mg "_law_nets" s__law_nets ["source", "book", "words"]) (T : Tx mg)  (C__law_board : Cal P w K mg base "_law_board" ["source", "words"] 4 (sp2__law_board K)) (C__law_draw : Cal P w K mg base "_law_draw" ["source", "many"] 2 sp__law_draw) (C__law_names : Cal P w K mg base "_law_names" ["source", "many"] 4 (sp9__law_names K)) (C__law_pick : Cal P w K mg base "_law_pick" ["source", "row"] 3 (sp3__law_pick K)) (C__law_shuffled : Cal P w K mg base "_law_shuffled" ["source", "row"] 3 (sp__law_shuffled K)) : Cal P w K mg base "_law_nets" ["source", "book", "words"] 5 (sp57_nets K) := by
  obtain ⟨f__law_board, fd__law_board, G__law_board, g__law_board, k__law_board, b__law_board⟩ := C__law_board
  obtain ⟨f__law_draw, fd__law_draw, G__law_draw, g__law_draw, k__law_draw, b__law_draw⟩ := C__law_draw
  obtain ⟨f__law_names, fd__law_names, G__law_names, g__law_names, k__law_names, b__law_names⟩ := C__law_names
  obtain ⟨f__law_pick, fd__law_pick, G__law_pick, g__law_pick, k__law_pick, b__law_pick⟩ := C__law_pick
  obtain ⟨f__law_shuffled, fd__law_shuffled, G__law_shuffled, g__law_shuffled, k__law_shuffled, b__law_shuffled⟩ := C__law_shuffled
  obtain ⟨f, fd, F, gf, bf⟩ := D
  refine ⟨f, fd, F.ok sc__law_nets (fun vs H Q E h => ?_) (fun cdv A outer s₀ H vs Q E hr h => ?_), gf, F.kp, bf⟩
  · obtain ⟨s, a, w, b, v, ws, c, rfl, _⟩ := h; rfl
  · obtain ⟨s, a, w, b, v, ws, c, rfl, hb, nb, l21, swo, hW, wns, hWds, hS, q⟩ := h
    refine ⟨_, (pss_cons (ps_set (i := 3) sc__law_nets.nd rfl (Or.inr rfl) (pe_lc (own := [("site", 14)]) (g := gName 14) (tt := tYes) rfl sc__law_nets.nd (pi_tup (pe_ix ix_tup (pv 1) pe_int (fun _ _ => rfl))) (blkOk_by (own := [("site", 14)]) (N := N__law_nets) (sc := defScope s__law_nets) (by decide +kernel)) (fun _ _ _ _ _ => pg_name (i := 14) sc__law_nets.nd rfl (Or.inl rfl)) (fun _ _ _ _ _ => pts_nil) (fun _ _ _ _ _ => (pe_ix (ix_tupQ (K := K) rfl) (pv 14) pe_int (fun _ _ => rfl)))))
      (pss_cons (ps_set (i := 4) sc__law_nets.nd rfl (Or.inl rfl) (pe_op op_add pe_int (pe_call G__law_draw (hr.mono (by decide)) (by rfl) g__law_draw k__law_draw b__law_draw .nil pass0 (pa_cons (pv 0) (pa_cons pe_int pa_nil)))))
      (pss_cons (ps_set (i := 5) sc__law_nets.nd rfl (Or.inl rfl) (pe_call G__law_names (hr.mono (by decide)) (by rfl) g__law_names k__law_names b__law_names .nil pass0 (pa_cons (pv 0) (pa_cons (pe_op op_add (pv 4) pe_int) pa_nil))))
      (pss_cons (ps_setLc (i := 6) (own := [("person", 15)]) (g := gName 15) (tt := tYes) rfl sc__law_nets.nd rfl rfl (sw_true rfl rfl rfl (by decide +kernel)) (pi_list (pv 5)) (blkOk_by (own := [("person", 15)]) (N := N__law_nets) (sc := defScope s__law_nets) (by decide +kernel)) (fun _ _ _ _ _ => pg_name (i := 15) sc__law_nets.nd rfl (Or.inl rfl)) (fun _ _ _ _ _ => pts_nil) (fun _ _ _ _ _ => (pe_op op_add_str (pe_op op_add_str (pv 15) pe_str) (pe_call G__law_pick (hr.mono (by decide)) (by rfl) g__law_pick k__law_pick b__law_pick .nil pass0 (pa_cons (pv 0) (pa_cons (pv 3) pa_nil))))))
      (pss_cons (ps_set (i := 7) sc__law_nets.nd rfl (Or.inl rfl) (pe_op L2.op_cat (pe_slice sl_list (pv 6) (po_some (pv 4)) po_none) (pe_lc (own := [("entry", 16)]) (g := gName 16) (tt := tYes) rfl sc__law_nets.nd (pi_tup (pe_ix ix_tup (pv 1) pe_int (fun _ _ => rfl))) (blkOk_by (own := [("entry", 16)]) (N := N__law_nets) (sc := defScope s__law_nets) (by decide +kernel)) (fun _ _ _ _ _ => pg_name (i := 16) sc__law_nets.nd rfl (Or.inl rfl)) (fun _ _ _ _ _ => pts_nil) (fun _ _ _ _ _ => (pe_ix (ix_tupQ (K := K) rfl) (pv 16) pe_int (fun _ _ => rfl))))))
      (pss_cons (ps_set (i := 8) sc__law_nets.nd rfl (Or.inl rfl) (pe_op op_add_str (pe_op op_add_str (pe_ix ix_list (pv 5) (pv 4) (fun _ _ => rfl)) pe_str) (pe_call G__law_pick (hr.mono (by decide)) (by rfl) g__law_pick k__law_pick b__law_pick .nil pass0 (pa_cons (pv 0) (pa_cons (pv 3) pa_nil)))))
      (C8.pss_cut (ps_if (pt_cmpR op_notIn_seq (pv 8) (pv 7) (by rfl))
      (pss_one (ps_expr (pe_bm PySem.F.plainAttrs_list PySem.F.slot_list_append PySem.F.type_list_append mt_append (pv 7) (pa_cons (pv 8) pa_nil))))
      pss_nil)
      (pss_cons (ps_set (i := 9) sc__law_nets.nd rfl (Or.inl rfl) (pe_lst pa_nil))
      (pss_cons (ps_set (i := 10) sc__law_nets.nd rfl (Or.inl rfl) (pe_lst pa_nil))
      (pss_cons (ps_for PassesOwn.never rfl (pi_list (pe_slice sl_list (pv 6) po_none (po_some (pv 4)))) (pg_name (i := 11) sc__law_nets.nd rfl (Or.inl rfl))
      (pss_cons (ps_set (i := 12) sc__law_nets.nd rfl (Or.inl rfl) (pe_call G__law_board (hr.mono (by decide)) (by rfl) g__law_board k__law_board b__law_board .nil pass0 (pa_cons (pv 0) (pa_cons (pv 2) pa_nil))))
        (C8.pss_cut (ps_if (PW.pt (pw_or (pt_cmpR op_eq (pe_call G__law_draw (hr.mono (by decide)) (by rfl) g__law_draw k__law_draw b__law_draw .nil pass0 (pa_cons (pv 0) (pa_cons pe_int pa_nil))) pe_int (nomark _)) (pw_or1 (pt_cmpR (op_inDDQ (K := K) rfl (room65 hr)) (pe_tup (pa_cons (pe_ix ix_list (pe_split (pv 11) pe_str) pe_int (fun _ _ => rfl)) (pa_cons (pv 12) pa_nil))) (pv 10) (by rfl)))))
        (pss_one (ps_set (i := 12) sc__law_nets.nd rfl (Or.inl rfl) pe_non))
        (pss_one (ps_expr (pe_bm PySem.F.plainAttrs_list PySem.F.slot_list_append PySem.F.type_list_append mt_append (pv 10) (pa_cons (pe_tup (pa_cons (pe_ix ix_list (pe_split (pv 11) pe_str) pe_int (fun _ _ => rfl)) (pa_cons (pv 12) pa_nil))) pa_nil)))))
        (pss_cons (ps_set (i := 13) sc__law_nets.nd rfl (Or.inl rfl) (pe_slice sl_list (pe_call G__law_shuffled (hr.mono (by decide)) (by rfl) g__law_shuffled k__law_shuffled b__law_shuffled .nil pass0 (pa_cons (pv 0) (pa_cons (pe_slice sl_list (pv 6) po_none (po_some (pv 4))) pa_nil))) po_none (po_some (pe_call G__law_draw (hr.mono (by decide)) (by rfl) g__law_draw k__law_draw b__law_draw .nil pass0 (pa_cons (pv 0) (pa_cons pe_int pa_nil))))))
        (pss_cons (ps_set (i := 13) sc__law_nets.nd rfl (Or.inl rfl) (pe_op L2.op_cat (pv 13) (pe_slice sl_list (pe_call G__law_shuffled (hr.mono (by decide)) (by rfl) g__law_shuffled k__law_shuffled b__law_shuffled .nil pass0 (pa_cons (pv 0) (pa_cons (pv 7) pa_nil))) po_none (po_some (pe_call G__law_draw (hr.mono (by decide)) (by rfl) g__law_draw k__law_draw b__law_draw .nil pass0 (pa_cons (pv 0) (pa_cons pe_int pa_nil)))))))
        (pss_one (ps_expr (pe_bm PySem.F.plainAttrs_list PySem.F.slot_list_append PySem.F.type_list_append mt_append (pv 9) (pa_cons (pe_tup (pa_cons pe_str (pa_cons (pv 11) (pa_cons (pv 12) (pa_cons (pe_callTy call_tuple_of (by rfl) T.n_tuple (by decide +kernel) (pa_cons (pe_call G__law_shuffled (hr.mono (by decide)) (by rfl) g__law_shuffled k__law_shuffled b__law_shuffled .nil pass0 (pa_cons (pv 0) (pa_cons (pv 13) pa_nil))) pa_nil)) pa_nil))))) pa_nil)))))))))
      (pss_one (ps_ret (pe_op (op_cat (K := K) rfl) (pe_slice (sl_tupS (K := K) rfl) (pv 1) po_none (po_some pe_int)) (pe_tup (pa_cons (pe_callTy call_tuple_of (by rfl) T.n_tuple (by decide +kernel) (pa_cons (pv 9) pa_nil)) pa_nil))))))))))))))), ?_⟩
    have small : ∀ n : Nat, n ≤ 30000 → n < sizeLine := fun n h => Nat.lt_of_le_of_lt h (by decide)
    have small' : ∀ n : Nat, n ≤ 30000 → n ≤ sizeLine := fun n h => Nat.le_trans h (by decide)
    have ul : (nms b).length ≤ 10 := by unfold nms; rw [List.length_map]; exact nb.ok.si
    obtain ⟨ba, u0, u1, u2, u3, u4, u5, c6, w6, c7, w7, rfl, hB, d0, d1, d2, d3, d4, d5, h6, e6, h7, e7⟩ := bk_all hb
    obtain ⟨c3, w3, rfl, h3, d3⟩ := d3
    -- the names
    refine ⟨_, rfl, ba, _, 3, .ref c3, rfl, rfl, hB, atI_nat (j := 3) rfl, c3, rfl, ⟨_, h3⟩, fun N hN => ?_⟩
    refine lc_tup (K := K) (a := c3) (xs := w3) (fun i H' => H' N = some (.lst (((nms b).take i).map V.str)) ∧ Same H H') ⟨by rw [upd_same]; rfl, same_new hN⟩ (fun i H' _ h => h.2.tup h3) ?_ ?_
    · rintro i u H1 hi ⟨h1, m1⟩
      obtain ⟨y, hy, dx⟩ := d3.map_get hi
      obtain ⟨t, tus, rfl, hT, et, _⟩ := si_at (dx.tk (TK.same m1))
      have il := (List.getElem?_eq_some_iff.mp hy).1
      have en : (nms b)[i]? = some y.n := by unfold nms; rw [List.getElem?_map, hy]; rfl
      have sl := nb.ok.si
      refine ⟨rfl, _, rfl, t, _, 1, _, rfl, rfl, hT, atI_nat (j := 1) et, _, h1, ?_, ?_, sput m1 hN⟩
      · rw [List.length_map, List.length_take]; exact small _ (by omega)
      · rw [upd_same, List.take_add_one, en, List.map_append]; rfl
    rintro H1 ⟨h1, m1⟩
    have l3 : w3.length = (nms b).length := by rw [d3.map_len]; unfold nms; rw [List.length_map]
    rw [l3, List.take_length] at h1
    have Ns : N ≠ s := hS.ne hN
    have S1 := hS.ext m1
    have nne : (nms b).map V.str ≠ [] := fun e => by
      have := List.map_eq_nil_iff.mp e
      unfold nms at this
      exact nb.ne (List.map_eq_nil_iff.mp this)
    have nlow : ∀ y ∈ nms b, Low (tl y) ∧ (tl y).length ≤ 8 := fun y hy => by
      unfold nms at hy
      obtain ⟨x, hx, rfl⟩ := List.mem_map.mp hy
      exact nb.ok.sn x hx
    -- how many, the names that are drawn
    refine ⟨_, rfl, s, a, 5, c + 1990, rfl, by decide, by decide, S1.mono (by omega), fun n H2 n0 n1 x2 S2 => ⟨_, _, rfl, rfl, ?_⟩⟩
    obtain ⟨n, rfl⟩ := Int.eq_ofNat_of_zero_le n0
    have n5 : n < 5 := by omega
    refine ⟨_, rfl, _, rfl, _, _, rfl, rfl, s, a, n + 4, c + 1900, (by rw [show ((n + 4 : Nat) : Int) = 1 + (n : Int) + 3 by omega]; rfl), by omega, S2.mono (by omega), fun P us H3 hP hus ul2 uN x3 S3 => ?_⟩
    have Ps := S2.ne hP
    have x13 := x2.trans x3
    have hN3 := x13 _ _ Ns h1
    -- the addresses
    refine ⟨_, rfl, P, rfl, ⟨_, SqL.of hus⟩, fun M hM => ?_⟩
    have Ms := S3.ne hM
    have Ma := S3.nea hM
    refine lc_list (K := K) (a := P) (xs := us.map V.str) (fun i H' => ∃ As : List (Str × Str), H' M = some (.lst (As.map fun a => V.str (at2 a))) ∧ As.map (·.1) = us.take i ∧ (∀ a ∈ As, AOk (nms b) a) ∧ Ext s H3 H' ∧ Src H' s a (c + (1890 - i))) ⟨[], upd_same, rfl, (fun _ h => by cases h), Ext.new hM, (S3.new hM).mono (by omega)⟩ (fun i H' _ h => by obtain ⟨_, _, _, _, x, _⟩ := h; exact SqL.of (x _ _ Ps hus)) ?_ ?_
    · rintro i x H4 hi ⟨As, h4, ea, ao, x4, S4⟩
      obtain ⟨p, hp, rfl⟩ := map_get hi
      have pm := List.mem_of_getElem? hp
      have pn := uN.2 p pm
      have pl := tl_len p
      have il := (List.getElem?_eq_some_iff.mp hp).1
      refine ⟨rfl, _, rfl, _, _, rfl, rfl, small' _ (by show _ + 1 ≤ 30000; omega), _, rfl, _, rfl, .inl ⟨s, a, N, _, c + (1890 - (i + 1)), rfl, SqL.of (x4 _ _ Ns hN3), Ns, nne, by rw [List.length_map]; omega, S4.mono (by omega), fun z H5 zm x5 S5 => ?_⟩⟩
      obtain ⟨y, ym, rfl⟩ := List.mem_map.mp zm
      have yl := tl_len y
      have yo := nlow y ym
      have al : As.length = i := by
        have := congrArg List.length ea
        rw [List.length_map, List.length_take] at this; omega
      refine ⟨_, _, rfl, rfl, ?_, _, x5 _ _ Ms h4, by rw [List.length_map]; exact small _ (by omega), As ++ [(p, y)], by rw [upd_same, List.map_append]; rfl, ?_, fun z hz => ?_, fun b' o hb' hh => ?_, S5.put Ms Ma⟩
      · have : (p ++ Str.ofString "@").length = p.length + 1 := by rw [tl_len, tl_app, List.length_append, tl_len]; rfl
        exact small' _ (by omega)
      · rw [List.map_append, ea, List.take_add_one, hp]; rfl
      · rcases List.mem_append.mp hz with k | k
        · exact ao z k
        · rw [List.mem_singleton.mp k]
          exact ⟨pn.1.2, yo.1, ym, by show (tl p).length ≤ 100; omega, by show (tl y).length ≤ 100; omega⟩
      · rw [upd_ne (ne_of_none hh hM)]; exact x5 _ _ hb' (x4 _ _ hb' hh)
    rintro H4 ⟨As, h4, ea, ao, x4, S4⟩
    rw [List.length_map, List.take_length] at ea
    rw [List.length_map] at S4
    have al : As.length = n + 4 := by
      have := congrArg List.length ea
      rw [List.length_map] at this; omega
    -- the people
    have a01 : ∀ {X : Hp}, Ext s H1 X → Ext s H X := fun x => (Ext.of m1).trans x
    have x14 := x13.trans x4
    have T4 := TK.ext (K := K) (a01 x14) hS
    refine ⟨_, rfl, _, rfl, _, rfl, M, _, rfl, SqL.of h4, fun M2 hM2 => ?_⟩
    rw [cutV_from (by omega)]
    have en1 : (1 + (n : Int)).toNat = n + 1 := by omega
    rw [en1, ← List.map_drop]
    have n5' := same_new (o := HO.lst ((As.drop (n + 1)).map fun a => V.str (at2 a))) hM2
    have hM25 : (upd H4 M2 (HO.lst ((As.drop (n + 1)).map fun a => V.str (at2 a)))) M2 = some (.lst ((As.drop (n + 1)).map fun a => V.str (at2 a))) := upd_same
    generalize (upd H4 M2 (HO.lst ((As.drop (n + 1)).map fun a => V.str (at2 a)))) = H5 at n5' hM25 ⊢
    have S5 := S4.ext n5'
    have T5 := T4.trans (TK.same n5')
    obtain ⟨swl, swo⟩ := swo
    refine ⟨_, rfl, ba, _, 6, .ref c6, rfl, rfl, T5 _ _ hB, atI_nat (j := 6) rfl, c6, rfl, ⟨_, T5 _ _ h6⟩, fun G hG => ?_⟩
    refine lc_tup (K := K) (a := c6) (xs := w6) (fun i H' => H' G = some (.lst (((b.sw.take i).map (·.a)).map V.str)) ∧ Same H5 H') ⟨by rw [upd_same]; rfl, same_new hG⟩ (fun i H' _ h => (TK.same h.2) _ _ (T5 _ _ h6)) ?_ ?_
    · rintro i u H6 hi ⟨h6', m6⟩
      obtain ⟨y, hy, dx⟩ := e6.map_get hi
      obtain ⟨t, tus, rfl, hT, et⟩ := sw_at (dx.tk (T5.trans (TK.same m6)))
      have il := (List.getElem?_eq_some_iff.mp hy).1
      refine ⟨rfl, _, rfl, t, _, 2, _, rfl, rfl, hT, atI_nat (j := 2) et, _, h6', ?_, ?_, sput m6 hG⟩
      · rw [List.length_map, List.length_map, List.length_take]; exact small _ (by omega)
      · rw [upd_same, List.take_add_one, hy, List.map_append, List.map_append]; rfl
    rintro H6 ⟨hG6, m6⟩
    rw [e6.map_len, List.take_length] at hG6
    obtain ⟨sa, esa, sao⟩ := sw_ads swo
    have sal : sa.length ≤ 1 := by
      have := congrArg List.length esa
      rw [List.length_map, List.length_map] at this; omega
    rw [← esa, ← vstrs] at hG6
    refine ⟨M2, G, _, _, rfl, rfl, m6 _ _ hM25, hG6, ?_, fun J hJ => ?_⟩
    · rw [List.length_map, List.length_map, List.length_drop]; exact small' _ (by omega)
    rw [← List.map_append]
    have n7 := same_new (o := HO.lst ((As.drop (n + 1) ++ sa).map fun a => V.str (at2 a))) hJ
    have hJ7 : (upd H6 J (HO.lst ((As.drop (n + 1) ++ sa).map fun a => V.str (at2 a)))) J = some (.lst ((As.drop (n + 1) ++ sa).map fun a => V.str (at2 a))) := upd_same
    generalize (upd H6 J (HO.lst ((As.drop (n + 1) ++ sa).map fun a => V.str (at2 a)))) = H7 at n7 hJ7 ⊢
    have m47 := n5'.trans (m6.trans n7)
    have S7 := S4.ext m47
    have Js : J ≠ s := (S5.ext m6).ne hJ
    have x17 := x14.trans (Ext.of m47)
    -- the twin
    obtain ⟨tp, htp⟩ : ∃ tp, us[n + 1]? = some tp := ⟨_, List.getElem?_eq_getElem (by omega)⟩
    have tpn := uN.2 tp (List.mem_of_getElem? htp)
    have tpl := tl_len tp
    have atp : atI (us.map V.str) (1 + (n : Int)) = some (.str tp) := at_of (j := n + 1) (by omega) (by rw [List.getElem?_map, htp]; rfl)
    have x37 : Ext s H3 H7 := x4.trans (Ext.of m47)
    refine ⟨_, rfl, _, rfl, P, _, _, _, rfl, rfl, SqL.of (x37 _ _ Ps hus), atp, _, _, rfl, rfl, small' _ (by show _ + 1 ≤ 30000; omega), _, rfl, _, rfl, .inl ⟨s, a, N, _, c + 1800, rfl, SqL.of (x37 _ _ Ns hN3), Ns, nne, by rw [List.length_map]; omega, S7.mono (by omega), fun z H8 zm x8 S8 => ?_⟩⟩
    obtain ⟨ty, tym, rfl⟩ := List.mem_map.mp zm
    have tyo := nlow ty tym
    have tyl := tl_len ty
    have two : AOk (nms b) (tp, ty) := ⟨tpn.1.2, tyo.1, tym, by show (tl tp).length ≤ 100; omega, by show (tl ty).length ≤ 100; omega⟩
    refine ⟨_, _, rfl, rfl, ?_, ?_⟩
    · have : (tp ++ Str.ofString "@").length = tp.length + 1 := by rw [tl_len, tl_app, List.length_append, tl_len]; rfl
      exact small' _ (by omega)
    have x18 := x17.trans x8
    have hJ8 := x8 _ _ Js hJ7
    have lowPe : ∀ a ∈ As.drop (n + 1) ++ sa, AOk (nms b) a := fun z hz => by
      rcases List.mem_append.mp hz with k | k
      · exact ao z (List.mem_of_mem_drop k)
      · exact sao z k
    have hM8 := x8 _ _ Ms (m47 _ _ h4)
    refine ⟨fun σ' H' => ∃ Pe : List (Str × Str), σ' = [some (.ref s), some (.ref ba), some (.ref w), some (.ref N), some (.int (1 + (n : Int))), some (.ref P), some (.ref M), some (.ref J), some (.str (at2 (tp, ty))), none, none, none, none, none, none, none, none] ∧ H' J = some (.lst (Pe.map fun a => V.str (at2 a))) ∧ (∀ a ∈ Pe, AOk (nms b) a) ∧ Pe.length ≤ 5 ∧ Ext s H1 H' ∧ H' M = some (.lst (As.map fun a => V.str (at2 a))) ∧ Src H' s a (c + 1800), ?_, ?_⟩
    · have pl : (As.drop (n + 1) ++ sa).length ≤ 4 := by rw [List.length_append, List.length_drop]; omega
      refine ⟨_, rfl, _, rfl, J, _, rfl, .inl (SqL.of hJ8), rfl, flat_ats _, _, rfl, ite2 (fun _ => ?_) (fun _ => ⟨_, rfl, hJ8, lowPe, by omega, x18, hM8, S8⟩)⟩
      refine ⟨_, rfl, .inl ⟨rfl, _, SqL.of hJ8⟩, _, rfl, J, _, _, rfl, rfl, hJ8, by rw [List.length_map]; exact small _ (by omega), As.drop (n + 1) ++ sa ++ [(tp, ty)], rfl, by rw [upd_same, List.map_append (l₁ := As.drop (n + 1) ++ sa)]; rfl, fun z hz => ?_, by rw [List.length_append]; show _ + 1 ≤ 5; omega, ?_, ?_, ?_⟩
      · rcases List.mem_append.mp hz with k | k
        · exact lowPe z k
        · rw [List.mem_singleton.mp k]; exact two
      · refine fun b' o hb' hh => ?_
        have jn : H1 J = none := by
          cases e : H1 J with
          | none => rfl
          | some o => exact absurd hJ (by rw [(x14.trans (Ext.of (n5'.trans m6))) _ _ Js e]; simp)
        rw [upd_ne (ne_of_none hh jn)]; exact x18 _ _ hb' hh
      · rw [upd_ne (fun e => by
          have := n5'.trans m6
          rw [← e, this _ _ h4] at hJ; cases hJ)]
        exact hM8
      · exact S8.put Js (fun e => by
          obtain ⟨_, _, _, _, _, hh, _⟩ := id S8
          exact (S5.ext m6).nea hJ e)
    rintro σ' H9 ⟨Pe, rfl, hJ9, peo, pel, x19, hM9, S9⟩
    -- the lists
    refine ⟨Nat.zero_le _, fun E hE => ?_⟩
    have Es := S9.ne hE
    have Ea := S9.nea hE
    have n10 := same_new (o := HO.lst []) hE
    refine ⟨Nat.zero_le _, fun Gt hGt => ?_⟩
    have S10 := S9.ext n10
    have Gs := S10.ne hGt
    have Ga := S10.nea hGt
    have n11 := same_new (o := HO.lst []) hGt
    have GE : E ≠ Gt := ne_of_none (upd_same (a := E) (o := HO.lst [])) hGt
    have q1 := n11 _ _ (upd_same (a := E) (o := HO.lst []))
    have q2 : (upd (upd H9 E (HO.lst [])) Gt (HO.lst [])) Gt = some (.lst []) := upd_same
    have n1011 := n10.trans n11
    have S11 := S9.ext n1011
    generalize (upd (upd H9 E (HO.lst [])) Gt (HO.lst [])) = H11 at q1 q2 n1011 S11 ⊢
    refine ⟨_, rfl, _, rfl, _, rfl, M, _, rfl, SqL.of (n1011 _ _ hM9), fun L hL => ?_⟩
    rw [cutV_to (by omega), en1, ← List.map_take]
    have Ls := S11.ne hL
    have n12 := same_new (o := HO.lst ((As.take (n + 1)).map fun a => V.str (at2 a))) hL
    have LE : E ≠ L := ne_of_none q1 hL
    have LG : Gt ≠ L := ne_of_none q2 hL
    have hL12 : (upd H11 L (HO.lst ((As.take (n + 1)).map fun a => V.str (at2 a)))) L = some (.lst ((As.take (n + 1)).map fun a => V.str (at2 a))) := upd_same
    have q1 := n12 _ _ q1
    have q2 := n12 _ _ q2
    have n912 := n1011.trans n12
    have S12 := S9.ext n912
    generalize (upd H11 L (HO.lst ((As.take (n + 1)).map fun a => V.str (at2 a)))) = H12 at q1 q2 n912 S12 hL12 ⊢
    have tlen : (As.take (n + 1)).length = n + 1 := by rw [List.length_take]; omega
    have EJ : E ≠ J := fun e => by rw [← e, hE] at hJ9; cases hJ9
    have GJ : Gt ≠ J := fun e => by
      rw [e, n10 _ _ hJ9] at hGt; cases hGt
    have EM : E ≠ M := fun e => by rw [← e, hE] at hM9; cases hM9
    have GM : Gt ≠ M := fun e => by rw [e, n10 _ _ hM9] at hGt; cases hGt
    have gone : ∀ (y : Addr) (o : HO), H1 y = some o → y ≠ s → y ≠ E ∧ y ≠ Gt := fun y o hy ys => by
      have h9 := x19 _ _ ys hy
      refine ⟨fun e => ?_, fun e => ?_⟩
      · rw [e, hE] at h9; cases h9
      · have h10 := n10 _ _ h9
        rw [e, hGt] at h10; cases h10
    have Mns : M ≠ s := Ms
    refine ⟨L, rfl, ⟨_, SqL.of hL12⟩, ?_⟩
    refine for_list (K := K) (a := L) (xs := (As.take (n + 1)).map fun a => V.str (at2 a)) (fun i σ H' => ∃ (ls : List Li) (vs : List V) (gs : List (Str × Str)) (wg : List V) (v11 v12 v13 : Option V), σ = [some (.ref s), some (.ref ba), some (.ref w), some (.ref N), some (.int (1 + (n : Int))), some (.ref P), some (.ref M), some (.ref J), some (.str (at2 (tp, ty))), some (.ref E), some (.ref Gt), v11, v12, v13, none, none, none] ∧ H' E = some (.lst vs) ∧ DVs K H' (ls.map liD) vs ∧ H' Gt = some (.lst wg) ∧ DVs K H' (gs.map lnD) wg ∧ (∀ g ∈ gs, Sm (tl g.1) ∧ Sm (tl g.2)) ∧ gs.length ≤ i ∧ ls.map (·.h) = As.take i ∧ LiOk b ls ∧ H' L = some (.lst ((As.take (n + 1)).map fun a => V.str (at2 a))) ∧ H' M = some (.lst (As.map fun a => V.str (at2 a))) ∧ H' J = some (.lst (Pe.map fun a => V.str (at2 a))) ∧ Ext s H1 H' ∧ Src H' s a (c + (1700 - 100 * i))) ?_ (fun i σ H' _ h => by obtain ⟨_, _, _, _, _, _, _, _, _, _, _, _, _, _, _, _, h, _⟩ := h; exact SqL.of h) ?_ ?_
    · exact ⟨[], [], [], [], _, _, _, rfl, q1, dln, q2, dln, (fun _ h => by cases h), Nat.le_refl _, rfl, ⟨(fun _ h => by cases h), (fun _ h => by cases h), (fun _ h => by cases h)⟩, hL12, n912 _ _ hM9, n912 _ _ hJ9, x19.trans (Ext.of n912), S12.mono (by omega)⟩
    · rintro i x σ H13 hi ⟨ls, vs, gs, wg, v11, v12, v13, rfl, hE13, dE13, hG13, dG13, gsm, gl, eh, lio, hL13, hM13, hJ13, x13', S13⟩
      obtain ⟨hm, hhm, rfl⟩ := map_get hi
      have hAi : As[i]? = some hm := by
        rw [List.getElem?_take] at hhm
        split at hhm
        · exact hhm
        · cases hhm
      have i5 : i < n + 1 := by
        have := (List.getElem?_eq_some_iff.mp hhm).1
        omega
      have hmo := ao hm (List.mem_of_getElem? hAi)
      have ll : ls.length = i := by
        have := congrArg List.length eh
        rw [List.length_map, List.length_take] at this; omega
      refine ⟨_, rfl, _, rfl, s, a, w, ws, c + (1690 - 100 * i - 10), rfl, (a01 x13').seqL wns hW, wns, hWds, S13.mono (by omega), fun bd H14 bg bne bl30 x14' S14 => ?_⟩
      have hE14 := x14' _ _ Es hE13
      have hG14 := x14' _ _ Gs hG13
      have T1314 := TK.ext (K := K) x14' S13
      have dE14 := dE13.tk T1314
      have dG14 := dG13.tk T1314
      have hL14 := x14' _ _ Ls hL13
      have hM14 := x14' _ _ Ms hM13
      have hJ14 := x14' _ _ Js hJ13
      have x114 := x13'.trans x14'
      refine ⟨fun σ' H' => ∃ (d : Option Str) (gs' : List (Str × Str)) (wg' : List V), σ' = [some (.ref s), some (.ref ba), some (.ref w), some (.ref N), some (.int (1 + (n : Int))), some (.ref P), some (.ref M), some (.ref J), some (.str (at2 (tp, ty))), some (.ref E), some (.ref Gt), some (.str (at2 hm)), some (opS d), v13, none, none, none] ∧ (∀ x, d = some x → Clean (tl x)) ∧ H' E = some (.lst vs) ∧ DVs K H' (ls.map liD) vs ∧ H' Gt = some (.lst wg') ∧ DVs K H' (gs'.map lnD) wg' ∧ (∀ g ∈ gs', Sm (tl g.1) ∧ Sm (tl g.2)) ∧ gs'.length ≤ i + 1 ∧ H' L = some (.lst ((As.take (n + 1)).map fun a => V.str (at2 a))) ∧ H' M = some (.lst (As.map fun a => V.str (at2 a))) ∧ H' J = some (.lst (Pe.map fun a => V.str (at2 a))) ∧ Ext s H1 H' ∧ Src H' s a (c + (1670 - 100 * i)), ?_, ?_⟩
      · refine ⟨_, rfl, s, a, _, c + (1690 - 100 * i - 11), rfl, by decide, by decide, S14.mono (by omega), fun z H15 _ _ x15 S15 => ?_⟩
        have hE15 := x15 _ _ Es hE14
        have hG15 := x15 _ _ Gs hG14
        have T15 := TK.ext (K := K) x15 S14
        have dE15 := dE14.tk T15
        have dG15 := dG14.tk T15
        have hL15 := x15 _ _ Ls hL14
        have hM15 := x15 _ _ Ms hM14
        have hJ15 := x15 _ _ Js hJ14
        have x115 := x114.trans x15
        have none_ : ∀ H', Same H15 H' → ∃ (d : Option Str) (gs' : List (Str × Str)) (wg' : List V), [some (V.ref s), some (.ref ba), some (.ref w), some (.ref N), some (.int (1 + (n : Int))), some (.ref P), some (.ref M), some (.ref J), some (.str (at2 (tp, ty))), some (.ref E), some (.ref Gt), some (.str (at2 hm)), some .non, v13, none, none, none] = [some (.ref s), some (.ref ba), some (.ref w), some (.ref N), some (.int (1 + (n : Int))), some (.ref P), some (.ref M), some (.ref J), some (.str (at2 (tp, ty))), some (.ref E), some (.ref Gt), some (.str (at2 hm)), some (opS d), v13, none, none, none] ∧ (∀ x, d = some x → Clean (tl x)) ∧ H' E = some (.lst vs) ∧ DVs K H' (ls.map liD) vs ∧ H' Gt = some (.lst wg') ∧ DVs K H' (gs'.map lnD) wg' ∧ (∀ g ∈ gs', Sm (tl g.1) ∧ Sm (tl g.2)) ∧ gs'.length ≤ i + 1 ∧ H' L = some (.lst ((As.take (n + 1)).map fun a => V.str (at2 a))) ∧ H' M = some (.lst (As.map fun a => V.str (at2 a))) ∧ H' J = some (.lst (Pe.map fun a => V.str (at2 a))) ∧ Ext s H1 H' ∧ Src H' s a (c + (1670 - 100 * i)) := fun H' m => ⟨none, gs, wg, rfl, (fun _ h => by cases h), m _ _ hE15, dE15.tk (TK.same m), m _ _ hG15, dG15.tk (TK.same m), gsm, by omega, m _ _ hL15, m _ _ hM15, m _ _ hJ15, x115.trans (Ext.of m), (S15.ext m).mono (by omega)⟩
        refine ⟨rfl, _, rfl, ite2 (fun _ => iteT ?_) (fun _ => ?_)⟩
        · exact none_ H15 (Same.refl _)
        refine ⟨_, rfl, ⟨_, rfl⟩, at2 hm, Str.ofString "@", rfl, rfl, rfl, Nat.le_trans (len_at2 hmo) (by decide), fun B hB15 => ?_⟩
        rw [spl_at2 hmo.p hmo.s]
        have n16 := same_new (o := HO.lst ([hm.1, hm.2].map V.str)) hB15
        refine ⟨B, _, 1, _, rfl, rfl, SqL.of upd_same, atI_nat (j := 1) rfl, _, rfl, by show 2 ≤ sizeLine; decide, fun Tq hTq => ?_⟩
        have n17 := same_new (o := HO.tup [V.str hm.2, V.str bd]) hTq
        have m17 := n16.trans n17
        refine ⟨_, rfl, .tup [.str hm.2, .str bd], Gt, wg, gs.map lnD, ⟨Tq, _, rfl, SqT.of upd_same, dlc (dls _) (dlc (dls _) dln)⟩, rfl, SqL.of (m17 _ _ hG15), dG15.tk (TK.same m17), pr_sm hmo.s.sm bg.sm, ln_sm gsm, _, rfl, ite2 (fun _ => none_ _ m17) (fun _ => ?_)⟩
        have hG17 := m17 _ _ hG15
        refine ⟨_, rfl, .inl ⟨rfl, _, SqL.of hG17⟩, _, rfl, ⟨_, rfl⟩, at2 hm, Str.ofString "@", rfl, rfl, rfl, Nat.le_trans (len_at2 hmo) (by decide), fun B2 hB2 => ?_⟩
        rw [spl_at2 hmo.p hmo.s]
        have n18 := same_new (o := HO.lst ([hm.1, hm.2].map V.str)) hB2
        refine ⟨B2, _, 1, _, rfl, rfl, SqL.of upd_same, atI_nat (j := 1) rfl, _, rfl, by show 2 ≤ sizeLine; decide, fun Tr hTr => ?_⟩
        have n19 := same_new (o := HO.tup [V.str hm.2, V.str bd]) hTr
        have m19 := m17.trans (n18.trans n19)
        have hG19 := m19 _ _ hG15
        have hTr19 : (upd (upd (upd (upd H15 B (HO.lst ([hm.1, hm.2].map V.str))) Tq (HO.tup [V.str hm.2, V.str bd])) B2 (HO.lst ([hm.1, hm.2].map V.str))) Tr (HO.tup [V.str hm.2, V.str bd])) Tr = some (.tup [V.str hm.2, V.str bd]) := upd_same
        generalize (upd (upd (upd (upd H15 B (HO.lst ([hm.1, hm.2].map V.str))) Tq (HO.tup [V.str hm.2, V.str bd])) B2 (HO.lst ([hm.1, hm.2].map V.str))) Tr (HO.tup [V.str hm.2, V.str bd])) = H19 at m19 hG19 hTr19 ⊢
        have S19 := S15.ext m19
        have tk := tk_put (K := K) (o := HO.lst (wg ++ [V.ref Tr])) hG19
        have g15 : Gt ≠ s := Gs
        refine ⟨Gt, _, _, rfl, rfl, hG19, by rw [dG15.map_len]; exact small _ (by omega), some bd, gs ++ [(hm.2, bd)], wg ++ [V.ref Tr], rfl, (fun x e => by rw [← Option.some.inj e]; exact bg.clean), by rw [upd_ne GE]; exact m19 _ _ hE15, (dE15.tk (TK.same m19)).tk tk, upd_same, DVs.snoc ((dG15.tk (TK.same m19)).tk tk) ⟨Tr, _, rfl, tk _ _ (SqT.of hTr19), dlc (dls _) (dlc (dls _) dln)⟩, fun g hg => ?_, by rw [List.length_append]; show _ + 1 ≤ _; omega, by rw [upd_ne LG.symm]; exact m19 _ _ hL15, by rw [upd_ne GM.symm]; exact m19 _ _ hM15, by rw [upd_ne GJ.symm]; exact m19 _ _ hJ15, fun b' o hb' hh => ?_, (S19.put Gs Ga).mono (by omega)⟩
        · rcases List.mem_append.mp hg with k | k
          · exact gsm g k
          · rw [List.mem_singleton.mp k]; exact ⟨hmo.s.sm, bg.sm⟩
        · rw [upd_ne (gone b' o hh hb').2]; exact m19 _ _ (x115 _ _ hb' hh)
      rintro σ' H15 ⟨d, gs', wg', rfl, dcl, hE15, dE15, hG15, dG15, gsm', gl', hL15, hM15, hJ15, x115, S15⟩
      -- the members
      refine ⟨_, rfl, _, rfl, _, rfl, _, rfl, M, _, rfl, SqL.of hM15, fun L2 hL2 => ?_⟩
      rw [cutV_to (by omega), en1, ← List.map_take]
      have L2s := S15.ne hL2
      have n16 := same_new (o := HO.lst ((As.take (n + 1)).map fun a => V.str (at2 a))) hL2
      have S16 := S15.ext n16
      have tl16 : ((As.take (n + 1)).map fun a => V.str (at2 a)).length = n + 1 := by rw [List.length_map]; exact tlen
      refine ⟨s, a, L2, _, c + (1660 - 100 * i), rfl, SqL.of upd_same, L2s, by omega, S16.mono (by omega), fun dd ys H17 hdd h17 yl ym x17' S17 => ?_⟩
      obtain ⟨m1', em1, hm1⟩ := ats_pick ym
      subst em1
      have dds := S16.ne hdd
      refine ⟨_, rfl, s, a, _, c + (1659 - 100 * i), rfl, by decide, by decide, S17.mono (by omega), fun z H18 z0 z1 x18' S18 => ⟨_, rfl, dd, _, rfl, SqL.of (x18' _ _ dds h17), fun R1 hR1 => ?_⟩⟩
      rw [cutV_to z0, ← List.map_take]
      have R1s := S18.ne hR1
      have n19 := same_new (o := HO.lst ((m1'.take z.toNat).map fun a => V.str (at2 a))) hR1
      have hR19 : (upd H18 R1 (HO.lst ((m1'.take z.toNat).map fun a => V.str (at2 a)))) R1 = some (.lst ((m1'.take z.toNat).map fun a => V.str (at2 a))) := upd_same
      generalize (upd H18 R1 (HO.lst ((m1'.take z.toNat).map fun a => V.str (at2 a)))) = H19 at n19 hR19 ⊢
      have S19 := S18.ext n19
      have x1519 : Ext s H15 H19 := (Ext.of n16).trans (x17'.trans (x18'.trans (Ext.of n19)))
      have hJ19 := x1519 _ _ Js hJ15
      refine ⟨_, rfl, _, rfl, _, rfl, s, a, J, _, c + (1650 - 100 * i), rfl, SqL.of hJ19, Js, by rw [List.length_map]; omega, by rw [List.length_map]; exact S19.mono (by omega), fun d2 ys H20 hd2 h20 yl2 ym2 x20 S20 => ?_⟩
      obtain ⟨m2', em2, hm2⟩ := ats_pick ym2
      subst em2
      have d2s := S19.ne hd2
      refine ⟨_, rfl, s, a, _, c + (1649 - 100 * i), rfl, by decide, by decide, S20.mono (by omega), fun y H21 y0 y1 x21 S21 => ⟨_, rfl, d2, _, rfl, SqL.of (x21 _ _ d2s h20), fun R2 hR2 => ?_⟩⟩
      rw [cutV_to y0, ← List.map_take]
      have R2s := S21.ne hR2
      have n22 := same_new (o := HO.lst ((m2'.take y.toNat).map fun a => V.str (at2 a))) hR2
      have z3 : (m1'.take z.toNat).length ≤ 4 := by rw [List.length_take]; omega
      have y5 : (m2'.take y.toNat).length ≤ 5 := by rw [List.length_take]; omega
      refine ⟨R1, R2, _, _, rfl, rfl, n22 _ _ (x21 _ _ R1s (x20 _ _ R1s hR19)), upd_same, ?_, fun R3 hR3 => ?_⟩
      · rw [List.length_map, List.length_map]; exact small' _ (by omega)
      rw [← List.map_append]
      have S22 := S21.ext n22
      have R3s := S22.ne hR3
      have n23 := same_new (o := HO.lst ((m1'.take z.toNat ++ m2'.take y.toNat).map fun a => V.str (at2 a))) hR3
      have hR23 : (upd (upd H21 R2 (HO.lst ((m2'.take y.toNat).map fun a => V.str (at2 a)))) R3 (HO.lst ((m1'.take z.toNat ++ m2'.take y.toNat).map fun a => V.str (at2 a)))) R3 = some (.lst ((m1'.take z.toNat ++ m2'.take y.toNat).map fun a => V.str (at2 a))) := upd_same
      have n2223 := n22.trans n23
      generalize (upd (upd H21 R2 (HO.lst ((m2'.take y.toNat).map fun a => V.str (at2 a)))) R3 (HO.lst ((m1'.take z.toNat ++ m2'.take y.toNat).map fun a => V.str (at2 a)))) = H23 at n2223 hR23 ⊢
      have S23 := S21.ext n2223
      have x1523 : Ext s H15 H23 := x1519.trans (x20.trans (x21.trans (Ext.of n2223)))
      have rl : (m1'.take z.toNat ++ m2'.take y.toNat).length ≤ 9 := by rw [List.length_append]; omega
      have ro : ∀ a ∈ m1'.take z.toNat ++ m2'.take y.toNat, AOk (nms b) a := fun r hr' => by
        rcases List.mem_append.mp hr' with k | k
        · exact ao r (List.mem_of_mem_take (hm1 r (List.mem_of_mem_take k)))
        · exact peo r (hm2 r (List.mem_of_mem_take k))
      -- the entry
      have hE23 := x1523 _ _ Es hE15
      refine ⟨_, rfl, .inl ⟨rfl, _, SqL.of hE23⟩, _, rfl, _, rfl, _, rfl, _, rfl, s, a, R3, _, c + (1635 - 100 * i), rfl, SqL.of hR23, R3s, by rw [List.length_map]; omega, by rw [List.length_map]; exact S23.mono (by omega), fun d3' ys H24 hd3 h24 yl3 ym3 x24 S24 => ?_⟩
      obtain ⟨m3', em3, hm3⟩ := ats_pick ym3
      subst em3
      have m3l : m3'.length ≤ 9 := by rw [List.length_map, List.length_map] at yl3; omega
      refine ⟨d3', _, rfl, .inl ⟨SqL.of h24, fun Tm hTm => ?_⟩⟩
      have n25 := same_new (o := HO.tup (m3'.map fun a => V.str (at2 a))) hTm
      refine ⟨by show 4 ≤ sizeLine; decide, fun Te hTe => ?_⟩
      have n26 := same_new (o := HO.tup [V.str (Str.ofString "list"), V.str (at2 hm), opS d, V.ref Tm]) hTe
      have hTm26 := n26 _ _ (upd_same (H := H24) (a := Tm) (o := HO.tup (m3'.map fun a => V.str (at2 a))))
      have hTe26 : (upd (upd H24 Tm (HO.tup (m3'.map fun a => V.str (at2 a)))) Te (HO.tup [V.str (Str.ofString "list"), V.str (at2 hm), opS d, V.ref Tm])) Te = some (.tup [V.str (Str.ofString "list"), V.str (at2 hm), opS d, V.ref Tm]) := upd_same
      have n2526 := n25.trans n26
      generalize (upd (upd H24 Tm (HO.tup (m3'.map fun a => V.str (at2 a)))) Te (HO.tup [V.str (Str.ofString "list"), V.str (at2 hm), opS d, V.ref Tm])) = H26 at n2526 hTm26 hTe26 ⊢
      have S26 := S24.ext n2526
      have x1526 : Ext s H15 H26 := x1523.trans (x24.trans (Ext.of n2526))
      have hE26 := x1526 _ _ Es hE15
      have T1526 := TK.ext (K := K) x1526 S15
      have tk := tk_put (K := K) (o := HO.lst (vs ++ [V.ref Te])) hE26
      refine ⟨E, _, _, rfl, rfl, hE26, by rw [dE15.map_len]; exact small _ (by omega), ls ++ [⟨hm, d, m3'⟩], vs ++ [V.ref Te], gs', wg', _, _, _, rfl, upd_same, DVs.snoc ((dE15.tk T1526).tk tk) ?_, by rw [upd_ne GE.symm]; exact x1526 _ _ Gs hG15, (dG15.tk T1526).tk tk, gsm', gl', by rw [List.map_append, eh, List.take_add_one, hAi]; rfl, lio.add dcl (fun r hr' => ro r (hm3 r hr')) (by show m3'.length ≤ 20; omega), by rw [upd_ne LE.symm]; exact x1526 _ _ Ls hL15, by rw [upd_ne EM.symm]; exact x1526 _ _ Ms hM15, by rw [upd_ne EJ.symm]; exact x1526 _ _ Js hJ15, fun b' o hb' hh => ?_, (S26.put Es Ea).mono (by omega)⟩
      · have e : (m3'.map fun a => D.str (at2 a)) = (m3'.map at2).map D.str := by rw [List.map_map]; rfl
        refine ⟨Te, _, rfl, tk _ _ (SqT.of hTe26), dlc (dls _) (dlc (dls _) (dlc (dv_opt d) (dlc ⟨Tm, _, rfl, tk _ _ (SqT.of hTm26), ?_⟩ dln)))⟩
        rw [e, vstrs]; exact DVs.strs _
      · rw [upd_ne (gone b' o hh hb').1]; exact x1526 _ _ hb' (x115 _ _ hb' hh)
    rintro σ H13 ⟨ls, vs, gs, wg, v11, v12, v13, rfl, hE13, dE13, _, _, _, _, eh, lio, _, _, _, x13', S13⟩
    rw [List.length_map, tlen] at eh S13
    have T13 := TK.ext (K := K) (a01 x13') hS
    refine ⟨_, rfl, 7, rfl, ba, _, rfl, T13 _ _ hB, fun A1 H14 m14 hA1 => ?_⟩
    rw [cutV_to (by decide)] at hA1
    refine ⟨_, rfl, E, _, rfl, .inl ⟨SqL.of (m14 _ _ hE13), fun T1 hT1 => ?_⟩⟩
    have n15 := same_new (o := HO.tup vs) hT1
    refine ⟨by show 1 ≤ sizeLine; decide, fun T2 hT2 => ?_⟩
    have n16 := same_new (o := HO.tup [V.ref T1]) hT2
    have hT16 := n16 _ _ (upd_same (H := H14) (a := T1) (o := HO.tup vs))
    have n1516 := n15.trans n16
    refine ⟨A1, T2, _, _, rfl, rfl, n1516.tup hA1, SqT.of upd_same, by show 7 + 1 ≤ sizeLine; decide, fun R H17 m17 hR => ?_⟩
    have m1317 := m14.trans (n1516.trans m17)
    have T17 := T13.trans (TK.same m1317)
    have ll : ls.length ≤ 5 := by
      have := congrArg List.length eh
      rw [List.length_map, tlen] at this; omega
    refine q (.ref R) { b with li := ls.map liD } ls H17 ⟨R, _, rfl, hR, dlc (d0.tk T17) (dlc (d1.tk T17) (dlc (d2.tk T17) (dlc ⟨c3, w3, rfl, T17 _ _ h3, d3.tk T17⟩ (dlc (d4.tk T17) (dlc (d5.tk T17) (dlc ⟨c6, w6, rfl, T17 _ _ h6, e6.tk T17⟩ (dlc ⟨T1, vs, rfl, m17.tup (SqT.of hT16), dE13.tk (TK.same m1317)⟩ dln)))))))⟩ ⟨⟨⟨nb.ok.si, nb.ok.ln, nb.ok.fd, nb.ok.sw, nb.ok.sp, nb.ok.wp, nb.ok.sn, nb.ok.fn⟩, nb.nd, nb.ne, nb.ln⟩, rfl, fun x hx => ?_, lio.bo, lio.me, ?_, by omega, lio.ml⟩ (fun e => ?_) l21 ((a01 x13').trans (Ext.of m1317)) ((S13.ext m1317).mono (by omega))
    · have : x.h ∈ ls.map (·.h) := List.mem_map_of_mem (f := (·.h)) hx
      rw [eh] at this
      exact ao _ (List.mem_of_mem_take this)
    · rw [eh]
      have nd1 : (As.map (·.1)).Nodup := by rw [ea]; exact uN.1
      have nd : As.Nodup := (List.pairwise_map.mp nd1).imp fun h e => h (by rw [e])
      exact nd.sublist (List.take_sublist _ _)
    · rw [e] at eh
      have := congrArg List.length eh
      rw [tlen] at this; cases this
end

end Z
namespace Z
open PySem L2 SX
/-! ### notices -/
def tlS (s : String) : D := .str (Str.ofString s)
structure Nt where
  n : Str
  k : Nat
  au : Str
  da : Int
  bs : List Str
  ro : Str
  rf : List D
  w : Str
  ot : List D
  se : List Str
  bo : D
def idND (t : Nt) : D := .tup [.str t.n, .int (t.k : Nat)]
def ntD (t : Nt) : D := .tup [.str (Str.ofString "notice"), idND t, .str t.au, .int t.da, .tup (t.bs.map D.str), .str t.ro, .tup t.rf, .tup (.str t.w :: t.ot), .tup (t.se.map D.str), t.bo]
structure NtOk (t : Nt) : Prop where
  n : (tl t.n).length ≤ 8
  k : t.k ≤ 999999
  bs : t.bs.length ≤ 10 ∧ ∀ d ∈ t.bs, Clean (tl d)
  se : t.se.length ≤ 1000
  rf : t.rf.length ≤ 1000 ∧ ∀ d ∈ t.rf, DL 2 d
  ot : t.ot.length ≤ 1000 ∧ ∀ d ∈ t.ot, DL 2 d
  bo : DL 5 t.bo
noncomputable def missL (b : Bk) (t : Nt) : List Str := if t.w = Str.ofString "strike" then [] else (sealsL b t.bs).filter fun x => !decide (x ∈ t.se)
def idL (t : Nt) : List Nat := TL.numL t.k ++ 64 :: tl t.n
def subKey (t : Nt) : Str := S ([115, 58] ++ idL t ++ [58] ++ TL.numL t.se.length ++ [58, 48])
def subD (t : Nt) (g : Str) : D := .tup [.str (Str.ofString "letter"), .str (subKey t), .str g, .tup [.str (Str.ofString "submit"), ntD t, .str g, .tup []]]
noncomputable def subsD (b : Bk) (t : Nt) : D := match missL b t with
  | [] => .non
  | a :: _ => subD t a
def noteD (t : Nt) (sd : D) : D := .tup [.str (Str.ofString "letter"), .str (S ([110, 58] ++ idL t)), .str t.au, .tup [.str (Str.ofString "note"), idND t, sd]]
def copyD (t : Nt) (h m : Str) : D := .tup [.str (Str.ofString "letter"), .str (S ([99, 58] ++ idL t ++ [58] ++ tl h ++ [58] ++ tl m)), .str m, .tup [.str (Str.ofString "copy"), ntD t, .str h]]
theorem dvs_txt {K : PySem.W.Frag} {H : Hp} : ∀ {w : List Str} {us : List V}, DVs K H (w.map D.str) us → us = w.map V.str
  | [], us, h => by unfold List.map DVs at h; exact h
  | x :: w, us, h => by
    obtain ⟨v, r, rfl, q, t⟩ := h
    unfold DV at q
    subst q
    rw [dvs_txt t]; rfl
theorem txt_dvs {K : PySem.W.Frag} {H : Hp} : ∀ (w : List Str), DVs K H (w.map D.str) (w.map V.str)
  | [] => by unfold List.map DVs; rfl
  | x :: w => ⟨.str x, _, rfl, by unfold DV; rfl, txt_dvs w⟩
theorem filt54 {α : Type} {p : α → Bool} {l : List α} {i : Nat} {x : α} (h : l[i]? = some x) : (l.take (i + 1)).filter p = (l.take i).filter p ++ if p x = true then [x] else [] := by
  rw [List.take_add_one, h, List.filter_append]
  congr 1
  by_cases c : p x = true
  · rw [if_pos c]; simp [c]
  · rw [if_neg c]; simp [c]
theorem nt_at {K : PySem.W.Frag} {H : Hp} {t : Nt} {v : V} (h : DV K H (ntD t) v) : ∃ a us i b k ks z, v = .ref a ∧ SqT K H a us ∧ us.length = 10 ∧ us[1]? = some (V.ref i) ∧ SqT K H i [.str t.n, .int (t.k : Nat)] ∧ us[2]? = some (V.str t.au) ∧ us[4]? = some (V.ref b) ∧ SqT K H b (t.bs.map V.str) ∧ us[7]? = some (V.ref k) ∧ SqT K H k ks ∧ ks[0]? = some (V.str t.w) ∧ us[8]? = some (V.ref z) ∧ SqT K H z (t.se.map V.str) := by
  obtain ⟨a, us, rfl, hS, d⟩ := h
  have ul := d.len
  obtain ⟨u1, e1, i, is, rfl, hi, di⟩ := d.get (i := 1) (d := idND t) rfl
  obtain ⟨u2, e2, d2⟩ := d.get (i := 2) (d := .str t.au) rfl
  obtain ⟨u4, e4, b, bs, rfl, hb, db⟩ := d.get (i := 4) (d := .tup (t.bs.map D.str)) rfl
  obtain ⟨u7, e7, k, ks, rfl, hk, dk⟩ := d.get (i := 7) (d := .tup (.str t.w :: t.ot)) rfl
  obtain ⟨u8, e8, z, zs, rfl, hz, dz⟩ := d.get (i := 8) (d := .tup (t.se.map D.str)) rfl
  unfold DV at d2
  subst d2
  obtain ⟨w0, ew, dw⟩ := dk.get (i := 0) (d := .str t.w) rfl
  unfold DV at dw
  subst dw
  have di' : DVs K H [.str t.n, .int (t.k : Nat)] is := di
  obtain ⟨n0, r0, rfl, dn, di'⟩ := di'
  obtain ⟨n1, r1, rfl, dm, di'⟩ := di'
  unfold DV at dn dm
  unfold DVs at di'
  subst dn; subst dm; subst di'
  have := dvs_txt db
  subst this
  have := dvs_txt dz
  subst this
  exact ⟨a, us, i, b, k, ks, z, rfl, hS, ul, e1, hi, e2, e4, hb, e7, hk, ew, e8, hz⟩
theorem seals_few (b : Bk) : ∀ (l : List Str) (acc : List Str), (l.foldl (sealF b) acc).length ≤ acc.length + l.length
  | [], acc => Nat.le_refl _
  | d :: l, acc => by
    have h1 := seals_few b l (sealF b acc d)
    have h2 : (sealF b acc d).length ≤ acc.length + 1 := by
      unfold sealF
      cases stwOf b (tl d) with
      | none => exact Nat.le_succ _
      | some s =>
        show (if s.a ∈ acc then acc else acc ++ [s.a]).length ≤ _
        split
        · exact Nat.le_succ _
        · rw [List.length_append]; exact Nat.le_refl _
    rw [List.foldl_cons, List.length_cons]
    omega
theorem seals_ten {b : Bk} {bs : List Str} (h : bs.length ≤ 10) : (sealsL b bs).length ≤ 10 := by
  have := seals_few b bs []
  rw [List.length_nil] at this
  unfold sealsL
  omega
theorem miss_ten {b : Bk} {t : Nt} (h : t.bs.length ≤ 10) : (missL b t).length ≤ 10 := by
  unfold missL
  split
  · exact Nat.zero_le _
  · exact Nat.le_trans (List.length_filter_le _ _) (seals_ten h)
theorem log54 {n : Nat} (h : n ≤ 999999) : n.log2 < 1920 := by
  by_cases h0 : n = 0
  · subst h0; decide
  · exact Nat.lt_of_lt_of_le ((Nat.log2_lt h0).mpr (show n < 2 ^ 20 by have : (2 : Nat) ^ 20 = 1048576 := by decide
                                                                       omega)) (by decide)
theorem dl_txts {n : Nat} {l : List Str} (h : l.length ≤ 1000000) : DL (n + 2) (.tup (l.map D.str)) := ⟨by rw [List.length_map]; exact h, fun d hd => by
  obtain ⟨x, _, rfl⟩ := List.mem_map.mp hd
  trivial⟩
theorem js {a y : Str} (h : (tl a).length + (tl y).length ≤ 30000) : (a ++ y).length ≤ sizeLine := by
  rw [tl_len, tl_app, List.length_append]
  exact Nat.le_trans h (by decide)
theorem js2 {a y : Str} (h : (tl a).length + (tl y).length ≤ 30000) : a.length + y.length ≤ sizeLine := by
  rw [tl_len, tl_len y]
  exact Nat.le_trans h (by decide)
theorem dv_key {K : PySem.W.Frag} {H : Hp} {x : Str} {l : List Nat} (h : tl x = l) : DV K H (.str (S l)) (.str x) := by
  unfold DV
  exact congrArg V.str (tl_ext (by rw [h, tl_S]))
theorem numL_six {n : Nat} (h : n ≤ 999999) : (TL.numL n).length ≤ 6 := TL.numL_len (n := n) (k := 6) (by decide) (by omega)
theorem idL_len {t : Nt} (ok : NtOk t) : (idL t).length ≤ 15 := by
  have := numL_six ok.k
  have := ok.n
  unfold idL
  rw [List.length_append, List.length_cons]
  omega
theorem tl_int (n : Nat) : tl (Str.ofString (toString (n : Int))) = TL.numL n := TL.tl_num n
def DLs (n : Nat) (ds : List D) : Prop := ∀ d ∈ ds, DL n d
theorem dlN {n : Nat} : DLs n [] := fun _ h => by cases h
theorem dlC {n : Nat} {d : D} {ds : List D} (h : DL n d) (k : DLs n ds) : DLs n (d :: ds) := fun x hx => (List.mem_cons.mp hx).elim (fun e => e ▸ h) (k x)
theorem dlT {n : Nat} {ds : List D} (l : ds.length ≤ 1000000) (k : DLs n ds) : DL (n + 1) (.tup ds) := ⟨l, k⟩
theorem dvs_ints {K : PySem.W.Frag} {H : Hp} : ∀ (w : List Int), DVs K H (w.map D.int) (w.map V.int)
  | [] => by unfold List.map DVs; rfl
  | x :: w => ⟨.int x, _, rfl, by unfold DV; rfl, dvs_ints w⟩
theorem dls_ints {n : Nat} (w : List Int) : DLs (n + 1) (w.map D.int) := fun d hd => by
  obtain ⟨x, _, rfl⟩ := List.mem_map.mp hd
  trivial
theorem dls_txts {n : Nat} (w : List Str) : DLs (n + 1) (w.map D.str) := fun d hd => by
  obtain ⟨x, _, rfl⟩ := List.mem_map.mp hd
  trivial
theorem dvs_mem {K : PySem.W.Frag} {H : Hp} : ∀ {ds : List D} {us : List V} {v : V}, DVs K H ds us → v ∈ us → ∃ d, DV K H d v
  | [], us, v, h, m => by unfold DVs at h; subst h; cases m
  | d :: ds, us, v, h, m => by
    obtain ⟨u, r, rfl, q, t⟩ := h
    rcases List.mem_cons.mp m with e | m
    · exact ⟨d, e ▸ q⟩
    · exact dvs_mem t m
theorem dvs_app {K : PySem.W.Frag} {H : Hp} : ∀ {ds es : List D} {us vs : List V}, DVs K H ds us → DVs K H es vs → DVs K H (ds ++ es) (us ++ vs)
  | [], es, us, vs, h, k => by unfold DVs at h; subst h; exact k
  | d :: ds, es, us, vs, h, k => by
    obtain ⟨u, r, rfl, q, t⟩ := h
    exact ⟨u, r ++ vs, rfl, q, dvs_app t k⟩
theorem small54 {n : Nat} (h : n ≤ 30000) : n < sizeLine := Nat.lt_of_le_of_lt h (by decide)
theorem dl_up : ∀ {n : Nat} {d : D}, DL n d → DL (n + 1) d
  | 0, _, h => False.elim h
  | n + 1, .tup xs, h => ⟨h.1, fun x hx => dl_up (h.2 x hx)⟩
  | n + 1, .non, _ => trivial
  | n + 1, .int _, _ => trivial
  | n + 1, .str _, _ => trivial
  | n + 1, .bl _, _ => trivial
theorem dl_le {n m : Nat} {d : D} (h : DL n d) (le : n ≤ m) : DL m d := by
  induction le with
  | refl => exact h
  | step _ ih => exact dl_up ih
theorem dl_nt {t : Nt} (ok : NtOk t) : DL 6 (ntD t) :=
  dlT (by show 10 ≤ 1000000; decide) (dlC trivial (dlC (dlT (by show 2 ≤ 1000000; decide) (dlC trivial (dlC trivial dlN))) (dlC trivial (dlC trivial (dlC (dlT (by rw [List.length_map]; have := ok.bs.1; omega) (dls_txts _)) (dlC trivial (dlC (dlT (by have := ok.rf.1; omega) (fun d h => dl_le (ok.rf.2 d h) (by decide))) (dlC (dlT (by rw [List.length_cons]; have := ok.ot.1; omega) (dlC trivial (fun d h => dl_le (ok.ot.2 d h) (by decide)))) (dlC (dlT (by rw [List.length_map]; have := ok.se; omega) (dls_txts _)) (dlC ok.bo dlN))))))))))
theorem dl_sub {t : Nt} (ok : NtOk t) (g : Str) : DL 8 (subD t g) :=
  dlT (by show 4 ≤ 1000000; decide) (dlC trivial (dlC trivial (dlC trivial (dlC (dlT (by show 4 ≤ 1000000; decide) (dlC trivial (dlC (dl_nt ok) (dlC trivial (dlC (dlT (Nat.zero_le _) dlN) dlN))))) dlN))))
theorem dl_subs {b : Bk} {t : Nt} (ok : NtOk t) : DL 8 (subsD b t) := by
  unfold subsD
  cases missL b t with
  | nil => trivial
  | cons g l => exact dl_sub ok g
theorem dl_note {t : Nt} {sd : D} (h : DL 3 sd) : DL 8 (noteD t sd) :=
  dlT (by show 4 ≤ 1000000; decide) (dlC trivial (dlC trivial (dlC trivial (dlC (dlT (by show 3 ≤ 1000000; decide) (dlC trivial (dlC (dlT (by show 2 ≤ 1000000; decide) (dlC trivial (dlC trivial dlN))) (dlC (dl_le h (by decide)) dlN)))) dlN))))
theorem dl_copy {t : Nt} (ok : NtOk t) (h m : Str) : DL 8 (copyD t h m) :=
  dlT (by show 4 ≤ 1000000; decide) (dlC trivial (dlC trivial (dlC trivial (dlC (dlT (by show 3 ≤ 1000000; decide) (dlC trivial (dlC (dl_nt ok) (dlC trivial dlN)))) dlN))))
def sp_id_text (K : PySem.W.Frag) : Sp := fun vs H Q _ => ∃ (a : Addr) (x : Str) (n : Nat), vs = [.ref a] ∧ SqT K H a [.str x, .int (n : Int)] ∧ (tl x).length ≤ 2000 ∧ n ≤ 999999 ∧ ∀ y : Str, tl y = TL.numL n ++ 64 :: tl x → Q (.str y) H
def sp54_missing (K : PySem.W.Frag) : Sp := fun vs H Q _ => ∃ (b : Bk) (t : Nt) (v u : V), vs = [v, u] ∧ DV K H (bkD b) v ∧ BkOk b ∧ DV K H (ntD t) u ∧ NtOk t ∧ ∀ r H', Same H H' → DV K H' (.tup ((missL b t).map D.str)) r → Q r H'
def sp54_lacking (K : PySem.W.Frag) : Sp := fun vs H Q _ => ∃ (b : Bk) (t : Nt) (v u : V), vs = [v, u] ∧ DV K H (bkD b) v ∧ BkOk b ∧ DV K H (ntD t) u ∧ NtOk t ∧ ∀ p H', H p = none → Same H H' → H' p = some (.lst ((missL b t).map V.str)) → Q (.ref p) H'
def sp54_to (K : PySem.W.Frag) : Sp := fun vs H Q _ => ∃ (t : Nt) (u : V) (g : Str) (e : Addr), vs = [u, .str g, .str g, .ref e] ∧ DV K H (ntD t) u ∧ NtOk t ∧ SqT K H e [] ∧ ∀ r H', Same H H' → DV K H' (subD t g) r → Q r H'
def sp54_subs (K : PySem.W.Frag) : Sp := fun vs H Q _ => ∃ (b : Bk) (t : Nt) (v u : V), vs = [v, u] ∧ DV K H (bkD b) v ∧ BkOk b ∧ DV K H (ntD t) u ∧ NtOk t ∧ ∀ r H', Same H H' → DV K H' (subsD b t) r → Q r H'
def sp54_note (K : PySem.W.Frag) : Sp := fun vs H Q _ => ∃ (t : Nt) (sd : D) (u z : V), vs = [u, z] ∧ DV K H (ntD t) u ∧ NtOk t ∧ DV K H sd z ∧ ∀ r H', Same H H' → DV K H' (noteD t sd) r → Q r H'
def sp54_copy (K : PySem.W.Frag) : Sp := fun vs H Q _ => ∃ (t : Nt) (u : V) (h m : Str), vs = [u, .str h, .str m] ∧ DV K H (ntD t) u ∧ NtOk t ∧ (tl h).length ≤ 200 ∧ (tl m).length ≤ 200 ∧ ∀ r H', Same H H' → DV K H' (copyD t h m) r → Q r H'
def sp54_lid (K : PySem.W.Frag) : Sp := fun vs H Q _ => ∃ (t : Nt) (u : V), vs = [u] ∧ DV K H (ntD t) u ∧ NtOk t ∧ ∀ y : Str, tl y = idL t → Q (.str y) H
def sp54_body (K : PySem.W.Frag) : Sp := fun vs H Q _ => ∃ (s a : Addr) (c : Nat), vs = [.ref s] ∧ Src H s a (c + 200) ∧ ∀ (d : D) (v : V) (H' : Hp), DV K H' d v → DL 5 d → Ext s H H' → Src H' s a c → Q v H'
def sp54_basic (K : PySem.W.Frag) : Sp := fun vs H Q _ => ∃ (s a w m p : Addr) (ws us ps : List Str) (c : Nat), vs = [.ref s, .ref w, .ref m, .ref p] ∧ SqL K H w (ws.map V.str) ∧ w ≠ s ∧ Wds ws ∧ H m = some (.lst (us.map V.str)) ∧ m ≠ s ∧ us.length ≤ 10 ∧ H p = some (.lst (ps.map V.str)) ∧ p ≠ s ∧ ps ≠ [] ∧ ps.length ≤ 10 ∧ Src H s a (c + 210) ∧ ∀ (d : D) (v : V) (H' : Hp), DV K H' d v → Ext s H H' → Src H' s a c → Q v H'
def sp54_policy (K : PySem.W.Frag) : Sp := fun vs H Q _ => ∃ (s a w m p : Addr) (ws us ps : List Str) (c : Nat), vs = [.ref s, .ref w, .ref m, .ref p] ∧ SqL K H w (ws.map V.str) ∧ w ≠ s ∧ Wds ws ∧ H m = some (.lst (us.map V.str)) ∧ m ≠ s ∧ us.length ≤ 10 ∧ H p = some (.lst (ps.map V.str)) ∧ p ≠ s ∧ ps ≠ [] ∧ ps.length ≤ 10 ∧ Src H s a (c + 2000) ∧ ∀ (d : D) (v : V) (H' : Hp), DV K H' d v → Ext s H H' → Src H' s a c → Q v H'
def sp54_stewards (K : PySem.W.Frag) : Sp := fun vs H Q _ => ∃ (s a w : Addr) (v : V) (b : Bk) (ws : List Str) (m : Int) (c : Nat), vs = [.ref s, v, .ref w, .int m] ∧ 0 < m ∧ m ≤ 3 ∧ DV K H (bkD b) v ∧ b.si ≠ [] ∧ BkOk b ∧ SqL K H w (ws.map V.str) ∧ w ≠ s ∧ Wds ws ∧ Src H s a (c + 10000) ∧
  ∀ (u : V) (l : List Sw) (H' : Hp), DV K H' (bkD { b with sw := l }) u → l.length ≤ 3 → (∀ x ∈ l, (tl x.p).length ≤ 200 ∧ (tl x.a).length ≤ 20) → Ext s H H' → Src H' s a c → Q u H'
def sp54_kind (K : PySem.W.Frag) : Sp := fun vs H Q _ => ∃ (s a : Addr) (o : V) (od : D) (c : Nat), vs = [.ref s, o] ∧ DV K H od o ∧ DL 2 od ∧ Src H s a (c + 1) ∧ ∀ (w : Str) (ot : List D) (v : V) (H' : Hp), DV K H' (.tup (.str w :: ot)) v → ot.length ≤ 1 → (∀ d ∈ ot, DL 2 d) → Ext s H H' → Src H' s a c → Q v H'
def sp54_seals (K : PySem.W.Frag) : Sp := fun vs H Q _ => ∃ (s a t : Addr) (v : V) (b : Bk) (bs : List Str) (c : Nat), vs = [.ref s, v, .ref t] ∧ DV K H (bkD b) v ∧ b.si ≠ [] ∧ BkOk b ∧ SqT K H t (bs.map V.str) ∧ bs.length ≤ 10 ∧ (∀ d ∈ bs, Clean (tl d)) ∧ Src H s a (c + 100) ∧ ∀ (se : List Str) (v : V) (H' : Hp), DV K H' (.tup (se.map D.str)) v → se.length ≤ 100 → Ext s H H' → Src H' s a c → Q v H'
def sp54_notice (K : PySem.W.Frag) : Sp := fun vs H Q _ => ∃ (s a w : Addr) (v : V) (b : Bk) (ws : List Str) (c : Nat), vs = [.ref s, v, .ref w] ∧ DV K H (bkD b) v ∧ b.si ≠ [] ∧ BkOk b ∧ SqL K H w (ws.map V.str) ∧ w ≠ s ∧ Wds ws ∧ Src H s a (c + 1000) ∧ ∀ (t : Nt) (v : V) (H' : Hp), DV K H' (ntD t) v → NtOk t → t.se.length ≤ 100 → Ext s H H' → Src H' s a c → Q v H'
def sp54_right (K : PySem.W.Frag) : Sp := fun vs H Q _ => ∃ (s a : Addr) (b b2 : Bk) (t : Nt) (v v2 u : V) (c : Nat), vs = [.ref s, v, v2, u] ∧ DV K H (bkD b) v ∧ BkOk b ∧ DV K H (bkD b2) v2 ∧ BkOk b2 ∧ DV K H (ntD t) u ∧ NtOk t ∧ t.se.length ≤ 100 ∧ Src H s a (c + 20) ∧ ∀ H', Ext s H H' → Src H' s a c → Q (.bl true) H'
def sp54_others (K : PySem.W.Frag) : Sp := fun vs H Q _ => ∃ (t : Nt) (sd : D) (u z : V) (h m : Str), vs = [u, z, .str h, .str m] ∧ DV K H (ntD t) u ∧ NtOk t ∧ DV K H sd z ∧ DL 3 sd ∧ (tl h).length ≤ 200 ∧ (tl m).length ≤ 200 ∧ ∀ H', Same H H' → Q (.bl true) H'
def sp54_shuffled (K : PySem.W.Frag) : Sp := fun vs H Q _ => ∃ (s a r : Addr) (xs : List V) (c : Nat), vs = [.ref s, .ref r] ∧ (SqL K H r xs ∨ SqT K H r xs) ∧ xs.length ≤ 1000 ∧ Src H s a (c + xs.length) ∧
  ∀ (d : Addr) (ys : List V) (H' : Hp), H d = none → H' d = some (.lst ys) → ys.length = xs.length → (∀ y ∈ ys, y ∈ xs) → Ext s H H' → Src H' s a c → Q (.ref d) H'
end Z
namespace Z
open PySem L2 SX
section
variable {P : Program} {w : World} {K : PySem.W.Frag} {mg : Str → Option Value} {base : Heap}
theorem ok_id_text (D : Df K mg "id_text" s_id_text ["id"]) (T : Tx mg)   : Cal P w K mg base "id_text" ["id"] 1 (sp_id_text K) := by
  obtain ⟨f, fd, F, gf, bf⟩ := D
  refine ⟨f, fd, F.ok sc_id_text (fun vs H Q E h => ?_) (fun cdv A outer s₀ H vs Q E hr h => ?_), gf, F.kp, bf⟩
  · obtain ⟨a, x, n, rfl, _⟩ := h; rfl
  · obtain ⟨a, x, n, rfl, hA, xl, nl, q⟩ := h
    refine ⟨_, (pss_one (ps_ret (pe_joined (.cons (pe_fmt (pe_ix ix_tup (pv 0) pe_int (fun _ _ => rfl))) (.cons pe_str (.cons (pe_fmt (pe_ix ix_tup (pv 0) pe_int (fun _ _ => rfl))) .nil)))))), ?_⟩
    have small : ∀ n : Nat, n ≤ 30000 → n ≤ sizeLine := fun n h => Nat.le_trans h (by decide)
    have lx := tl_len x
    have nL := TL.numL_len (n := n) (k := 6) (by decide) (by omega)
    have t1 : tl (Str.ofString (toString (n : Int))) = TL.numL n := TL.tl_num n
    refine ⟨_, rfl, a, _, _, .int (n : Int), rfl, rfl, hA, atI_nat (j := 1) rfl, .inr ⟨(n : Int), rfl, ?_, _, rfl, ?_, _, rfl, ?_, _, rfl, a, _, _, .str x, rfl, rfl, hA, atI_nat (j := 0) rfl, .inl ⟨x, rfl, small _ (by omega), _, rfl, ?_, ?_⟩⟩⟩
    · exact log54 nl
    · rw [tl_len, tl_app, List.length_append, t1]; exact small _ (by show 0 + _ ≤ _; omega)
    · rw [tl_len, tl_app, tl_app, List.length_append, List.length_append, t1]; exact small _ (by show (0 + _) + 1 ≤ _; omega)
    · rw [tl_len, tl_app, tl_app, tl_app, List.length_append, List.length_append, List.length_append, t1]; exact small _ (by show ((0 + _) + 1) + _ ≤ _; omega)
    · refine q _ ?_
      rw [tl_app, tl_app, tl_app, t1]
      show ([] ++ TL.numL n ++ [64]) ++ tl x = _
      rw [List.nil_append, List.append_assoc]; rfl
end

end Z
namespace Z
open PySem L2 SX
section
variable {P : Program} {w : World} {K : PySem.W.Frag} {mg : Str → Option Value} {base : Heap}
theorem ok__law_body (D : Df K mg "_law_body" s__law_body ["source"]) (T : Tx mg)  (C__law_draw : Cal P w K mg base "_law_draw" ["source", "many"] 2 sp__law_draw) (C__law_row : Cal P w K mg base "_law_row" ["source", "size"] 3 sp__law_row) : Cal P w K mg base "_law_body" ["source"] 4 (sp54_body K) := by
  obtain ⟨f__law_draw, fd__law_draw, G__law_draw, g__law_draw, k__law_draw, b__law_draw⟩ := C__law_draw
  obtain ⟨f__law_row, fd__law_row, G__law_row, g__law_row, k__law_row, b__law_row⟩ := C__law_row
  obtain ⟨f, fd, F, gf, bf⟩ := D
  refine ⟨f, fd, F.ok sc__law_body (fun vs H Q E h => ?_) (fun cdv A outer s₀ H vs Q E hr h => ?_), gf, F.kp, bf⟩
  · obtain ⟨s, a, c, rfl, _⟩ := h; rfl
  · obtain ⟨s, a, c, rfl, hS, q⟩ := h
    refine ⟨_, (pss_cons (ps_set (i := 1) sc__law_body.nd rfl (Or.inl rfl) (pe_call G__law_draw (hr.mono (by decide)) (by rfl) g__law_draw k__law_draw b__law_draw .nil pass0 (pa_cons (pv 0) (pa_cons pe_int pa_nil))))
      (pss_cons (ps_if (pt_cmpR op_eq (pv 1) pe_int (nomark _))
      (pss_one (ps_ret (pe_tup (pa_cons pe_str (pa_cons pe_str (pa_cons (pe_callTy call_tuple_of (by rfl) T.n_tuple (by decide +kernel) (pa_cons (pe_lc (own := [("k", 4)]) (g := gName 4) (tt := tYes) rfl sc__law_body.nd (pi_range1 (by rfl) T.n_range (pa_cons (pe_call G__law_draw (hr.mono (by decide)) (by rfl) g__law_draw k__law_draw b__law_draw .nil pass0 (pa_cons (pv 0) (pa_cons pe_int pa_nil))) pa_nil)) (blkOk_by (own := [("k", 4)]) (N := N__law_body) (sc := defScope s__law_body) (by decide +kernel)) (fun _ _ _ _ _ => pg_name (i := 4) sc__law_body.nd rfl (Or.inl rfl)) (fun _ _ _ _ _ => pts_nil) (fun _ _ _ _ _ => (pe_call G__law_draw (hr.mono (by decide)) (by rfl) g__law_draw k__law_draw b__law_draw .nil pass0 (pa_cons (pv 0) (pa_cons pe_int pa_nil))))) pa_nil)) pa_nil))))))
      pss_nil)
      (pss_cons (ps_if (pt_cmpR op_eq (pv 1) pe_int (nomark _))
      (pss_cons (ps_set (i := 2) sc__law_body.nd rfl (Or.inl rfl) (pe_tup (pa_cons pe_str (pa_cons pe_str (pa_cons (pe_tup (pa_cons (pe_call G__law_row (hr.mono (by decide)) (by rfl) g__law_row k__law_row b__law_row .nil pass0 (pa_cons (pv 0) (pa_cons (pe_call G__law_draw (hr.mono (by decide)) (by rfl) g__law_draw k__law_draw b__law_draw .nil pass0 (pa_cons (pv 0) (pa_cons pe_int pa_nil))) pa_nil))) pa_nil)) pa_nil)))))
        (pss_one (ps_ret (pe_tup (pa_cons pe_str (pa_cons (pe_tup (pa_cons (pv 2) (pa_cons (pe_tup (pa_cons pe_str (pa_cons pe_str (pa_cons (pe_tup pa_nil) pa_nil)))) pa_nil))) pa_nil))))))
      pss_nil)
      (pss_cons (ps_setLc (i := 3) (own := [("k", 4)]) (g := gName 4) (tt := tYes) rfl sc__law_body.nd rfl rfl (sw_true rfl rfl rfl (by decide +kernel)) (pi_range1 (by rfl) T.n_range (pa_cons (pe_call G__law_draw (hr.mono (by decide)) (by rfl) g__law_draw k__law_draw b__law_draw .nil pass0 (pa_cons (pv 0) (pa_cons pe_int pa_nil))) pa_nil)) (blkOk_by (own := [("k", 4)]) (N := N__law_body) (sc := defScope s__law_body) (by decide +kernel)) (fun _ _ _ _ _ => pg_name (i := 4) sc__law_body.nd rfl (Or.inl rfl)) (fun _ _ _ _ _ => pts_nil) (fun _ _ _ _ _ => (pe_call G__law_row (hr.mono (by decide)) (by rfl) g__law_row k__law_row b__law_row .nil pass0 (pa_cons (pv 0) (pa_cons (pe_call G__law_draw (hr.mono (by decide)) (by rfl) g__law_draw k__law_draw b__law_draw .nil pass0 (pa_cons (pv 0) (pa_cons pe_int pa_nil))) pa_nil)))))
      (pss_one (ps_ret (pe_tup (pa_cons pe_str (pa_cons pe_str (pa_cons (pe_callTy call_tuple_of (by rfl) T.n_tuple (by decide +kernel) (pa_cons (pv 3) pa_nil)) pa_nil)))))))))), ?_⟩
    refine ⟨_, rfl, s, a, 8, c + 190, rfl, by decide, by decide, hS.mono (by omega), fun w1 H1 _ _ x1 S1 => ?_⟩
    refine ⟨_, rfl, rfl, _, rfl, ite2 (fun _ => ?_) (fun _ => ?_)⟩
    · refine ⟨_, rfl, s, a, 40, c + 180, rfl, by decide, by decide, S1.mono (by omega), fun m H2 m0 m1 x2 S2 => ⟨_, rfl, by omega, by omega, fun L hL => ?_⟩⟩
      have Ls := S2.ne hL
      have La := S2.nea hL
      refine lc_range (lo := 0) (n := m.toNat) (fun i H' => ∃ is : List Int, H' L = some (.lst (is.map V.int)) ∧ is.length = i ∧ Ext s H2 H' ∧ Src H' s a (c + (180 - i))) ⟨[], upd_same, rfl, Ext.new hL, S2.new hL⟩ ?_ ?_
      · rintro i H' hi ⟨is, h1, hl, hE, hS'⟩
        refine ⟨rfl, _, rfl, s, a, _, c + (180 - (i + 1)), rfl, by decide, by decide, hS'.mono (by omega), fun y H3 _ _ x3 S3 => ⟨_, x3 _ _ Ls h1, by rw [List.length_map]; exact small54 (by omega), is ++ [y], by rw [upd_same, List.map_append]; rfl, by rw [List.length_append, hl]; rfl, fun b o hb hh => ?_, S3.put Ls La⟩⟩
        rw [upd_ne (ne_of_none hh hL)]; exact x3 _ _ hb (hE _ _ hb hh)
      rintro H3 ⟨is, h3, hl3, hE3, S3⟩
      refine ⟨L, _, rfl, .inl ⟨SqL.of h3, fun T hT => ?_⟩⟩
      have n1 := same_new (o := HO.tup (is.map V.int)) hT
      refine ⟨by show 3 ≤ sizeLine; decide, fun U hU => ?_⟩
      have n2 := same_new (o := HO.tup [V.str (Str.ofString "data"), V.str (Str.ofString "pairs"), V.ref T]) hU
      have hT2 := n2 _ _ (upd_same (H := H3) (a := T) (o := HO.tup (is.map V.int)))
      have n12 := n1.trans n2
      exact q (.tup [.str (Str.ofString "data"), .str (Str.ofString "pairs"), .tup (is.map D.int)]) _ _ ⟨U, _, rfl, SqT.of upd_same, dlc (dls _) (dlc (dls _) (dlc ⟨T, _, rfl, SqT.of hT2, dvs_ints _⟩ dln))⟩
        (dlT (by show 3 ≤ 1000000; decide) (dlC trivial (dlC trivial (dlC (dlT (by rw [List.length_map]; omega) (dls_ints _)) dlN)))) (((x1.trans x2).trans hE3).trans (Ext.of n12)) ((S3.ext n12).mono (by omega))
    refine ⟨_, rfl, rfl, _, rfl, ite2 (fun _ => ?_) (fun _ => ?_)⟩
    · refine ⟨_, rfl, _, rfl, s, a, 9, c + 180, rfl, by decide, by decide, S1.mono (by omega), fun m H2 m0 m1 x2 S2 => ⟨s, a, m, c + 170, rfl, m0, by omega, S2.mono (by omega), fun x H3 _ _ x3 S3 => ?_⟩⟩
      refine ⟨by show 1 ≤ sizeLine; decide, fun R hR => ?_⟩
      have n1 := same_new (o := HO.tup [V.str x]) hR
      refine ⟨by show 3 ≤ sizeLine; decide, fun F hF => ?_⟩
      have n2 := same_new (o := HO.tup [V.str (Str.ofString "text"), V.str (Str.ofString "plain"), V.ref R]) hF
      refine ⟨_, rfl, Nat.zero_le _, fun E hE => ?_⟩
      have n3 := same_new (o := HO.tup []) hE
      refine ⟨by show 3 ≤ sizeLine; decide, fun G hG => ?_⟩
      have n4 := same_new (o := HO.tup [V.str (Str.ofString "text"), V.str (Str.ofString "plain"), V.ref E]) hG
      refine ⟨by show 2 ≤ sizeLine; decide, fun I hI => ?_⟩
      have n5 := same_new (o := HO.tup [V.ref F, V.ref G]) hI
      refine ⟨by show 2 ≤ sizeLine; decide, fun J hJ => ?_⟩
      have n6 := same_new (o := HO.tup [V.str (Str.ofString "parts"), V.ref I]) hJ
      have n56 := n5.trans n6
      have n456 := n4.trans n56
      have n3456 := n3.trans n456
      have n2_6 := n2.trans n3456
      have nn := n1.trans n2_6
      have hR' := n2_6 _ _ (upd_same (H := H3) (a := R) (o := HO.tup [V.str x]))
      have hF' := n3456 _ _ (upd_same (a := F) (o := HO.tup [V.str (Str.ofString "text"), V.str (Str.ofString "plain"), V.ref R]))
      have hE' := n456 _ _ (upd_same (a := E) (o := HO.tup []))
      have hG' := n56 _ _ (upd_same (a := G) (o := HO.tup [V.str (Str.ofString "text"), V.str (Str.ofString "plain"), V.ref E]))
      have hI' := n6 _ _ (upd_same (a := I) (o := HO.tup [V.ref F, V.ref G]))
      exact q (.tup [.str (Str.ofString "parts"), .tup [.tup [.str (Str.ofString "text"), .str (Str.ofString "plain"), .tup [.str x]], .tup [.str (Str.ofString "text"), .str (Str.ofString "plain"), .tup []]]]) _ _
        ⟨J, _, rfl, SqT.of upd_same, dlc (dls _) (dlc ⟨I, _, rfl, SqT.of hI', dlc ⟨F, _, rfl, SqT.of hF', dlc (dls _) (dlc (dls _) (dlc ⟨R, _, rfl, SqT.of hR', dlc (dls _) dln⟩ dln))⟩ (dlc ⟨G, _, rfl, SqT.of hG', dlc (dls _) (dlc (dls _) (dlc ⟨E, [], rfl, SqT.of hE', dln⟩ dln))⟩ dln)⟩ dln)⟩
        (dlT (by show 2 ≤ 1000000; decide) (dlC trivial (dlC (dlT (by show 2 ≤ 1000000; decide) (dlC (dlT (by show 3 ≤ 1000000; decide) (dlC trivial (dlC trivial (dlC (dlT (by show 1 ≤ 1000000; decide) (dlC trivial dlN)) dlN)))) (dlC (dlT (by show 3 ≤ 1000000; decide) (dlC trivial (dlC trivial (dlC (dlT (Nat.zero_le _) dlN) dlN)))) dlN))) dlN))) ((x1.trans (x2.trans x3)).trans (Ext.of nn)) ((S3.ext nn).mono (by omega))
    refine ⟨_, rfl, s, a, 4, c + 180, rfl, by decide, by decide, S1.mono (by omega), fun m H2 m0 m1 x2 S2 => ⟨_, rfl, by omega, by omega, fun L hL => ?_⟩⟩
    have Ls := S2.ne hL
    have La := S2.nea hL
    refine lc_range (lo := 0) (n := m.toNat) (fun i H' => ∃ xs : List Str, H' L = some (.lst (xs.map V.str)) ∧ xs.length = i ∧ Ext s H2 H' ∧ Src H' s a (c + (180 - 20 * i))) ⟨[], upd_same, rfl, Ext.new hL, S2.new hL⟩ ?_ ?_
    · rintro i H' hi ⟨xs, h1, hl, hE, hS'⟩
      refine ⟨rfl, _, rfl, _, rfl, s, a, 12, c + (180 - 20 * i) - 1, rfl, by decide, by decide, hS'.mono (by omega), fun n H3 n0 n1 x3 S3 => ⟨s, a, n, c + (180 - 20 * (i + 1)), rfl, n0, by omega, S3.mono (by omega), fun y H4 _ _ x4 S4 => ⟨_, x4 _ _ Ls (x3 _ _ Ls h1), by rw [List.length_map]; exact small54 (by omega), xs ++ [y], by rw [upd_same, List.map_append]; rfl, by rw [List.length_append, hl]; rfl, fun b o hb hh => ?_, S4.put Ls La⟩⟩⟩
      rw [upd_ne (ne_of_none hh hL)]; exact x4 _ _ hb (x3 _ _ hb (hE _ _ hb hh))
    rintro H3 ⟨xs, h3, hl3, hE3, S3⟩
    refine ⟨_, rfl, L, _, rfl, .inl ⟨SqL.of h3, fun T hT => ?_⟩⟩
    have n1 := same_new (o := HO.tup (xs.map V.str)) hT
    refine ⟨by show 3 ≤ sizeLine; decide, fun U hU => ?_⟩
    have n2 := same_new (o := HO.tup [V.str (Str.ofString "text"), V.str (Str.ofString "plain"), V.ref T]) hU
    have hT2 := n2 _ _ (upd_same (H := H3) (a := T) (o := HO.tup (xs.map V.str)))
    have n12 := n1.trans n2
    exact q (.tup [.str (Str.ofString "text"), .str (Str.ofString "plain"), .tup (xs.map D.str)]) _ _ ⟨U, _, rfl, SqT.of upd_same, dlc (dls _) (dlc (dls _) (dlc ⟨T, _, rfl, SqT.of hT2, txt_dvs _⟩ dln))⟩
      (dlT (by show 3 ≤ 1000000; decide) (dlC trivial (dlC trivial (dlC (dlT (by rw [List.length_map]; omega) (dls_txts _)) dlN)))) (((x1.trans x2).trans hE3).trans (Ext.of n12)) ((S3.ext n12).mono (by omega))
end

end Z
namespace Z
open PySem L2 SX
theorem tkE {K : PySem.W.Frag} {H H' : Hp} {s a : Addr} {c : Nat} (x : Ext s H H') (S : Src H s a c) : TK K H H' := fun _ _ h => by
  obtain ⟨xs, e⟩ := S.lst
  exact x.seqT e h
theorem sl_listK {X : Cx} {K : PySem.W.Frag} (h : X.K = K) : SlR X (rSlL K) := by subst h; exact sl_list
/-! ### tuples stay, by their addresses too -/
def TT (K : PySem.W.Frag) (H H' : Hp) : Prop := TK K H H' ∧ ∀ a xs, H a = some (.tup xs) → H' a = some (.tup xs)
section
variable {K : PySem.W.Frag}
theorem TT.refl {H : Hp} : TT K H H := ⟨TK.same (Same.refl _), fun _ _ e => e⟩
theorem TT.same {H H' : Hp} (h : Same H H') : TT K H H' := ⟨TK.same h, fun _ _ e => h _ _ e⟩
theorem TT.trans {H H1 H2 : Hp} (x : TT K H H1) (y : TT K H1 H2) : TT K H H2 := ⟨x.1.trans y.1, fun a xs e => y.2 a xs (x.2 a xs e)⟩
theorem TT.ext {H H' : Hp} {s a : Addr} {c : Nat} (x : Ext s H H') (S : Src H s a c) : TT K H H' := ⟨tkE x S, fun b xs e => x _ _ (fun z => by
  obtain ⟨ys, e2⟩ := S.lst
  rw [z, e2] at e
  cases e) e⟩
theorem TT.over {H : Hp} {p : Addr} {u o : HO} (h : H p = some u) (n1 : ∀ xs, u ≠ .tup xs) (n2 : ∀ o w, u ≠ .frz o w) : TT K H (upd H p o) := ⟨tk_upd h n1 n2, fun b xs e => by
  rw [upd_ne (fun z => by rw [z, h] at e; exact n1 _ (Option.some.inj e))]; exact e⟩
theorem TT.put {H : Hp} {M : Addr} {ys : List V} {o : HO} (h : H M = some (.lst ys)) : TT K H (upd H M o) := TT.over h (fun _ e => by cases e) (fun _ _ e => by cases e)
end
theorem Src.extL {H H' : Hp} {s a : Addr} {c : Nat} {ms : List Addr} (h : Src H s a c) (x : ExtL ms H H') (n1 : s ∉ ms) (n2 : a ∉ ms) : Src H' s a c := by
  obtain ⟨ns, i, b, e, t, h1, h2, h3⟩ := h
  exact ⟨ns, i, b, e, t, x _ _ n1 h1, x _ _ n2 h2, h3⟩
/-! ### a list of values, told one by one -/
def RL {α : Type} (R : α → V → Prop) : List α → List V → Prop
  | [], us => us = []
  | x :: r, us => ∃ v t, us = v :: t ∧ R x v ∧ RL R r t
section
variable {α β : Type} {R R' : α → V → Prop}
theorem RL.len : ∀ {xs : List α} {us : List V}, RL R xs us → us.length = xs.length
  | [], _, h => by have : _ = [] := h; rw [this]; rfl
  | _ :: _, _, h => by
    obtain ⟨v, t, rfl, _, h2⟩ := h
    rw [List.length_cons, List.length_cons, h2.len]
theorem RL.get : ∀ {xs : List α} {us : List V} {i : Nat} {v : V}, RL R xs us → us[i]? = some v → ∃ x, xs[i]? = some x ∧ R x v
  | [], us, i, v, h, q => by have : us = [] := h; subst this; simp at q
  | x :: r, us, i, v, h, q => by
    obtain ⟨v', t, rfl, h1, h2⟩ := h
    cases i with
    | zero => exact ⟨x, rfl, by cases q; exact h1⟩
    | succ i => exact RL.get (i := i) h2 q
theorem RL.at {xs : List α} {us : List V} {i : Nat} {x : α} (h : RL R xs us) (q : xs[i]? = some x) : ∃ v, us[i]? = some v ∧ R x v := by
  have il := (List.getElem?_eq_some_iff.mp q).1
  obtain ⟨v, hv⟩ : ∃ v, us[i]? = some v := ⟨_, List.getElem?_eq_getElem (by rw [h.len]; exact il)⟩
  obtain ⟨x', hx, r⟩ := h.get hv
  rw [q] at hx
  cases hx
  exact ⟨v, hv, r⟩
theorem RL.mono (m : ∀ x v, R x v → R' x v) : ∀ {xs : List α} {us : List V}, RL R xs us → RL R' xs us
  | [], _, h => h
  | _ :: _, _, h => by
    obtain ⟨v, t, e, h1, h2⟩ := h
    exact ⟨v, t, e, m _ _ h1, RL.mono m h2⟩
theorem RL.snoc {x : α} {v : V} (q : R x v) : ∀ {xs : List α} {us : List V}, RL R xs us → RL R (xs ++ [x]) (us ++ [v])
  | [], us, h => by have : us = [] := h; subst this; exact ⟨v, [], rfl, q, rfl⟩
  | _ :: _, _, h => by
    obtain ⟨v', t, rfl, h1, h2⟩ := h
    exact ⟨v', t ++ [v], rfl, h1, h2.snoc q⟩
theorem RL.step {xs : List α} {us : List V} {x : α} {v : V} {j : Nat} (he : xs[j]? = some x) (h : RL R (xs.take j) us) (q : R x v) : RL R (xs.take (j + 1)) (us ++ [v]) := by
  rw [List.take_add_one, he]
  exact h.snoc q
theorem RL.take : ∀ {xs : List α} {us : List V} (j : Nat), RL R xs us → RL R (xs.take j) (us.take j)
  | _, _, 0, _ => rfl
  | [], us, j + 1, h => by have : us = [] := h; subst this; exact rfl
  | _ :: _, _, j + 1, h => by
    obtain ⟨v, t, rfl, h1, h2⟩ := h
    exact ⟨v, t.take j, rfl, h1, h2.take j⟩
theorem RL.erase : ∀ {xs : List α} {us : List V} (j : Nat), RL R xs us → RL R (xs.eraseIdx j) (us.eraseIdx j)
  | [], us, j, h => by have : us = [] := h; subst this; simp; exact rfl
  | _ :: _, _, 0, h => by
    obtain ⟨v, t, rfl, h1, h2⟩ := h
    exact h2
  | _ :: _, _, j + 1, h => by
    obtain ⟨v, t, rfl, h1, h2⟩ := h
    exact ⟨v, t.eraseIdx j, rfl, h1, h2.erase j⟩
theorem RL.pick {xs : List α} {us : List V} {v : V} (h : RL R xs us) (m : v ∈ us) : ∃ x, x ∈ xs ∧ R x v := by
  obtain ⟨i, hi⟩ := List.mem_iff_getElem?.mp m
  obtain ⟨x, hx, r⟩ := h.get hi
  exact ⟨x, List.mem_of_getElem? hx, r⟩
theorem RL.dvs {K : PySem.W.Frag} {H : Hp} {f : α → D} (m : ∀ x v, R x v → DV K H (f x) v) : ∀ {xs : List α} {us : List V}, RL R xs us → DVs K H (xs.map f) us
  | [], us, h => by have : us = [] := h; subst this; exact dln
  | _ :: _, _, h => by
    obtain ⟨v, t, rfl, h1, h2⟩ := h
    exact dlc (m _ _ h1) (RL.dvs m h2)
theorem RL.perm : ∀ {us vs : List V}, us.Perm vs → ∀ {xs : List α}, RL R xs us → ∃ ys : List α, xs.Perm ys ∧ RL R ys vs := by
  intro us vs p
  induction p with
  | nil => intro xs h; exact ⟨xs, List.Perm.refl _, h⟩
  | cons v p ih =>
    intro xs h
    cases xs with
    | nil => cases (show _ :: _ = [] from h)
    | cons x r =>
      obtain ⟨v', t, e, h1, h2⟩ := h
      cases e
      obtain ⟨ys, p2, h3⟩ := ih h2
      exact ⟨x :: ys, p2.cons x, v, _, rfl, h1, h3⟩
  | swap v w l =>
    intro xs h
    cases xs with
    | nil => cases (show _ :: _ = [] from h)
    | cons x r =>
      obtain ⟨v', t, e, h1, h2⟩ := h
      cases e
      cases r with
      | nil => cases (show _ :: _ = [] from h2)
      | cons y r =>
        obtain ⟨v2, t2, e2, h3, h4⟩ := h2
        cases e2
        exact ⟨y :: x :: r, List.Perm.swap y x r, _, _, rfl, h3, _, _, rfl, h1, h4⟩
  | trans _ _ ih1 ih2 =>
    intro xs h
    obtain ⟨ys, p1, h1⟩ := ih1 h
    obtain ⟨zs, p2, h2⟩ := ih2 h1
    exact ⟨zs, p1.trans p2, h2⟩
theorem RL.filter {f : α → Bool} : ∀ {xs : List α} {us : List V}, RL R xs us → ∃ ws, RL R (xs.filter f) ws
  | [], _, _ => ⟨[], rfl⟩
  | x :: r, _, h => by
    obtain ⟨v, t, _, h1, h2⟩ := h
    obtain ⟨ws, h3⟩ := RL.filter (f := f) h2
    by_cases c : f x = true
    · rw [List.filter_cons_of_pos c]; exact ⟨v :: ws, v, ws, rfl, h1, h3⟩
    · rw [List.filter_cons_of_neg c]; exact ⟨ws, h3⟩
end
/-! ### ids -/
abbrev Idn := Str × Int
def ik (x : Idn) : List L2.Key := [.inr x.1, .inl x.2]
def iD (x : Idn) : D := .tup [.str x.1, .int x.2]
theorem ik_inj {x y : Idn} (h : ik x = ik y) : x = y := by
  obtain ⟨a, b⟩ := x
  obtain ⟨c, d⟩ := y
  unfold ik at h
  injection h with h1 h2
  injection h2 with h2 _
  exact Prod.ext (Sum.inr.inj h1) (Sum.inl.inj h2)
theorem iD_inj {x y : Idn} (h : iD x = iD y) : x = y := by
  obtain ⟨a, b⟩ := x
  obtain ⟨c, d⟩ := y
  unfold iD at h
  injection h with h
  injection h with h1 h2
  injection h2 with h2 _
  injection h1 with h1
  injection h2 with h2
  exact Prod.ext h1 h2
def okI (x : Idn) : Prop := Low (tl x.1) ∧ (tl x.1).length ≤ 1000
def IsId (H : Hp) (x : Idn) (v : V) : Prop := okI x ∧ ∃ a, v = .ref a ∧ H a = some (.tup [.str x.1, .int x.2])
section
variable {K : PySem.W.Frag}
theorem IsId.tt {H H' : Hp} (T : TT K H H') (x : Idn) (v : V) (h : IsId H x v) : IsId H' x v := by
  obtain ⟨h0, a, e, h1⟩ := h
  exact ⟨h0, a, e, T.2 _ _ h1⟩
theorem IsId.dv {H : Hp} (x : Idn) (v : V) (h : IsId H x v) : DV K H (iD x) v := by
  obtain ⟨h0, a, rfl, h1⟩ := h
  exact ⟨a, _, rfl, SqT.of h1, dlc (dls _) (dlc (dli _) dln)⟩
theorem id_okd {x : Idn} (h : okI x) : Okd (iD x) := fine_ok (n := 1) (fine_tup (fines_cons (fine_low fun c hc => by have := h.1 c hc; omega) (fines_cons fine_int fines_nil)))
theorem id_okl {l : List Idn} (h : ∀ x ∈ l, okI x) : Okl (l.map iD) := fines_ok (n := 1) (fines_map fun x m => fine_tup (fines_cons (fine_low fun c hc => by have := (h x m).1 c hc; omega) (fines_cons fine_int fines_nil)))
theorem id_alike (x y : Idn) : PySem.W.alike (py (iD x)) (py (iD y)) = true := by simp [iD, py, pys, PySem.W.alike, PySem.W.alikeAll]
theorem id_eqD {x y : Idn} : eqD (iD x) (iD y) = true ↔ x = y := by
  rw [eqD_iff (id_alike x y)]
  exact ⟨iD_inj, fun h => by rw [h]⟩
theorem id_aa {l : List Idn} : PySem.W.AllAlike (l.map fun b => py (iD b)) := aa_of id_alike
theorem id_so {l : List Idn} : PySem.W.Sortable (l.map fun b => py (iD b)) := so_tup fun b => ⟨_, _, rfl⟩
theorem id_dp (b : Idn) : (py (iD b)).depth ≤ 60 := by simp [iD, py, pys, PyData.depth, PyData.depthAll]
end
/-- is it in? -/
def memB (l : List Idn) (x : Idn) : Bool := l.any fun y => decide (ik y = ik x)
theorem memB_iff {l : List Idn} {x : Idn} : memB l x = true ↔ x ∈ l := by
  unfold memB
  rw [List.any_eq_true]
  exact ⟨fun ⟨y, hy, h⟩ => by rw [← ik_inj (of_decide_eq_true h)]; exact hy, fun h => ⟨x, h, decide_eq_true rfl⟩⟩
theorem memB_any {l : List Idn} {x : Idn} : ((l.map iD).any fun z => eqD z (iD x)) = memB l x := by
  rw [List.any_map]
  refine congrArg (List.any l) (funext fun y => ?_)
  rw [Bool.eq_iff_iff, decide_eq_true_iff]
  exact id_eqD.trans ⟨fun h => by rw [h], ik_inj⟩
theorem memB_congr {l m : List Idn} {x : Idn} (h : ∀ y, y ∈ l ↔ y ∈ m) : memB l x = memB m x := by
  rw [Bool.eq_iff_iff, memB_iff, memB_iff]; exact h x
def add (l : List Idn) (x : Idn) : List Idn := if memB l x = true then l else l ++ [x]
theorem add_mem {l : List Idn} {x y : Idn} : y ∈ add l x ↔ y ∈ l ∨ y = x := by
  unfold add
  split
  · rename_i h
    exact ⟨.inl, fun k => k.elim id fun e => by rw [e]; exact memB_iff.mp h⟩
  · rw [List.mem_append, List.mem_singleton]
theorem add_nd {l : List Idn} {x : Idn} (h : l.Nodup) : (add l x).Nodup := by
  unfold add
  split
  · exact h
  · rename_i n
    rw [List.nodup_append]
    exact ⟨h, List.nodup_cons.mpr ⟨by simp, List.nodup_nil⟩, fun a ha b hb => by
      rw [List.mem_singleton.mp hb]
      exact fun z => n (memB_iff.mpr (by rw [← z]; exact ha))⟩
theorem add_len {l : List Idn} {x : Idn} : (add l x).length ≤ l.length + 1 := by
  unfold add
  split
  · omega
  · rw [List.length_append]; exact Nat.le_refl _
def uni (l m : List Idn) : List Idn := m.foldl add l
theorem uni_mem {y : Idn} : ∀ {m l : List Idn}, y ∈ uni l m ↔ y ∈ l ∨ y ∈ m
  | [], l => by simp [uni]
  | x :: m, l => by
    show y ∈ uni (add l x) m ↔ _
    rw [uni_mem, add_mem, List.mem_cons, or_assoc]
theorem uni_nd : ∀ {m l : List Idn}, l.Nodup → (uni l m).Nodup
  | [], _, h => h
  | x :: m, l, h => uni_nd (m := m) (l := add l x) (add_nd h)
theorem uni_len : ∀ {m l : List Idn}, (uni l m).length ≤ l.length + m.length
  | [], _ => Nat.le_refl _
  | x :: m, l => by
    have h1 := uni_len (m := m) (l := add l x)
    have h2 := add_len (l := l) (x := x)
    show (uni (add l x) m).length ≤ _
    rw [List.length_cons]
    omega
theorem uni_take {l m : List Idn} {j : Nat} {x : Idn} (h : m[j]? = some x) : add (uni l (m.take j)) x = uni l (m.take (j + 1)) := by
  unfold uni
  rw [List.take_add_one, h, show (some x).toList = [x] from rfl, List.foldl_append]
  rfl
/-! ### sorted ids -/
noncomputable def srt (l : List Idn) : List Idn := l.mergeSort (dle iD)
theorem srt_mem {l : List Idn} {x : Idn} : x ∈ srt l ↔ x ∈ l := (sort_perm iD l).mem_iff
theorem srt_len {l : List Idn} : (srt l).length = l.length := (sort_perm iD l).length_eq
theorem pw_eq9 {α : Type} {r : α → α → Prop} (an : ∀ a b, r a b → r b a → a = b) : ∀ {l m : List α}, l.Perm m → l.Pairwise r → m.Pairwise r → l = m
  | [], m, p, _, _ => p.nil_eq
  | y :: l, [], p, _, _ => absurd p.symm.nil_eq (by simp)
  | y :: l, z :: m, p, hy, hz => by
    obtain ⟨y1, y2⟩ := List.pairwise_cons.mp hy
    obtain ⟨z1, z2⟩ := List.pairwise_cons.mp hz
    have e : y = z := by
      rcases List.mem_cons.mp (p.mem_iff.mp (List.mem_cons_self (a := y))) with e | e
      · exact e
      · rcases List.mem_cons.mp (p.mem_iff.mpr (List.mem_cons_self (a := z))) with e2 | e2
        · exact e2.symm
        · exact an _ _ (y1 z e2) (z1 y e)
    subst e
    rw [pw_eq9 an ((List.perm_cons y).mp p) y2 z2]
open PySem.W in
theorem dle_anti {x y : Idn} (h : dle iD x y = true) (k : dle iD y x = true) : x = y := by
  obtain ⟨a, b⟩ := x
  obtain ⟨c, d⟩ := y
  have h : (!dataLt (py (iD (c, d))) (py (iD (a, b)))) = true := h
  have k : (!dataLt (py (iD (a, b))) (py (iD (c, d)))) = true := k
  unfold iD at h k
  simp only [py, pys] at h k
  rw [dataLt_pair (by simp [alike]) (by simp [alike])] at h k
  rw [Bool.not_eq_true'] at h k
  by_cases e : a = c
  · subst e
    have e1 : (PyData.str a).eqv (PyData.str a) = true := by simp [PyData.eqv]
    rw [if_pos e1] at h k
    by_cases f : b = d
    · rw [f]
    · exfalso
      have e2 : (PyData.int d).eqv (PyData.int b) = false := by simp only [PyData.eqv, beq_eq_false_iff_ne]; omega
      have e3 : (PyData.int b).eqv (PyData.int d) = false := by simp only [PyData.eqv, beq_eq_false_iff_ne]; omega
      rw [if_neg (by rw [e2]; exact Bool.false_ne_true), dataLt_int, decide_eq_false_iff_not] at h
      rw [if_neg (by rw [e3]; exact Bool.false_ne_true), dataLt_int, decide_eq_false_iff_not] at k
      omega
  · exfalso
    have e2 : (PyData.str c).eqv (PyData.str a) = false := by simp [PyData.eqv, Ne.symm e]
    have e3 : (PyData.str a).eqv (PyData.str c) = false := by simp [PyData.eqv, e]
    rw [if_neg (by rw [e2]; exact Bool.false_ne_true), dataLt_str, decide_eq_false_iff_not] at h
    rw [if_neg (by rw [e3]; exact Bool.false_ne_true), dataLt_str, decide_eq_false_iff_not] at k
    exact e (str_of_cps (List.le_antisymm (List.not_lt.mp h) (List.not_lt.mp k)))
theorem srt_perm {l m : List Idn} (p : l.Perm m) : srt l = srt m :=
  pw_eq9 (r := fun a b => dle iD a b = true) (fun _ _ => dle_anti) (((sort_perm iD l).trans p).trans (sort_perm iD m).symm) (sort_pw iD l) (sort_pw iD m)
theorem val_mem {kvs : List (List L2.Key × V)} {ks : List Idn} (h : kvs.map (·.1) = ks.map ik) (x : Idn) : (valV kvs (ik x)).isSome = memB ks x := by
  rw [← valV_any]
  unfold memB
  have e1 : (kvs.any fun kv => decide (kv.1 = ik x)) = (kvs.map (·.1)).any fun k => decide (k = ik x) := by rw [List.any_map]; rfl
  rw [e1, h, List.any_map]; rfl
theorem RL.ofPairs {α : Type} {R : α → V → Prop} : ∀ {L : List (α × V)}, (∀ p ∈ L, R p.1 p.2) → RL R (L.map (·.1)) (L.map (·.2))
  | [], _ => rfl
  | p :: L, h => ⟨_, _, rfl, h p (by simp), RL.ofPairs fun q hq => h q (List.mem_cons_of_mem _ hq)⟩
theorem RL.pairs {α : Type} {R : α → V → Prop} : ∀ {xs : List α} {us : List V}, RL R xs us → ∃ L : List (α × V), L.map (·.1) = xs ∧ L.map (·.2) = us ∧ ∀ p ∈ L, R p.1 p.2
  | [], us, h => ⟨[], rfl, by have : us = [] := h; rw [this]; rfl, fun p h => by cases h⟩
  | x :: r, us, h => by
    obtain ⟨v, t, rfl, h1, h2⟩ := h
    obtain ⟨L, e1, e2, e3⟩ := RL.pairs h2
    refine ⟨(x, v) :: L, by rw [List.map_cons, e1], by rw [List.map_cons, e2], fun p hp => ?_⟩
    rcases List.mem_cons.mp hp with e | e
    · rw [e]; exact h1
    · exact e3 p e
end Z
namespace Z
open PySem L2 SX
/-! ### notices as they stand -/
def nid (t : Nt) : Idn := (t.n, (t.k : Int))
def ntF (t : Nt) : List D := [.str (Str.ofString "notice"), idND t, .str t.au, .int t.da, .tup (t.bs.map D.str), .str t.ro, .tup t.rf, .tup (.str t.w :: t.ot), .tup (t.se.map D.str), t.bo]
def N8 (K : PySem.W.Frag) (H : Hp) (t : Nt) (v : V) : Prop := NtOk t ∧ okI (nid t) ∧ ∃ (a i : Addr) (us : List V), v = .ref a ∧ SqT K H a us ∧ DVs K H (ntF t) us ∧ us[1]? = some (.ref i) ∧ H i = some (.tup [.str t.n, .int (t.k : Int)])
/-- all but these cells stays, and what is new among them is fresh -/
structure Gr (K : PySem.W.Frag) (F : List Addr) (H : Hp) (F' : List Addr) (H' : Hp) : Prop where
  ex : ExtL F H H'
  tt : TT K H H'
  fr : ∀ p ∈ F', p ∈ F ∨ H p = none
  up : ∀ p ∈ F, p ∈ F'
def Live (H : Hp) (F : List Addr) : Prop := ∀ p ∈ F, ∃ o, H p = some o
section
variable {K : PySem.W.Frag} {H H' H2 : Hp} {F F' F2 G : List Addr}
theorem Gr.same (m : Same H H') : Gr K F H F H' := ⟨fun b o _ h => m _ _ h, TT.same m, fun p h => .inl h, fun _ h => h⟩
theorem Gr.trans (x : Gr K F H F' H') (y : Gr K F' H' F2 H2) : Gr K F H F2 H2 := by
  have nf : ∀ p o, p ∉ F → H p = some o → p ∉ F' := fun p o h1 h2 h3 => (x.fr p h3).elim h1 fun e => by rw [e] at h2; cases h2
  refine ⟨fun b o nb h => y.ex b o (nf b o nb h) (x.ex b o nb h), x.tt.trans y.tt, fun p hp => ?_, fun p hp => y.up p (x.up p hp)⟩
  rcases y.fr p hp with h | h
  · exact x.fr p h
  · by_cases c : p ∈ F
    · exact .inl c
    · refine .inr ?_
      cases e : H p with
      | none => rfl
      | some o => rw [x.ex p o c e] at h; cases h
theorem Gr.off (x : Gr K F H F' H') (d : ∀ p ∈ G, p ∉ F) (l : Live H G) : (∀ p ∈ G, ∀ o, H p = some o → H' p = some o) ∧ ∀ p ∈ G, p ∉ F' := by
  refine ⟨fun p hp o h => x.ex p o (d p hp) h, fun p hp h => ?_⟩
  rcases x.fr p h with h | h
  · exact d p hp h
  · obtain ⟨o, e⟩ := l p hp
    rw [h] at e; cases e
theorem Gr.one (x : Gr K F H F' H') {p : Addr} {o : HO} (d : p ∉ F) (h : H p = some o) : H' p = some o ∧ p ∉ F' := by
  obtain ⟨h1, h2⟩ := x.off (G := [p]) (fun q hq => by rw [List.mem_singleton.mp hq]; exact d) fun q hq => ⟨o, by rw [List.mem_singleton.mp hq]; exact h⟩
  exact ⟨h1 p (by simp) o h, h2 p (by simp)⟩
theorem none_of (g : Gr K F H F' H') {p : Addr} (n : p ∉ F') (h : H' p = none) : H p = none := by
  cases e : H p with
  | none => rfl
  | some o => rw [g.ex p o (fun m => n (g.up p m)) e] at h; cases h
/-- others stand beside -/
theorem Gr.more (x : Gr K F H F' H') (G : List Addr) : Gr K (F ++ G) H (F' ++ G) H' :=
  ⟨fun b o nb h => x.ex b o (fun m => nb (List.mem_append_left _ m)) h, x.tt, fun p hp => (List.mem_append.mp hp).elim (fun h => (x.fr p h).imp (List.mem_append_left _) id) fun h => .inl (List.mem_append_right _ h), fun p hp => (List.mem_append.mp hp).elim (fun h => List.mem_append_left _ (x.up p h)) fun h => List.mem_append_right _ h⟩
theorem Gr.more2 (x : Gr K F H F' H') (G : List Addr) : Gr K (G ++ F) H (G ++ F') H' :=
  ⟨fun b o nb h => x.ex b o (fun m => nb (List.mem_append_right _ m)) h, x.tt, fun p hp => (List.mem_append.mp hp).elim (fun h => .inl (List.mem_append_left _ h)) fun h => (x.fr p h).imp (List.mem_append_right _) id, fun p hp => (List.mem_append.mp hp).elim (fun h => List.mem_append_left _ h) fun h => List.mem_append_right _ (x.up p h)⟩
theorem Gr.src {s a : Addr} {c : Nat} (x : Ext s H H') (S : Src H s a c) : Gr K (s :: F) H (s :: F) H' :=
  ⟨fun b o nb h => x b o (fun e => nb (by rw [e]; simp)) h, TT.ext x S, fun p h => .inl h, fun _ h => h⟩
theorem Live.of (h : Live H F) (k : ∀ p ∈ F, ∀ o, H p = some o → H' p = some o) : Live H' F := fun p hp => (h p hp).imp fun o e => k p hp o e
theorem N8.dv {t : Nt} {v : V} (h : N8 K H t v) : DV K H (ntD t) v := by
  obtain ⟨_, _, a, i, us, rfl, h1, h2, _⟩ := h
  exact ⟨a, us, rfl, h1, h2⟩
theorem N8.tt {t : Nt} {v : V} (T : TT K H H') (h : N8 K H t v) : N8 K H' t v := by
  obtain ⟨h0, h00, a, i, us, rfl, h1, h2, h3, h4⟩ := h
  exact ⟨h0, h00, a, i, us, rfl, T.1 _ _ h1, h2.tk T.1, h3, T.2 _ _ h4⟩
theorem N8.at {t : Nt} {v : V} (h : N8 K H t v) : ∃ (a i b k : Addr) (us ks : List V), v = .ref a ∧ SqT K H a us ∧ us.length = 10 ∧ atI us 1 = some (.ref i) ∧ H i = some (.tup [.str t.n, .int (t.k : Int)]) ∧ atI us 4 = some (.ref b) ∧ SqT K H b (t.bs.map V.str) ∧ atI us 7 = some (.ref k) ∧ SqT K H k ks ∧ atI ks 0 = some (.str t.w) := by
  obtain ⟨h0, h00, a, i, us, rfl, hS, d, h3, h4⟩ := h
  have ul := d.len
  obtain ⟨u4, e4, b, bs, rfl, hb, db⟩ := d.get (i := 4) (d := .tup (t.bs.map D.str)) rfl
  obtain ⟨u7, e7, k, ks, rfl, hk, dk⟩ := d.get (i := 7) (d := .tup (.str t.w :: t.ot)) rfl
  obtain ⟨w0, ew, dw⟩ := dk.get (i := 0) (d := .str t.w) rfl
  unfold DV at dw
  subst dw
  have := dvs_txt db
  subst this
  exact ⟨a, i, b, k, us, ks, rfl, hS, ul, atI_nat (j := 1) h3, h4, atI_nat (j := 4) e4, hb, atI_nat (j := 7) e7, hk, atI_nat (j := 0) ew⟩
end
theorem N8.id {K : PySem.W.Frag} {H : Hp} {t : Nt} {v : V} (h : N8 K H t v) {i : Addr} (e : H i = some (.tup [.str t.n, .int (t.k : Int)])) : IsId H (nid t) (.ref i) := ⟨h.2.1, i, rfl, e⟩
/-- a copy's letter -/
def LtAt (K : PySem.W.Frag) (H : Hp) (t : Nt) (u : V) (h m : Str) (r : V) : Prop := DV K H (copyD t h m) r ∧ ∃ (L p : Addr) (key : V), r = .ref L ∧ SqT K H L [.str (Str.ofString "letter"), key, .str m, .ref p] ∧ SqT K H p [.str (Str.ofString "copy"), u, .str h]
/-! ### the store: ids by addresses -/
def sel (P : List (Str × Idn)) (a : Str) : List Idn := (P.filter fun e => decide (e.1 = a)).map (·.2)
theorem sel_mem {P : List (Str × Idn)} {a : Str} {x : Idn} : x ∈ sel P a ↔ (a, x) ∈ P := by
  unfold sel
  rw [List.mem_map]
  constructor
  · rintro ⟨⟨b, y⟩, h, rfl⟩
    obtain ⟨h1, h2⟩ := List.mem_filter.mp h
    rw [← show b = a from of_decide_eq_true h2]; exact h1
  · exact fun h => ⟨(a, x), List.mem_filter.mpr ⟨h, decide_eq_true rfl⟩, rfl⟩
theorem sel_add {P : List (Str × Idn)} {a b : Str} {x : Idn} : sel (P ++ [(b, x)]) a = sel P a ++ if b = a then [x] else [] := by
  unfold sel
  rw [List.filter_append, List.map_append]
  congr 1
  by_cases c : b = a
  · rw [if_pos c]; simp [c]
  · rw [if_neg c]; simp [c]
theorem sel_len {P : List (Str × Idn)} {a : Str} : (sel P a).length ≤ P.length := by
  unfold sel; rw [List.length_map]; exact List.length_filter_le _ _
def bk (e : Str × Addr) : L2.Key × V := (.inr e.1, .ref e.2)
theorem bk_in : ∀ {bl : List (Str × Addr)}, (bl.map (·.1)).Nodup → ∀ {e : Str × Addr}, e ∈ bl → valV (bl.map bk) (Sum.inr e.1 : L2.Key) = some (.ref e.2)
  | [], _, _, h => by cases h
  | z :: bl, nd, e, h => by
    obtain ⟨n1, n2⟩ := List.nodup_cons.mp (show (z.1 :: bl.map (·.1)).Nodup from nd)
    rcases List.mem_cons.mp h with h | h
    · subst h; exact valV_pos rfl
    · rw [List.map_cons, valV_neg (fun k => n1 (by rw [show z.1 = e.1 from Sum.inr.inj k]; exact List.mem_map_of_mem h))]
      exact bk_in n2 h
theorem bk_out : ∀ {bl : List (Str × Addr)} {a : Str}, a ∉ bl.map (·.1) → valV (bl.map bk) (Sum.inr a : L2.Key) = none
  | [], _, _ => rfl
  | z :: bl, a, h => by
    rw [List.map_cons, valV_neg (fun k => h (by rw [← show z.1 = a from Sum.inr.inj k]; simp))]
    exact bk_out fun k => h (List.mem_cons_of_mem _ k)
theorem bk_of {bl : List (Str × Addr)} {a : Str} {v : V} (nd : (bl.map (·.1)).Nodup) (h : valV (bl.map bk) (Sum.inr a : L2.Key) = some v) : ∃ e ∈ bl, e.1 = a ∧ v = .ref e.2 := by
  by_cases c : a ∈ bl.map (·.1)
  · obtain ⟨e, he, rfl⟩ := List.mem_map.mp c
    rw [bk_in nd he] at h
    exact ⟨e, he, rfl, (Option.some.inj h).symm⟩
  · rw [bk_out c] at h; cases h
theorem bk_no {bl : List (Str × Addr)} {a : Str} (nd : (bl.map (·.1)).Nodup) (h : valV (bl.map bk) (Sum.inr a : L2.Key) = none) : a ∉ bl.map (·.1) := fun m => by
  obtain ⟨e, he, rfl⟩ := List.mem_map.mp m
  rw [bk_in nd he] at h; cases h
abbrev CR := Hp → Addr → List Idn → Prop
/-- a dict of ids; a list of ids -/
def C1 : CR := fun H d l => ∃ es : List (List L2.Key × V), H d = some (.dT es) ∧ es.map (·.1) = l.map ik ∧ l.Nodup
def C2 : CR := fun H d l => ∃ us : List V, H d = some (.lst us) ∧ RL (IsId H) l us ∧ l.Nodup
def Stays (K : PySem.W.Frag) (C : CR) : Prop := (∀ H H' d l, C H d l → (∀ o, H d = some o → H' d = some o) → TT K H H' → C H' d l) ∧ ∀ H d l, C H d l → ∃ o, H d = some o ∧ (∀ xs, o ≠ .tup xs) ∧ ∀ q w, o ≠ .frz q w
theorem c1_stays {K : PySem.W.Frag} : Stays K C1 := ⟨fun H H' d l h k _ => by
  obtain ⟨es, h1, h2⟩ := h
  exact ⟨es, k _ h1, h2⟩, fun H d l h => by
  obtain ⟨es, h1, h2⟩ := h
  exact ⟨_, h1, (fun _ e => by cases e), fun _ _ e => by cases e⟩⟩
theorem c2_stays {K : PySem.W.Frag} : Stays K C2 := ⟨fun H H' d l h k T => by
  obtain ⟨us, h1, h2, h3⟩ := h
  exact ⟨us, k _ h1, h2.mono (IsId.tt T), h3⟩, fun H d l h => by
  obtain ⟨us, h1, h2⟩ := h
  exact ⟨_, h1, (fun _ e => by cases e), fun _ _ e => by cases e⟩⟩
def foot (X : Addr) (bl : List (Str × Addr)) : List Addr := X :: bl.map (·.2)
structure DD (C : CR) (H : Hp) (X : Addr) (P : List (Str × Idn)) (bl : List (Str × Addr)) (m : Nat) : Prop where
  x : H X = some (.dK (bl.map bk))
  kd : (bl.map (·.1)).Nodup
  nd : (foot X bl).Nodup
  ch : ∀ e ∈ bl, C H e.2 (sel P e.1)
  no : ∀ a, a ∉ bl.map (·.1) → sel P a = []
  bm : bl.length ≤ m ∧ P.length ≤ m
section
variable {K : PySem.W.Frag} {C : CR} {H H' : Hp} {X : Addr} {P : List (Str × Idn)} {bl : List (Str × Addr)} {m : Nat}
theorem DD.mono (h : DD C H X P bl m) {n : Nat} (le : m ≤ n) : DD C H X P bl n := ⟨h.x, h.kd, h.nd, h.ch, h.no, Nat.le_trans h.bm.1 le, Nat.le_trans h.bm.2 le⟩
theorem DD.live (hC : Stays K C) (h : DD C H X P bl m) : Live H (foot X bl) := fun p hp => by
  rcases List.mem_cons.mp hp with e | hp
  · exact ⟨_, by rw [e]; exact h.x⟩
  · obtain ⟨e, he, rfl⟩ := List.mem_map.mp hp
    exact (hC.2 _ _ _ (h.ch e he)).imp fun o k => k.1
theorem DD.keep (hC : Stays K C) (h : DD C H X P bl m) (T : TT K H H') (k : ∀ p ∈ foot X bl, ∀ o, H p = some o → H' p = some o) : DD C H' X P bl m :=
  ⟨k X (by unfold foot; simp) _ h.x, h.kd, h.nd, fun e he => hC.1 _ _ _ _ (h.ch e he) (k e.2 (by unfold foot; exact List.mem_cons_of_mem _ (List.mem_map_of_mem he))) T, h.no, h.bm⟩
theorem DD.same (hC : Stays K C) (h : DD C H X P bl m) (x : Same H H') : DD C H' X P bl m := h.keep hC (TT.same x) fun p _ o => x _ _
theorem DD.start (n : H X = none) : DD C (upd H X (.dK [])) X [] [] 0 :=
  ⟨upd_same, List.nodup_nil, by simp [foot], (fun e h => by cases h), fun a _ => rfl, Nat.le_refl _, Nat.le_refl _⟩
/-- a new address, its cell d new -/
theorem DD.new (hC : Stays K C) (h : DD C H X P bl m) {a : Str} {d : Addr} {o : HO} (na : a ∉ bl.map (·.1)) (hd : H d = none) (hc : ∀ H2 : Hp, H2 d = some o → C H2 d []) :
    DD C (upd (upd H d o) X (.dK (putK (bl.map bk) (Sum.inr a : L2.Key) (.ref d)))) X P (bl ++ [(a, d)]) (m + 1) ∧ Gr K (foot X bl) H (foot X (bl ++ [(a, d)])) (upd (upd H d o) X (.dK (putK (bl.map bk) (Sum.inr a : L2.Key) (.ref d)))) := by
  have n := same_new (o := o) hd
  have dX : d ≠ X := fun e => by rw [e, h.x] at hd; cases hd
  have hx1 := n _ _ h.x
  have t : TT K (upd H d o) (upd (upd H d o) X (.dK (putK (bl.map bk) (Sum.inr a : L2.Key) (.ref d)))) := TT.over hx1 (fun _ e => by cases e) (fun _ _ e => by cases e)
  have nX : ∀ e ∈ bl, e.2 ≠ X := fun e he z => (List.nodup_cons.mp h.nd).1 (by rw [← z]; exact List.mem_map_of_mem he)
  have nD : ∀ p ∈ foot X bl, p ≠ d := fun p hp z => by
    obtain ⟨o, q⟩ := h.live hC p hp
    rw [z, hd] at q; cases q
  refine ⟨⟨by rw [upd_same, putK_new _ (bk_out na), List.map_append]; rfl, ?_, ?_, ?_, ?_, ?_⟩, ?_⟩
  · rw [List.map_append, List.nodup_append]
    exact ⟨h.kd, by simp, fun b hb c hc => by
      rw [List.mem_singleton.mp (show c ∈ [a] from hc)]
      exact fun z => na (by rw [← z]; exact hb)⟩
  · rw [show foot X (bl ++ [(a, d)]) = foot X bl ++ [d] by unfold foot; rw [List.map_append]; rfl, List.nodup_append]
    exact ⟨h.nd, by simp, fun b hb c hc => by rw [List.mem_singleton.mp hc]; exact nD b hb⟩
  · intro e he
    rcases List.mem_append.mp he with he | he
    · exact hC.1 _ _ _ _ (h.ch e he) (fun o q => by rw [upd_ne (nX e he)]; exact n _ _ q) ((TT.same n).trans t)
    · rw [List.mem_singleton.mp he]
      show C _ d (sel P a)
      rw [h.no a na]
      exact hc _ (by rw [upd_ne dX]; exact upd_same)
  · exact fun b hb => h.no b fun k => hb (by rw [List.map_append]; exact List.mem_append_left _ k)
  · rw [List.length_append]
    have := h.bm
    refine ⟨?_, by omega⟩
    show _ + 1 ≤ _
    omega
  · refine ⟨fun b o nb hb => ?_, (TT.same n).trans t, fun p hp => ?_, fun p hp => by rw [show foot X (bl ++ [(a, d)]) = foot X bl ++ [d] by unfold foot; rw [List.map_append]; rfl]; exact List.mem_append_left _ hp⟩
    · rw [upd_ne (fun z => nb (by rw [z]; unfold foot; simp))]; exact n _ _ hb
    · rw [show foot X (bl ++ [(a, d)]) = foot X bl ++ [d] by unfold foot; rw [List.map_append]; rfl] at hp
      rcases List.mem_append.mp hp with k | k
      · exact .inl k
      · rw [List.mem_singleton.mp k]; exact .inr hd
/-- one more at an address that is there -/
theorem DD.push (hC : Stays K C) (h : DD C H X P bl m) {e : Str × Addr} (he : e ∈ bl) {x : Idn} {o : HO} (hc : C (upd H e.2 o) e.2 (sel P e.1 ++ [x])) :
    DD C (upd H e.2 o) X (P ++ [(e.1, x)]) bl (m + 1) ∧ Gr K (foot X bl) H (foot X bl) (upd H e.2 o) := by
  obtain ⟨u, hu, n1, n2⟩ := hC.2 _ _ _ (h.ch e he)
  have t : TT K H (upd H e.2 o) := TT.over hu n1 n2
  have eX : X ≠ e.2 := fun z => (List.nodup_cons.mp h.nd).1 (by rw [z]; exact List.mem_map_of_mem he)
  refine ⟨⟨by rw [upd_ne eX]; exact h.x, h.kd, h.nd, fun f hf => ?_, fun b hb => ?_, ?_⟩, ⟨fun b q nb hb => by rw [upd_ne (fun z => nb (by rw [z]; unfold foot; exact List.mem_cons_of_mem _ (List.mem_map_of_mem he)))]; exact hb, t, fun p hp => .inl hp, fun _ h => h⟩⟩
  · rw [sel_add]
    by_cases c : e.1 = f.1
    · have : e = f := by
        have x1 := bk_in h.kd he
        have x2 := bk_in h.kd hf
        rw [c, x2] at x1
        injection (Option.some.inj x1) with z
        exact Prod.ext c z.symm
      rw [if_pos c, ← this]; exact hc
    · rw [if_neg c, List.append_nil]
      have ne : f.2 ≠ e.2 := fun z => c (by
        have : ∀ {l : List (Str × Addr)}, (l.map (·.2)).Nodup → ∀ {e f : Str × Addr}, e ∈ l → f ∈ l → e.2 = f.2 → e = f := by
          intro l nd
          induction l with
          | nil => intro e f h; cases h
          | cons z l ih =>
            obtain ⟨n1, n2⟩ := List.nodup_cons.mp (show (z.2 :: l.map (·.2)).Nodup from nd)
            intro e f he hf eq
            rcases List.mem_cons.mp he with he | he <;> rcases List.mem_cons.mp hf with hf | hf
            · rw [he, hf]
            · exact absurd (List.mem_map.mpr ⟨f, hf, by rw [← eq, he]⟩) n1
            · exact absurd (List.mem_map.mpr ⟨e, he, by rw [eq, hf]⟩) n1
            · exact ih n2 he hf eq
        exact (congrArg (·.1) (this (List.nodup_cons.mp h.nd).2 he hf z.symm)))
      exact hC.1 _ _ _ _ (h.ch f hf) (fun q hq => by rw [upd_ne ne]; exact hq) t
  · rw [sel_add, if_neg (fun z => hb (by rw [← z]; exact List.mem_map_of_mem he)), List.append_nil]
    exact h.no b hb
  · rw [List.length_append]
    have := h.bm
    refine ⟨by omega, ?_⟩
    show _ + 1 ≤ _
    omega
end
/-! ### a desk, and the law's model of it -/
structure Dk (K : PySem.W.Frag) (C : Addr) (H : Hp) (o : Addr) (v : V) (s : Str) (X1 X2 : Addr) (E B : List (Str × Idn)) (l1 l2 : List (Str × Addr)) (m : Nat) : Prop where
  ob : ∃ dx, H o = some (.ins C dx [(Str.ofString "_book", v), (Str.ofString "_site", .str s), (Str.ofString "_expanded", .ref X1), (Str.ofString "_boxes", .ref X2)])
  ex : DD C1 H X1 E l1 m
  bx : DD C1 H X2 B l2 m
  nd : (o :: (foot X1 l1 ++ foot X2 l2)).Nodup
def dkF (o X1 X2 : Addr) (l1 l2 : List (Str × Addr)) : List Addr := o :: (foot X1 l1 ++ foot X2 l2)
def DkE (K : PySem.W.Frag) (C : Addr) (H : Hp) (o : Addr) (v : V) (s : Str) (E B : List (Str × Idn)) (F : List Addr) (m : Nat) : Prop := ∃ X1 X2 l1 l2, Dk K C H o v s X1 X2 E B l1 l2 m ∧ F = dkF o X1 X2 l1 l2
def Sm8 (a : Str) : Prop := ∀ c ∈ tl a, c < 1000
def exD (e : Str × Idn) : D := .tup [.str e.1, iD e.2]
structure Md (K : PySem.W.Frag) (H : Hp) (p L D : Addr) (E B : List (Str × Idn)) (bl : List (Str × Addr)) (m : Nat) : Prop where
  ob : H p = some (.lst [.ref L, .ref D])
  ex : ∃ us, H L = some (.lst us) ∧ DVs K H (E.map exD) us
  em : E.length ≤ m ∧ ∀ e ∈ E, okI e.2 ∧ Sm8 e.1
  bx : DD C2 H D B bl m
  nd : (p :: L :: foot D bl).Nodup
def mdF (p L D : Addr) (bl : List (Str × Addr)) : List Addr := p :: L :: foot D bl
def MdE (K : PySem.W.Frag) (H : Hp) (p : Addr) (E B : List (Str × Idn)) (F : List Addr) (m : Nat) : Prop := ∃ L D bl, Md K H p L D E B bl m ∧ F = mdF p L D bl

section
variable {K : PySem.W.Frag} {C : Addr} {H H' : Hp} {o p L D X1 X2 : Addr} {v : V} {s : Str} {E B : List (Str × Idn)} {l1 l2 bl : List (Str × Addr)} {F : List Addr} {m : Nat}
theorem mem_dk1 {q : Addr} (h : q ∈ foot X1 l1) : q ∈ dkF o X1 X2 l1 l2 := List.mem_cons_of_mem _ (List.mem_append_left _ h)
theorem mem_dk2 {q : Addr} (h : q ∈ foot X2 l2) : q ∈ dkF o X1 X2 l1 l2 := List.mem_cons_of_mem _ (List.mem_append_right _ h)
theorem Dk.live (h : Dk K C H o v s X1 X2 E B l1 l2 m) : Live H (dkF o X1 X2 l1 l2) := fun q hq => by
  rcases List.mem_cons.mp hq with e | hq
  · obtain ⟨dx, k⟩ := h.ob
    exact ⟨_, by rw [e]; exact k⟩
  · exact (List.mem_append.mp hq).elim (h.ex.live (K := K) c1_stays q) (h.bx.live (K := K) c1_stays q)
theorem Dk.keep (h : Dk K C H o v s X1 X2 E B l1 l2 m) (T : TT K H H') (k : ∀ q ∈ dkF o X1 X2 l1 l2, ∀ u, H q = some u → H' q = some u) : Dk K C H' o v s X1 X2 E B l1 l2 m :=
  ⟨h.ob.imp fun dx e => k o (by unfold dkF; simp) _ e, h.ex.keep c1_stays T fun q hq => k q (mem_dk1 hq), h.bx.keep c1_stays T fun q hq => k q (mem_dk2 hq), h.nd⟩
theorem DkE.live (h : DkE K C H o v s E B F m) : Live H F := by
  obtain ⟨_, _, _, _, d, rfl⟩ := h
  exact d.live
theorem DkE.keep (h : DkE K C H o v s E B F m) (T : TT K H H') (k : ∀ q ∈ F, ∀ u, H q = some u → H' q = some u) : DkE K C H' o v s E B F m := by
  obtain ⟨_, _, _, _, d, rfl⟩ := h
  exact ⟨_, _, _, _, d.keep T k, rfl⟩
theorem DkE.same (h : DkE K C H o v s E B F m) (x : Same H H') : DkE K C H' o v s E B F m := h.keep (TT.same x) fun q _ u => x _ _
theorem DkE.mono (h : DkE K C H o v s E B F m) {n : Nat} (le : m ≤ n) : DkE K C H o v s E B F n := by
  obtain ⟨_, _, _, _, d, rfl⟩ := h
  exact ⟨_, _, _, _, ⟨d.ob, d.ex.mono le, d.bx.mono le, d.nd⟩, rfl⟩
theorem Md.live (h : Md K H p L D E B bl m) : Live H (mdF p L D bl) := fun q hq => by
  rcases List.mem_cons.mp hq with e | hq
  · exact ⟨_, by rw [e]; exact h.ob⟩
  rcases List.mem_cons.mp hq with e | hq
  · obtain ⟨us, k, _⟩ := h.ex
    exact ⟨_, by rw [e]; exact k⟩
  · exact h.bx.live (K := K) c2_stays q hq
theorem Md.keep (h : Md K H p L D E B bl m) (T : TT K H H') (k : ∀ q ∈ mdF p L D bl, ∀ u, H q = some u → H' q = some u) : Md K H' p L D E B bl m :=
  ⟨k p (by unfold mdF; simp) _ h.ob, h.ex.imp fun us q => ⟨k L (by unfold mdF; simp) _ q.1, q.2.tk T.1⟩, h.em, h.bx.keep c2_stays T fun q hq => k q (List.mem_cons_of_mem _ (List.mem_cons_of_mem _ hq)), h.nd⟩
theorem MdE.live (h : MdE K H p E B F m) : Live H F := by
  obtain ⟨_, _, _, d, rfl⟩ := h
  exact d.live
theorem MdE.keep (h : MdE K H p E B F m) (T : TT K H H') (k : ∀ q ∈ F, ∀ u, H q = some u → H' q = some u) : MdE K H' p E B F m := by
  obtain ⟨_, _, _, d, rfl⟩ := h
  exact ⟨_, _, _, d.keep T k, rfl⟩
theorem MdE.same (h : MdE K H p E B F m) (x : Same H H') : MdE K H' p E B F m := h.keep (TT.same x) fun q _ u => x _ _
theorem MdE.mono (h : MdE K H p E B F m) {n : Nat} (le : m ≤ n) : MdE K H p E B F n := by
  obtain ⟨_, _, _, d, rfl⟩ := h
  exact ⟨_, _, _, ⟨d.ob, d.ex, ⟨Nat.le_trans d.em.1 le, d.em.2⟩, d.bx.mono le, d.nd⟩, rfl⟩
/-- the first store of a desk is changed -/
theorem Dk.one {E' : List (Str × Idn)} {l1' : List (Str × Addr)} {n : Nat} (h : Dk K C H o v s X1 X2 E B l1 l2 m) (d : DD C1 H' X1 E' l1' n) (g : Gr K (foot X1 l1) H (foot X1 l1') H') (le : m ≤ n) :
    Dk K C H' o v s X1 X2 E' B l1' l2 n ∧ Gr K (dkF o X1 X2 l1 l2) H (dkF o X1 X2 l1' l2) H' := by
  have nd := List.nodup_cons.mp h.nd
  have nd2 := List.nodup_append.mp nd.2
  obtain ⟨dx, ob⟩ := h.ob
  have o1 := g.one (fun m => nd.1 (List.mem_append_left _ m)) ob
  have k2 := g.off (G := foot X2 l2) (fun q hq m => nd2.2.2 q m q hq rfl) (h.bx.live (K := K) c1_stays)
  refine ⟨⟨⟨dx, o1.1⟩, d, (h.bx.keep c1_stays g.tt k2.1).mono le, ?_⟩, ?_⟩
  · refine List.nodup_cons.mpr ⟨fun m => (List.mem_append.mp m).elim o1.2 fun m => nd.1 (List.mem_append_right _ m), List.nodup_append.mpr ⟨d.nd, nd2.2.1, fun a ha b hb e => k2.2 b hb (by rw [← e]; exact ha)⟩⟩
  · exact (g.more (foot X2 l2)).more2 [o]
theorem Dk.two {B' : List (Str × Idn)} {l2' : List (Str × Addr)} {n : Nat} (h : Dk K C H o v s X1 X2 E B l1 l2 m) (d : DD C1 H' X2 B' l2' n) (g : Gr K (foot X2 l2) H (foot X2 l2') H') (le : m ≤ n) :
    Dk K C H' o v s X1 X2 E B' l1 l2' n ∧ Gr K (dkF o X1 X2 l1 l2) H (dkF o X1 X2 l1 l2') H' := by
  have nd := List.nodup_cons.mp h.nd
  have nd2 := List.nodup_append.mp nd.2
  obtain ⟨dx, ob⟩ := h.ob
  have o1 := g.one (fun m => nd.1 (List.mem_append_right _ m)) ob
  have k2 := g.off (G := foot X1 l1) (fun q hq m => nd2.2.2 q hq q m rfl) (h.ex.live (K := K) c1_stays)
  refine ⟨⟨⟨dx, o1.1⟩, (h.ex.keep c1_stays g.tt k2.1).mono le, d, ?_⟩, ?_⟩
  · refine List.nodup_cons.mpr ⟨fun m => (List.mem_append.mp m).elim (fun m => nd.1 (List.mem_append_left _ m)) o1.2, List.nodup_append.mpr ⟨nd2.1, d.nd, fun a ha b hb e => k2.2 a ha (by rw [e]; exact hb)⟩⟩
  · exact (g.more2 (foot X1 l1)).more2 [o]
/-- one more pair in the model's list -/
theorem Md.one {a : Str} {x : Idn} {us : List V} {w : V} (h : Md K H p L D E B bl m) (hu : H L = some (.lst us)) (hd : DVs K H (E.map exD) us) (hw : DV K H (exD (a, x)) w) (ok : okI x ∧ Sm8 a) :
    Md K (upd H L (.lst (us ++ [w]))) p L D (E ++ [(a, x)]) B bl (m + 1) ∧ Gr K (mdF p L D bl) H (mdF p L D bl) (upd H L (.lst (us ++ [w]))) := by
  have T : TT K H (upd H L (.lst (us ++ [w]))) := TT.put hu
  have nd := List.nodup_cons.mp h.nd
  have nd2 := List.nodup_cons.mp nd.2
  refine ⟨⟨by rw [upd_ne (fun e => nd.1 (by rw [e]; simp))]; exact h.ob, ⟨_, upd_same, ?_⟩, ⟨?_, fun e he => ?_⟩, ?_, h.nd⟩, ⟨fun b q nb hb => by rw [upd_ne (fun e => nb (by rw [e]; unfold mdF; simp))]; exact hb, T, fun q hq => .inl hq, fun _ h => h⟩⟩
  · rw [List.map_append]
    exact dvs_app (hd.tk T.1) (dlc (hw.tk T.1) dln)
  · have := h.em.1
    rw [List.length_append]
    show _ + 1 ≤ _
    omega
  · rcases List.mem_append.mp he with k | k
    · exact h.em.2 e k
    · rw [List.mem_singleton.mp k]; exact ok
  · exact (h.bx.keep c2_stays T fun q hq u hu => by rw [upd_ne (fun e => nd2.1 (by rw [← e]; exact hq))]; exact hu).mono (Nat.le_succ _)
theorem Md.two {B' : List (Str × Idn)} {bl' : List (Str × Addr)} {n : Nat} (h : Md K H p L D E B bl m) (d : DD C2 H' D B' bl' n) (g : Gr K (foot D bl) H (foot D bl') H') (le : m ≤ n) :
    Md K H' p L D E B' bl' n ∧ Gr K (mdF p L D bl) H (mdF p L D bl') H' := by
  have nd := List.nodup_cons.mp h.nd
  have nd2 := List.nodup_cons.mp nd.2
  obtain ⟨us, hu, hd⟩ := h.ex
  have o1 := g.one (fun m => nd.1 (List.mem_cons_of_mem _ m)) h.ob
  have o2 := g.one nd2.1 hu
  refine ⟨⟨o1.1, ⟨us, o2.1, hd.tk g.tt.1⟩, ⟨Nat.le_trans h.em.1 le, h.em.2⟩, d, List.nodup_cons.mpr ⟨fun m => ?_, List.nodup_cons.mpr ⟨o2.2, d.nd⟩⟩⟩, ?_⟩
  · rcases List.mem_cons.mp m with e | m
    · exact nd.1 (by rw [e]; simp)
    · exact o1.2 m
  · exact g.more2 [p, L]
end
/-! ### the steps -/
def exE (P : List (Str × Idn)) (a : Str) (x : Idn) : List (Str × Idn) := if (a, x) ∈ P then P else P ++ [(a, x)]
noncomputable def nearA (b : Bk) (ls : List Li) (a : Str) : List (Str × Str) := match ls.find? fun e => decide (at2 e.h = a) with
  | some e => nearM b e
  | none => []
theorem nearA_at {b : Bk} {ls : List Li} (nl : NetL b ls) {e : Li} (he : e ∈ ls) : nearA b ls (at2 e.h) = nearM b e := by
  unfold nearA
  have : ls.find? (fun x => decide (at2 x.h = at2 e.h)) = some e := by
    cases h : ls.find? (fun x => decide (at2 x.h = at2 e.h)) with
    | none => exact absurd (decide_eq_true (rfl : at2 e.h = at2 e.h)) (List.find?_eq_none.mp h e he)
    | some x =>
      have hx := List.mem_of_find?_eq_some h
      have h2 : decide (at2 x.h = at2 e.h) = true := List.find?_some (p := fun y : Li => decide (at2 y.h = at2 e.h)) h
      have h2 := of_decide_eq_true h2
      rw [li_one nl.nd hx he (at2_inj (nl.ho x hx).p (nl.ho e he).p h2)]
  rw [this]
noncomputable def outX (b : Bk) (ls : List Li) (E : List (Str × Idn)) (a : Str) (t : Nt) : List D := if (a, nid t) ∈ E then [] else (nearA b ls a).map fun m => copyD t a (at2 m)
noncomputable def tkS (b : Bk) (ls : List Li) (t : Nt) (S : List (Str × Idn) × List D) (a : Str) : List (Str × Idn) × List D := (exE S.1 a (nid t), S.2 ++ outX b ls S.1 a t)
noncomputable def tkR (b : Bk) (ls : List Li) (s : Str) (E : List (Str × Idn)) (t : Nt) : List (Str × Idn) × List D := if t.w = Str.ofString "strike" then (E, []) else (gatesL b ls s t.bs).foldl (tkS b ls t) (E, [])
def homes (ls : List Li) : List Str := ls.map fun e => at2 e.h
noncomputable def heO (b : Bk) (ls : List Li) (E : List (Str × Idn)) (a : Str) (t : Nt) : List D := if a ∈ homes ls then outX b ls E a t else []
def heE (ls : List Li) (E : List (Str × Idn)) (a : Str) (t : Nt) : List (Str × Idn) := if a ∈ homes ls then exE E a (nid t) else E
def heB (ls : List Li) (B : List (Str × Idn)) (a : Str) (t : Nt) : List (Str × Idn) := if a ∈ homes ls then B else exE B a (nid t)
theorem near_len {b : Bk} {ls : List Li} (nl : NetL b ls) {e : Li} (he : e ∈ ls) : (nearM b e).length ≤ 20 := Nat.le_trans (List.length_filter_le _ _) (nl.ml e he)
theorem out_len {b : Bk} {ls : List Li} (nl : NetL b ls) {E : List (Str × Idn)} {e : Li} (he : e ∈ ls) {t : Nt} : (outX b ls E (at2 e.h) t).length ≤ 20 := by
  unfold outX
  split
  · exact Nat.zero_le _
  · rw [List.length_map, nearA_at nl he]; exact near_len nl he
theorem out_dl {b : Bk} {ls : List Li} {E : List (Str × Idn)} {a : Str} {t : Nt} (ok : NtOk t) : DLs 8 (outX b ls E a t) := fun d hd => by
  unfold outX at hd
  split at hd
  · cases hd
  · obtain ⟨m, _, rfl⟩ := List.mem_map.mp hd
    exact dl_copy ok _ _
theorem gate_home {b : Bk} {ls : List Li} {s a : Str} {bs : List Str} (h : a ∈ gatesL b ls s bs) : ∃ e ∈ ls, at2 e.h = a := by
  unfold gatesL at h
  obtain ⟨e, he, q⟩ := List.mem_map.mp h
  exact ⟨e, (List.mem_filter.mp he).1, q⟩
theorem gate_len {b : Bk} {ls : List Li} (nl : NetL b ls) {s : Str} {bs : List Str} : (gatesL b ls s bs).length ≤ 10 := by
  unfold gatesL
  rw [List.length_map]
  exact Nat.le_trans (List.length_filter_le _ _) nl.ln
theorem tk_step {b : Bk} {ls : List Li} {t : Nt} {S : List (Str × Idn) × List D} {g : List Str} {i : Nat} {a : Str} (h : g[i]? = some a) : (g.take (i + 1)).foldl (tkS b ls t) S = tkS b ls t ((g.take i).foldl (tkS b ls t) S) a := by
  rw [List.take_add_one, h, List.foldl_append]; rfl
theorem tk_dl {b : Bk} {ls : List Li} {t : Nt} (ok : NtOk t) : ∀ {g : List Str} {S : List (Str × Idn) × List D}, DLs 8 S.2 → DLs 8 (g.foldl (tkS b ls t) S).2
  | [], _, h => h
  | a :: g, S, h => tk_dl ok (g := g) fun d hd => (List.mem_append.mp hd).elim (h d) (out_dl ok d)
theorem tk_len {b : Bk} {ls : List Li} (nl : NetL b ls) {t : Nt} : ∀ {g : List Str} {S : List (Str × Idn) × List D}, (∀ a ∈ g, ∃ e ∈ ls, at2 e.h = a) → (g.foldl (tkS b ls t) S).2.length ≤ S.2.length + 20 * g.length
  | [], _, _ => Nat.le_refl _
  | a :: g, S, h => by
    have h1 := tk_len nl (g := g) (S := tkS b ls t S a) (t := t) fun x hx => h x (List.mem_cons_of_mem _ hx)
    obtain ⟨e, he, q⟩ := h a (by simp)
    have h2 := out_len nl (E := S.1) (t := t) he
    rw [q] at h2
    rw [List.foldl_cons]
    have h3 : (tkS b ls t S a).2.length = S.2.length + (outX b ls S.1 a t).length := by unfold tkS; rw [List.length_append]
    rw [List.length_cons]
    omega
theorem sm_at2 {ns : List Str} {a : Str × Str} (h : AOk ns a) : Sm8 (at2 a) := fun c hc => by
  unfold at2 at hc
  rw [tl_adr] at hc
  rcases List.mem_append.mp hc with k | k
  · have := h.p c k; omega
  rcases List.mem_cons.mp k with k | k
  · omega
  · have := h.s c k; omega
theorem ad_len {ns : List Str} {a : Str × Str} (h : AOk ns a) : (tl (at2 a)).length ≤ 201 := by
  have := h.l
  unfold at2
  rw [tl_adr, List.length_append, List.length_cons]; omega
theorem ex_alike (x y : Str × Idn) : PySem.W.alike (py (exD x)) (py (exD y)) = true := by simp [exD, iD, py, pys, PySem.W.alike, PySem.W.alikeAll]
theorem exD_inj {x y : Str × Idn} (h : exD x = exD y) : x = y := by
  obtain ⟨a, b⟩ := x
  obtain ⟨c, d⟩ := y
  unfold exD at h
  injection h with h
  injection h with h1 h2
  injection h2 with h2 _
  injection h1 with h1
  exact Prod.ext h1 (iD_inj h2)
theorem ex_any {E : List (Str × Idn)} {e : Str × Idn} : ((E.map exD).any fun z => eqD z (exD e)) = decide (e ∈ E) := by
  rw [Bool.eq_iff_iff, List.any_eq_true, decide_eq_true_iff]
  constructor
  · rintro ⟨z, hz, k⟩
    obtain ⟨x, hx, rfl⟩ := List.mem_map.mp hz
    rw [← exD_inj ((eqD_iff (ex_alike x e)).mp k)]; exact hx
  · exact fun h => ⟨exD e, List.mem_map_of_mem h, (eqD_iff (ex_alike e e)).mpr rfl⟩
theorem ex_okd {e : Str × Idn} (h : okI e.2) (k : Sm8 e.1) : Okd (exD e) := fine_ok (n := 2) (fine_tup (fines_cons (fine_low fun c hc => by have := k c hc; omega) (fines_cons (fine_tup (fines_cons (fine_low fun c hc => by have := h.1 c hc; omega) (fines_cons fine_int fines_nil))) fines_nil)))
theorem ex_okl {E : List (Str × Idn)} (h : ∀ e ∈ E, okI e.2 ∧ Sm8 e.1) : Okl (E.map exD) := fines_ok (n := 2) (fines_map fun e m => fine_tup (fines_cons (fine_low fun c hc => by have := (h e m).2 c hc; omega) (fines_cons (fine_tup (fines_cons (fine_low fun c hc => by have := (h e m).1.1 c hc; omega) (fines_cons fine_int fines_nil))) fines_nil)))
/-! ### the spreads, told by their cells -/
def SpX (H : Hp) (b : Bk) (p : Addr) (G : List Addr) : Prop := p ∈ G ∧ ∃ kvs : List (L2.Key × V), H p = some (.dK kvs) ∧ ∀ y ∈ nms b, ∃ (a : Addr) (F : List (Str × Nat)), valV kvs (Sum.inr y : L2.Key) = some (.ref a) ∧ a ∈ G ∧ H a = some (.dK (fk F)) ∧ DistOk b.ln y F
theorem SpX.keep {H H' : Hp} {b : Bk} {p : Addr} {G : List Addr} (h : SpX H b p G) (k : ∀ q ∈ G, ∀ u, H q = some u → H' q = some u) : SpX H' b p G := by
  obtain ⟨h1, kvs, h2, h3⟩ := h
  exact ⟨h1, kvs, k _ h1 _ h2, fun y hy => by
    obtain ⟨a, F, e1, e2, e3, e4⟩ := h3 y hy
    exact ⟨a, F, e1, e2, k _ e2 _ e3, e4⟩⟩
theorem SpX.of {K : PySem.W.Frag} {H : Hp} {s : Addr} {b : Bk} {p : Addr} (h : SprOk K H s b p) : ∃ G, SpX H b p G ∧ Live H G ∧ s ∉ G := by
  obtain ⟨h1, kvs, h2, h3⟩ := h
  have f : ∀ l : List Str, (∀ y ∈ l, y ∈ nms b) → ∃ G : List Addr, Live H G ∧ s ∉ G ∧ ∀ y ∈ l, ∃ (a : Addr) (F : List (Str × Nat)), valV kvs (Sum.inr y : L2.Key) = some (.ref a) ∧ a ∈ G ∧ H a = some (.dK (fk F)) ∧ DistOk b.ln y F := by
    intro l
    induction l with
    | nil => exact fun _ => ⟨[], (fun q h => by cases h), by simp, fun y h => by cases h⟩
    | cons z l ih =>
      intro hl
      obtain ⟨G, g1, g2, g3⟩ := ih fun y hy => hl y (List.mem_cons_of_mem _ hy)
      obtain ⟨a, F, e1, e2, e3, e4⟩ := h3 z (hl z (by simp))
      refine ⟨a :: G, fun q hq => ?_, ?_, fun y hy => ?_⟩
      · rcases List.mem_cons.mp hq with e | hq
        · exact ⟨_, by rw [e]; exact e3⟩
        · exact g1 q hq
      · exact fun m => (List.mem_cons.mp m).elim (fun e => e2 e.symm) g2
      · rcases List.mem_cons.mp hy with e | hy
        · exact ⟨a, F, by rw [e]; exact e1, by simp, e3, by rw [e]; exact e4⟩
        · obtain ⟨a', F', k1, k2, k3, k4⟩ := g3 y hy
          exact ⟨a', F', k1, List.mem_cons_of_mem _ k2, k3, k4⟩
  obtain ⟨G, g1, g2, g3⟩ := f (nms b) fun _ h => h
  refine ⟨p :: G, ⟨by simp, kvs, h2, fun y hy => ?_⟩, fun q hq => ?_, fun m => ?_⟩
  · obtain ⟨a, F, k1, k2, k3, k4⟩ := g3 y hy
    exact ⟨a, F, k1, List.mem_cons_of_mem _ k2, k3, k4⟩
  · rcases List.mem_cons.mp hq with e | hq
    · exact ⟨_, by rw [e]; exact h2⟩
    · exact g1 q hq
  · exact (List.mem_cons.mp m).elim (fun e => h1 e.symm) g2
/-! ### promises -/
def sp58_copy (K : PySem.W.Frag) : Sp := fun vs H Q _ => ∃ (t : Nt) (u : V) (h m : Str), vs = [u, .str h, .str m] ∧ N8 K H t u ∧ (tl h).length ≤ 300 ∧ (tl m).length ≤ 300 ∧ ∀ r H', Same H H' → LtAt K H' t u h m r → Q r H'
def sp58_init (K : PySem.W.Frag) (C : Addr) : Sp := fun vs H Q _ => ∃ (o dx : Addr) (v : V) (s : Str), vs = [.ref o, v, .str s] ∧ H o = some (.ins C dx []) ∧ ∀ F H', Gr K [o] H F H' → DkE K C H' o v s [] [] F 0 → Q .non H'
def sp58_expand (K : PySem.W.Frag) (C : Addr) : Sp := fun vs H Q _ => ∃ (o : Addr) (b : Bk) (ls : List Li) (v : V) (s : Str) (E B : List (Str × Idn)) (F : List Addr) (m : Nat) (t : Nt) (u : V) (e : Li), vs = [.ref o, .str (at2 e.h), u] ∧ DkE K C H o v s E B F m ∧ DV K H (bkD b) v ∧ NetL b ls ∧ e ∈ ls ∧ N8 K H t u ∧ m ≤ 10000 ∧
  ∀ (p : Addr) (us : List V) (F' : List Addr) (H' : Hp), H p = none → H' p = some (.lst us) → p ∉ F' → DVs K H' (outX b ls E (at2 e.h) t) us → DkE K C H' o v s (exE E (at2 e.h) (nid t)) B F' (m + 2) → Gr K F H F' H' → Q (.ref p) H'
def sp58_take (K : PySem.W.Frag) (C : Addr) : Sp := fun vs H Q _ => ∃ (o : Addr) (b : Bk) (ls : List Li) (v : V) (s : Str) (E B : List (Str × Idn)) (F : List Addr) (m : Nat) (t : Nt) (u : V), vs = [.ref o, u] ∧ DkE K C H o v s E B F m ∧ DV K H (bkD b) v ∧ NetL b ls ∧ s ∈ nms b ∧ N8 K H t u ∧ m ≤ 9000 ∧
  ∀ (r : V) (F' : List Addr) (H' : Hp), DV K H' (.tup (tkR b ls s E t).2) r → DkE K C H' o v s (tkR b ls s E t).1 B F' (m + 20) → Gr K F H F' H' → Q r H'
def sp58_hear (K : PySem.W.Frag) (C : Addr) : Sp := fun vs H Q _ => ∃ (o : Addr) (b : Bk) (ls : List Li) (v : V) (s : Str) (E B : List (Str × Idn)) (F : List Addr) (m : Nat) (t : Nt) (u w : V) (h : Str) (a : Str × Str), vs = [.ref o, w] ∧ DkE K C H o v s E B F m ∧ DV K H (bkD b) v ∧ NetL b ls ∧ N8 K H t u ∧ LtAt K H t u h (at2 a) w ∧ AOk (nms b) a ∧ m ≤ 9000 ∧
  ∀ (r : V) (F' : List Addr) (H' : Hp), DV K H' (.tup (heO b ls E (at2 a) t)) r → DkE K C H' o v s (heE ls E (at2 a) t) (heB ls B (at2 a) t) F' (m + 20) → Gr K F H F' H' → Q r H'
def sp58_box (K : PySem.W.Frag) (C : Addr) : Sp := fun vs H Q _ => ∃ (o : Addr) (v : V) (s : Str) (E B : List (Str × Idn)) (F : List Addr) (m : Nat) (a : Str), vs = [.ref o, .str a] ∧ DkE K C H o v s E B F m ∧ m ≤ 10000 ∧ ∀ (r : V) (H' : Hp), Same H H' → DV K H' (.tup ((sel B a).map iD)) r → Q r H'
def sp58_notice (K : PySem.W.Frag) : Sp := fun vs H Q _ => ∃ (s a w : Addr) (b : Bk) (ls : List Li) (v : V) (ws : List Str) (k : Nat) (c : Nat), vs = [.ref s, v, .ref w, .int (k : Nat)] ∧ DV K H (bkD b) v ∧ NetL b ls ∧ ls ≠ [] ∧ SqL K H w (ws.map V.str) ∧ w ≠ s ∧ Wds ws ∧ k ≤ 999999 ∧ Src H s a (c + 1000) ∧
  ∀ (t : Nt) (u : V) (H' : Hp), N8 K H' t u → Ext s H H' → Src H' s a c → Q u H'
/-- a pair of addresses: a list's home, and a member of it -/
def PrAt (K : PySem.W.Frag) (b : Bk) (ls : List Li) (H : Hp) (w : V) : Prop := ∃ (c : Addr) (e : Li) (y : Str × Str), w = .ref c ∧ SqT K H c [.str (at2 e.h), .str (at2 y)] ∧ e ∈ ls ∧ AOk (nms b) y
def sp58_ways (K : PySem.W.Frag) : Sp := fun vs H Q _ => ∃ (b : Bk) (ls : List Li) (v : V) (sp : Addr) (s : Str) (G : List Addr), vs = [v, .ref sp, .str s] ∧ DV K H (bkD b) v ∧ NetL b ls ∧ SpX H b sp G ∧ s ∈ nms b ∧ ∀ (p : Addr) (us : List V) (H' : Hp), Same H H' → H' p = some (.lst us) → us.length ≤ 200 → (∀ w ∈ us, PrAt K b ls H' w) → Q (.ref p) H'
def sp58_lexp (K : PySem.W.Frag) : Sp := fun vs H Q _ => ∃ (b : Bk) (ls : List Li) (v : V) (sp p : Addr) (E B : List (Str × Idn)) (F G : List Addr) (m : Nat) (t : Nt) (u : V) (e : Li), vs = [v, .ref sp, .ref p, .str (at2 e.h), u] ∧ DV K H (bkD b) v ∧ NetL b ls ∧ SpX H b sp G ∧ (∀ q ∈ G, q ∉ F) ∧ MdE K H p E B F m ∧ e ∈ ls ∧ N8 K H t u ∧ m ≤ 10000 ∧
  ∀ (r : V) (F' : List Addr) (H' : Hp), DV K H' (.tup (outX b ls E (at2 e.h) t)) r → MdE K H' p (exE E (at2 e.h) (nid t)) B F' (m + 2) → Gr K F H F' H' → Q r H'
def sp58_ltake (K : PySem.W.Frag) : Sp := fun vs H Q _ => ∃ (b : Bk) (ls : List Li) (v : V) (sp p : Addr) (E B : List (Str × Idn)) (F G : List Addr) (m : Nat) (t : Nt) (u : V) (s : Str), vs = [v, .ref sp, .ref p, .str s, u] ∧ DV K H (bkD b) v ∧ NetL b ls ∧ SpX H b sp G ∧ Live H G ∧ (∀ q ∈ G, q ∉ F) ∧ MdE K H p E B F m ∧ s ∈ nms b ∧ N8 K H t u ∧ m ≤ 9000 ∧
  ∀ (r : V) (F' : List Addr) (H' : Hp), DV K H' (.tup (tkR b ls s E t).2) r → MdE K H' p (tkR b ls s E t).1 B F' (m + 20) → Gr K F H F' H' → Q r H'
def sp58_lhear (K : PySem.W.Frag) : Sp := fun vs H Q _ => ∃ (b : Bk) (ls : List Li) (v : V) (sp p : Addr) (E B : List (Str × Idn)) (F G : List Addr) (m : Nat) (t : Nt) (u w : V) (h : Str) (a : Str × Str), vs = [v, .ref sp, .ref p, w] ∧ DV K H (bkD b) v ∧ NetL b ls ∧ SpX H b sp G ∧ (∀ q ∈ G, q ∉ F) ∧ MdE K H p E B F m ∧ N8 K H t u ∧ LtAt K H t u h (at2 a) w ∧ AOk (nms b) a ∧ m ≤ 9000 ∧
  ∀ (r : V) (F' : List Addr) (H' : Hp), DV K H' (.tup (heO b ls E (at2 a) t)) r → MdE K H' p (heE ls E (at2 a) t) (heB ls B (at2 a) t) F' (m + 20) → Gr K F H F' H' → Q r H'
/-- a desk and its model in step, none of their cells among G -/
def Both (K : PySem.W.Frag) (C : Addr) (H : Hp) (o p : Addr) (v : V) (s : Str) (F : List Addr) (m : Nat) : Prop := ∃ E B F1 F2, DkE K C H o v s E B F1 m ∧ MdE K H p E B F2 m ∧ F = F1 ++ F2 ∧ ∀ q ∈ F2, q ∉ F1
def sp58_deed (K : PySem.W.Frag) (C : Addr) : Sp := fun vs H Q _ => ∃ (s a : Addr) (b : Bk) (ls : List Li) (v : V) (sp o p ns : Addr) (n : Str) (us : List V) (F G : List Addr) (m c : Nat), vs = [.ref s, v, .ref sp, .ref o, .ref p, .str n, .ref ns] ∧ DV K H (bkD b) v ∧ NetL b ls ∧ SpX H b sp G ∧ Live H G ∧ (∀ q ∈ G, q ∉ F) ∧ s ∉ G ∧ s ∉ F ∧ a ∉ F ∧ Both K C H o p v n F m ∧ n ∈ nms b ∧ H ns = some (.lst us) ∧ ns ≠ s ∧ us ≠ [] ∧ us.length ≤ 100 ∧ (∀ u ∈ us, ∃ t, N8 K H t u) ∧ m ≤ 9000 ∧ Src H s a (c + 3) ∧
  ∀ (F' : List Addr) (H' : Hp), Both K C H' o p v n F' (m + 20) → Gr K (s :: F) H (s :: F') H' → s ∉ F' → Src H' s a c → Q (.bl true) H'
def sp58_boxes (K : PySem.W.Frag) (C : Addr) : Sp := fun vs H Q _ => ∃ (b : Bk) (ls : List Li) (v : V) (o p : Addr) (n : Str) (F : List Addr) (m : Nat), vs = [v, .ref o, .ref p, .str n] ∧ DV K H (bkD b) v ∧ NetL b ls ∧ n ∈ nms b ∧ Both K C H o p v n F m ∧ m ≤ 9000 ∧ ∀ H', Same H H' → Q (.bl true) H'
theorem Both.live {K : PySem.W.Frag} {C : Addr} {H : Hp} {o p : Addr} {v : V} {s : Str} {F : List Addr} {m : Nat} (h : Both K C H o p v s F m) : Live H F := by
  obtain ⟨E, B, F1, F2, h1, h2, rfl, _⟩ := h
  exact fun q hq => (List.mem_append.mp hq).elim (h1.live q) (h2.live q)
theorem Both.keep {K : PySem.W.Frag} {C : Addr} {H H' : Hp} {o p : Addr} {v : V} {s : Str} {F : List Addr} {m : Nat} (h : Both K C H o p v s F m) (T : TT K H H') (k : ∀ q ∈ F, ∀ u, H q = some u → H' q = some u) : Both K C H' o p v s F m := by
  obtain ⟨E, B, F1, F2, h1, h2, rfl, h3⟩ := h
  exact ⟨E, B, F1, F2, h1.keep T fun q hq => k q (List.mem_append_left _ hq), h2.keep T fun q hq => k q (List.mem_append_right _ hq), rfl, h3⟩
theorem Both.mono {K : PySem.W.Frag} {C : Addr} {H : Hp} {o p : Addr} {v : V} {s : Str} {F : List Addr} {m n : Nat} (h : Both K C H o p v s F m) (le : m ≤ n) : Both K C H o p v s F n := by
  obtain ⟨E, B, F1, F2, h1, h2, rfl, h3⟩ := h
  exact ⟨E, B, F1, F2, h1.mono le, h2.mono le, rfl, h3⟩
theorem Both.same {K : PySem.W.Frag} {C : Addr} {H H' : Hp} {o p : Addr} {v : V} {s : Str} {F : List Addr} {m : Nat} (h : Both K C H o p v s F m) (x : Same H H') : Both K C H' o p v s F m := h.keep (TT.same x) fun q _ u => x _ _
end Z
namespace Z
open PySem L2 SX
section
variable {P : Program} {w : World} {K : PySem.W.Frag} {mg : Str → Option Value} {base : Heap}
theorem ok_copy_to (D : Df K mg "copy_to" s_copy_to ["notice", "list_address", "member"]) (T : Tx mg)  (C_id_text : Cal P w K mg base "id_text" ["id"] 1 (sp_id_text K)) : Cal P w K mg base "copy_to" ["notice", "list_address", "member"] 2 (sp58_copy K) := by
  obtain ⟨f_id_text, fd_id_text, G_id_text, g_id_text, k_id_text, b_id_text⟩ := C_id_text
  obtain ⟨f, fd, F, gf, bf⟩ := D
  refine ⟨f, fd, F.ok sc_copy_to (fun vs H Q E h => ?_) (fun cdv A outer s₀ H vs Q E hr h => ?_), gf, F.kp, bf⟩
  · obtain ⟨t, u, h, m, rfl, _⟩ := h; rfl
  · obtain ⟨t, u, h, m, rfl, du, hl, ml, q⟩ := h
    refine ⟨_, (pss_cons (ps_set (i := 3) sc_copy_to.nd rfl (Or.inl rfl) (pe_joined (.cons pe_str (.cons (pe_fmt (pe_call G_id_text (hr.mono (by decide)) (by rfl) g_id_text k_id_text b_id_text .nil pass0 (pa_cons (pe_ix ix_tup (pv 0) pe_int (fun _ _ => rfl)) pa_nil))) (.cons pe_str (.cons (pe_fmt (pv 1)) (.cons pe_str (.cons (pe_fmt (pv 2)) .nil))))))))
      (pss_one (ps_ret (pe_tup (pa_cons pe_str (pa_cons (pv 3) (pa_cons (pv 2) (pa_cons (pe_tup (pa_cons pe_str (pa_cons (pv 0) (pa_cons (pv 1) pa_nil)))) pa_nil)))))))), ?_⟩
    have ok := du.1
    have du0 := du.dv
    obtain ⟨a, i, b', k', us, ks, rfl, hA, ul, e1, hi, e4, hb, e7, hk, k0⟩ := du.at
    have il := idL_len ok
    have l0 : (tl Str.empty).length = 0 := rfl
    have lA : (tl (Str.ofString "c:")).length = 2 := rfl
    have lB : (tl (Str.ofString ":")).length = 1 := rfl
    refine ⟨_, rfl, ?_, _, rfl, a, us, 1, .ref i, rfl, rfl, hA, e1, i, t.n, t.k, rfl, SqT.of hi, by have := ok.n; omega, ok.k, fun y hy => ?_⟩
    · exact js (by decide)
    have hy' : tl y = idL t := hy
    refine .inl ⟨y, rfl, ?_, _, rfl, ?_, _, rfl, ?_, _, rfl, .inl ⟨h, rfl, ?_, _, rfl, ?_, _, rfl, ?_, _, rfl, .inl ⟨m, rfl, ?_, _, rfl, ?_, ?_⟩⟩⟩
    · rw [tl_len, hy']; exact Nat.le_trans (show _ ≤ 30000 by omega) (by decide)
    · refine js ?_
      simp only [tl_app, List.length_append, hy']
      omega
    · refine js ?_
      simp only [tl_app, List.length_append, hy']
      omega
    · rw [tl_len]; exact Nat.le_trans (show _ ≤ 30000 by omega) (by decide)
    · refine js ?_
      simp only [tl_app, List.length_append, hy']
      omega
    · refine js ?_
      simp only [tl_app, List.length_append, hy']
      omega
    · rw [tl_len]; exact Nat.le_trans (show _ ≤ 30000 by omega) (by decide)
    · refine js ?_
      simp only [tl_app, List.length_append, hy']
      omega
    refine ⟨_, rfl, _, rfl, _, rfl, _, rfl, by show 3 ≤ sizeLine; decide, fun T hT => ?_⟩
    have m1 := same_new (o := HO.tup [V.str (Str.ofString "copy"), V.ref a, V.str h]) hT
    refine ⟨by show 4 ≤ sizeLine; decide, fun U hU => ?_⟩
    have m2 := fun (y : Str) => same_new (o := HO.tup [V.str (Str.ofString "letter"), V.str y, V.str m, V.ref T]) hU
    have hT2 := fun (y : Str) => m2 y _ _ (upd_same (H := H) (a := T) (o := HO.tup [V.str (Str.ofString "copy"), V.ref a, V.str h]))
    have mm := fun (y : Str) => m1.trans (m2 y)
    refine q _ _ (mm _) ⟨⟨U, _, rfl, SqT.of upd_same, dlc (dls _) (dlc (dv_key ?_) (dlc (dls _) (dlc ⟨T, _, rfl, SqT.of (hT2 _), dlc (dls _) (dlc (du0.tk (TK.same (mm _))) (dlc (dls _) dln))⟩ dln)))⟩, U, T, _, rfl, SqT.of upd_same, SqT.of (hT2 _)⟩
    simp only [tl_app, hy']
    show ((((([] ++ [99, 58]) ++ idL t) ++ [58]) ++ tl h) ++ [58]) ++ tl m = _
    simp
end
section
variable {P : Program} {w : World} {K : PySem.W.Frag} {mg : Str → Option Value} {base : Heap}
theorem ok__law_copy (D : Df K mg "_law_copy" s__law_copy ["notice", "home", "member"]) (T : Tx mg)   : Cal P w K mg base "_law_copy" ["notice", "home", "member"] 1 (sp58_copy K) := by
  obtain ⟨f, fd, F, gf, bf⟩ := D
  refine ⟨f, fd, F.ok sc__law_copy (fun vs H Q E h => ?_) (fun cdv A outer s₀ H vs Q E hr h => ?_), gf, F.kp, bf⟩
  · obtain ⟨t, u, h, m, rfl, _⟩ := h; rfl
  · obtain ⟨t, u, h, m, rfl, du, hl, ml, q⟩ := h
    refine ⟨_, (pss_cons (ps_set (i := 3) sc__law_copy.nd rfl (Or.inl rfl) (pe_op op_add_str (pe_op op_add_str (pe_op op_add_str (pe_op op_add_str (pe_op op_add_str (pe_op op_add_str (pe_op op_add_str pe_str (pe_callTy call_str_int (by rfl) T.n_str (by decide +kernel) (pa_cons (pe_ix ix_tup (pe_ix ix_tup (pv 0) pe_int (fun _ _ => rfl)) pe_int (fun _ _ => rfl)) pa_nil))) pe_str) (pe_ix ix_tup (pe_ix ix_tup (pv 0) pe_int (fun _ _ => rfl)) pe_int (fun _ _ => rfl))) pe_str) (pv 1)) pe_str) (pv 2)))
      (pss_one (ps_ret (pe_tup (pa_cons pe_str (pa_cons (pv 3) (pa_cons (pv 2) (pa_cons (pe_tup (pa_cons pe_str (pa_cons (pv 0) (pa_cons (pv 1) pa_nil)))) pa_nil)))))))), ?_⟩
    have ok := du.1
    have du0 := du.dv
    obtain ⟨a, i, b', k', us, ks, rfl, hA, ul, e1, hi, e4, hb, e7, hk, k0⟩ := du.at
    have t1 := tl_int t.k
    have nl := numL_six ok.k
    have nn := ok.n
    have lA : (tl (Str.ofString "c:")).length = 2 := rfl
    have lB : (tl (Str.ofString ":")).length = 1 := rfl
    have lC : (tl (Str.ofString "@")).length = 1 := rfl
    refine ⟨_, rfl, a, us, 1, .ref i, rfl, rfl, hA, e1, i, _, 1, _, rfl, rfl, SqT.of hi, atI_nat (j := 1) rfl, _, rfl, log54 ok.k, ?_⟩
    refine ⟨_, _, rfl, rfl, ?_, _, _, rfl, rfl, ?_, _, rfl, a, us, 1, .ref i, rfl, rfl, hA, e1, i, _, 0, _, rfl, rfl, SqT.of hi, atI_nat (j := 0) rfl, _, _, rfl, rfl, ?_, _, _, rfl, rfl, ?_, _, rfl, _, _, rfl, rfl, ?_, _, _, rfl, rfl, ?_, _, rfl, _, _, rfl, rfl, ?_, ?_⟩
    iterate 7 exact js2 (by simp only [tl_app, List.length_append, t1]; omega)
    refine ⟨_, rfl, _, rfl, _, rfl, _, rfl, by show 3 ≤ sizeLine; decide, fun T hT => ?_⟩
    have m1 := same_new (o := HO.tup [V.str (Str.ofString "copy"), V.ref a, V.str h]) hT
    refine ⟨by show 4 ≤ sizeLine; decide, fun U hU => ?_⟩
    have m2 := fun (y : Str) => same_new (o := HO.tup [V.str (Str.ofString "letter"), V.str y, V.str m, V.ref T]) hU
    have hT2 := fun (y : Str) => m2 y _ _ (upd_same (H := H) (a := T) (o := HO.tup [V.str (Str.ofString "copy"), V.ref a, V.str h]))
    have mm := fun (y : Str) => m1.trans (m2 y)
    refine q _ _ (mm _) ⟨⟨U, _, rfl, SqT.of upd_same, dlc (dls _) (dlc (dv_key ?_) (dlc (dls _) (dlc ⟨T, _, rfl, SqT.of (hT2 _), dlc (dls _) (dlc (du0.tk (TK.same (mm _))) (dlc (dls _) dln))⟩ dln)))⟩, U, T, _, rfl, SqT.of upd_same, SqT.of (hT2 _)⟩
    simp only [tl_app, t1]
    show ((((([99, 58] ++ TL.numL t.k) ++ [64]) ++ tl t.n) ++ [58]) ++ tl h) ++ [58] ++ tl m = _
    unfold idL
    simp
end
section
variable {P : Program} {w : World} {K : PySem.W.Frag} {mg : Str → Option Value} {base : Heap}
theorem ok_ListDesk____init__ {A_ListDesk : Addr} (D : DfI K A_ListDesk "ListDesk.__init__" s_ListDesk____init__ ["self", "book", "site"]) (T : Tx mg) (O : To K mg A_ListDesk)   : CalI P w K mg base A_ListDesk ["self", "book", "site"] 1 (sp58_init K A_ListDesk) := by
  obtain ⟨f, fd, F, gf, bf⟩ := D
  refine ⟨f, fd, F.ok sc_ListDesk____init__ (fun vs H Q E h => ?_) (fun cdv A outer s₀ H vs Q E hr h => ?_), gf, bf⟩
  · obtain ⟨o, dx, v, s, rfl, _⟩ := h; rfl
  · obtain ⟨o, dx, v, s, rfl, ho, q⟩ := h
    refine ⟨_, (pss_cons (ps_fld (pv 0) (pv 1) rfl)
      (pss_cons (ps_fld (pv 0) (pv 2) rfl)
      (pss_cons (ps_fld (pv 0) pe_dnewK rfl)
      (pss_one (ps_fld (pv 0) pe_dnewK rfl))))), ?_⟩
    refine ⟨_, rfl, _, rfl, o, A_ListDesk, dx, _, rfl, ho, O.c_ListDesk, O.n_ListDesk_book, by decide, ?_⟩
    refine ⟨_, rfl, _, rfl, o, A_ListDesk, dx, _, rfl, upd_same, O.c_ListDesk, O.n_ListDesk_site, by show (1 : Nat) < 1000; decide, ?_⟩
    refine fun X1 n1 => ⟨_, rfl, ?_⟩
    have oX1 : o ≠ X1 := fun e => by rw [← e, upd_same] at n1; cases n1
    refine ⟨o, A_ListDesk, dx, _, rfl, by rw [upd_ne oX1]; exact upd_same, O.c_ListDesk, O.n_ListDesk_expanded, by show (2 : Nat) < 1000; decide, ?_⟩
    refine fun X2 n2 => ⟨_, rfl, ?_⟩
    have oX2 : o ≠ X2 := fun e => by rw [← e, upd_same] at n2; cases n2
    have X12 : X1 ≠ X2 := fun e => by rw [← e, upd_ne oX1.symm, upd_same] at n2; cases n2
    refine ⟨o, A_ListDesk, dx, _, rfl, by rw [upd_ne oX2]; exact upd_same, O.c_ListDesk, O.n_ListDesk_boxes, by show (3 : Nat) < 1000; decide, ?_⟩
    rw [upd_ne oX1.symm, upd_ne oX1.symm] at n1
    rw [upd_ne oX2.symm, upd_ne X12.symm, upd_ne oX2.symm, upd_ne oX2.symm] at n2
    have k1 : ∀ {b u}, b ≠ o → H b = some u → b ≠ X1 ∧ b ≠ X2 := fun {b u} nb hb => ⟨(fun e => by rw [e, n1] at hb; cases hb), (fun e => by rw [e, n2] at hb; cases hb)⟩
    refine q (dkF o X1 X2 [] []) _ ⟨fun b u nb hb => ?_, ?_, fun p hp => ?_, fun p hp => by rw [List.mem_singleton.mp hp]; unfold dkF; simp⟩ ⟨X1, X2, [], [], ⟨⟨dx, upd_same⟩, ⟨?_, List.nodup_nil, by simp [foot], (fun e h => by cases h), fun a _ => rfl, Nat.le_refl _, Nat.le_refl _⟩, ⟨?_, List.nodup_nil, by simp [foot], (fun e h => by cases h), fun a _ => rfl, Nat.le_refl _, Nat.le_refl _⟩, ?_⟩, rfl⟩
    · have nb : b ≠ o := fun e => nb (by rw [e]; simp)
      rw [upd_ne nb, upd_ne (k1 nb hb).2, upd_ne nb, upd_ne (k1 nb hb).1, upd_ne nb, upd_ne nb]; exact hb
    · refine TT.trans ?_ (TT.over (by rw [upd_ne oX2]; exact upd_same) (fun _ e => by cases e) (fun _ _ e => by cases e))
      refine TT.trans ?_ (TT.same (same_new (by rw [upd_ne oX2.symm, upd_ne X12.symm, upd_ne oX2.symm, upd_ne oX2.symm]; exact n2)))
      refine TT.trans ?_ (TT.over (by rw [upd_ne oX1]; exact upd_same) (fun _ e => by cases e) (fun _ _ e => by cases e))
      refine TT.trans ?_ (TT.same (same_new (by rw [upd_ne oX1.symm, upd_ne oX1.symm]; exact n1)))
      refine TT.trans ?_ (TT.over upd_same (fun _ e => by cases e) (fun _ _ e => by cases e))
      exact TT.over ho (fun _ e => by cases e) (fun _ _ e => by cases e)
    · simp only [dkF, foot, List.map_nil, List.cons_append, List.nil_append, List.mem_cons, List.not_mem_nil, or_false] at hp
      rcases hp with e | e | e
      · exact .inl (by rw [e]; simp)
      · exact .inr (by rw [e]; exact n1)
      · exact .inr (by rw [e]; exact n2)
    · rw [upd_ne oX1.symm, upd_ne X12, upd_ne oX1.symm]; exact upd_same
    · rw [upd_ne oX2.symm]; exact upd_same
    · simp [foot, oX1, oX2, X12]
end
theorem ks_dvs {K : PySem.W.Frag} {H : Hp} : ∀ {l : List Idn} {us : List V}, KsAt H (l.map ik) us → DVs K H (l.map iD) us
  | [], us, h => by have : us = [] := h; subst this; exact dln
  | x :: l, us, h => by
    obtain ⟨a, t, rfl, h1, h2⟩ := h
    exact dlc ⟨a, _, rfl, SqT.of h1, dlc (dls _) (dlc (dli _) dln)⟩ (ks_dvs h2)
section
variable {P : Program} {w : World} {K : PySem.W.Frag} {mg : Str → Option Value} {base : Heap}
theorem ok_ListDesk__box {A_ListDesk : Addr} (D : DfM K A_ListDesk "box" "ListDesk.box" s_ListDesk__box ["self", "address"]) (T : Tx mg) (O : To K mg A_ListDesk)   : CalM P w K mg base A_ListDesk "box" ["self", "address"] 1 (sp58_box K A_ListDesk) := by
  obtain ⟨f, fd, F, gf, bf⟩ := D
  refine ⟨f, fd, F.ok sc_ListDesk__box (fun vs H Q E h => ?_) (fun cdv A outer s₀ H vs Q E hr h => ?_), gf, bf⟩
  · obtain ⟨o, v, s, E, B, F, m, a, rfl, _⟩ := h; rfl
  · obtain ⟨o, v, s, E, B, F, m, a, rfl, d, m4, q⟩ := h
    refine ⟨_, (pss_one (ps_ret (pe_callTy (cr_tupKeysT rfl) (by rfl) T.n_tuple (by decide +kernel) (pa_cons (pe_dget2 (hu_of hr) (pe_fld (pv 0) rfl) (pv 1) pe_dnewT ⟨rfl, rfl, rfl, rfl⟩) pa_nil)))), ?_⟩
    obtain ⟨X1, X2, l1, l2, d, rfl⟩ := d
    obtain ⟨dx, ob⟩ := d.ob
    refine ⟨_, rfl, o, A_ListDesk, dx, _, _, rfl, ob, O.c_ListDesk, O.n_ListDesk_boxes, rfl, X2, rfl, .inl ⟨_, .inl d.bx.x⟩, _, rfl, fun N hN => ?_⟩
    have n1 := same_new (o := HO.dT []) hN
    refine ⟨_, DGet.k (k := (Sum.inr a : L2.Key)) (n1 _ _ d.bx.x), ?_⟩
    have big : ∀ {l : List Idn}, l.length ≤ 10000 → l.length ≤ sizeLine := fun h => Nat.le_trans h (by decide)
    cases hv : valV (l2.map bk) (Sum.inr a : L2.Key) with
    | none =>
      have e0 := d.bx.no a (bk_no d.bx.kd hv)
      refine ⟨N, [], rfl, upd_same, fun ys T hT hy => ?_⟩
      have hy : ys = [] := hy
      subst hy
      refine q _ _ (n1.trans (same_new hT)) ⟨T, _, rfl, SqT.of upd_same, ?_⟩
      rw [e0]; exact dln
    | some w =>
      obtain ⟨e, he, ea, rfl⟩ := bk_of d.bx.kd hv
      obtain ⟨es, hE, ke, _⟩ := d.bx.ch e he
      refine ⟨e.2, es, rfl, n1 _ _ hE, fun ys T hT hy => ?_⟩
      have m2 := n1.trans (same_new (o := HO.tup ys) hT)
      refine q _ _ m2 ⟨T, _, rfl, SqT.of upd_same, ?_⟩
      rw [ke, ea] at hy
      exact (ks_dvs hy).tk (TK.same (same_new hT))
end

end Z
namespace Z
open PySem L2 SX
theorem liOf_at {b : Bk} {ls : List Li} (nl : NetL b ls) {e : Li} (he : e ∈ ls) : liOf ls e.h = some e := by
  cases h : liOf ls e.h with
  | none => exact absurd (List.mem_map_of_mem (f := (·.h)) he) (liOf_none.mp h)
  | some x =>
    obtain ⟨h1, h2⟩ := liOf_some h
    rw [li_one nl.nd h1 he h2]
theorem ik_nid (t : Nt) : (ik (nid t)).map kV = [V.str t.n, V.int (t.k : Int)] := rfl
section
variable {P : Program} {w : World} {K : PySem.W.Frag} {mg : Str → Option Value} {base : Heap}
theorem ok_ListDesk__expand {A_ListDesk : Addr} (D : DfM K A_ListDesk "expand" "ListDesk.expand" s_ListDesk__expand ["self", "address", "notice"]) (T : Tx mg) (O : To K mg A_ListDesk)  (C_copy_to : Cal P w K mg base "copy_to" ["notice", "list_address", "member"] 2 (sp58_copy K)) (C_list_of : Cal P w K mg base "list_of" ["book", "address"] 1 (sp57_list_of K)) (C_near_members : Cal P w K mg base "near_members" ["book", "entry"] 3 (sp57_near K)) : CalM P w K mg base A_ListDesk "expand" ["self", "address", "notice"] 4 (sp58_expand K A_ListDesk) := by
  obtain ⟨f_copy_to, fd_copy_to, G_copy_to, g_copy_to, k_copy_to, b_copy_to⟩ := C_copy_to
  obtain ⟨f_list_of, fd_list_of, G_list_of, g_list_of, k_list_of, b_list_of⟩ := C_list_of
  obtain ⟨f_near_members, fd_near_members, G_near_members, g_near_members, k_near_members, b_near_members⟩ := C_near_members
  obtain ⟨f, fd, F, gf, bf⟩ := D
  refine ⟨f, fd, F.ok sc_ListDesk__expand (fun vs H Q E h => ?_) (fun cdv A outer s₀ H vs Q E hr h => ?_), gf, bf⟩
  · obtain ⟨o, b, ls, v, s, E, B, F, m, t, u, e, rfl, _⟩ := h; rfl
  · obtain ⟨o, b, ls, v, s, E, B, F, m, t, u, e, rfl, d, hb, nl, em, du, m4, q⟩ := h
    refine ⟨_, (C8.pss_cut (ps_set (i := 3) sc_ListDesk__expand.nd rfl (Or.inl rfl) (pe_dsetd (pe_fld (pv 0) rfl) (pv 1) pe_dnewT ⟨rfl, rfl, rfl, rfl⟩))
      (pss_cons (ps_if (pt_cmp (pc_din (hu_of hr) (pe_ix ix_tup (pv 2) pe_int (fun _ _ => rfl)) (pv 3)))
      (pss_one (ps_ret (pe_lst pa_nil)))
      pss_nil)
      (pss_cons (ps_dput (hu_of hr) (pv 3) (pe_ix ix_tup (pv 2) pe_int (fun _ _ => rfl)) pe_bl rfl)
      (pss_one (ps_ret (pe_lc (own := [("member", 4)]) (g := gName 4) (tt := tYes) rfl sc_ListDesk__expand.nd (pi_list (pe_call G_near_members (hr.mono (by decide)) (by rfl) g_near_members k_near_members b_near_members .nil pass0 (pa_cons (pe_fld (pv 0) rfl) (pa_cons (pe_call G_list_of (hr.mono (by decide)) (by rfl) g_list_of k_list_of b_list_of .nil pass0 (pa_cons (pe_fld (pv 0) rfl) (pa_cons (pv 1) pa_nil))) pa_nil)))) (blkOk_by (own := [("member", 4)]) (N := N_ListDesk__expand) (sc := defScope s_ListDesk__expand) (by decide +kernel)) (fun _ _ _ _ _ => pg_name (i := 4) sc_ListDesk__expand.nd rfl (Or.inl rfl)) (fun _ _ _ _ _ => pts_nil) (fun _ _ _ _ _ => (pe_call G_copy_to (hr.mono (by decide)) (by rfl) g_copy_to k_copy_to b_copy_to .nil pass0 (pa_cons (pv 2) (pa_cons (pv 1) (pa_cons (pv 4) pa_nil))))))))))), ?_⟩
    have ok := du.1
    have ho := nl.ho e em
    have big : ∀ {n : Nat}, n ≤ 30000 → n < sizeLine := fun h => Nat.lt_of_le_of_lt h (by decide)
    obtain ⟨X1, X2, l1, l2, d, rfl⟩ := d
    obtain ⟨dx, ob⟩ := d.ob
    refine ⟨fun σ' H' => ∃ (l1' : List (Str × Addr)) (c : Addr), σ' = [some (.ref o), some (.str (at2 e.h)), some u, some (.ref c), none] ∧ Dk K A_ListDesk H' o v s X1 X2 E B l1' l2 (m + 1) ∧ Gr K (dkF o X1 X2 l1 l2) H (dkF o X1 X2 l1' l2) H' ∧ (at2 e.h, c) ∈ l1', ?_, ?_⟩
    · refine ⟨_, rfl, o, A_ListDesk, dx, _, _, rfl, ob, O.c_ListDesk, O.n_ListDesk_expanded, rfl, X1, rfl, .inl ⟨_, .inl d.ex.x⟩, _, rfl, fun N hN => ?_⟩
      have n1 := same_new (o := HO.dT []) hN
      have bl := d.ex.bm.1
      refine ⟨_, Sum.inr (at2 e.h), n1 _ _ d.ex.x, rfl, by rw [List.length_map]; exact big (by omega), fun w hw => ?_, fun hw => ?_⟩
      · obtain ⟨f, hf, ef, rfl⟩ := bk_of d.ex.kd hw
        obtain ⟨_, _, _, _, d', e1⟩ : DkE K A_ListDesk _ o v s E B (dkF o X1 X2 l1 l2) (m + 1) := (DkE.same ⟨X1, X2, l1, l2, d, rfl⟩ n1).mono (Nat.le_succ m)
        refine ⟨l1, f.2, rfl, ⟨n1 _ _ ob |> fun k => ⟨dx, k⟩, (d.ex.same (K := K) c1_stays n1).mono (Nat.le_succ m), (d.bx.same (K := K) c1_stays n1).mono (Nat.le_succ m), d.nd⟩, Gr.same n1, ?_⟩
        rw [← ef]; exact hf
      · have na := bk_no d.ex.kd hw
        obtain ⟨D1, G1⟩ := d.ex.new (K := K) (o := HO.dT []) c1_stays na hN fun H2 h2 => ⟨[], h2, rfl, List.nodup_nil⟩
        obtain ⟨D2, G2⟩ := d.one D1 G1 (Nat.le_succ m)
        exact ⟨_, N, rfl, D2, G2, by simp⟩
    rintro σ1 H1 ⟨l1', c, rfl, d1, g1, hc⟩
    have du1 := du.tt g1.tt
    have hb1 := hb.tk g1.tt.1
    obtain ⟨a, i, b', k', us, ks, rfl, hA, ul, e1, hi, e4, hb', e7, hk, k0⟩ := du1.at
    obtain ⟨es, hE, ke, en⟩ := d1.ex.ch _ hc
    have hvm := val_mem ke (nid t)
    refine ⟨_, rfl, a, us, 1, .ref i, rfl, rfl, hA, e1, _, rfl, c, _, rfl, DGet.t (k := ik (nid t)) hE (by rw [ik_nid]; exact hi), ?_⟩
    have me : memB (sel E (at2 e.h)) (nid t) = decide ((at2 e.h, nid t) ∈ E) := by
      rw [Bool.eq_iff_iff, memB_iff, decide_eq_true_iff, sel_mem]
    rw [hvm, me]
    by_cases cm : (at2 e.h, nid t) ∈ E
    · have ee : exE E (at2 e.h) (nid t) = E := by unfold exE; rw [if_pos cm]
      have eo : outX b ls E (at2 e.h) t = [] := by unfold outX; rw [if_pos cm]
      refine ⟨_, rfl, iG (decide_eq_true cm) ⟨Nat.zero_le _, fun p hp => ?_⟩⟩
      have n2 := same_new (o := HO.lst []) hp
      have d2 : DkE K A_ListDesk (upd H1 p (HO.lst [])) o v s E B (dkF o X1 X2 l1' l2) (m + 2) := (DkE.same ⟨X1, X2, l1', l2, d1, rfl⟩ n2).mono (Nat.le_succ _)
      have pF : p ∉ dkF o X1 X2 l1' l2 := fun h => by
        obtain ⟨u, hu⟩ := d1.live p h
        rw [hp] at hu; cases hu
      have pN : H p = none := none_of g1 pF hp
      refine q p [] _ _ pN upd_same pF (by rw [eo]; exact dln) (by rw [ee]; exact d2) (g1.trans (Gr.same n2))
    have ee : exE E (at2 e.h) (nid t) = E ++ [(at2 e.h, nid t)] := by unfold exE; rw [if_neg cm]
    have eo : outX b ls E (at2 e.h) t = (nearM b e).map fun m => copyD t (at2 e.h) (at2 m) := by unfold outX; rw [if_neg cm, nearA_at nl em]
    rw [ee, eo] at q
    have nv : valV es (ik (nid t)) = none := by
      have := hvm
      rw [me, decide_eq_false cm] at this
      cases hx : valV es (ik (nid t)) with
      | none => rfl
      | some w => rw [hx] at this; cases this
    have esl : es.length ≤ m + 1 := by
      have h1 : _ = ((sel E (at2 e.h)).map ik).length := congrArg List.length ke
      rw [List.length_map, List.length_map] at h1
      have h2 := sel_len (P := E) (a := at2 e.h)
      have := d1.ex.bm.2
      omega
    obtain ⟨dx1, ob1⟩ := d1.ob
    refine ⟨_, rfl, iN (decide_eq_false cm) ⟨_, rfl, _, rfl, a, us, 1, .ref i, rfl, rfl, hA, e1, c, _, rfl, DPut.t (k := ik (nid t)) hE (by rw [ik_nid]; exact hi) (big (by omega)), ?_⟩⟩
    obtain ⟨D3, G3⟩ := d1.ex.push (K := K) (e := (at2 e.h, c)) (x := nid t) (o := HO.dT (putK es (ik (nid t)) (V.bl true))) c1_stays hc ⟨_, upd_same, by rw [putK_new _ nv, List.map_append, ke, List.map_append]; rfl, by
      rw [List.nodup_append]
      refine ⟨en, by simp, fun x hx y hy e => cm ?_⟩
      rw [List.mem_singleton.mp hy] at e
      rw [e] at hx
      exact sel_mem.mp hx⟩
    obtain ⟨d3, G3⟩ := d1.one D3 G3 (Nat.le_succ _)
    have g3 := g1.trans G3
    clear D3 G3 hvm nv
    generalize upd H1 c (HO.dT (putK es (ik (nid t)) (V.bl true))) = H3 at d3 g3
    have ob3 := d3.ob
    obtain ⟨dx3, ob3⟩ := ob3
    have hb3 := hb.tk g3.tt.1
    refine ⟨_, rfl, o, A_ListDesk, dx3, _, _, rfl, ob3, O.c_ListDesk, O.n_ListDesk_book, rfl, _, rfl, o, A_ListDesk, dx3, _, _, rfl, ob3, O.c_ListDesk, O.n_ListDesk_book, rfl, _, rfl, b, ls, v, e.h, rfl, hb3, nl, ho.p, fun z hz => ?_⟩
    rw [liOf_at nl em] at hz
    refine ⟨b, ls, v, e, z, rfl, hb3, nl, em, hz, fun p H4 np m4 hp => ⟨p, rfl, ⟨_, SqL.of hp⟩, fun D hD => ?_⟩⟩
    have nl20 := near_len nl em
    refine lc_list (K := K) (a := p) (xs := (nearM b e).map fun a => V.str (at2 a)) (fun i H' => ∃ us : List V, H' D = some (.lst us) ∧ us.length = i ∧ DVs K H' (((nearM b e).take i).map fun m => copyD t (at2 e.h) (at2 m)) us ∧ Same H4 H') ⟨[], upd_same, rfl, dln, same_new hD⟩ (fun i H' _ h => by obtain ⟨_, _, _, _, m⟩ := h; exact SqL.of (m _ _ hp)) ?_ ?_
    · rintro i x H5 hi ⟨us, h5, ul5, dv5, m5⟩
      obtain ⟨y, hy, rfl⟩ := map_get hi
      have ym := List.mem_of_getElem? hy
      have yo := nl.me e em y (nearM_iff.mp ym).1
      have il := (List.getElem?_eq_some_iff.mp hy).1
      have du5 := (du.tt g3.tt).tt (TT.same (m4.trans m5))
      refine ⟨rfl, _, rfl, _, rfl, _, rfl, t, .ref a, at2 e.h, at2 y, rfl, du5, by have := ad_len ho; omega, by have := ad_len yo; omega, fun r H6 m6 hr => ?_⟩
      have hD6 := m6 _ _ h5
      refine ⟨us, hD6, big (by omega), us ++ [r], upd_same, by rw [List.length_append, ul5]; rfl, ?_, sput (m5.trans m6) hD⟩
      have T := tk_put (K := K) (o := HO.lst (us ++ [r])) hD6
      rw [List.take_add_one, hy, List.map_append]
      exact dvs_app ((dv5.tk (TK.same m6)).tk T) (dlc (hr.1.tk T) dln)
    rintro H5 ⟨us, h5, ul5, dv5, m5⟩
    rw [List.length_map, List.take_length] at dv5
    have m45 := m4.trans m5
    have g5 := g3.trans (Gr.same m45)
    have d5 : DkE K A_ListDesk H5 o v s (E ++ [(at2 e.h, nid t)]) B (dkF o X1 X2 l1' l2) (m + 2) := DkE.same ⟨X1, X2, l1', l2, d3, rfl⟩ m45
    have nD : H3 D = none := Same.free m4 hD
    have DF : D ∉ dkF o X1 X2 l1' l2 := fun h => by
      obtain ⟨u, hu⟩ := d3.live D h
      rw [nD] at hu; cases hu
    exact q D us _ H5 (none_of g3 DF nD) h5 DF dv5 d5 g5
end

end Z
namespace Z
open PySem L2 SX
theorem dle_m {a b c : Nat} (h : a ≤ b) (k : b ≤ c) : a ≤ c := Nat.le_trans h k
section
variable {P : Program} {w : World} {K : PySem.W.Frag} {mg : Str → Option Value} {base : Heap}
theorem ok_ListDesk__take {A_ListDesk : Addr} (D : DfM K A_ListDesk "take" "ListDesk.take" s_ListDesk__take ["self", "notice"]) (T : Tx mg) (O : To K mg A_ListDesk)  (C_ListDesk__expand : CalM P w K mg base A_ListDesk "expand" ["self", "address", "notice"] 4 (sp58_expand K A_ListDesk)) (C_lists_for : Cal P w K mg base "lists_for" ["book", "site", "boards"] 6 (sp57_gates K)) : CalM P w K mg base A_ListDesk "take" ["self", "notice"] 7 (sp58_take K A_ListDesk) := by
  obtain ⟨f_ListDesk__expand, fd_ListDesk__expand, G_ListDesk__expand, h_ListDesk__expand, b_ListDesk__expand⟩ := C_ListDesk__expand
  obtain ⟨f_lists_for, fd_lists_for, G_lists_for, g_lists_for, k_lists_for, b_lists_for⟩ := C_lists_for
  obtain ⟨f, fd, F, gf, bf⟩ := D
  refine ⟨f, fd, F.ok sc_ListDesk__take (fun vs H Q E h => ?_) (fun cdv A outer s₀ H vs Q E hr h => ?_), gf, bf⟩
  · obtain ⟨o, b, ls, v, s, E, B, F, m, t, u, rfl, _⟩ := h; rfl
  · obtain ⟨o, b, ls, v, s, E, B, F, m, t, u, rfl, d, hb, nl, sn, du, m4, q⟩ := h
    refine ⟨_, (pss_cons (ps_set (i := 2) sc_ListDesk__take.nd rfl (Or.inl rfl) (pe_lst pa_nil))
      (C8.pss_cut (ps_if (pt_cmpR op_ne (pe_ix ix_tup (pe_ix ix_tup (pv 1) pe_int (fun _ _ => rfl)) pe_int (fun _ _ => rfl)) pe_str (nomark _))
      (pss_one (ps_for PassesOwn.never rfl (pi_tup (pe_call G_lists_for (hr.mono (by decide)) (by rfl) g_lists_for k_lists_for b_lists_for .nil pass0 (pa_cons (pe_fld (pv 0) rfl) (pa_cons (pe_fld (pv 0) rfl) (pa_cons (pe_ix ix_tup (pv 1) pe_int (fun _ _ => rfl)) pa_nil))))) (pg_name (i := 3) sc_ListDesk__take.nd rfl (Or.inl rfl))
        (pss_one (ps_expr (pe_bm PySem.F.plainAttrs_list PySem.F.slot_list_extend PySem.F.type_list_extend mt_extend (pv 2) (pa_cons (pe_meth (pv 0) O.c_ListDesk h_ListDesk__expand G_ListDesk__expand (hr.mono (by decide)) b_ListDesk__expand .nil pass0 (pa_cons (pv 3) (pa_cons (pv 1) pa_nil))) pa_nil))))))
      pss_nil)
      (pss_one (ps_ret (pe_callTy call_tuple_of (by rfl) T.n_tuple (by decide +kernel) (pa_cons (pv 2) pa_nil)))))), ?_⟩
    have ok := du.1
    have big : ∀ {n : Nat}, n ≤ 30000 → n < sizeLine := fun h => Nat.lt_of_le_of_lt h (by decide)
    have d0 := d
    refine ⟨Nat.zero_le _, fun N hN => ?_⟩
    have n1 := same_new (o := HO.lst []) hN
    have NF : N ∉ F := fun h => by
      obtain ⟨w, hw⟩ := d.live N h
      rw [hN] at hw; cases hw
    refine ⟨fun σ' H' => ∃ (us : List V) (F' : List Addr) (v3 : Option V), σ' = [some (.ref o), some u, some (.ref N), v3] ∧ H' N = some (.lst us) ∧ DVs K H' (tkR b ls s E t).2 us ∧ DkE K A_ListDesk H' o v s (tkR b ls s E t).1 B F' (m + 20) ∧ Gr K F H F' H', ?_, ?_⟩
    rotate_left
    · rintro σ' H' ⟨us, F', v3, rfl, hN', dv, dk, gr⟩
      refine ⟨_, rfl, N, us, rfl, .inl ⟨SqL.of hN', fun T hT => ?_⟩⟩
      have n2 := same_new (o := HO.tup us) hT
      exact q _ _ _ ⟨T, us, rfl, SqT.of upd_same, dv.tk (TK.same n2)⟩ (dk.same n2) (gr.trans (Gr.same n2))
    have du1 := du.tt (TT.same n1)
    have hb1 := hb.tk (TK.same n1)
    have d1 := d.same n1
    obtain ⟨X1, X2, l1, l2, dd, eF⟩ := d1
    obtain ⟨dx, ob⟩ := dd.ob
    obtain ⟨a, i, b', k', us, ks, rfl, hA, ul, e1, hi, e4, hb', e7, hk, k0⟩ := du1.at
    refine ⟨_, rfl, a, us, 7, .ref k', rfl, rfl, hA, e7, k', ks, 0, _, rfl, rfl, hk, k0, rfl, _, rfl, ?_⟩
    by_cases cs : t.w = Str.ofString "strike"
    · have e0 : tkR b ls s E t = (E, []) := by unfold tkR; rw [if_pos cs]
      refine iN (by rw [cs]; rfl) ⟨[], F, _, rfl, upd_same, by rw [e0]; exact dln, by rw [e0]; exact (d.same n1).mono (by omega), Gr.same n1⟩
    have e0 : tkR b ls s E t = (gatesL b ls s t.bs).foldl (tkS b ls t) (E, []) := by unfold tkR; rw [if_neg cs]
    rw [e0]
    have gl := gate_len nl (s := s) (bs := t.bs)
    refine iG (by rw [decide_eq_false (fun z => cs (V.str.inj z))]; rfl) ?_
    refine ⟨_, rfl, o, A_ListDesk, dx, _, _, rfl, ob, O.c_ListDesk, O.n_ListDesk_book, rfl, _, rfl, o, A_ListDesk, dx, _, _, rfl, ob, O.c_ListDesk, O.n_ListDesk_site, rfl, _, rfl, a, us, 4, .ref b', rfl, rfl, hA, e4, b, ls, v, s, b', t.bs, rfl, hb1, nl, sn, hb', by have := ok.bs.1; omega, fun x H2 m2 dg => ?_⟩
    obtain ⟨T, ys, rfl, hT, dy⟩ := dg
    obtain rfl := dvs_txt dy
    have m02 := n1.trans m2
    refine ⟨T, rfl, ⟨_, hT⟩, ?_⟩
    refine for_tup (K := K) (a := T) (xs := (gatesL b ls s t.bs).map V.str) (fun i σ' H' => ∃ (us : List V) (F' : List Addr) (v3 : Option V), σ' = [some (.ref o), some (.ref a), some (.ref N), v3] ∧ H' N = some (.lst us) ∧ N ∉ F' ∧ SqT K H' T ((gatesL b ls s t.bs).map V.str) ∧ us.length ≤ 20 * i ∧ DVs K H' (((gatesL b ls s t.bs).take i).foldl (tkS b ls t) (E, [])).2 us ∧ DkE K A_ListDesk H' o v s (((gatesL b ls s t.bs).take i).foldl (tkS b ls t) (E, [])).1 B F' (m + 2 * i) ∧ Gr K F H F' H') ?_ (fun i σ' H' _ h => by obtain ⟨_, _, _, _, _, _, h, _⟩ := h; exact h) ?_ ?_
    · exact ⟨[], F, _, rfl, m2 _ _ upd_same, NF, hT, Nat.le_refl _, dln, d0.same m02, Gr.same m02⟩
    · rintro i x σ' H3 hi3 ⟨us3, F3, v3, rfl, hN3, NF3, hT3, ul3, dv3, dk3, g3⟩
      obtain ⟨g, hg, rfl⟩ := map_get hi3
      have il := (List.getElem?_eq_some_iff.mp hg).1
      obtain ⟨e, em, rfl⟩ := gate_home (List.mem_of_getElem? hg)
      rw [tk_step hg]
      generalize ((gatesL b ls s t.bs).take i).foldl (tkS b ls t) (E, []) = S3 at dv3 dk3 ⊢
      have dk3' := dk3
      obtain ⟨Y1, Y2, j1, j2, dd3, eF3⟩ := dk3'
      obtain ⟨dx3, ob3⟩ := dd3.ob
      refine ⟨_, rfl, .inl ⟨rfl, _, SqL.of hN3⟩, _, rfl, o, dx3, _, rfl, ob3, rfl, _, rfl, _, rfl, o, b, ls, v, s, S3.1, B, F3, m + 2 * i, t, .ref a, e, rfl, dk3, hb.tk g3.tt.1, nl, em, du.tt g3.tt, by omega, fun p zs F4 H4 np hp pF4 dv4 dk4 g4 => ?_⟩
      obtain ⟨hN4, NF4⟩ := g4.one NF3 hN3
      have zl := dv4.len
      have zl2 := out_len nl (E := S3.1) (t := t) em
      have NpF : N ≠ p := ne_of_none hN3 np
      refine ⟨N, p, us3, zs, rfl, rfl, hN4, hp, Nat.le_of_lt (big (by omega)), ?_⟩
      have T5 := TT.put (K := K) (o := HO.lst (us3 ++ zs)) hN4
      refine ⟨us3 ++ zs, F4, _, rfl, upd_same, NF4, T5.1 _ _ (g4.tt.1 _ _ hT3), by rw [List.length_append]; omega, ?_, ?_, ?_⟩
      · exact dvs_app ((dv3.tk g4.tt.1).tk T5.1) (dv4.tk T5.1)
      · exact (dk4.keep T5 fun q hq w hw => by rw [upd_ne (fun z => NF4 (by rw [← z]; exact hq))]; exact hw).mono (by omega)
      · have gg := g3.trans g4
        exact ⟨fun c w nc hc => by rw [upd_ne (ne_of_none hc hN)]; exact gg.ex c w nc hc, gg.tt.trans T5, gg.fr, gg.up⟩
    rintro σ' H3 ⟨us3, F3, v3, rfl, hN3, NF3, hT3, ul3, dv3, dk3, g3⟩
    rw [List.length_map] at dv3 dk3
    rw [List.take_length] at dv3 dk3
    exact ⟨us3, F3, _, rfl, hN3, dv3, dk3.mono (by omega), g3⟩
end

end Z
namespace Z
open PySem L2 SX
theorem putK_keys {κ : Type} [DecidableEq κ] {kvs : List (κ × V)} {k : κ} {v : V} (h : (valV kvs k).isSome = true) : (putK kvs k v).map (·.1) = kvs.map (·.1) := by
  unfold putK
  rw [valV_any, if_pos h, List.map_map]
  refine List.map_congr_left fun kv _ => ?_
  show (if kv.1 = k then (kv.1, v) else kv).1 = kv.1
  split <;> rfl
/-- an id is put into the second store of a desk -/
theorem box_put {K : PySem.W.Frag} {C : Addr} {H : Hp} {o : Addr} {v : V} {s : Str} {X1 X2 : Addr} {E B : List (Str × Idn)} {l1 l2 : List (Str × Addr)} {m : Nat} {a : Str} {c i : Addr} {x : Idn} (d : Dk K C H o v s X1 X2 E B l1 l2 m) (hc : (a, c) ∈ l2) (hi : H i = some (.tup ((ik x).map kV))) (m4 : m ≤ 10000) :
    ∃ H', DPut H c (.ref i) (.bl true) H' ∧ Dk K C H' o v s X1 X2 E (exE B a x) l1 l2 (m + 1) ∧ Gr K (dkF o X1 X2 l1 l2) H (dkF o X1 X2 l1 l2) H' := by
  obtain ⟨es, hE, ke, en⟩ := d.bx.ch _ hc
  have ke : es.map (·.1) = (sel B a).map ik := ke
  have en : (sel B a).Nodup := en
  have hvm := val_mem ke x
  have esl : es.length ≤ m := by
    have h1 : _ = ((sel B a).map ik).length := congrArg List.length ke
    rw [List.length_map, List.length_map] at h1
    have h2 := sel_len (P := B) (a := a)
    have := d.bx.bm.2
    omega
  refine ⟨_, DPut.t (k := ik x) hE hi (Nat.lt_of_le_of_lt (show es.length ≤ 30000 by omega) (by decide)), ?_⟩
  by_cases cm : (a, x) ∈ B
  · have e1 : exE B a x = B := by unfold exE; rw [if_pos cm]
    have sm : (valV es (ik x)).isSome = true := by rw [hvm]; exact memB_iff.mpr (sel_mem.mpr cm)
    have T : TT K H (upd H c (.dT (putK es (ik x) (.bl true)))) := TT.over hE (fun _ e => by cases e) (fun _ _ e => by cases e)
    have cX : X2 ≠ c := fun z => (List.nodup_cons.mp d.bx.nd).1 (by rw [z]; exact List.mem_map_of_mem (f := (·.2)) hc)
    have D : DD C1 (upd H c (.dT (putK es (ik x) (.bl true)))) X2 B l2 m := by
      refine ⟨by rw [upd_ne cX]; exact d.bx.x, d.bx.kd, d.bx.nd, fun e he => ?_, d.bx.no, d.bx.bm⟩
      by_cases z : e.2 = c
      · obtain ⟨es', hE', ke', en'⟩ := d.bx.ch e he
        rw [z, hE] at hE'
        cases hE'
        exact ⟨_, by rw [z]; exact upd_same, by rw [putK_keys sm]; exact ke', en'⟩
      · exact (c1_stays (K := K)).1 _ _ _ _ (d.bx.ch e he) (fun u hu => by rw [upd_ne z]; exact hu) T
    rw [e1]
    have g : Gr K (foot X2 l2) H (foot X2 l2) (upd H c (.dT (putK es (ik x) (.bl true)))) := ⟨fun b u nb hb => by rw [upd_ne (fun z => nb (by rw [z]; unfold foot; exact List.mem_cons_of_mem _ (List.mem_map_of_mem (f := (·.2)) hc)))]; exact hb, T, fun p hp => .inl hp, fun _ h => h⟩
    exact d.two (D.mono (Nat.le_succ m)) g (Nat.le_succ m)
  · have e1 : exE B a x = B ++ [(a, x)] := by unfold exE; rw [if_neg cm]
    have nv : valV es (ik x) = none := by
      cases hx : valV es (ik x) with
      | none => rfl
      | some w =>
        rw [hx] at hvm
        exact absurd (sel_mem.mp (memB_iff.mp hvm.symm)) cm
    rw [e1]
    obtain ⟨D3, G3⟩ := d.bx.push (K := K) (e := (a, c)) (x := x) (o := HO.dT (putK es (ik x) (V.bl true))) c1_stays hc ⟨_, upd_same, by rw [putK_new _ nv, List.map_append, ke, List.map_append]; rfl, by
      rw [List.nodup_append]
      refine ⟨en, by simp, fun z hz y hy e => cm ?_⟩
      rw [List.mem_singleton.mp hy] at e
      rw [e] at hz
      exact sel_mem.mp hz⟩
    exact d.two D3 G3 (Nat.le_succ m)
theorem home_iff {b : Bk} {ls : List Li} (nl : NetL b ls) {a : Str × Str} (la : Low (tl a.1)) : at2 a ∈ homes ls ↔ a ∈ ls.map (·.h) := by
  unfold homes
  rw [List.mem_map, List.mem_map]
  exact ⟨fun ⟨e, he, q⟩ => ⟨e, he, at2_inj (nl.ho e he).p la q⟩, fun ⟨e, he, q⟩ => ⟨e, he, by rw [q]⟩⟩
section
variable {P : Program} {w : World} {K : PySem.W.Frag} {mg : Str → Option Value} {base : Heap}
theorem ok_ListDesk__hear {A_ListDesk : Addr} (D : DfM K A_ListDesk "hear" "ListDesk.hear" s_ListDesk__hear ["self", "letter"]) (T : Tx mg) (O : To K mg A_ListDesk)  (C_ListDesk__expand : CalM P w K mg base A_ListDesk "expand" ["self", "address", "notice"] 4 (sp58_expand K A_ListDesk)) (C_list_of : Cal P w K mg base "list_of" ["book", "address"] 1 (sp57_list_of K)) : CalM P w K mg base A_ListDesk "hear" ["self", "letter"] 5 (sp58_hear K A_ListDesk) := by
  obtain ⟨f_ListDesk__expand, fd_ListDesk__expand, G_ListDesk__expand, h_ListDesk__expand, b_ListDesk__expand⟩ := C_ListDesk__expand
  obtain ⟨f_list_of, fd_list_of, G_list_of, g_list_of, k_list_of, b_list_of⟩ := C_list_of
  obtain ⟨f, fd, F, gf, bf⟩ := D
  refine ⟨f, fd, F.ok sc_ListDesk__hear (fun vs H Q E h => ?_) (fun cdv A outer s₀ H vs Q E hr h => ?_), gf, bf⟩
  · obtain ⟨o, b, ls, v, s, E, B, F, m, t, u, w, h, a, rfl, _⟩ := h; rfl
  · obtain ⟨o, b, ls, v, s, E, B, F, m, t, u, w, h, a, rfl, d, hb, nl, du, hw, ao, m4, q⟩ := h
    refine ⟨_, (pss_cons (ps_asg (pe_slice (sl_tupS (K := K) rfl) (pv 1) (po_some pe_int) po_none) (pg_tup rfl (pgs_cons (pg_name (i := 2) sc_ListDesk__hear.nd rfl (Or.inl rfl)) (pgs_cons (pg_name (i := 3) sc_ListDesk__hear.nd rfl (Or.inl rfl)) pgs_nil))))
      (pss_cons (ps_if (pt_cmpR op_notN (pe_call G_list_of (hr.mono (by decide)) (by rfl) g_list_of k_list_of b_list_of .nil pass0 (pa_cons (pe_fld (pv 0) rfl) (pa_cons (pv 2) pa_nil))) pe_non (nomark _))
      (pss_one (ps_ret (pe_callTy call_tuple_of (by rfl) T.n_tuple (by decide +kernel) (pa_cons (pe_meth (pv 0) O.c_ListDesk h_ListDesk__expand G_ListDesk__expand (hr.mono (by decide)) b_ListDesk__expand .nil pass0 (pa_cons (pv 2) (pa_cons (pe_ix ix_tup (pv 3) pe_int (fun _ _ => rfl)) pa_nil))) pa_nil))))
      pss_nil)
      (pss_cons (ps_dput (hu_of hr) (pe_dsetd (pe_fld (pv 0) rfl) (pv 2) pe_dnewT ⟨rfl, rfl, rfl, rfl⟩) (pe_ix ix_tup (pe_ix ix_tup (pv 3) pe_int (fun _ _ => rfl)) pe_int (fun _ _ => rfl)) pe_bl rfl)
      (pss_one (ps_ret (pe_tup pa_nil)))))), ?_⟩
    obtain ⟨_, L, p, key, rfl, hL, hp⟩ := hw
    have big : ∀ {n : Nat}, n ≤ 30000 → n < sizeLine := fun h => Nat.lt_of_le_of_lt h (by decide)
    refine ⟨_, rfl, 2, rfl, L, _, rfl, hL, fun A H1 m1 hA => ?_⟩
    rw [cutV_from (by decide)] at hA
    refine ⟨A, _, rfl, hA, rfl, _, _, rfl, _, _, rfl, rfl, ?_⟩
    have d1 := d.same m1
    have hp1 := m1.tup hp
    have du1 := du.tt (TT.same m1)
    have hb1 := hb.tk (TK.same m1)
    have hh := home_iff nl ao.p
    have d1' := d1
    obtain ⟨X1, X2, l1, l2, dd, eF⟩ := d1'
    obtain ⟨dx, ob⟩ := dd.ob
    refine ⟨_, rfl, o, A_ListDesk, dx, _, _, rfl, ob, O.c_ListDesk, O.n_ListDesk_book, rfl, _, rfl, b, ls, v, a, rfl, hb1, nl, ao.p, fun z hz => ?_⟩
    cases hl : liOf ls a with
    | some e =>
      obtain ⟨em, rfl⟩ := liOf_some hl
      have hm : at2 e.h ∈ homes ls := hh.mpr (List.mem_map_of_mem (f := (·.h)) em)
      unfold heO heE heB at q
      rw [if_pos hm, if_pos hm, if_pos hm] at q
      rw [hl] at hz
      obtain ⟨za, zs, rfl, _⟩ := hz
      refine ⟨rfl, _, rfl, iG (by rw [decide_eq_false (by simp)]; rfl) ?_⟩
      refine ⟨_, rfl, o, dx, _, rfl, ob, rfl, _, rfl, _, rfl, p, _, 1, u, rfl, rfl, hp1, atI_nat (j := 1) rfl, o, b, ls, v, s, E, B, F, m, t, u, e, rfl, d1, hb1, nl, em, du1, by omega, fun g us F' H2 ng hg gF dv dk gr => ?_⟩
      refine ⟨g, us, rfl, .inl ⟨SqL.of hg, fun T hT => ?_⟩⟩
      have n3 := same_new (o := HO.tup us) hT
      exact q _ _ _ ⟨T, us, rfl, SqT.of upd_same, dv.tk (TK.same n3)⟩ ((dk.mono (by omega)).same n3) (((Gr.same m1).trans gr).trans (Gr.same n3))
    | none =>
      have hm : at2 a ∉ homes ls := fun k => liOf_none.mp hl (hh.mp k)
      unfold heO heE heB at q
      rw [if_neg hm, if_neg hm, if_neg hm] at q
      rw [hl] at hz
      obtain rfl := DV_non hz
      refine ⟨rfl, _, rfl, iN (by rw [decide_eq_true rfl]; rfl) ?_⟩
      obtain ⟨ua, ui, b', k', us, ks, rfl, hA2, ul, e1, hi, _⟩ := du1.at
      refine ⟨_, rfl, o, A_ListDesk, dx, _, _, rfl, ob, O.c_ListDesk, O.n_ListDesk_boxes, rfl, X2, rfl, .inl ⟨_, .inl dd.bx.x⟩, _, rfl, fun N hN => ?_⟩
      have n2 := same_new (o := HO.dT []) hN
      have bl := dd.bx.bm.1
      refine ⟨_, Sum.inr (at2 a), n2 _ _ dd.bx.x, rfl, by rw [List.length_map]; exact big (by omega), fun w hw => ?_, fun hw => ?_⟩
      · obtain ⟨f, hf, ef, rfl⟩ := bk_of dd.bx.kd hw
        have d3 : Dk K A_ListDesk _ o v s X1 X2 E B l1 l2 m := dd.keep (TT.same n2) fun x _ u hu => n2 _ _ hu
        obtain ⟨H4, pt, d4, g4⟩ := box_put (a := at2 a) (c := f.2) (i := ui) (x := nid t) d3 (by rw [← ef]; exact hf) (n2 _ _ hi) (by omega)
        refine ⟨_, rfl, p, _, 1, _, rfl, rfl, n2.tup hp1, atI_nat (j := 1) rfl, ua, us, 1, .ref ui, rfl, rfl, n2.tup hA2, e1, f.2, H4, rfl, pt, ?_⟩
        refine ⟨Nat.zero_le _, fun T hT => ?_⟩
        have n5 := same_new (o := HO.tup []) hT
        have g5 := ((Gr.same (K := K) (F := F) (m1.trans n2)).trans (eF ▸ g4)).trans (Gr.same n5)
        exact q _ F _ ⟨T, [], rfl, SqT.of upd_same, dln⟩ ((DkE.same ⟨X1, X2, l1, l2, d4, eF⟩ n5).mono (by omega)) g5
      · have na := bk_no dd.bx.kd hw
        obtain ⟨D1, G1⟩ := dd.bx.new (K := K) (o := HO.dT []) c1_stays na hN fun H2 h2 => ⟨[], h2, rfl, List.nodup_nil⟩
        obtain ⟨d3, g3⟩ := dd.two D1 G1 (Nat.le_succ m)
        have hi3 := g3.tt.2 _ _ hi
        have hp3 := g3.tt.1 _ _ hp1
        have hA3 := g3.tt.1 _ _ hA2
        obtain ⟨H4, pt, d4, g4⟩ := box_put (a := at2 a) (c := N) (i := ui) (x := nid t) d3 (by simp) hi3 (by omega)
        refine ⟨_, rfl, p, _, 1, _, rfl, rfl, hp3, atI_nat (j := 1) rfl, ua, us, 1, .ref ui, rfl, rfl, hA3, e1, N, H4, rfl, pt, ?_⟩
        refine ⟨Nat.zero_le _, fun T hT => ?_⟩
        have n5 := same_new (o := HO.tup []) hT
        have g5 := ((Gr.same (K := K) (F := F) m1).trans (eF ▸ (g3.trans g4))).trans (Gr.same n5)
        exact q _ _ _ ⟨T, [], rfl, SqT.of upd_same, dln⟩ ((DkE.same ⟨X1, X2, l1, _, d4, rfl⟩ n5).mono (by omega)) g5
end

end Z
namespace Z
open PySem L2 SX
theorem PrAt.tk {K : PySem.W.Frag} {b : Bk} {ls : List Li} {H H' : Hp} {w : V} (T : TK K H H') (h : PrAt K b ls H w) : PrAt K b ls H' w := by
  obtain ⟨c, e, y, k1, k2, k3⟩ := h
  exact ⟨c, e, y, k1, T _ _ k2, k3⟩
theorem PrAt.same {K : PySem.W.Frag} {b : Bk} {ls : List Li} {H H' : Hp} {w : V} (m : Same H H') (h : PrAt K b ls H w) : PrAt K b ls H' w := h.tk (TK.same m)
section
variable {P : Program} {w : World} {K : PySem.W.Frag} {mg : Str → Option Value} {base : Heap}
theorem ok__law_ways_here (D : Df K mg "_law_ways_here" s__law_ways_here ["book", "spreads", "name"]) (T : Tx mg)   : Cal P w K mg base "_law_ways_here" ["book", "spreads", "name"] 1 (sp58_ways K) := by
  obtain ⟨f, fd, F, gf, bf⟩ := D
  refine ⟨f, fd, F.ok sc__law_ways_here (fun vs H Q E h => ?_) (fun cdv A outer s₀ H vs Q E hr h => ?_), gf, F.kp, bf⟩
  · obtain ⟨b, ls, v, sp, s, G, rfl, _⟩ := h; rfl
  · obtain ⟨b, ls, v, sp, s, G, rfl, hb, nl, spx, sn, q⟩ := h
    refine ⟨_, (pss_cons (ps_set (i := 3) sc__law_ways_here.nd rfl (Or.inl rfl) (pe_lst pa_nil))
      (pss_cons (ps_for PassesOwn.never rfl (pi_tup (pe_ix ix_tup (pv 0) pe_int (fun _ _ => rfl))) (pg_name (i := 4) sc__law_ways_here.nd rfl (Or.inl rfl))
      (pss_one (ps_if (pt_cmp (pc_din (hu_of hr) (pe_ix ix_list (pe_split (pe_ix ix_tup (pv 4) pe_int (fun _ _ => rfl)) pe_str) pe_int (fun _ _ => rfl)) (pe_dget (hu_of hr) (pv 1) (pv 2) (fun _ _ => rfl))))
        (pss_one (ps_for PassesOwn.never rfl (pi_tup (pe_ix ix_tup (pv 4) pe_int (fun _ _ => rfl))) (pg_name (i := 5) sc__law_ways_here.nd rfl (Or.inl rfl))
          (pss_one (ps_if (pt_cmpR op_eq (pe_ix ix_list (pe_split (pv 5) pe_str) pe_int (fun _ _ => rfl)) (pv 2) (nomark _))
            (pss_one (ps_expr (pe_bm PySem.F.plainAttrs_list PySem.F.slot_list_append PySem.F.type_list_append mt_append (pv 3) (pa_cons (pe_tup (pa_cons (pe_ix ix_tup (pv 4) pe_int (fun _ _ => rfl)) (pa_cons (pv 5) pa_nil))) pa_nil))))
            pss_nil))))
        pss_nil)))
      (pss_one (ps_ret (pv 3))))), ?_⟩
    have big : ∀ {n : Nat}, n ≤ 30000 → n < sizeLine := fun h => Nat.lt_of_le_of_lt h (by decide)
    have lln := nl.ln
    obtain ⟨ba, bus, c, ws, rfl, hB, e7, hC, hw⟩ := DV.sub (i := 7) (es := b.li) hb rfl
    rw [nl.li] at hw
    have wl := hw.map_len
    obtain ⟨_, kvs, hp, spr⟩ := spx
    refine ⟨Nat.zero_le _, fun N hN => ?_⟩
    refine ⟨_, rfl, ba, bus, 7, .ref c, rfl, rfl, (same_new (o := HO.lst []) hN).tup hB, atI_nat (j := 7) e7, c, rfl, ⟨_, (same_new (o := HO.lst []) hN).tup hC⟩, ?_⟩
    refine for_tup (K := K) (a := c) (xs := ws) (fun i σ H' => ∃ (us : List V) (v4 v5 : Option V), σ = [some (.ref ba), some (.ref sp), some (.str s), some (.ref N), v4, v5] ∧ H' N = some (.lst us) ∧ us.length ≤ 20 * i ∧ (∀ w ∈ us, PrAt K b ls H' w) ∧ Same H H') ⟨[], _, _, rfl, upd_same, Nat.zero_le _, (fun _ h => by cases h), same_new hN⟩ (fun i σ H' _ h => by obtain ⟨_, _, _, _, _, _, _, m⟩ := h; exact m.tup hC) ?_ ?_
    rotate_left
    · rintro σ H' ⟨us, v4, v5, rfl, hN', ul, pr, m⟩
      exact ⟨_, rfl, q N us H' m hN' (by omega) pr⟩
    rintro i x σ H3 hi ⟨us, v4, v5, rfl, hN3, ul, pr, m3⟩
    obtain ⟨e, he, dx⟩ := hw.map_get hi
    have em := List.mem_of_getElem? he
    have il := (List.getElem?_eq_some_iff.mp he).1
    have ho := nl.ho e em
    have ml := nl.ml e em
    obtain ⟨ea, eus, c3, w3, rfl, hE, e1, _, e3, hC3, rfl⟩ := li_at (dx.tk (TK.same m3))
    obtain ⟨da, F, dv, _, hF, dok⟩ := spr s sn
    refine ⟨_, rfl, ea, eus, 1, _, rfl, rfl, hE, atI_nat (j := 1) e1, ⟨_, rfl⟩, at2 e.h, Str.ofString "@", rfl, rfl, rfl, Nat.le_trans (len_at2 ho) (by decide), fun B hB3 => ?_⟩
    rw [spl_at2 ho.p ho.s]
    have n4 := same_new (o := HO.lst ([e.h.1, e.h.2].map V.str)) hB3
    refine ⟨B, _, 1, _, rfl, rfl, SqL.of upd_same, atI_nat (j := 1) rfl, _, rfl, _, rfl, sp, _, rfl, by
      have := DGet.k (k := (Sum.inr s : L2.Key)) (n4 _ _ (m3 _ _ hp))
      rw [dv] at this
      exact this, da, _, rfl, DGet.k (k := Sum.inr e.h.2) (n4 _ _ (m3 _ _ hF)), _, rfl, ?_⟩
    have m4 := m3.trans n4
    have hN4 := n4 _ _ hN3
    have pr4 : ∀ w ∈ us, PrAt K b ls _ w := fun w hw => PrAt.same n4 (pr w hw)
    have hE4 := n4.tup hE
    have hC4 := n4.tup hC3
    generalize upd H3 B (HO.lst ([e.h.1, e.h.2].map V.str)) = H4 at m4 hN4 pr4 hE4 hC4 ⊢
    refine ite2 (fun _ => ?_) fun _ => ⟨us, _, _, rfl, hN4, by omega, pr4, m4⟩
    refine ⟨_, rfl, ea, eus, 3, .ref c3, rfl, rfl, hE4, atI_nat (j := 3) e3, c3, rfl, ⟨_, hC4⟩, ?_⟩
    refine for_tup (K := K) (a := c3) (xs := e.m.map fun a => V.str (at2 a)) (fun j σ H' => ∃ (us' : List V) (v5 : Option V), σ = [some (.ref ba), some (.ref sp), some (.str s), some (.ref N), some (.ref ea), v5] ∧ H' N = some (.lst us') ∧ us'.length ≤ 20 * i + j ∧ (∀ w ∈ us', PrAt K b ls H' w) ∧ Same H H' ∧ SqT K H' c3 (e.m.map fun a => V.str (at2 a)) ∧ SqT K H' ea eus) ⟨us, _, rfl, hN4, by omega, pr4, m4, hC4, hE4⟩ (fun j σ H' _ h => by obtain ⟨_, _, _, _, _, _, _, h, _⟩ := h; exact h) ?_ ?_
    rotate_left
    · rintro σ H' ⟨us', v5, rfl, hN', ul', pr', m', _⟩
      rw [List.length_map] at ul'
      exact ⟨us', _, _, rfl, hN', by omega, pr', m'⟩
    rintro j y σ H5 hj ⟨us5, v5, rfl, hN5, ul5, pr5, m5, hC5, hE5⟩
    obtain ⟨z, hz, rfl⟩ := map_get hj
    have zm := List.mem_of_getElem? hz
    have zo := nl.me e em z zm
    have jl := (List.getElem?_eq_some_iff.mp hz).1
    refine ⟨_, rfl, ⟨_, rfl⟩, at2 z, Str.ofString "@", rfl, rfl, rfl, Nat.le_trans (len_at2 zo) (by decide), fun B hB5 => ?_⟩
    rw [spl_at2 zo.p zo.s]
    have n6 := same_new (o := HO.lst ([z.1, z.2].map V.str)) hB5
    refine ⟨B, _, 1, _, rfl, rfl, SqL.of upd_same, atI_nat (j := 1) rfl, _, rfl, rfl, _, rfl, ?_⟩
    have m6 := m5.trans n6
    have hN6 := n6 _ _ hN5
    have pr6 : ∀ w ∈ us5, PrAt K b ls _ w := fun w hw => PrAt.same n6 (pr5 w hw)
    have hE6 := n6.tup hE5
    have hC6 := n6.tup hC5
    generalize upd H5 B (HO.lst ([z.1, z.2].map V.str)) = H6 at m6 hN6 pr6 hE6 hC6 ⊢
    refine ite2 (fun _ => ?_) fun _ => ⟨us5, _, rfl, hN6, by omega, pr6, m6, hC6, hE6⟩
    refine ⟨_, rfl, .inl ⟨rfl, _, SqL.of hN6⟩, _, rfl, ea, eus, 1, _, rfl, rfl, hE6, atI_nat (j := 1) e1, _, rfl, by show 2 ≤ sizeLine; decide, fun T hT => ?_⟩
    have n7 := same_new (o := HO.tup [V.str (at2 e.h), V.str (at2 z)]) hT
    have hN7 := n7 _ _ hN6
    refine ⟨N, _, _, rfl, rfl, hN7, big (by omega), ?_⟩
    have T8 := TT.put (K := K) (o := HO.lst (us5 ++ [V.ref T])) hN7
    refine ⟨us5 ++ [V.ref T], _, rfl, upd_same, by rw [List.length_append]; show _ + 1 ≤ _; omega, fun w hw => ?_, sput (m6.trans n7) hN, T8.1 _ _ (n7.tup hC6), T8.1 _ _ (n7.tup hE6)⟩
    rcases List.mem_append.mp hw with k | k
    · obtain ⟨c', e', y', k1, k2, k3⟩ := PrAt.same n7 (pr6 w k)
      exact ⟨c', e', y', k1, T8.1 _ _ k2, k3⟩
    · exact ⟨T, e, z, List.mem_singleton.mp k, T8.1 _ _ (SqT.of upd_same), em, zo⟩
end

end Z
namespace Z
open PySem L2 SX
theorem id_dv8 {K : PySem.W.Frag} {H : Hp} {t : Nt} {i : Addr} (h : H i = some (.tup [.str t.n, .int (t.k : Int)])) : DV K H (iD (nid t)) (.ref i) := ⟨i, _, rfl, SqT.of h, dlc (dls _) (dlc (dli _) dln)⟩
theorem ls_take {ls : List Li} (nd : (ls.map (·.h)).Nodup) {i : Nat} {x e : Li} (hx : ls[i]? = some x) (he : e ∈ ls) (k : x.h = e.h) : e ∉ ls.take i ∧ e ∈ ls.take (i + 1) := by
  have ex := li_one nd (List.mem_of_getElem? hx) he k
  subst ex
  have tk : ls.take (i + 1) = ls.take i ++ [x] := by rw [List.take_add_one, hx]; rfl
  refine ⟨fun m => ?_, by rw [tk]; simp⟩
  have n2 : ((ls.take (i + 1)).map (·.h)).Nodup := ((List.take_sublist _ _).map _).nodup nd
  rw [tk, List.map_append, List.nodup_append] at n2
  exact n2.2.2 x.h (List.mem_map_of_mem (f := (·.h)) m) x.h (by simp) rfl
theorem ls_take2 {ls : List Li} {i : Nat} {x e : Li} (hx : ls[i]? = some x) (k : x.h ≠ e.h) : e ∈ ls.take (i + 1) ↔ e ∈ ls.take i := by
  rw [List.take_add_one, hx]
  show e ∈ ls.take i ++ [x] ↔ _
  rw [List.mem_append, List.mem_singleton]
  exact ⟨fun h => h.elim id fun z => absurd (by rw [z]) k, .inl⟩
section
variable {P : Program} {w : World} {K : PySem.W.Frag} {mg : Str → Option Value} {base : Heap}
theorem ok__law_expanded (D : Df K mg "_law_expanded" s__law_expanded ["book", "spreads", "model", "home", "notice"]) (T : Tx mg)  (C__law_copy : Cal P w K mg base "_law_copy" ["notice", "home", "member"] 1 (sp58_copy K)) : Cal P w K mg base "_law_expanded" ["book", "spreads", "model", "home", "notice"] 2 (sp58_lexp K) := by
  obtain ⟨f__law_copy, fd__law_copy, G__law_copy, g__law_copy, k__law_copy, b__law_copy⟩ := C__law_copy
  obtain ⟨f, fd, F, gf, bf⟩ := D
  refine ⟨f, fd, F.ok sc__law_expanded (fun vs H Q E h => ?_) (fun cdv A outer s₀ H vs Q E hr h => ?_), gf, F.kp, bf⟩
  · obtain ⟨b, ls, v, sp, p, E, B, F, G, m, t, u, e, rfl, _⟩ := h; rfl
  · obtain ⟨b, ls, v, sp, p, E, B, F, G, m, t, u, e, rfl, hb, nl, spx, gF, d, em, du, m4, q⟩ := h
    refine ⟨_, (pss_cons (ps_if (pt_cmpR (op_inDDQ (K := K) rfl (room65 hr)) (pe_tup (pa_cons (pv 3) (pa_cons (pe_ix ix_tup (pv 4) pe_int (fun _ _ => rfl)) pa_nil))) (pe_ix ix_list (pv 2) pe_int (fun _ _ => rfl)) (by rfl))
      (pss_one (ps_ret (pe_tup pa_nil)))
      pss_nil)
      (pss_cons (ps_expr (pe_bm PySem.F.plainAttrs_list PySem.F.slot_list_append PySem.F.type_list_append mt_append (pe_ix ix_list (pv 2) pe_int (fun _ _ => rfl)) (pa_cons (pe_tup (pa_cons (pv 3) (pa_cons (pe_ix ix_tup (pv 4) pe_int (fun _ _ => rfl)) pa_nil))) pa_nil)))
      (pss_cons (ps_set (i := 5) sc__law_expanded.nd rfl (Or.inr rfl) (pe_dget (hu_of hr) (pv 1) (pe_ix ix_list (pe_split (pv 3) pe_str) pe_int (fun _ _ => rfl)) (fun _ _ => rfl)))
      (pss_cons (ps_set (i := 6) sc__law_expanded.nd rfl (Or.inl rfl) (pe_lst pa_nil))
      (pss_cons (ps_for PassesOwn.never rfl (pi_tup (pe_ix ix_tup (pv 0) pe_int (fun _ _ => rfl))) (pg_name (i := 7) sc__law_expanded.nd rfl (Or.inl rfl))
      (pss_one (ps_if (pt_cmpR op_eq (pe_ix ix_tup (pv 7) pe_int (fun _ _ => rfl)) (pv 3) (nomark _))
        (pss_one (ps_setLc (i := 6) (own := [("member", 8)]) (g := gName 8) rfl sc__law_expanded.nd rfl rfl (sw_true rfl rfl rfl (by decide +kernel)) (pi_tup (pe_ix ix_tup (pv 7) pe_int (fun _ _ => rfl))) (blkOk_by (own := [("member", 8)]) (N := N__law_expanded) (sc := defScope s__law_expanded) (by decide +kernel)) (fun _ _ _ _ _ => pg_name (i := 8) sc__law_expanded.nd rfl (Or.inl rfl)) (fun _ _ _ _ _ => pts_one (pt_cmp (pc_din (hu_of hr) (pe_ix (ix_listQ (K := K) rfl) (pe_split (pv 8) pe_str) pe_int (fun _ _ => rfl)) (pv 5)))) (fun _ _ _ _ _ => (pe_call G__law_copy (hr.mono (by decide)) (by rfl) g__law_copy k__law_copy b__law_copy .nil pass0 (pa_cons (pv 4) (pa_cons (pv 3) (pa_cons (pv 8) pa_nil)))))))
        pss_nil)))
      (pss_one (ps_ret (pe_callTy call_tuple_of (by rfl) T.n_tuple (by decide +kernel) (pa_cons (pv 6) pa_nil))))))))), ?_⟩
    have big : ∀ {n : Nat}, n ≤ 30000 → n < sizeLine := fun h => Nat.lt_of_le_of_lt h (by decide)
    have ho := nl.ho e em
    have lln := nl.ln
    have nl20 := near_len nl em
    obtain ⟨L, D, bl, d, rfl⟩ := d
    obtain ⟨us0, hu, hd⟩ := d.ex
    have iok := du.2.1
    obtain ⟨a, i, b', k', us, ks, rfl, hA, ul, e1, hi, _⟩ := du.at
    have eok : okI (nid t) ∧ Sm8 (at2 e.h) := ⟨iok, sm_at2 ho⟩
    refine ⟨_, rfl, _, rfl, a, us, 1, .ref i, rfl, rfl, hA, e1, by show 2 ≤ sizeLine; decide, fun T hT => ?_⟩
    have n1 := same_new (o := HO.tup [V.str (at2 e.h), V.ref i]) hT
    refine ⟨_, rfl, p, _, 0, _, rfl, rfl, SqL.of (n1 _ _ d.ob), atI_nat (j := 0) rfl, exD (at2 e.h, nid t), L, us0, E.map exD, ⟨T, _, rfl, SqT.of upd_same, dlc (dls _) (dlc (id_dv8 (n1 _ _ hi)) dln)⟩, rfl, SqL.of (n1 _ _ hu), hd.tk (TK.same n1), ex_okd eok.1 eok.2, ex_okl d.em.2, _, rfl, ?_⟩
    rw [if_neg Bool.false_ne_true, ex_any]
    have d1 : Md K (upd H T (.tup [V.str (at2 e.h), V.ref i])) p L D E B bl m := d.keep (TT.same n1) fun q _ w hw => n1 _ _ hw
    by_cases cm : (at2 e.h, nid t) ∈ E
    · have ee : exE E (at2 e.h) (nid t) = E := by unfold exE; rw [if_pos cm]
      have eo : outX b ls E (at2 e.h) t = [] := by unfold outX; rw [if_pos cm]
      rw [ee, eo] at q
      refine iG (decide_eq_true cm) ⟨Nat.zero_le _, fun T2 hT2 => ?_⟩
      have n2 := same_new (o := HO.tup []) hT2
      exact q _ _ _ ⟨T2, [], rfl, SqT.of upd_same, dln⟩ ((MdE.same ⟨L, D, bl, d1, rfl⟩ n2).mono (by omega)) (Gr.same (n1.trans n2))
    have ee : exE E (at2 e.h) (nid t) = E ++ [(at2 e.h, nid t)] := by unfold exE; rw [if_neg cm]
    have eo : outX b ls E (at2 e.h) t = (nearM b e).map fun m => copyD t (at2 e.h) (at2 m) := by unfold outX; rw [if_neg cm, nearA_at nl em]
    rw [ee, eo] at q
    refine iN (decide_eq_false cm) ?_
    refine ⟨_, rfl, p, _, 0, _, rfl, rfl, SqL.of (n1 _ _ d.ob), atI_nat (j := 0) rfl, .inl ⟨rfl, _, SqL.of (n1 _ _ hu)⟩, _, rfl, _, rfl, a, us, 1, .ref i, rfl, rfl, n1.tup hA, e1, by show 2 ≤ sizeLine; decide, fun T2 hT2 => ?_⟩
    have n2 := same_new (o := HO.tup [V.str (at2 e.h), V.ref i]) hT2
    have d2 := d1.keep (TT.same n2) fun q _ w hw => n2 _ _ hw
    have m2 := n1.trans n2
    have hdl := hd.len
    rw [List.length_map] at hdl
    have := d.em.1
    refine ⟨L, us0, _, rfl, rfl, m2 _ _ hu, big (by omega), ?_⟩
    obtain ⟨d3, g3⟩ := d2.one (us := us0) (w := V.ref T2) (a := at2 e.h) (x := nid t) (m2 _ _ hu) (hd.tk (TK.same m2)) ⟨T2, _, rfl, SqT.of upd_same, dlc (dls _) (dlc (id_dv8 (m2 _ _ hi)) dln)⟩ eok
    have g3 := (Gr.same (K := K) (F := mdF p L D bl) m2).trans g3
    generalize upd (upd (upd H T (.tup [V.str (at2 e.h), V.ref i])) T2 (HO.tup [V.str (at2 e.h), V.ref i])) L (.lst (us0 ++ [V.ref T2])) = H3 at d3 g3 ⊢
    obtain ⟨_, kvs, hp, spr⟩ := spx.keep fun x hx w hw => g3.ex x w (gF x hx) hw
    have hb3 := hb.tk g3.tt.1
    have du3 := du.tt g3.tt
    refine ⟨_, rfl, _, rfl, ⟨_, rfl⟩, at2 e.h, Str.ofString "@", rfl, rfl, rfl, Nat.le_trans (len_at2 ho) (by decide), fun B4 hB4 => ?_⟩
    rw [spl_at2 ho.p ho.s]
    have n4 := same_new (o := HO.lst ([e.h.1, e.h.2].map V.str)) hB4
    obtain ⟨da, Fd, dv, _, hF, dok⟩ := spr e.h.2 ho.i
    refine ⟨B4, _, 1, _, rfl, rfl, SqL.of upd_same, atI_nat (j := 1) rfl, sp, _, rfl, by
      have := DGet.k (k := (Sum.inr e.h.2 : L2.Key)) (n4 _ _ hp)
      rw [dv] at this
      exact this, ?_⟩
    refine ⟨Nat.zero_le _, fun R hR => ?_⟩
    have n5 := same_new (o := HO.lst []) hR
    have m35 := n4.trans n5
    have hR5 : (upd (upd H3 B4 (HO.lst ([e.h.1, e.h.2].map V.str))) R (HO.lst [])) R = some (.lst []) := upd_same
    generalize upd (upd H3 B4 (HO.lst ([e.h.1, e.h.2].map V.str))) R (HO.lst []) = H5 at m35 hR5 ⊢
    have hb5 := hb3.tk (TK.same m35)
    obtain ⟨ba, bus, c, ws, rfl, hB, e7, hC, hw⟩ := DV.sub (i := 7) (es := b.li) hb5 rfl
    rw [nl.li] at hw
    have wl := hw.map_len
    refine ⟨_, rfl, ba, bus, 7, .ref c, rfl, rfl, hB, atI_nat (j := 7) e7, c, rfl, ⟨_, hC⟩, ?_⟩
    refine for_tup (K := K) (a := c) (xs := ws) (fun i σ H' => ∃ (R : Addr) (us : List V) (v7 v8 : Option V), σ = [some (.ref ba), some (.ref sp), some (.ref p), some (.str (at2 e.h)), some (.ref a), some (.ref da), some (.ref R), v7, v8] ∧ H' R = some (.lst us) ∧ (e ∈ ls.take i → DVs K H' ((nearM b e).map fun m => copyD t (at2 e.h) (at2 m)) us) ∧ Same H5 H') ⟨R, [], _, _, rfl, hR5, (fun h => by rw [List.take_zero] at h; cases h), .refl _⟩ (fun i σ H' _ h => by obtain ⟨_, _, _, _, _, _, _, m⟩ := h; exact m.tup hC) ?_ ?_
    rotate_left
    · rintro σ H6 ⟨R, us, v7, v8, rfl, hR6, dv6, m6⟩
      rw [wl, List.take_length] at dv6
      have dv6 := dv6 em
      refine ⟨_, rfl, R, us, rfl, .inl ⟨SqL.of hR6, fun T hT => ?_⟩⟩
      have n7 := same_new (o := HO.tup us) hT
      have mm := (m35.trans m6).trans n7
      exact q _ _ _ ⟨T, us, rfl, SqT.of upd_same, dv6.tk (TK.same n7)⟩ ((MdE.same ⟨L, D, bl, d3, rfl⟩ mm).mono (by omega)) (g3.trans (Gr.same mm))
    rintro i x σ H6 hi6 ⟨R6, us6, v7, v8, rfl, hR6, dv6, m6⟩
    obtain ⟨f, hf, dx⟩ := hw.map_get hi6
    have fm := List.mem_of_getElem? hf
    obtain ⟨ea, eus, c3, w3, rfl, hE, e1', _, e3, hC3, rfl⟩ := li_at (dx.tk (TK.same m6))
    refine ⟨_, rfl, ea, eus, 1, _, rfl, rfl, hE, atI_nat (j := 1) e1', _, rfl, rfl, _, rfl, ?_⟩
    by_cases cf : f.h = e.h
    rotate_left
    · exact iN (decide_eq_false fun z => cf (at2_inj (nl.ho f fm).p ho.p (V.str.inj z))) ⟨R6, us6, _, _, rfl, hR6, fun k => dv6 ((ls_take2 hf cf).mp k), m6⟩
    have fe := li_one nl.nd fm em cf
    subst fe
    refine iG (decide_eq_true rfl) ?_
    refine ⟨_, rfl, ea, eus, 3, .ref c3, rfl, rfl, hE, atI_nat (j := 3) e3, c3, rfl, ⟨_, hC3⟩, fun N hN => ?_⟩
    have ml := nl.ml f em
    refine lc_tup (K := K) (a := c3) (xs := f.m.map fun a => V.str (at2 a)) (fun j H' => ∃ us : List V, H' N = some (.lst us) ∧ us.length ≤ j ∧ DVs K H' (((f.m.take j).filter fun a => cB (Rr b.ln f.h.2 a.2)).map fun m => copyD t (at2 f.h) (at2 m)) us ∧ Same H6 H') ⟨[], upd_same, Nat.zero_le _, dln, same_new hN⟩ (fun j H' _ h => by obtain ⟨_, _, _, _, m⟩ := h; exact m.tup hC3) ?_ ?_
    rotate_left
    · rintro H7 ⟨us7, h7, ul7, dv7, m7⟩
      rw [List.length_map, List.take_length] at dv7
      exact ⟨N, us7, _, _, rfl, h7, fun _ => dv7, m6.trans m7⟩
    rintro j y H7 hj ⟨us7, h7, ul7, dv7, m7⟩
    obtain ⟨z, hz, rfl⟩ := map_get hj
    have zm := List.mem_of_getElem? hz
    have zo := nl.me f em z zm
    have jl := (List.getElem?_eq_some_iff.mp hz).1
    refine ⟨rfl, _, rfl, ⟨_, rfl⟩, at2 z, Str.ofString "@", rfl, rfl, rfl, Nat.le_trans (len_at2 zo) (by decide), fun B2 hB2 => ?_⟩
    rw [spl_at2 zo.p zo.s]
    have n8 := same_new (o := HO.lst ([z.1, z.2].map V.str)) hB2
    have m58 := (m6.trans m7).trans n8
    refine ⟨B2, _, 1, _, rfl, rfl, SqL.of upd_same, atI_nat (j := 1) rfl, _, rfl, da, _, rfl, DGet.k (k := Sum.inr z.2) ((m35.trans m58) _ _ hF), ?_⟩
    have h8 := n8 _ _ h7
    have dv8 := dv7.tk (TK.same n8)
    have m8 := m7.trans n8
    have du8 := du3.tt (TT.same (m35.trans m58))
    clear hB2 n8 m58
    generalize upd H7 B2 (HO.lst ([z.1, z.2].map V.str)) = H8 at h8 dv8 m8 du8 ⊢
    by_cases cc : Rr b.ln f.h.2 z.2
    · obtain ⟨x, hx, ex⟩ := List.mem_map.mp ((dist_rr dok z.2).mpr cc)
      rw [fk_some (d := x.2) dok.1 (by rw [← ex]; exact hx)]
      refine ⟨_, rfl, iteT ⟨_, rfl, _, rfl, _, rfl, t, .ref a, at2 f.h, at2 z, rfl, du8, by have := ad_len ho; omega, by have := ad_len zo; omega, fun r H9 m9 hr => ⟨us7, m9 _ _ h8, big (by omega), us7 ++ [r], upd_same, by rw [List.length_append]; show _ + 1 ≤ _; omega, ?_, sput (m8.trans m9) hN⟩⟩⟩
      have T := tk_put (K := K) (o := HO.lst (us7 ++ [r])) (m9 _ _ h8)
      rw [filt_step2 hz, if_pos (cB_t cc), List.map_append]
      exact dvs_app ((dv8.tk (TK.same m9)).tk T) (dlc (hr.1.tk T) dln)
    · rw [fk_none fun d' m => cc ((dist_rr dok z.2).mp (List.mem_map_of_mem (f := (·.1)) m))]
      refine ⟨_, rfl, iteF ⟨us7, h8, by omega, ?_, m8⟩⟩
      rw [filt_step2 hz, if_neg (by rw [cB_f cc]; exact Bool.false_ne_true), List.append_nil]
      exact dv8
end

end Z
namespace Z
open PySem L2 SX
section
variable {P : Program} {w : World} {K : PySem.W.Frag} {mg : Str → Option Value} {base : Heap}
theorem ok__law_take_due (D : Df K mg "_law_take_due" s__law_take_due ["book", "spreads", "model", "name", "notice"]) (T : Tx mg)  (C__law_expanded : Cal P w K mg base "_law_expanded" ["book", "spreads", "model", "home", "notice"] 2 (sp58_lexp K)) (C__law_gates_due : Cal P w K mg base "_law_gates_due" ["book", "name", "boards"] 6 (sp57_gates K)) : Cal P w K mg base "_law_take_due" ["book", "spreads", "model", "name", "notice"] 7 (sp58_ltake K) := by
  obtain ⟨f__law_expanded, fd__law_expanded, G__law_expanded, g__law_expanded, k__law_expanded, b__law_expanded⟩ := C__law_expanded
  obtain ⟨f__law_gates_due, fd__law_gates_due, G__law_gates_due, g__law_gates_due, k__law_gates_due, b__law_gates_due⟩ := C__law_gates_due
  obtain ⟨f, fd, F, gf, bf⟩ := D
  refine ⟨f, fd, F.ok sc__law_take_due (fun vs H Q E h => ?_) (fun cdv A outer s₀ H vs Q E hr h => ?_), gf, F.kp, bf⟩
  · obtain ⟨b, ls, v, sp, p, E, B, F, G, m, t, u, s, rfl, _⟩ := h; rfl
  · obtain ⟨b, ls, v, sp, p, E, B, F, G, m, t, u, s, rfl, hb, nl, spx, gl, gF, d, sn, du, m4, q⟩ := h
    refine ⟨_, (pss_cons (ps_set (i := 5) sc__law_take_due.nd rfl (Or.inl rfl) (pe_tup pa_nil))
      (C8.pss_cut (ps_if (pt_cmpR op_ne (pe_ix ix_tup (pe_ix ix_tup (pv 4) pe_int (fun _ _ => rfl)) pe_int (fun _ _ => rfl)) pe_str (nomark _))
      (pss_one (ps_for PassesOwn.never rfl (pi_tup (pe_call G__law_gates_due (hr.mono (by decide)) (by rfl) g__law_gates_due k__law_gates_due b__law_gates_due .nil pass0 (pa_cons (pv 0) (pa_cons (pv 3) (pa_cons (pe_ix ix_tup (pv 4) pe_int (fun _ _ => rfl)) pa_nil))))) (pg_name (i := 6) sc__law_take_due.nd rfl (Or.inl rfl))
        (pss_one (ps_set (i := 5) sc__law_take_due.nd rfl (Or.inl rfl) (pe_op (op_cat (K := K) rfl) (pv 5) (pe_call G__law_expanded (hr.mono (by decide)) (by rfl) g__law_expanded k__law_expanded b__law_expanded .nil pass0 (pa_cons (pv 0) (pa_cons (pv 1) (pa_cons (pv 2) (pa_cons (pv 6) (pa_cons (pv 4) pa_nil)))))))))))
      pss_nil)
      (pss_one (ps_ret (pv 5))))), ?_⟩
    have ok := du.1
    have big : ∀ {n : Nat}, n ≤ 30000 → n < sizeLine := fun h => Nat.lt_of_le_of_lt h (by decide)
    refine ⟨Nat.zero_le _, fun N hN => ?_⟩
    have n1 := same_new (o := HO.tup []) hN
    refine ⟨fun σ' H' => ∃ (N : Addr) (us : List V) (F' : List Addr) (v6 : Option V), σ' = [some v, some (.ref sp), some (.ref p), some (.str s), some u, some (.ref N), v6] ∧ SqT K H' N us ∧ DVs K H' (tkR b ls s E t).2 us ∧ MdE K H' p (tkR b ls s E t).1 B F' (m + 20) ∧ Gr K F H F' H', ?_, ?_⟩
    rotate_left
    · rintro σ' H' ⟨N, us, F', v6, rfl, hN', dv, dk, gr⟩
      exact ⟨_, rfl, q _ _ _ ⟨N, us, rfl, hN', dv⟩ dk gr⟩
    have hN1 : SqT K (upd H N (.tup [])) N [] := SqT.of upd_same
    generalize upd H N (.tup []) = H1 at n1 hN1 ⊢
    have du1 := du.tt (TT.same n1)
    have hb1 := hb.tk (TK.same n1)
    have d1 := d.same n1
    obtain ⟨a, i, b', k', us, ks, rfl, hA, ul, e1, hi, e4, hb', e7, hk, k0⟩ := du1.at
    refine ⟨_, rfl, a, us, 7, .ref k', rfl, rfl, hA, e7, k', ks, 0, _, rfl, rfl, hk, k0, rfl, _, rfl, ?_⟩
    by_cases cs : t.w = Str.ofString "strike"
    · have e0 : tkR b ls s E t = (E, []) := by unfold tkR; rw [if_pos cs]
      refine iN (by rw [cs]; rfl) ⟨N, [], F, _, rfl, hN1, by rw [e0]; exact dln, by rw [e0]; exact d1.mono (by omega), Gr.same n1⟩
    have e0 : tkR b ls s E t = (gatesL b ls s t.bs).foldl (tkS b ls t) (E, []) := by unfold tkR; rw [if_neg cs]
    rw [e0]
    have gl10 := gate_len nl (s := s) (bs := t.bs)
    refine iG (by rw [decide_eq_false (fun z => cs (V.str.inj z))]; rfl) ?_
    refine ⟨_, rfl, _, rfl, _, rfl, a, us, 4, .ref b', rfl, rfl, hA, e4, b, ls, v, s, b', t.bs, rfl, hb1, nl, sn, hb', by have := ok.bs.1; omega, fun x H2 m2 dg => ?_⟩
    obtain ⟨T, ys, rfl, hT, dy⟩ := dg
    obtain rfl := dvs_txt dy
    have m02 := n1.trans m2
    refine ⟨T, rfl, ⟨_, hT⟩, ?_⟩
    refine for_tup (K := K) (a := T) (xs := (gatesL b ls s t.bs).map V.str) (fun i σ' H' => ∃ (N : Addr) (us : List V) (F' : List Addr) (v6 : Option V), σ' = [some v, some (.ref sp), some (.ref p), some (.str s), some (.ref a), some (.ref N), v6] ∧ SqT K H' N us ∧ SqT K H' T ((gatesL b ls s t.bs).map V.str) ∧ us.length ≤ 20 * i ∧ DVs K H' (((gatesL b ls s t.bs).take i).foldl (tkS b ls t) (E, [])).2 us ∧ MdE K H' p (((gatesL b ls s t.bs).take i).foldl (tkS b ls t) (E, [])).1 B F' (m + 2 * i) ∧ Gr K F H F' H') ?_ (fun i σ' H' _ h => by obtain ⟨_, _, _, _, _, _, h, _⟩ := h; exact h) ?_ ?_
    · exact ⟨N, [], F, _, rfl, m2.tup hN1, hT, Nat.le_refl _, dln, d.same m02, Gr.same m02⟩
    · rintro i x σ' H3 hi3 ⟨N3, us3, F3, v6, rfl, hN3, hT3, ul3, dv3, dk3, g3⟩
      obtain ⟨g, hg, rfl⟩ := map_get hi3
      have il := (List.getElem?_eq_some_iff.mp hg).1
      obtain ⟨e, em, rfl⟩ := gate_home (List.mem_of_getElem? hg)
      rw [tk_step hg]
      generalize ((gatesL b ls s t.bs).take i).foldl (tkS b ls t) (E, []) = S3 at dv3 dk3 ⊢
      have off := g3.off gF gl
      refine ⟨_, rfl, _, rfl, _, rfl, _, rfl, _, rfl, _, rfl, b, ls, v, sp, p, S3.1, B, F3, G, m + 2 * i, t, .ref a, e, rfl, hb.tk g3.tt.1, nl, spx.keep off.1, off.2, dk3, em, du.tt g3.tt, by omega, fun r F4 H4 dr dk4 g4 => ?_⟩
      obtain ⟨P, zs, rfl, hP, dv4⟩ := dr
      have zl := dv4.len
      have zl2 := out_len nl (E := S3.1) (t := t) em
      refine ⟨N3, P, us3, zs, rfl, rfl, g4.tt.1 _ _ hN3, hP, Nat.le_of_lt (big (by omega)), fun R H5 m5 hR => ?_⟩
      have T5 := TK.same (K := K) m5
      refine ⟨R, us3 ++ zs, F4, _, rfl, hR, m5.tup (g4.tt.1 _ _ hT3), by rw [List.length_append]; omega, ?_, ?_, (g3.trans g4).trans (Gr.same m5)⟩
      · exact dvs_app ((dv3.tk g4.tt.1).tk T5) (dv4.tk T5)
      · exact (dk4.same m5).mono (by omega)
    rintro σ' H3 ⟨N3, us3, F3, v6, rfl, hN3, hT3, ul3, dv3, dk3, g3⟩
    rw [List.length_map] at dv3 dk3
    rw [List.take_length] at dv3 dk3
    exact ⟨N3, us3, F3, _, rfl, hN3, dv3, dk3.mono (by omega), g3⟩
end

end Z
namespace Z
open PySem L2 SX
theorem rl_ok {H : Hp} : ∀ {l : List Idn} {us : List V}, RL (IsId H) l us → ∀ x ∈ l, okI x
  | [], _, _, _, h => by cases h
  | y :: l, _, h, x, hx => by
    obtain ⟨v, t, _, h1, h2⟩ := h
    rcases List.mem_cons.mp hx with e | hx
    · rw [e]; exact h1.1
    · exact rl_ok h2 x hx
section
variable {P : Program} {w : World} {K : PySem.W.Frag} {mg : Str → Option Value} {base : Heap}
theorem ok__law_hear_due (D : Df K mg "_law_hear_due" s__law_hear_due ["book", "spreads", "model", "letter"]) (T : Tx mg)  (C__law_expanded : Cal P w K mg base "_law_expanded" ["book", "spreads", "model", "home", "notice"] 2 (sp58_lexp K)) : Cal P w K mg base "_law_hear_due" ["book", "spreads", "model", "letter"] 5 (sp58_lhear K) := by
  obtain ⟨f__law_expanded, fd__law_expanded, G__law_expanded, g__law_expanded, k__law_expanded, b__law_expanded⟩ := C__law_expanded
  obtain ⟨f, fd, F, gf, bf⟩ := D
  refine ⟨f, fd, F.ok sc__law_hear_due (fun vs H Q E h => ?_) (fun cdv A outer s₀ H vs Q E hr h => ?_), gf, F.kp, bf⟩
  · obtain ⟨b, ls, v, sp, p, E, B, F, G, m, t, u, w, h, a, rfl, _⟩ := h; rfl
  · obtain ⟨b, ls, v, sp, p, E, B, F, G, m, t, u, w, h, a, rfl, hb, nl, spx, gF, d, du, hw, ao, m4, q⟩ := h
    refine ⟨_, (pss_cons (ps_set (i := 4) sc__law_hear_due.nd rfl (Or.inl rfl) (pe_ix ix_tup (pe_ix ix_tup (pv 3) pe_int (fun _ _ => rfl)) pe_int (fun _ _ => rfl)))
      (pss_cons (ps_if (pt_cmpR op_in_seq (pe_ix ix_tup (pv 3) pe_int (fun _ _ => rfl)) (pe_lc (own := [("entry", 6)]) (g := gName 6) (tt := tYes) rfl sc__law_hear_due.nd (pi_tup (pe_ix ix_tup (pv 0) pe_int (fun _ _ => rfl))) (blkOk_by (own := [("entry", 6)]) (N := N__law_hear_due) (sc := defScope s__law_hear_due) (by decide +kernel)) (fun _ _ _ _ _ => pg_name (i := 6) sc__law_hear_due.nd rfl (Or.inl rfl)) (fun _ _ _ _ _ => pts_nil) (fun _ _ _ _ _ => (pe_ix (ix_tupQ (K := K) rfl) (pv 6) pe_int (fun _ _ => rfl)))) (by rfl))
      (pss_one (ps_ret (pe_call G__law_expanded (hr.mono (by decide)) (by rfl) g__law_expanded k__law_expanded b__law_expanded .nil pass0 (pa_cons (pv 0) (pa_cons (pv 1) (pa_cons (pv 2) (pa_cons (pe_ix ix_tup (pv 3) pe_int (fun _ _ => rfl)) (pa_cons (pv 4) pa_nil))))))))
      pss_nil)
      (C8.pss_cut (ps_set (i := 5) sc__law_hear_due.nd rfl (Or.inl rfl) (pe_dsetd (pe_ix ix_list (pv 2) pe_int (fun _ _ => rfl)) (pe_ix ix_tup (pv 3) pe_int (fun _ _ => rfl)) (pe_lst pa_nil) ⟨rfl, rfl, rfl, rfl⟩))
      (C8.pss_cut (ps_if (pt_cmpR (op_notInDDQ (K := K) rfl (room65 hr)) (pe_ix ix_tup (pv 4) pe_int (fun _ _ => rfl)) (pv 5) (by rfl))
      (pss_one (ps_expr (pe_bm PySem.F.plainAttrs_list PySem.F.slot_list_append PySem.F.type_list_append mt_append (pv 5) (pa_cons (pe_ix ix_tup (pv 4) pe_int (fun _ _ => rfl)) pa_nil))))
      pss_nil)
      (pss_one (ps_ret (pe_tup pa_nil))))))), ?_⟩
    have big : ∀ {n : Nat}, n ≤ 30000 → n < sizeLine := fun h => Nat.lt_of_le_of_lt h (by decide)
    have hh := home_iff nl ao.p
    have lln := nl.ln
    obtain ⟨_, L0, p0, key, rfl, hL0, hp0⟩ := hw
    refine ⟨_, rfl, L0, _, 3, _, rfl, rfl, hL0, atI_nat (j := 3) rfl, p0, _, 1, _, rfl, rfl, hp0, atI_nat (j := 1) rfl, ?_⟩
    obtain ⟨ba, bus, c, ws, rfl, hB, e7, hC, hws⟩ := DV.sub (i := 7) (es := b.li) hb rfl
    rw [nl.li] at hws
    have wl := hws.map_len
    refine ⟨_, rfl, L0, _, 2, _, rfl, rfl, hL0, atI_nat (j := 2) rfl, _, rfl, ba, bus, 7, .ref c, rfl, rfl, hB, atI_nat (j := 7) e7, c, rfl, ⟨_, hC⟩, fun N hN => ?_⟩
    refine lc_tup (K := K) (a := c) (xs := ws) (fun i H' => H' N = some (.lst (((ls.map (·.h)).take i).map fun a => V.str (at2 a))) ∧ Same H H') ⟨by rw [upd_same]; rfl, same_new hN⟩ (fun i H' _ h => h.2.tup hC) ?_ ?_
    · rintro i x H1 hi ⟨h1, m1⟩
      obtain ⟨e, he, dx⟩ := hws.map_get hi
      have il := (List.getElem?_eq_some_iff.mp he).1
      obtain ⟨ea, eus, c3, w3, rfl, hE, e1, _⟩ := li_at (dx.tk (TK.same m1))
      have en : (ls.map (·.h))[i]? = some e.h := by rw [List.getElem?_map, he]; rfl
      refine ⟨rfl, _, rfl, ea, eus, 1, _, rfl, rfl, hE, atI_nat (j := 1) e1, _, h1, ?_, ?_, sput m1 hN⟩
      · rw [List.length_map, List.length_take, List.length_map]; exact big (by omega)
      · rw [upd_same, List.take_add_one, en, List.map_append]; rfl
    rintro H1 ⟨h1, m1⟩
    rw [show ws.length = (ls.map (·.h)).length by rw [wl, List.length_map], List.take_length] at h1
    have lowL : ∀ x ∈ ls.map (·.h), Low (tl x.1) := fun x hx => by
      obtain ⟨e, he, rfl⟩ := List.mem_map.mp hx
      exact (nl.ho e he).p
    refine ⟨N, _, rfl, .inl (SqL.of h1), rfl, flat_ats _, _, rfl, ?_⟩
    rw [show (if false = true then !inV (V.str (at2 a)) ((ls.map (·.h)).map fun a => V.str (at2 a)) else inV (V.str (at2 a)) ((ls.map (·.h)).map fun a => V.str (at2 a))) = decide (a ∈ ls.map (·.h)) by rw [if_neg Bool.false_ne_true, inV_at lowL ao.p]]
    have d1 := d.same m1
    have du1 := du.tt (TT.same m1)
    have hb1 := hb.tk (TK.same m1)
    have hL1 := m1.tup hL0
    have hp1 := m1.tup hp0
    by_cases cm : a ∈ ls.map (·.h)
    · obtain ⟨e, em, rfl⟩ := List.mem_map.mp cm
      have hm := hh.mpr cm
      unfold heO heE heB at q
      rw [if_pos hm, if_pos hm, if_pos hm] at q
      refine iG (decide_eq_true cm) ⟨_, rfl, _, rfl, _, rfl, _, rfl, L0, _, 2, _, rfl, rfl, hL1, atI_nat (j := 2) rfl, _, rfl, b, ls, .ref ba, sp, p, E, B, F, G, m, t, u, e, rfl, hb1, nl, spx.keep fun x _ w hw => m1 _ _ hw, gF, d1, em, du1, by omega, fun r F' H' dr dk g => ?_⟩
      exact q r F' H' dr (dk.mono (by omega)) ((Gr.same m1).trans g)
    have hm : at2 a ∉ homes ls := fun k => cm (hh.mp k)
    unfold heO heE heB at q
    rw [if_neg hm, if_neg hm, if_neg hm] at q
    refine iN (decide_eq_false cm) ?_
    obtain ⟨L, D, bl, dm, rfl⟩ := d1
    refine ⟨fun σ' H' => ∃ (bl' : List (Str × Addr)) (c : Addr) (v6 : Option V), σ' = [some (.ref ba), some (.ref sp), some (.ref p), some (.ref L0), some u, some (.ref c), v6] ∧ Md K H' p L D E B bl' (m + 1) ∧ Gr K (mdF p L D bl) H (mdF p L D bl') H' ∧ (at2 a, c) ∈ bl', ?_, ?_⟩
    · refine ⟨_, rfl, p, _, 1, _, rfl, rfl, SqL.of dm.ob, atI_nat (j := 1) rfl, D, rfl, .inl ⟨_, .inl dm.bx.x⟩, _, rfl, L0, _, 2, _, rfl, rfl, hL1, atI_nat (j := 2) rfl, Nat.zero_le _, fun N hN => ?_⟩
      have n2 := same_new (o := HO.lst []) hN
      have bm := dm.bx.bm.1
      refine ⟨_, Sum.inr (at2 a), n2 _ _ dm.bx.x, rfl, by rw [List.length_map]; exact big (by omega), fun w hw => ?_, fun hw => ?_⟩
      · obtain ⟨f, hf, ef, rfl⟩ := bk_of dm.bx.kd hw
        have d3 : Md K _ p L D E B bl m := dm.keep (TT.same n2) fun x _ u hu => n2 _ _ hu
        refine ⟨bl, f.2, _, rfl, ⟨d3.ob, d3.ex, ⟨by have := d3.em.1; omega, d3.em.2⟩, d3.bx.mono (Nat.le_succ m), d3.nd⟩, Gr.same (m1.trans n2), ?_⟩
        rw [← ef]; exact hf
      · have na := bk_no dm.bx.kd hw
        obtain ⟨D1, G1⟩ := dm.bx.new (K := K) (o := HO.lst []) c2_stays na hN fun H2 h2 => ⟨[], h2, rfl, List.nodup_nil⟩
        obtain ⟨d3, g3⟩ := dm.two D1 G1 (Nat.le_succ m)
        exact ⟨_, N, _, rfl, d3, (Gr.same m1).trans g3, by simp⟩
    rintro σ2 H2 ⟨bl', c', v6, rfl, d2, g2, hc⟩
    have du2 := du.tt g2.tt
    obtain ⟨ua, ui, b', k', us, ks, rfl, hA, ul, e1, hi, _⟩ := du2.at
    obtain ⟨cs, hcs, rl, nd⟩ := d2.bx.ch _ hc
    have rl : RL (IsId H2) (sel B (at2 a)) cs := rl
    have nd : (sel B (at2 a)).Nodup := nd
    have iid := du2.id hi
    have cl : cs.length ≤ m + 1 := by
      have h1 := rl.len
      have h2 := sel_len (P := B) (a := at2 a)
      have := d2.bx.bm.2
      omega
    refine ⟨fun σ' H' => ∃ (v5 v6 : Option V), σ' = [some (.ref ba), some (.ref sp), some (.ref p), some (.ref L0), some (.ref ua), v5, v6] ∧ Md K H' p L D E (exE B (at2 a) (nid t)) bl' (m + 2) ∧ Gr K (mdF p L D bl) H (mdF p L D bl') H', ?_, ?_⟩
    rotate_left
    · rintro σ3 H3 ⟨v5, v6, rfl, d3, g3⟩
      refine ⟨Nat.zero_le _, fun T hT => ?_⟩
      have n5 := same_new (o := HO.tup []) hT
      exact q _ _ _ ⟨T, [], rfl, SqT.of upd_same, dln⟩ ((MdE.same ⟨L, D, bl', d3, rfl⟩ n5).mono (by omega)) (g3.trans (Gr.same n5))
    refine ⟨_, rfl, ua, us, 1, .ref ui, rfl, rfl, hA, e1, _, rfl, iD (nid t), c', cs, (sel B (at2 a)).map iD, iid.dv, rfl, SqL.of hcs, RL.dvs (fun x w hx => IsId.dv x w hx) rl, id_okd iid.1, id_okl (rl_ok rl), _, rfl, ?_⟩
    have me : memB (sel B (at2 a)) (nid t) = decide ((at2 a, nid t) ∈ B) := by
      rw [Bool.eq_iff_iff, memB_iff, decide_eq_true_iff, sel_mem]
    rw [if_pos rfl, memB_any, me]
    by_cases ci : (at2 a, nid t) ∈ B
    · have ee : exE B (at2 a) (nid t) = B := by unfold exE; rw [if_pos ci]
      refine iN (by rw [decide_eq_true ci]; rfl) ⟨_, _, rfl, ?_, g2⟩
      rw [ee]
      exact ⟨d2.ob, d2.ex, ⟨by have := d2.em.1; omega, d2.em.2⟩, d2.bx.mono (Nat.le_succ _), d2.nd⟩
    have ee : exE B (at2 a) (nid t) = B ++ [(at2 a, nid t)] := by unfold exE; rw [if_neg ci]
    refine iG (by rw [decide_eq_false ci]; rfl) ⟨_, rfl, .inl ⟨rfl, _, SqL.of hcs⟩, _, rfl, ua, us, 1, .ref ui, rfl, rfl, hA, e1, c', cs, _, rfl, rfl, hcs, big (by omega), ?_⟩
    obtain ⟨D3, G3⟩ := d2.bx.push (K := K) (e := (at2 a, c')) (x := nid t) (o := HO.lst (cs ++ [V.ref ui])) c2_stays hc ⟨_, upd_same, (rl.snoc iid).mono (IsId.tt (TT.put (K := K) hcs)), by
      rw [List.nodup_append]
      refine ⟨nd, by simp, fun x hx y hy e => ci ?_⟩
      rw [List.mem_singleton.mp hy] at e
      rw [e] at hx
      exact sel_mem.mp hx⟩
    obtain ⟨d4, g4⟩ := d2.two D3 G3 (Nat.le_succ _)
    refine ⟨_, _, rfl, ?_, g2.trans g4⟩
    rw [ee]; exact d4
end

end Z
namespace Z
open PySem L2 SX
theorem dl_ids {n : Nat} {l : List Idn} (h : l.length ≤ 1000000) : DL (n + 3) (.tup (l.map iD)) := ⟨by rw [List.length_map]; exact h, fun d hd => by
  obtain ⟨x, _, rfl⟩ := List.mem_map.mp hd
  exact ⟨by show 2 ≤ 1000000; decide, fun y hy => by
    rcases List.mem_cons.mp hy with e | hy
    · rw [e]; trivial
    · rw [List.mem_singleton.mp hy]; trivial⟩⟩
section
variable {P : Program} {w : World} {K : PySem.W.Frag} {mg : Str → Option Value} {base : Heap}
theorem ok__law_boxes_right (D : Df K mg "_law_boxes_right" s__law_boxes_right ["book", "desk", "model", "name"]) (T : Tx mg) {A_ListDesk : Addr} (O : To K mg A_ListDesk)  (C_ListDesk__box : CalM P w K mg base A_ListDesk "box" ["self", "address"] 1 (sp58_box K A_ListDesk)) (C__law_same : Cal P w K mg base "_law_same" ["actual", "due"] 12 (sp__law_same K 11)) : Cal P w K mg base "_law_boxes_right" ["book", "desk", "model", "name"] 13 (sp58_boxes K A_ListDesk) := by
  obtain ⟨f_ListDesk__box, fd_ListDesk__box, G_ListDesk__box, h_ListDesk__box, b_ListDesk__box⟩ := C_ListDesk__box
  obtain ⟨f__law_same, fd__law_same, G__law_same, g__law_same, k__law_same, b__law_same⟩ := C__law_same
  obtain ⟨f, fd, F, gf, bf⟩ := D
  refine ⟨f, fd, F.ok sc__law_boxes_right (fun vs H Q E h => ?_) (fun cdv A outer s₀ H vs Q E hr h => ?_), gf, F.kp, bf⟩
  · obtain ⟨b, ls, v, o, p, n, F, m, rfl, _⟩ := h; rfl
  · obtain ⟨b, ls, v, o, p, n, F, m, rfl, hb, nl, nn, bo, m4, q⟩ := h
    refine ⟨_, (pss_cons (ps_set (i := 4) sc__law_boxes_right.nd rfl (Or.inl rfl) (pe_lst (pa_cons (pe_op op_add_str pe_str (pv 3)) (pa_cons (pe_op op_add_str pe_str (pv 3)) pa_nil))))
      (pss_cons (ps_for PassesOwn.never rfl (pi_tup (pe_ix ix_tup (pv 0) pe_int (fun _ _ => rfl))) (pg_name (i := 5) sc__law_boxes_right.nd rfl (Or.inl rfl))
      (pss_one (ps_for PassesOwn.never rfl (pi_tup (pe_op (op_cat (K := K) rfl) (pe_ix ix_tup (pv 5) pe_int (fun _ _ => rfl)) (pe_tup (pa_cons (pe_ix ix_tup (pv 5) pe_int (fun _ _ => rfl)) pa_nil)))) (pg_name (i := 6) sc__law_boxes_right.nd rfl (Or.inl rfl))
        (pss_one (ps_if (PW.pt (pw_and (pt_cmpR op_eq (pe_ix ix_list (pe_split (pv 6) pe_str) pe_int (fun _ _ => rfl)) (pv 3) (nomark _)) (pw_and1 (pt_cmpR op_notIn_seq (pv 6) (pv 4) (by rfl)))))
          (pss_one (ps_expr (pe_bm PySem.F.plainAttrs_list PySem.F.slot_list_append PySem.F.type_list_append mt_append (pv 4) (pa_cons (pv 6) pa_nil))))
          pss_nil)))))
      (pss_cons (ps_for PassesOwn.never rfl (pi_list (pv 4)) (pg_name (i := 6) sc__law_boxes_right.nd rfl (Or.inl rfl))
      (pss_one (ps_if (pt_not (pt_val (pe_call G__law_same (hr.mono (by decide)) (by rfl) g__law_same k__law_same b__law_same .nil pass0 (pa_cons (pe_meth (pv 1) O.c_ListDesk h_ListDesk__box G_ListDesk__box (hr.mono (by decide)) b_ListDesk__box .nil pass0 (pa_cons (pv 6) pa_nil)) (pa_cons (pe_callTy call_tuple_of (by rfl) T.n_tuple (by decide +kernel) (pa_cons (pe_dget2 (hu_of hr) (pe_ix ix_list (pv 2) pe_int (fun _ _ => rfl)) (pv 6) (pe_lst pa_nil) ⟨rfl, rfl, rfl, rfl⟩) pa_nil)) pa_nil)))))
        (pss_one (ps_ret pe_bl))
        pss_nil)))
      (pss_one (ps_ret pe_bl))))), ?_⟩
    have big : ∀ {n : Nat}, n ≤ 30000 → n < sizeLine := fun h => Nat.lt_of_le_of_lt h (by decide)
    have lln := nl.ln
    obtain ⟨E, B, F1, F2, dk, md, rfl, _⟩ := bo
    obtain ⟨L, D, bl, md, rfl⟩ := md
    obtain ⟨X1, X2, l1, l2, dd, eF⟩ := dk
    obtain ⟨dx, ob⟩ := dd.ob
    have dk : DkE K A_ListDesk H o v n E B F1 m := ⟨X1, X2, l1, l2, dd, eF⟩
    have n8 : (tl n).length ≤ 8 := by
      obtain ⟨y, hy, rfl⟩ := List.mem_map.mp nn
      exact (nl.net.ok.sn y hy).2
    have lA : (tl (Str.ofString "nobodies@")).length = 9 := rfl
    have lB : (tl (Str.ofString "ann@")).length = 4 := rfl
    refine ⟨_, rfl, _, _, rfl, rfl, js2 (by omega), _, rfl, _, _, rfl, rfl, js2 (by omega), by show 2 ≤ sizeLine; decide, fun N hN => ?_⟩
    obtain ⟨ba, bus, c, ws, rfl, hB, e7, hC, hw⟩ := DV.sub (i := 7) (es := b.li) hb rfl
    rw [nl.li] at hw
    have wl := hw.map_len
    have n1 := same_new (o := HO.lst [V.str (Str.ofString "nobodies@" ++ n), V.str (Str.ofString "ann@" ++ n)]) hN
    refine ⟨_, rfl, ba, bus, 7, .ref c, rfl, rfl, n1.tup hB, atI_nat (j := 7) e7, c, rfl, ⟨_, n1.tup hC⟩, ?_⟩
    refine for_tup (K := K) (a := c) (xs := ws) (fun i σ H' => ∃ (as : List Str) (v5 v6 : Option V), σ = [some (.ref ba), some (.ref o), some (.ref p), some (.str n), some (.ref N), v5, v6] ∧ H' N = some (.lst (as.map V.str)) ∧ as.length ≤ 2 + 21 * i ∧ Same H H') ⟨[Str.ofString "nobodies@" ++ n, Str.ofString "ann@" ++ n], _, _, rfl, upd_same, Nat.le_refl _, n1⟩ (fun i σ H' _ h => by obtain ⟨_, _, _, _, _, _, m⟩ := h; exact m.tup hC) ?_ ?_
    · rintro i x σ H3 hi ⟨as, v5, v6, rfl, hN3, al, m3⟩
      obtain ⟨e, he, dx'⟩ := hw.map_get hi
      have em := List.mem_of_getElem? he
      have il := (List.getElem?_eq_some_iff.mp he).1
      have ho := nl.ho e em
      have ml := nl.ml e em
      obtain ⟨ea, eus, c3, w3, rfl, hE, e1, _, e3, hC3, rfl⟩ := li_at (dx'.tk (TK.same m3))
      refine ⟨_, rfl, ea, eus, 3, .ref c3, rfl, rfl, hE, atI_nat (j := 3) e3, _, rfl, ea, eus, 1, _, rfl, rfl, hE, atI_nat (j := 1) e1, by show 1 ≤ sizeLine; decide, fun T hT => ?_⟩
      have n4 := same_new (o := HO.tup [V.str (at2 e.h)]) hT
      refine ⟨c3, T, _, _, rfl, rfl, n4.tup hC3, SqT.of upd_same, Nat.le_of_lt (big (by rw [List.length_map]; show _ + 1 ≤ _; omega)), fun R H5 m5 hR => ⟨R, rfl, ⟨_, hR⟩, ?_⟩⟩
      have hR : SqT K H5 R ((e.m ++ [e.h]).map fun a => V.str (at2 a)) := by rw [List.map_append]; exact hR
      have mo : ∀ z ∈ e.m ++ [e.h], AOk (nms b) z := fun z hz => (List.mem_append.mp hz).elim (nl.me e em z) fun k => by rw [List.mem_singleton.mp k]; exact ho
      have mln : (e.m ++ [e.h]).length ≤ 21 := by rw [List.length_append]; show _ + 1 ≤ _; omega
      have m35 := (m3.trans n4).trans m5
      have hN5 := m5 _ _ (n4 _ _ hN3)
      refine for_tup (K := K) (a := R) (xs := (e.m ++ [e.h]).map fun a => V.str (at2 a)) (fun j σ H' => ∃ (as : List Str) (v6 : Option V), σ = [some (.ref ba), some (.ref o), some (.ref p), some (.str n), some (.ref N), some (.ref ea), v6] ∧ H' N = some (.lst (as.map V.str)) ∧ as.length ≤ 2 + 21 * i + j ∧ Same H H' ∧ SqT K H' R ((e.m ++ [e.h]).map fun a => V.str (at2 a))) ⟨as, _, rfl, hN5, by omega, m35, hR⟩ (fun i σ H' _ h => by obtain ⟨_, _, _, _, _, _, h⟩ := h; exact h) ?_ ?_
      rotate_left
      · rintro σ H6 ⟨as6, v6, rfl, hN6, al6, m6, _⟩
        rw [List.length_map] at al6
        exact ⟨as6, _, _, rfl, hN6, by omega, m6⟩
      rintro j y σ H6 hj ⟨as6, v6, rfl, hN6, al6, m6, hR6⟩
      obtain ⟨z, hz, rfl⟩ := map_get hj
      have zo := mo z (List.mem_of_getElem? hz)
      have jl := (List.getElem?_eq_some_iff.mp hz).1
      refine ⟨_, rfl, ⟨_, rfl⟩, at2 z, Str.ofString "@", rfl, rfl, rfl, Nat.le_trans (len_at2 zo) (by decide), fun B2 hB2 => ?_⟩
      rw [spl_at2 zo.p zo.s]
      have n7 := same_new (o := HO.lst ([z.1, z.2].map V.str)) hB2
      have m7 := m6.trans n7
      have hN7 := n7 _ _ hN6
      have hR7 := n7.tup hR6
      refine ⟨B2, _, 1, _, rfl, rfl, SqL.of upd_same, atI_nat (j := 1) rfl, _, rfl, rfl, _, rfl, ?_⟩
      generalize upd H6 B2 (HO.lst ([z.1, z.2].map V.str)) = H7 at m7 hN7 hR7 ⊢
      refine ite2 (fun _ => ⟨_, rfl, _, rfl, N, _, rfl, .inl (SqL.of hN7), rfl, flat_strs _, _, rfl, ite2 (fun _ => ?_) fun _ => ⟨as6, _, rfl, hN7, by omega, m7, hR7⟩⟩) (fun _ => iteF ⟨as6, _, rfl, hN7, by omega, m7, hR7⟩)
      refine ⟨_, rfl, .inl ⟨rfl, _, SqL.of hN7⟩, _, rfl, N, _, _, rfl, rfl, hN7, by rw [List.length_map]; exact big (by omega), ?_⟩
      have T8 := tk_put (K := K) (o := HO.lst (as6.map V.str ++ [V.str (at2 z)])) hN7
      exact ⟨as6 ++ [at2 z], _, rfl, by rw [upd_same, List.map_append]; rfl, by rw [List.length_append]; show _ + 1 ≤ _; omega, sput m7 hN, T8 _ _ hR7⟩
    rintro σ H3 ⟨as, v5, v6, rfl, hN3, al, m3⟩
    refine ⟨_, rfl, N, rfl, ⟨_, SqL.of hN3⟩, ?_⟩
    refine for_list (K := K) (a := N) (xs := as.map V.str) (fun j σ H' => ∃ (v5 v6 : Option V), σ = [some (.ref ba), some (.ref o), some (.ref p), some (.str n), some (.ref N), v5, v6] ∧ H' N = some (.lst (as.map V.str)) ∧ Same H H') ⟨_, _, rfl, hN3, m3⟩ (fun i σ H' _ h => by obtain ⟨_, _, _, h, _⟩ := h; exact SqL.of h) ?_ ?_
    rotate_left
    · rintro σ H4 ⟨v5, v6, rfl, hN4, m4'⟩
      exact q _ m4'
    rintro j y σ H4 hj ⟨v5, v6, rfl, hN4, m4'⟩
    obtain ⟨x, hx, rfl⟩ := map_get hj
    refine ⟨_, rfl, o, dx, _, rfl, m4' _ _ ob, rfl, _, rfl, o, .ref ba, n, E, B, F1, m, x, rfl, dk.same m4', by omega, fun r H5 m5 dr => ?_⟩
    have m45 := m4'.trans m5
    have md5 := md.keep (TT.same m45) fun z _ w hw => m45 _ _ hw
    refine ⟨_, rfl, p, _, 1, _, rfl, rfl, SqL.of md5.ob, atI_nat (j := 1) rfl, D, rfl, .inl ⟨_, .inl md5.bx.x⟩, _, rfl, Nat.zero_le _, fun M hM => ?_⟩
    have n6 := same_new (o := HO.lst []) hM
    have md6 := md5.keep (TT.same n6) fun z _ w hw => n6 _ _ hw
    have sl : (sel B x).length ≤ 9000 := Nat.le_trans sel_len (Nat.le_trans md.bx.bm.2 m4)
    have fin : ∀ (c : Addr) (us : List V), upd H5 M (.lst []) c = some (.lst us) → RL (IsId (upd H5 M (.lst []))) (sel B x) us → ∀ T, upd H5 M (.lst []) T = none → DV K (upd (upd H5 M (.lst [])) T (.tup us)) (.tup ((sel B x).map iD)) r ∧ DV K (upd (upd H5 M (.lst [])) T (.tup us)) (.tup ((sel B x).map iD)) (.ref T) ∧ Same H (upd (upd H5 M (.lst [])) T (.tup us)) := fun c us hc rl T hT => by
      have n7 := same_new (o := HO.tup us) hT
      exact ⟨(dr.tk (TK.same n6)).tk (TK.same n7), ⟨T, us, rfl, SqT.of upd_same, (RL.dvs (fun x w hx => IsId.dv x w hx) rl).tk (TK.same n7)⟩, (m45.trans n6).trans n7⟩
    refine ⟨_, DGet.k (k := (Sum.inr x : L2.Key)) md6.bx.x, ?_⟩
    cases hv : valV (bl.map bk) (Sum.inr x : L2.Key) with
    | none =>
      have e0 := md.bx.no x (bk_no md.bx.kd hv)
      refine ⟨M, _, rfl, .inl ⟨SqL.of upd_same, fun T hT => ?_⟩⟩
      obtain ⟨k1, k2, k3⟩ := fin M [] upd_same (by rw [e0]; rfl) T hT
      refine ⟨_, _, _, rfl, k1, k2, dl_ids (by omega), _, rfl, iteF ⟨_, _, rfl, ?_, k3⟩⟩
      exact same_new hT _ _ (n6 _ _ (m5 _ _ hN4))
    | some w =>
      obtain ⟨e, he, ea, rfl⟩ := bk_of md.bx.kd hv
      obtain ⟨us, hU, rl, _⟩ := md6.bx.ch e he
      rw [ea] at rl
      refine ⟨e.2, us, rfl, .inl ⟨SqL.of hU, fun T hT => ?_⟩⟩
      obtain ⟨k1, k2, k3⟩ := fin e.2 us hU rl T hT
      refine ⟨_, _, _, rfl, k1, k2, dl_ids (by omega), _, rfl, iteF ⟨_, _, rfl, ?_, k3⟩⟩
      exact same_new hT _ _ (n6 _ _ (m5 _ _ hN4))
end

end Z
namespace Z
open PySem L2 SX
theorem small58 {n : Nat} (h : n ≤ 1000) : n < sizeLine := Nat.lt_of_le_of_lt h (by decide)
def sp58_boards (K : PySem.W.Frag) : Sp := fun vs H Q _ => ∃ (s a u : Addr) (us : List Str) (m : Int) (c : Nat), vs = [.ref s, .ref u, .int m] ∧ SqL K H u (us.map V.str) ∧ u ≠ s ∧ Wds us ∧ 0 < m ∧ m ≤ 10 ∧ Src H s a (c + 200) ∧
  ∀ (t : Addr) (bs : List Str) (H' : Hp), H' t = some (.tup (bs.map V.str)) → (bs.length : Int) ≤ m → (∀ x ∈ bs, Bdc (tl x) ∧ (tl x).length ≤ 30) → Ext s H H' → Src H' s a c → Q (.ref t) H'
section
variable {P : Program} {w : World} {K : PySem.W.Frag} {mg : Str → Option Value} {base : Heap}
theorem ok__law_boards (D : Df K mg "_law_boards" s__law_boards ["source", "words", "most"]) (T : Tx mg)  (C__law_board : Cal P w K mg base "_law_board" ["source", "words"] 4 (sp2__law_board K)) (C__law_draw : Cal P w K mg base "_law_draw" ["source", "many"] 2 sp__law_draw) : Cal P w K mg base "_law_boards" ["source", "words", "most"] 5 (sp58_boards K) := by
  obtain ⟨f__law_board, fd__law_board, G__law_board, g__law_board, k__law_board, b__law_board⟩ := C__law_board
  obtain ⟨f__law_draw, fd__law_draw, G__law_draw, g__law_draw, k__law_draw, b__law_draw⟩ := C__law_draw
  obtain ⟨f, fd, F, gf, bf⟩ := D
  refine ⟨f, fd, F.ok sc__law_boards (fun vs H Q E h => ?_) (fun cdv A outer s₀ H vs Q E hr h => ?_), gf, F.kp, bf⟩
  · obtain ⟨s, a, u, us, m, c, rfl, _⟩ := h; rfl
  · obtain ⟨s, a, u, us, m, c, rfl, hU, hus, hW, m0, m1, hS, q⟩ := h
    refine ⟨_, (pss_cons (ps_set (i := 3) sc__law_boards.nd rfl (Or.inl rfl) (pe_lst pa_nil))
      (pss_cons (ps_for PassesOwn.never rfl (pi_range1 (by rfl) T.n_range (pa_cons (pe_op op_add pe_int (pe_call G__law_draw (hr.mono (by decide)) (by rfl) g__law_draw k__law_draw b__law_draw .nil pass0 (pa_cons (pv 0) (pa_cons (pv 2) pa_nil)))) pa_nil)) (pg_name (i := 4) sc__law_boards.nd rfl (Or.inl rfl))
      (pss_cons (ps_set (i := 5) sc__law_boards.nd rfl (Or.inl rfl) (pe_call G__law_board (hr.mono (by decide)) (by rfl) g__law_board k__law_board b__law_board .nil pass0 (pa_cons (pv 0) (pa_cons (pv 1) pa_nil))))
        (pss_one (ps_if (pt_cmpR op_notIn_seq (pv 5) (pv 3) (by rfl))
        (pss_one (ps_expr (pe_bm PySem.F.plainAttrs_list PySem.F.slot_list_append PySem.F.type_list_append mt_append (pv 3) (pa_cons (pv 5) pa_nil))))
        pss_nil))))
      (pss_one (ps_ret (pe_callTy call_tuple_of (by rfl) T.n_tuple (by decide +kernel) (pa_cons (pv 3) pa_nil)))))), ?_⟩
    refine ⟨Nat.zero_le _, fun L hL => ?_⟩
    have Ls := hS.ne hL
    have La := hS.nea hL
    refine ⟨_, rfl, _, rfl, s, a, m, c + 190, rfl, m0, by omega, (hS.new hL).mono (by omega), fun v H1 v0 v1 x1 S1 => ?_⟩
    refine ⟨_, _, rfl, rfl, _, rfl, by omega, by omega, ?_⟩
    refine for_range (lo := 0) (n := (1 + v).toNat) (fun i σ H' => ∃ (bs : List Str) (v4 v5 : Option V), σ = [some (.ref s), some (.ref u), some (.int m), some (.ref L), v4, v5] ∧ H' L = some (.lst (bs.map V.str)) ∧ bs.length ≤ i ∧ (∀ x ∈ bs, Bdc (tl x) ∧ (tl x).length ≤ 30) ∧ Ext s H H' ∧ Src H' s a (c + (190 - 15 * i))) ?_ ?_ ?_
    · exact ⟨[], _, _, rfl, x1 _ _ Ls upd_same, Nat.le_refl _, (fun _ h => by cases h), (Ext.new hL).trans x1, S1.mono (by omega)⟩
    · rintro i σ H' hi ⟨bs, v4, v5, rfl, hl, l1, hB, hE, hS'⟩
      refine ⟨_, rfl, _, rfl, s, a, u, us, c + (190 - 15 * i) - 10, rfl, hE.seqL hus hU, hus, hW, hS'.mono (by omega), fun x H2 xB xn xl x2 S2 => ?_⟩
      have hl2 := x2 _ _ Ls hl
      refine ⟨_, rfl, _, rfl, L, _, rfl, .inl (SqL.of hl2), rfl, flat_strs bs, _, rfl, ite2 (fun _ => ?_) (fun _ => ⟨bs, _, _, rfl, hl2, by omega, hB, hE.trans x2, S2.mono (by omega)⟩)⟩
      refine ⟨_, rfl, .inl ⟨rfl, _, SqL.of hl2⟩, _, rfl, L, _, _, rfl, rfl, hl2, ?_, ?_⟩
      · rw [List.length_map]; exact small58 (by omega)
      · refine ⟨bs ++ [x], _, _, rfl, by rw [upd_same, List.map_append]; rfl, by rw [List.length_append]; show _ + 1 ≤ _; omega, fun y hy => ?_, fun b o hb hh => ?_, (S2.put Ls La).mono (by omega)⟩
        · rcases List.mem_append.mp hy with h | h
          · exact hB y h
          · rw [List.mem_singleton.mp h]; exact ⟨xB, xl⟩
        · rw [upd_ne (ne_of_none hh hL)]; exact x2 _ _ hb (hE _ _ hb hh)
    · rintro σ H' ⟨bs, v4, v5, rfl, hl, l1, hB, hE, hS'⟩
      refine ⟨_, rfl, L, _, rfl, .inl ⟨SqL.of hl, fun t ht => ?_⟩⟩
      exact q t bs _ upd_same (by omega) hB (hE.trans (Ext.new ht)) ((hS'.new ht).mono (by omega))
end

end Z
namespace Z
open PySem L2 SX
theorem an_len : ∀ x ∈ [Str.ofString "ann", Str.ofString "b2"], (tl x).length ≤ 4 := by decide
section
variable {P : Program} {w : World} {K : PySem.W.Frag} {mg : Str → Option Value} {base : Heap}
theorem ok__law_carried_notice (D : Df K mg "_law_carried_notice" s__law_carried_notice ["source", "book", "words", "number"]) (T : Tx mg)  (C__law_boards : Cal P w K mg base "_law_boards" ["source", "words", "most"] 5 (sp58_boards K)) (C__law_body : Cal P w K mg base "_law_body" ["source"] 4 (sp54_body K)) (C__law_draw : Cal P w K mg base "_law_draw" ["source", "many"] 2 sp__law_draw) (C__law_needed : Cal P w K mg base "_law_needed" ["book", "boards"] 4 (sp_seals K)) (C__law_pick : Cal P w K mg base "_law_pick" ["source", "row"] 3 (sp3__law_pick K)) (C__law_row : Cal P w K mg base "_law_row" ["source", "size"] 3 sp__law_row) : Cal P w K mg base "_law_carried_notice" ["source", "book", "words", "number"] 8 (sp58_notice K) := by
  obtain ⟨f__law_boards, fd__law_boards, G__law_boards, g__law_boards, k__law_boards, b__law_boards⟩ := C__law_boards
  obtain ⟨f__law_body, fd__law_body, G__law_body, g__law_body, k__law_body, b__law_body⟩ := C__law_body
  obtain ⟨f__law_draw, fd__law_draw, G__law_draw, g__law_draw, k__law_draw, b__law_draw⟩ := C__law_draw
  obtain ⟨f__law_needed, fd__law_needed, G__law_needed, g__law_needed, k__law_needed, b__law_needed⟩ := C__law_needed
  obtain ⟨f__law_pick, fd__law_pick, G__law_pick, g__law_pick, k__law_pick, b__law_pick⟩ := C__law_pick
  obtain ⟨f__law_row, fd__law_row, G__law_row, g__law_row, k__law_row, b__law_row⟩ := C__law_row
  obtain ⟨f, fd, F, gf, bf⟩ := D
  refine ⟨f, fd, F.ok sc__law_carried_notice (fun vs H Q E h => ?_) (fun cdv A outer s₀ H vs Q E hr h => ?_), gf, F.kp, bf⟩
  · obtain ⟨s, a, w, b, ls, v, ws, k, c, rfl, _⟩ := h; rfl
  · obtain ⟨s, a, w, b, ls, v, ws, k, c, rfl, hb, nl, lne, hW, wns, hWds, k9, hS, q⟩ := h
    refine ⟨_, (pss_cons (ps_set (i := 4) sc__law_carried_notice.nd rfl (Or.inr rfl) (pe_ix ix_tup (pe_call G__law_pick (hr.mono (by decide)) (by rfl) g__law_pick k__law_pick b__law_pick .nil pass0 (pa_cons (pv 0) (pa_cons (pe_ix ix_tup (pv 1) pe_int (fun _ _ => rfl)) pa_nil))) pe_int (fun _ _ => rfl)))
      (pss_cons (ps_set (i := 5) sc__law_carried_notice.nd rfl (Or.inl rfl) (pe_call G__law_boards (hr.mono (by decide)) (by rfl) g__law_boards k__law_boards b__law_boards .nil pass0 (pa_cons (pv 0) (pa_cons (pv 2) (pa_cons pe_int pa_nil)))))
      (pss_cons (ps_set (i := 6) sc__law_carried_notice.nd rfl (Or.inl rfl) (pe_ix ix_tup (pe_call G__law_pick (hr.mono (by decide)) (by rfl) g__law_pick k__law_pick b__law_pick .nil pass0 (pa_cons (pv 0) (pa_cons (pe_ix ix_tup (pv 1) pe_int (fun _ _ => rfl)) pa_nil))) pe_int (fun _ _ => rfl)))
      (C8.pss_cut (ps_if (PW.pt (pw_and (pt_cmpR op_notN (pv 6) pe_non (nomark _)) (pw_and (pt_cmpR op_notIn_seq (pv 6) (pv 5) (by rfl)) (pw_and1 (pt_cmpR op_gt (pe_call G__law_draw (hr.mono (by decide)) (by rfl) g__law_draw k__law_draw b__law_draw .nil pass0 (pa_cons (pv 0) (pa_cons pe_int pa_nil))) pe_int (nomark _))))))
      (pss_one (ps_set (i := 5) sc__law_carried_notice.nd rfl (Or.inl rfl) (pe_ix ix_tup (pe_tup (pa_cons (pe_op (op_cat (K := K) rfl) (pv 5) (pe_tup (pa_cons (pv 6) pa_nil))) (pa_cons (pe_op (op_cat (K := K) rfl) (pe_tup (pa_cons (pv 6) pa_nil)) (pv 5)) pa_nil))) (pe_call G__law_draw (hr.mono (by decide)) (by rfl) g__law_draw k__law_draw b__law_draw .nil pass0 (pa_cons (pv 0) (pa_cons pe_int pa_nil))) (fun _ _ => rfl))))
      pss_nil)
      (pss_cons (ps_set (i := 7) sc__law_carried_notice.nd rfl (Or.inl rfl) (pe_op op_add_str (pe_op op_add_str (pe_call G__law_pick (hr.mono (by decide)) (by rfl) g__law_pick k__law_pick b__law_pick .nil pass0 (pa_cons (pv 0) (pa_cons (pe_lst (pa_cons pe_str (pa_cons pe_str pa_nil))) pa_nil))) pe_str) (pv 4)))
      (pss_cons (ps_setLc (i := 8) (own := [("address", 12)]) (g := gName 12) rfl sc__law_carried_notice.nd rfl rfl (sw_true rfl rfl rfl (by decide +kernel)) (pi_tup (pe_ix ix_tup (pe_call G__law_pick (hr.mono (by decide)) (by rfl) g__law_pick k__law_pick b__law_pick .nil pass0 (pa_cons (pv 0) (pa_cons (pe_ix ix_tup (pv 1) pe_int (fun _ _ => rfl)) pa_nil))) pe_int (fun _ _ => rfl))) (blkOk_by (own := [("address", 12)]) (N := N__law_carried_notice) (sc := defScope s__law_carried_notice) (by decide +kernel)) (fun _ _ _ _ _ => pg_name (i := 12) sc__law_carried_notice.nd rfl (Or.inl rfl)) (fun _ _ _ _ _ => pts_one (pt_cmpR op_eq (pe_ix (ix_listQ (K := K) rfl) (pe_split (pv 12) pe_str) pe_int (fun _ _ => rfl)) (pv 4) (nomark _))) (fun _ _ _ _ _ => (pv 12)))
      (C8.pss_cut (ps_if (PW.pt (pw_and (pt_cmpR op_gt (pe_callB call_len_seq (by rfl) T.n_len PySem.boot_len (pa_cons (pv 8) pa_nil)) pe_int (nomark _)) (pw_and1 (pt_cmpR op_eq (pe_call G__law_draw (hr.mono (by decide)) (by rfl) g__law_draw k__law_draw b__law_draw .nil pass0 (pa_cons (pv 0) (pa_cons pe_int pa_nil))) pe_int (nomark _)))))
      (pss_one (ps_set (i := 7) sc__law_carried_notice.nd rfl (Or.inl rfl) (pe_call G__law_pick (hr.mono (by decide)) (by rfl) g__law_pick k__law_pick b__law_pick .nil pass0 (pa_cons (pv 0) (pa_cons (pv 8) pa_nil)))))
      pss_nil)
      (pss_cons (ps_set (i := 9) sc__law_carried_notice.nd rfl (Or.inl rfl) (pe_tup (pa_cons (pv 4) (pa_cons (pe_op op_add pe_int (pe_op op_mod (pe_callTy call_int1 (by rfl) T.n_int (by decide +kernel) (pa_cons (pv 3) pa_nil)) pe_int)) pa_nil))))
      (pss_cons (ps_set (i := 10) sc__law_carried_notice.nd rfl (Or.inl rfl) (pe_ix ix_tup (pe_tup (pa_cons (pe_tup (pa_cons pe_str pa_nil)) (pa_cons (pe_tup (pa_cons pe_str pa_nil)) (pa_cons (pe_tup (pa_cons pe_str (pa_cons (pv 9) pa_nil))) (pa_cons (pe_tup (pa_cons pe_str (pa_cons (pv 9) pa_nil))) (pa_cons (pe_tup (pa_cons pe_str pa_nil)) pa_nil)))))) (pe_call G__law_draw (hr.mono (by decide)) (by rfl) g__law_draw k__law_draw b__law_draw .nil pass0 (pa_cons (pv 0) (pa_cons pe_int pa_nil))) (fun _ _ => rfl)))
      (pss_cons (ps_set (i := 11) sc__law_carried_notice.nd rfl (Or.inl rfl) (pe_call G__law_needed (hr.mono (by decide)) (by rfl) g__law_needed k__law_needed b__law_needed .nil pass0 (pa_cons (pv 1) (pa_cons (pv 5) pa_nil))))
      (C8.pss_cut (ps_if (pt_cmpR op_eq (pe_ix ix_tup (pv 10) pe_int (fun _ _ => rfl)) pe_str (nomark _))
      (pss_one (ps_set (i := 11) sc__law_carried_notice.nd rfl (Or.inl rfl) (pe_tup pa_nil)))
      pss_nil)
      (pss_one (ps_ret (pe_tup (pa_cons pe_str (pa_cons (pe_tup (pa_cons (pv 4) (pa_cons (pv 3) pa_nil))) (pa_cons (pv 7) (pa_cons pe_int (pa_cons (pv 5) (pa_cons (pe_call G__law_row (hr.mono (by decide)) (by rfl) g__law_row k__law_row b__law_row .nil pass0 (pa_cons (pv 0) (pa_cons pe_int pa_nil))) (pa_cons (pe_tup pa_nil) (pa_cons (pv 10) (pa_cons (pv 11) (pa_cons (pe_call G__law_body (hr.mono (by decide)) (by rfl) g__law_body k__law_body b__law_body .nil pass0 (pa_cons (pv 0) pa_nil)) pa_nil)))))))))))))))))))))))), ?_⟩
    have big : ∀ {n : Nat}, n ≤ 30000 → n < sizeLine := fun h => Nat.lt_of_le_of_lt h (by decide)
    have lln := nl.ln
    have hb0 := hb
    obtain ⟨ba, u0, u1, u2, u3, u4, u5, c6, w6, c7, w7, rfl, hB, d0, d1, d2, d3, d4, d5, h6, e6, h7, e7⟩ := bk_all hb
    obtain ⟨c3, w3, rfl, h3, d3⟩ := d3
    rw [nl.li] at e7
    have wl7 := e7.map_len
    have wl3 := d3.map_len
    have sl := nl.net.ok.si
    have wne : w3 ≠ [] := fun e => nl.net.ne (List.length_eq_zero_iff.mp (by rw [← wl3, e]; rfl))
    have w7ne : w7 ≠ [] := fun e => lne (List.length_eq_zero_iff.mp (by rw [← wl7, e]; rfl))
    -- the name
    refine ⟨_, rfl, _, rfl, ba, _, 3, .ref c3, rfl, rfl, hB, atI_nat (j := 3) rfl, .inr (.inr ⟨s, a, c3, w3, c + 990, rfl, h3, wne, by omega, hS.mono (by omega), fun z H1 zm x1 S1 => ?_⟩)⟩
    obtain ⟨zi, hzi⟩ := List.getElem?_of_mem zm
    obtain ⟨y, hy, dz⟩ := d3.map_get hzi
    have ym := List.mem_of_getElem? hy
    have T1 := TT.ext (K := K) x1 hS
    obtain ⟨za, zus, rfl, hZ, e1, _⟩ := si_at (dz.tk T1.1)
    have yo := nl.net.ok.sn y ym
    refine ⟨za, zus, 1, _, rfl, rfl, hZ, atI_nat (j := 1) e1, ?_⟩
    -- the boards
    refine ⟨_, rfl, _, rfl, s, a, w, ws, 2, c + 700, rfl, x1.seqL wns hW, wns, hWds, by decide, by decide, S1.mono (by omega), fun t bs H2 ht bsl bB x2 S2 => ?_⟩
    have T2 := T1.trans (TT.ext (K := K) x2 S1)
    have E2 := x1.trans x2
    -- the gate
    refine ⟨_, rfl, _, rfl, ba, _, 7, .ref c7, rfl, rfl, T2.1 _ _ hB, atI_nat (j := 7) rfl, .inr (.inr ⟨s, a, c7, w7, c + 690, rfl, T2.1 _ _ h7, w7ne, by omega, S2.mono (by omega), fun z H3 zm3 x3 S3 => ?_⟩)⟩
    have T3 := T2.trans (TT.ext (K := K) x3 S2)
    have E3 := E2.trans x3
    obtain ⟨gi, hgi⟩ := List.getElem?_of_mem zm3
    obtain ⟨e, he, de⟩ := e7.map_get hgi
    have em := List.mem_of_getElem? he
    obtain ⟨ea, eus, c8, w8, rfl, hE, e1', ⟨g2, eg2, dg2⟩, _⟩ := li_at (de.tk T3.1)
    refine ⟨ea, eus, 2, g2, rfl, rfl, hE, atI_nat (j := 2) eg2, ?_⟩
    have ht3 : SqT K H3 t (bs.map V.str) := (TT.ext (K := K) x3 S2).1 _ _ (SqT.of ht)
    have cl : ∀ x ∈ bs, Clean (tl x) := fun x hx => (bB x hx).1.clean
    have bl2 : bs.length ≤ 2 := by omega
    clear T1 T2 x1 x2 x3 S1 S2 ht zm zm3 E2
    refine ⟨fun σ' H' => ∃ (t : Addr) (bs : List Str), σ' = [some (.ref s), some (.ref ba), some (.ref w), some (.int (k : Nat)), some (.str y.n), some (.ref t), some g2, none, none, none, none, none, none] ∧ SqT K H' t (bs.map V.str) ∧ bs.length ≤ 3 ∧ (∀ x ∈ bs, Clean (tl x)) ∧ Ext s H H' ∧ Src H' s a (c + 680) ∧ TT K H H', ?_, ?_⟩
    · cases ed : e.d with
      | none =>
        rw [ed] at dg2
        obtain rfl := DV_non dg2
        exact ⟨_, rfl, rfl, _, rfl, iteF (iteF ⟨t, bs, rfl, ht3, by omega, cl, E3, S3.mono (by omega), T3⟩)⟩
      | some g =>
        rw [ed] at dg2
        obtain rfl := DV_str dg2
        have gc := nl.bo e em g ed
        refine ⟨_, rfl, rfl, _, rfl, iteT ⟨_, rfl, _, rfl, t, _, rfl, .inr ht3, rfl, flat_strs _, _, rfl, ite2 (fun _ => ?_) (fun _ => iteF ⟨t, bs, rfl, ht3, by omega, cl, E3, S3.mono (by omega), T3⟩)⟩⟩
        refine ⟨_, rfl, s, a, 4, c + 689, rfl, by decide, by decide, S3.mono (by omega), fun v4 H4 _ _ x4 S4 => ?_⟩
        have ht4 : SqT K H4 t (bs.map V.str) := (TT.ext (K := K) x4 S3).1 _ _ ht3
        have T4 := T3.trans (TT.ext (K := K) x4 S3)
        refine ⟨_, _, rfl, rfl, _, rfl, ite2 (fun _ => ?_) (fun _ => ⟨t, bs, rfl, ht4, by omega, cl, E3.trans x4, S4.mono (by omega), T4⟩)⟩
        refine ⟨_, rfl, _, rfl, by show 1 ≤ sizeLine; decide, fun P hP => ?_⟩
        have n5 := same_new (o := HO.tup [V.str g]) hP
        refine ⟨t, P, _, _, rfl, rfl, n5.tup ht4, SqT.of upd_same, Nat.le_of_lt (big (by rw [List.length_map]; show _ + 1 ≤ _; omega)), fun R1 H6 m6 hR1 => ?_⟩
        have m46 := n5.trans m6
        refine ⟨_, rfl, by show 1 ≤ sizeLine; decide, fun P2 hP2 => ?_⟩
        have n7 := same_new (o := HO.tup [V.str g]) hP2
        refine ⟨_, rfl, P2, t, _, _, rfl, rfl, SqT.of upd_same, (m46.trans n7).tup ht4, Nat.le_of_lt (big (by rw [List.length_map]; show 1 + _ ≤ _; omega)), fun R2 H8 m8 hR2 => ?_⟩
        refine ⟨by show 2 ≤ sizeLine; decide, fun T hT => ?_⟩
        have n9 := same_new (o := HO.tup [V.ref R1, V.ref R2]) hT
        have m49 := (m46.trans n7).trans (m8.trans n9)
        have S9 := S4.ext m49
        refine ⟨_, rfl, s, a, _, c + 680, rfl, by decide, by decide, S9.mono (by omega), fun z H10 z0 z1 x10 S10 => ?_⟩
        have T10 := TT.ext (K := K) x10 S9
        have TT10 := (T4.trans (TT.same m49)).trans T10
        have EE := ((E3.trans x4).trans (Ext.of m49)).trans x10
        have hT10 : SqT K H10 T [V.ref R1, V.ref R2] := T10.1 _ _ (SqT.of upd_same)
        have z01 : z = 0 ∨ z = 1 := by omega
        rcases z01 with rfl | rfl
        · refine ⟨T, _, 0, _, rfl, rfl, hT10, atI_nat (j := 0) rfl, R1, bs ++ [g], rfl, ?_, by rw [List.length_append]; show _ + 1 ≤ _; omega, ?_, EE, S10, TT10⟩
          · rw [List.map_append]; exact T10.1 _ _ (((n7.trans m8).trans n9).tup hR1)
          · intro x hx
            rcases List.mem_append.mp hx with h | h
            · exact cl x h
            · rw [List.mem_singleton.mp h]; exact gc
        · refine ⟨T, _, 1, _, rfl, rfl, hT10, atI_nat (j := 1) rfl, R2, [g] ++ bs, rfl, ?_, by rw [List.length_append]; show 1 + _ ≤ _; omega, ?_, EE, S10, TT10⟩
          · rw [List.map_append]; exact T10.1 _ _ (n9.tup hR2)
          · intro x hx
            rcases List.mem_append.mp hx with h | h
            · rw [List.mem_singleton.mp h]; exact gc
            · exact cl x h
    clear ht3 bl2 cl bB bsl S3 E3 T3
    rintro σ4 H4 ⟨t, bs, rfl, ht, bsl, cl, E4, S4, T4⟩
    -- the author
    refine ⟨_, rfl, by show 2 ≤ sizeLine; decide, fun B2 hB2 => ?_⟩
    have n5 := same_new (o := HO.lst [V.str (Str.ofString "ann"), V.str (Str.ofString "b2")]) hB2
    refine .inl ⟨s, a, B2, _, c + 670, rfl, SqL.of upd_same, S4.ne hB2, by simp, by show 2 ≤ 100000; decide, (S4.ext n5).mono (by omega), fun z H6 zm6 x6 S6 => ?_⟩
    obtain ⟨au0, hau, rfl⟩ := List.mem_map.mp (show z ∈ List.map V.str [Str.ofString "ann", Str.ofString "b2"] from zm6)
    have y4 := an_len au0 hau
    have y8 := yo.2
    refine ⟨_, _, rfl, rfl, ?_, _, rfl, _, _, rfl, rfl, ?_, ?_⟩
    · refine js2 ?_
      show _ + 1 ≤ _
      omega
    · refine js2 ?_
      rw [tl_app, List.length_append]
      show (_ + 1) + _ ≤ _
      omega
    generalize au0 ++ Str.ofString "@" ++ y.n = au
    have T6 := (T4.trans (TT.same n5)).trans (TT.ext (K := K) x6 (S4.ext n5))
    have E6 := (E4.trans (Ext.of n5)).trans x6
    have ht6 : SqT K H6 t (bs.map V.str) := (TT.ext (K := K) x6 (S4.ext n5)).1 _ _ (n5.tup ht)
    clear n5 x6 hB2 zm6
    -- the members
    refine ⟨_, rfl, _, rfl, ba, _, 7, .ref c7, rfl, rfl, T6.1 _ _ hB, atI_nat (j := 7) rfl, .inr (.inr ⟨s, a, c7, w7, c + 660, rfl, T6.1 _ _ h7, w7ne, by omega, S6.mono (by omega), fun z H7 zm7 x7 S7 => ?_⟩)⟩
    have T7 := T6.trans (TT.ext (K := K) x7 S6)
    have E7 := E6.trans x7
    have ht7 : SqT K H7 t (bs.map V.str) := (TT.ext (K := K) x7 S6).1 _ _ ht6
    obtain ⟨gi, hgi⟩ := List.getElem?_of_mem zm7
    obtain ⟨e, he, de⟩ := e7.map_get hgi
    have em := List.mem_of_getElem? he
    have ml := nl.ml e em
    obtain ⟨ea, eus, c8, w8, rfl, hE, e1', _, e3', hC8, rfl⟩ := li_at (de.tk T7.1)
    refine ⟨ea, eus, 3, .ref c8, rfl, rfl, hE, atI_nat (j := 3) e3', c8, rfl, ⟨_, hC8⟩, fun N hN => ?_⟩
    refine lc_tup (K := K) (a := c8) (xs := e.m.map fun a => V.str (at2 a)) (fun i H' => ∃ ms : List Str, H' N = some (.lst (ms.map V.str)) ∧ ms.length ≤ i ∧ Same H7 H') ⟨[], upd_same, Nat.zero_le _, same_new hN⟩ (fun i H' _ h => by obtain ⟨_, _, _, m⟩ := h; exact m.tup hC8) ?_ ?_
    · rintro i x H8 hi ⟨ms, h8, ml8, m8⟩
      obtain ⟨z, hz, rfl⟩ := map_get hi
      have zo := nl.me e em z (List.mem_of_getElem? hz)
      have il := (List.getElem?_eq_some_iff.mp hz).1
      refine ⟨rfl, _, rfl, ⟨_, rfl⟩, at2 z, Str.ofString "@", rfl, rfl, rfl, Nat.le_trans (len_at2 zo) (by decide), fun B8 hB8 => ?_⟩
      rw [spl_at2 zo.p zo.s]
      have n9 := same_new (o := HO.lst ([z.1, z.2].map V.str)) hB8
      refine ⟨B8, _, 1, _, rfl, rfl, SqL.of upd_same, atI_nat (j := 1) rfl, _, rfl, rfl, _, rfl, ite2 (fun _ => ?_) (fun _ => ⟨ms, n9 _ _ h8, by omega, m8.trans n9⟩)⟩
      refine ⟨_, rfl, _, n9 _ _ h8, by rw [List.length_map]; exact big (by omega), ms ++ [at2 z], by rw [upd_same, List.map_append]; rfl, by rw [List.length_append]; show _ + 1 ≤ _; omega, sput (m8.trans n9) hN⟩
    rintro H8 ⟨ms, h8, ml8, m8⟩
    rw [List.length_map] at ml8
    have S8 := S7.ext m8
    have T8 := T7.trans (TT.same m8)
    have E8 := E7.trans (Ext.of m8)
    have ht8 := m8.tup ht7
    have Ns : N ≠ s := (S7.ne hN)
    refine ⟨fun σ' H' => ∃ au : Str, σ' = [some (.ref s), some (.ref ba), some (.ref w), some (.int (k : Nat)), some (.str y.n), some (.ref t), some g2, some (.str au), some (.ref N), none, none, none, none] ∧ SqT K H' t (bs.map V.str) ∧ Ext s H H' ∧ Src H' s a (c + 640) ∧ TT K H H', ?_, ?_⟩
    · refine ⟨_, rfl, N, _, rfl, .inl (SqL.of h8), _, _, rfl, rfl, _, rfl, ite2 (fun hlen => ?_) (fun _ => iteF ⟨au, rfl, ht8, E8, S8.mono (by omega), T8⟩)⟩
      refine ⟨_, rfl, s, a, 2, c + 650, rfl, by decide, by decide, S8.mono (by omega), fun v9 H9 _ _ x9 S9 => ?_⟩
      have T9 := T8.trans (TT.ext (K := K) x9 S8)
      have ht9 : SqT K H9 t (bs.map V.str) := (TT.ext (K := K) x9 S8).1 _ _ ht8
      refine ⟨rfl, _, rfl, ite2 (fun _ => ?_) (fun _ => ⟨au, rfl, ht9, E8.trans x9, S9.mono (by omega), T9⟩)⟩
      have mne : ms.map V.str ≠ [] := fun h => by
        rw [h] at hlen
        revert hlen
        decide
      refine ⟨_, rfl, _, rfl, .inl ⟨s, a, N, _, c + 640, rfl, SqL.of (x9 _ _ Ns h8), Ns, mne, by rw [List.length_map]; omega, S9.mono (by omega), fun z H10 zm10 x10 S10 => ?_⟩⟩
      obtain ⟨au1, _, rfl⟩ := List.mem_map.mp zm10
      exact ⟨au1, rfl, (TT.ext (K := K) x10 S9).1 _ _ ht9, (E8.trans x9).trans x10, S10, T9.trans (TT.ext (K := K) x10 S9)⟩
    clear ht8 S8 E8 T8 h8 m8 hN S7 E7 T7 ht7
    rintro σ9 H9 ⟨au, rfl, ht9, E9, S9, T9⟩
    -- the other
    refine ⟨_, rfl, _, rfl, .inl ⟨_, rfl, _, _, rfl, rfl, by show (0 : Int) < 999999; decide, _, _, rfl, rfl, by show 2 ≤ sizeLine; decide, fun O hO => ?_⟩⟩
    have n10 := same_new (o := HO.tup [V.str y.n, V.int (1 + ((k : Nat) : Int) % 999999)]) hO
    have dO : DV K (upd H9 O (HO.tup [V.str y.n, V.int (1 + ((k : Nat) : Int) % 999999)])) (.tup [.str y.n, .int (1 + ((k : Nat) : Int) % 999999)]) (.ref O) := ⟨O, _, rfl, SqT.of upd_same, dlc (dls _) (dlc (dli _) dln)⟩
    have S10 := S9.ext n10
    have E10 := E9.trans (Ext.of n10)
    have T10 := T9.trans (TT.same n10)
    have ht10 := n10.tup ht9
    generalize upd H9 O (HO.tup [V.str y.n, V.int (1 + ((k : Nat) : Int) % 999999)]) = H10 at dO S10 E10 T10 ht10 ⊢
    generalize (1 : Int) + ((k : Nat) : Int) % 999999 = ok' at dO
    -- the kind
    refine ⟨by show 1 ≤ sizeLine; decide, fun K1 hK1 => ⟨by show 1 ≤ sizeLine; decide, fun K2 hK2 => ⟨_, rfl, by show 2 ≤ sizeLine; decide, fun K3 hK3 => ⟨_, rfl, by show 2 ≤ sizeLine; decide, fun K4 hK4 => ⟨by show 1 ≤ sizeLine; decide, fun K5 hK5 => ⟨by show 5 ≤ sizeLine; decide, fun KK hKK => ?_⟩⟩⟩⟩⟩⟩
    have p1 := same_new (o := HO.tup [V.str (Str.ofString "post")]) hK1
    have p2 := same_new (o := HO.tup [V.str (Str.ofString "post")]) hK2
    have p3 := same_new (o := HO.tup [V.str (Str.ofString "replace"), V.ref O]) hK3
    have p4 := same_new (o := HO.tup [V.str (Str.ofString "strike"), V.ref O]) hK4
    have p5 := same_new (o := HO.tup [V.str (Str.ofString "post")]) hK5
    have p6 := same_new (o := HO.tup [V.ref K1, V.ref K2, V.ref K3, V.ref K4, V.ref K5]) hKK
    have p56 := p5.trans p6
    have p46 := p4.trans p56
    have p36 := p3.trans p46
    have p26 := p2.trans p36
    have p16 := p1.trans p26
    have S16 := S10.ext p16
    refine ⟨_, rfl, s, a, 5, c + 630, rfl, by decide, by decide, S16.mono (by omega), fun z H11 z0 z1 x11 S11 => ?_⟩
    have X := TT.ext (K := K) x11 S16
    have q1 := X.1 _ _ (SqT.of (p26 _ _ (upd_same (H := H10) (a := K1) (o := HO.tup [V.str (Str.ofString "post")]))))
    have q2 := X.1 _ _ (SqT.of (p36 _ _ (upd_same (a := K2) (o := HO.tup [V.str (Str.ofString "post")]))))
    have q3 := X.1 _ _ (SqT.of (p46 _ _ (upd_same (a := K3) (o := HO.tup [V.str (Str.ofString "replace"), V.ref O]))))
    have q4 := X.1 _ _ (SqT.of (p56 _ _ (upd_same (a := K4) (o := HO.tup [V.str (Str.ofString "strike"), V.ref O]))))
    have q5 := X.1 _ _ (SqT.of (p6 _ _ (upd_same (a := K5) (o := HO.tup [V.str (Str.ofString "post")]))))
    have qK := X.1 _ _ (SqT.of (upd_same (a := KK) (o := HO.tup [V.ref K1, V.ref K2, V.ref K3, V.ref K4, V.ref K5])))
    have X10 := (TT.same (K := K) p16).trans X
    have dO11 := dO.tk X10.1
    have ht11 := X10.1 _ _ ht10
    have T11 := T10.trans X10
    have E11 := (E10.trans (Ext.of p16)).trans x11
    obtain ⟨kc, ks, wd, ot, hkv, hkc, ek, dkv, otl, otd⟩ : ∃ (kc : Addr) (ks : List V) (wd : Str) (ot : List D), atI [V.ref K1, V.ref K2, V.ref K3, V.ref K4, V.ref K5] z = some (.ref kc) ∧ SqT K H11 kc ks ∧ atI ks 0 = some (.str wd) ∧ DVs K H11 (.str wd :: ot) ks ∧ ot.length ≤ 1 ∧ ∀ d ∈ ot, DL 2 d := by
      have dl2 : ∀ d ∈ [D.tup [.str y.n, .int ok']], DL 2 d := fun d h => by rw [List.mem_singleton.mp h]; exact dlT (by show 2 ≤ 1000000; decide) (dlC trivial (dlC trivial dlN))
      have : z = 0 ∨ z = 1 ∨ z = 2 ∨ z = 3 ∨ z = 4 := by omega
      rcases this with rfl | rfl | rfl | rfl | rfl
      · exact ⟨K1, _, _, [], rfl, q1, rfl, dlc (dls _) dln, Nat.zero_le _, fun _ h => by cases h⟩
      · exact ⟨K2, _, _, [], rfl, q2, rfl, dlc (dls _) dln, Nat.zero_le _, fun _ h => by cases h⟩
      · exact ⟨K3, _, _, [_], rfl, q3, rfl, dlc (dls _) (dlc dO11 dln), Nat.le_refl _, dl2⟩
      · exact ⟨K4, _, _, [_], rfl, q4, rfl, dlc (dls _) (dlc dO11 dln), Nat.le_refl _, dl2⟩
      · exact ⟨K5, _, _, [], rfl, q5, rfl, dlc (dls _) dln, Nat.zero_le _, fun _ h => by cases h⟩
    refine ⟨KK, _, z, .ref kc, rfl, rfl, qK, hkv, ?_⟩
    clear q1 q2 q3 q4 q5 qK p1 p2 p3 p4 p5 p6 p16 p26 p36 p46 p56 X S16 hK1 hK2 hK3 hK4 hK5 hKK dO dO11 X10 ht10 T10 E10 S10 x11 hkv
    -- the seals
    refine ⟨_, rfl, _, rfl, b, .ref ba, t, bs, rfl, hb0.tk T11.1, nl.net.ok, ht11, by omega, cl, fun ST H12 m12 hST => ?_⟩
    have se10 := seals_ten (b := b) (bs := bs) (by omega)
    have S12 := S11.ext m12
    have T12 := T11.trans (TT.same m12)
    have E12 := E11.trans (Ext.of m12)
    have ht12 := m12.tup ht11
    have hkc12 := m12.tup hkc
    have dkv12 := dkv.tk (TK.same m12)
    refine ⟨fun σ' H' => ∃ (ST : Addr) (se : List Str), σ' = [some (.ref s), some (.ref ba), some (.ref w), some (.int (k : Nat)), some (.str y.n), some (.ref t), some g2, some (.str au), some (.ref N), some (.ref O), some (.ref kc), some (.ref ST), none] ∧ SqT K H' ST (se.map V.str) ∧ se.length ≤ 100 ∧ Same H12 H', ?_, ?_⟩
    · refine ⟨_, rfl, kc, ks, 0, _, rfl, rfl, hkc12, ek, rfl, _, rfl, ite2 (fun _ => ?_) (fun _ => ⟨ST, sealsL b bs, rfl, hST, by omega, .refl _⟩)⟩
      exact ⟨Nat.zero_le _, fun E hE => ⟨E, [], rfl, SqT.of upd_same, Nat.zero_le _, same_new hE⟩⟩
    rintro σ13 H13 ⟨ST, se, rfl, hST, sel, m13⟩
    have S13 := S12.ext m13
    have T13 := T12.trans (TT.same m13)
    have E13 := E12.trans (Ext.of m13)
    have ht13 := m13.tup ht12
    have hkc13 := m13.tup hkc12
    have dkv13 := dkv12.tk (TK.same m13)
    clear T12 E12 ht12 hkc12 dkv12 S12 m12 m13 T11 E11 ht11 S11 hkc dkv
    -- the notice
    refine ⟨_, rfl, _, rfl, by show 2 ≤ sizeLine; decide, fun I hI => ?_⟩
    have n14 := same_new (o := HO.tup [V.str y.n, V.int (k : Nat)]) hI
    have S14 := S13.ext n14
    refine ⟨_, rfl, _, rfl, _, rfl, s, a, 4, c + 600, rfl, by decide, by decide, S14.mono (by show c + 600 + 4 ≤ _; omega), fun ro H15 _ _ x15 S15 => ?_⟩
    refine ⟨Nat.zero_le _, fun RF hRF => ?_⟩
    have n16 := same_new (o := HO.tup []) hRF
    have S16 := S15.ext n16
    refine ⟨_, rfl, _, rfl, _, rfl, s, a, c, rfl, S16.mono (by omega), fun bd bv H17 dbv dlb x17 S17 => ?_⟩
    refine ⟨by show 10 ≤ sizeLine; decide, fun TT' hT => ?_⟩
    have n18 := same_new (o := HO.tup [V.str (Str.ofString "notice"), V.ref I, V.str au, V.int 5, V.ref t, V.str ro, V.ref RF, V.ref kc, V.ref ST, bv]) hT
    have XA := TT.ext (K := K) x15 S14
    have XB := (TT.ext (K := K) x17 S16).trans (TT.same n18)
    have XC := (XA.trans (TT.same n16)).trans XB
    have XD := (TT.same (K := K) n14).trans XC
    have hI18 := XC.2 _ _ (upd_same (H := H13) (a := I) (o := HO.tup [V.str y.n, V.int (k : Nat)]))
    have hRF18 := XB.1 _ _ (SqT.of (upd_same (H := H15) (a := RF) (o := HO.tup [])))
    refine q ⟨y.n, k, au, 5, bs, ro, [], wd, ot, se, bd⟩ _ _ ⟨⟨yo.2, k9, ⟨by show bs.length ≤ 10; omega, cl⟩, by show se.length ≤ 1000; omega, ⟨Nat.zero_le _, (fun _ h => by cases h)⟩, ⟨by show ot.length ≤ 1000; omega, otd⟩, dlb⟩, ⟨yo.1, by show (tl y.n).length ≤ 1000; omega⟩, TT', I, _, rfl, SqT.of upd_same, dlc (dls _) (dlc ⟨I, _, rfl, SqT.of hI18, dlc (dls _) (dlc (dli _) dln)⟩ (dlc (dls _) (dlc (dli _) (dlc ⟨t, _, rfl, XD.1 _ _ ht13, txt_dvs _⟩ (dlc (dls _) (dlc ⟨RF, [], rfl, hRF18, dln⟩ (dlc ⟨kc, ks, rfl, XD.1 _ _ hkc13, dkv13.tk XD.1⟩ (dlc ⟨ST, _, rfl, XD.1 _ _ hST, txt_dvs _⟩ (dlc (dbv.tk (TK.same n18)) dln))))))))), rfl, hI18⟩ ?_ (S17.ext n18)
    exact ((((E13.trans (Ext.of n14)).trans x15).trans (Ext.of n16)).trans x17).trans (Ext.of n18)
end

end Z
namespace Z
open PySem L2 SX
theorem LtAt.tk {K : PySem.W.Frag} {H H' : Hp} {t : Nt} {u : V} {h m : Str} {r : V} (T : TK K H H') (x : LtAt K H t u h m r) : LtAt K H' t u h m r := by
  obtain ⟨x0, L, p, key, x1, x2, x3⟩ := x
  exact ⟨x0.tk T, L, p, key, x1, T _ _ x2, T _ _ x3⟩
theorem he_dl {b : Bk} {ls : List Li} {E : List (Str × Idn)} {a : Str} {t : Nt} (ok : NtOk t) : DLs 8 (heO b ls E a t) := fun d hd => by
  unfold heO at hd
  split at hd
  · exact out_dl ok d hd
  · cases hd
theorem he_len {b : Bk} {ls : List Li} (nl : NetL b ls) {E : List (Str × Idn)} {a : Str} {t : Nt} : (heO b ls E a t).length ≤ 20 := by
  unfold heO
  split
  · rename_i h
    obtain ⟨e, he, rfl⟩ := List.mem_map.mp h
    exact out_len nl he
  · exact Nat.zero_le _
theorem tkr_dl {b : Bk} {ls : List Li} {s : Str} {E : List (Str × Idn)} {t : Nt} (ok : NtOk t) : DLs 8 (tkR b ls s E t).2 := by
  unfold tkR
  split
  · exact dlN
  · exact tk_dl ok dlN
theorem tkr_len {b : Bk} {ls : List Li} (nl : NetL b ls) {s : Str} {E : List (Str × Idn)} {t : Nt} : (tkR b ls s E t).2.length ≤ 200 := by
  unfold tkR
  split
  · exact Nat.zero_le _
  · have h1 := tk_len nl (t := t) (S := (E, [])) (g := gatesL b ls s t.bs) fun a ha => gate_home ha
    have h2 := gate_len nl (s := s) (bs := t.bs)
    have h3 : ((E, ([] : List D)) : List (Str × Idn) × List D).2.length = 0 := rfl
    omega
/-- the desk first, then its model -/
theorem two_step {K : PySem.W.Frag} {C : Addr} {H H1 H2 : Hp} {o p : Addr} {v : V} {n : Str} {E' B' : List (Str × Idn)} {F1 F2 F1' F2' : List Addr} {m : Nat}
    (d : DkE K C H1 o v n E' B' F1' m) (g1 : Gr K F1 H F1' H1) (md : MdE K H2 p E' B' F2' m) (g2 : Gr K F2 H1 F2' H2) (l2 : Live H F2) (dj : ∀ q ∈ F2, q ∉ F1) :
    Both K C H2 o p v n (F1' ++ F2') m ∧ Gr K (F1 ++ F2) H (F1' ++ F2') H2 := by
  have o1 := g1.off dj l2
  have o2 := g2.off (G := F1') (fun q hq h => o1.2 q h hq) d.live
  exact ⟨⟨E', B', F1', F2', d.keep g2.tt o2.1, md, rfl, fun q hq h => o2.2 q h hq⟩, (g1.more F2).trans (g2.more2 F1')⟩
section
variable {P : Program} {w : World} {K : PySem.W.Frag} {mg : Str → Option Value} {base : Heap}
theorem ok__law_deed_right (D : Df K mg "_law_deed_right" s__law_deed_right ["source", "book", "spreads", "desk", "model", "name", "notices"]) (T : Tx mg) {A_ListDesk : Addr} (O : To K mg A_ListDesk)  (C_ListDesk__hear : CalM P w K mg base A_ListDesk "hear" ["self", "letter"] 5 (sp58_hear K A_ListDesk)) (C_ListDesk__take : CalM P w K mg base A_ListDesk "take" ["self", "notice"] 7 (sp58_take K A_ListDesk)) (C__law_copy : Cal P w K mg base "_law_copy" ["notice", "home", "member"] 1 (sp58_copy K)) (C__law_draw : Cal P w K mg base "_law_draw" ["source", "many"] 2 sp__law_draw) (C__law_hear_due : Cal P w K mg base "_law_hear_due" ["book", "spreads", "model", "letter"] 5 (sp58_lhear K)) (C__law_lets_some : Cal P w K mg base "_law_lets_some" ["pattern", "boards"] 3 (sp__law_lets_some K)) (C__law_pick : Cal P w K mg base "_law_pick" ["source", "row"] 3 (sp3__law_pick K)) (C__law_same : Cal P w K mg base "_law_same" ["actual", "due"] 12 (sp__law_same K 11)) (C__law_site : Cal P w K mg base "_law_site" ["book", "name"] 1 (sp_site_of K)) (C__law_take_due : Cal P w K mg base "_law_take_due" ["book", "spreads", "model", "name", "notice"] 7 (sp58_ltake K)) (C__law_ways_here : Cal P w K mg base "_law_ways_here" ["book", "spreads", "name"] 1 (sp58_ways K)) : Cal P w K mg base "_law_deed_right" ["source", "book", "spreads", "desk", "model", "name", "notices"] 13 (sp58_deed K A_ListDesk) := by
  obtain ⟨f_ListDesk__hear, fd_ListDesk__hear, G_ListDesk__hear, h_ListDesk__hear, b_ListDesk__hear⟩ := C_ListDesk__hear
  obtain ⟨f_ListDesk__take, fd_ListDesk__take, G_ListDesk__take, h_ListDesk__take, b_ListDesk__take⟩ := C_ListDesk__take
  obtain ⟨f__law_copy, fd__law_copy, G__law_copy, g__law_copy, k__law_copy, b__law_copy⟩ := C__law_copy
  obtain ⟨f__law_draw, fd__law_draw, G__law_draw, g__law_draw, k__law_draw, b__law_draw⟩ := C__law_draw
  obtain ⟨f__law_hear_due, fd__law_hear_due, G__law_hear_due, g__law_hear_due, k__law_hear_due, b__law_hear_due⟩ := C__law_hear_due
  obtain ⟨f__law_lets_some, fd__law_lets_some, G__law_lets_some, g__law_lets_some, k__law_lets_some, b__law_lets_some⟩ := C__law_lets_some
  obtain ⟨f__law_pick, fd__law_pick, G__law_pick, g__law_pick, k__law_pick, b__law_pick⟩ := C__law_pick
  obtain ⟨f__law_same, fd__law_same, G__law_same, g__law_same, k__law_same, b__law_same⟩ := C__law_same
  obtain ⟨f__law_site, fd__law_site, G__law_site, g__law_site, k__law_site, b__law_site⟩ := C__law_site
  obtain ⟨f__law_take_due, fd__law_take_due, G__law_take_due, g__law_take_due, k__law_take_due, b__law_take_due⟩ := C__law_take_due
  obtain ⟨f__law_ways_here, fd__law_ways_here, G__law_ways_here, g__law_ways_here, k__law_ways_here, b__law_ways_here⟩ := C__law_ways_here
  obtain ⟨f, fd, F, gf, bf⟩ := D
  refine ⟨f, fd, F.ok sc__law_deed_right (fun vs H Q E h => ?_) (fun cdv A outer s₀ H vs Q E hr h => ?_), gf, F.kp, bf⟩
  · obtain ⟨s, a, b, ls, v, sp, o, p, ns, n, us, F, G, m, c, rfl, _⟩ := h; rfl
  · obtain ⟨s, a, b, ls, v, sp, o, p, ns, n, us, F, G, m, c, rfl, hb, nl, spx, gl, gF, sG, sF, aF, bo, nn, hns, nss, une, ul, un, m4, hS, q⟩ := h
    refine ⟨_, (pss_cons (ps_set (i := 7) sc__law_deed_right.nd rfl (Or.inr rfl) (pe_call G__law_pick (hr.mono (by decide)) (by rfl) g__law_pick k__law_pick b__law_pick .nil pass0 (pa_cons (pv 0) (pa_cons (pv 6) pa_nil))))
      (pss_cons (ps_setLc (i := 8) (own := [("pair", 12)]) (g := gName 12) rfl sc__law_deed_right.nd rfl rfl (sw_true rfl rfl rfl (by decide +kernel)) (pi_list (pe_call G__law_ways_here (hr.mono (by decide)) (by rfl) g__law_ways_here k__law_ways_here b__law_ways_here .nil pass0 (pa_cons (pv 1) (pa_cons (pv 2) (pa_cons (pv 5) pa_nil))))) (blkOk_by (own := [("pair", 12)]) (N := N__law_deed_right) (sc := defScope s__law_deed_right) (by decide +kernel)) (fun _ _ _ _ _ => pg_name (i := 12) sc__law_deed_right.nd rfl (Or.inl rfl)) (fun _ _ _ _ _ => pts_one (PW.pt (pw_or (pt_cmpR op_ne (pe_ix (ix_listQ (K := K) rfl) (pe_split (pe_ix (ix_tupQ (K := K) rfl) (pv 12) pe_int (fun _ _ => rfl)) pe_str) pe_int (fun _ _ => rfl)) (pv 5) (nomark _)) (pw_or1 (pt_cmpR (op_inDDQ (K := K) rfl (room65 hr)) (pe_tup (pa_cons (pe_ix (ix_tupQ (K := K) rfl) (pv 12) pe_int (fun _ _ => rfl)) (pa_cons (pe_ix (ix_tupQ (K := K) rfl) (pv 7) pe_int (fun _ _ => rfl)) pa_nil))) (pe_ix (ix_listQ (K := K) rfl) (pv 4) pe_int (fun _ _ => rfl)) (by rfl)))))) (fun _ _ _ _ _ => (pv 12)))
      (pss_cons (ps_if (PW.pt (pw_or (pt_cmpR op_eq (pe_call G__law_draw (hr.mono (by decide)) (by rfl) g__law_draw k__law_draw b__law_draw .nil pass0 (pa_cons (pv 0) (pa_cons pe_int pa_nil))) pe_int (nomark _)) (pw_or (pt_cmpR op_eq (pe_callB call_len_seq (by rfl) T.n_len PySem.boot_len (pa_cons (pv 8) pa_nil)) pe_int (nomark _)) (pw_or1 (pt_cmpR op_eq (pe_ix ix_tup (pe_ix ix_tup (pv 7) pe_int (fun _ _ => rfl)) pe_int (fun _ _ => rfl)) pe_str (nomark _))))))
      (pss_cons (ps_if (pt_not (pt_val (pe_call G__law_lets_some (hr.mono (by decide)) (by rfl) g__law_lets_some k__law_lets_some b__law_lets_some .nil pass0 (pa_cons (pe_ix ix_tup (pe_call G__law_site (hr.mono (by decide)) (by rfl) g__law_site k__law_site b__law_site .nil pass0 (pa_cons (pv 1) (pa_cons (pv 5) pa_nil))) pe_int (fun _ _ => rfl)) (pa_cons (pe_ix ix_tup (pv 7) pe_int (fun _ _ => rfl)) pa_nil)))))
        (pss_one (ps_ret pe_bl))
        pss_nil)
        (pss_one (ps_ret (pe_call G__law_same (hr.mono (by decide)) (by rfl) g__law_same k__law_same b__law_same .nil pass0 (pa_cons (pe_meth (pv 3) O.c_ListDesk h_ListDesk__take G_ListDesk__take (hr.mono (by decide)) b_ListDesk__take .nil pass0 (pa_cons (pv 7) pa_nil)) (pa_cons (pe_call G__law_take_due (hr.mono (by decide)) (by rfl) g__law_take_due k__law_take_due b__law_take_due .nil pass0 (pa_cons (pv 1) (pa_cons (pv 2) (pa_cons (pv 4) (pa_cons (pv 5) (pa_cons (pv 7) pa_nil)))))) pa_nil))))))
      pss_nil)
      (pss_cons (ps_asg (pe_call G__law_pick (hr.mono (by decide)) (by rfl) g__law_pick k__law_pick b__law_pick .nil pass0 (pa_cons (pv 0) (pa_cons (pv 8) pa_nil))) (pg_tup rfl (pgs_cons (pg_name (i := 9) sc__law_deed_right.nd rfl (Or.inl rfl)) (pgs_cons (pg_name (i := 10) sc__law_deed_right.nd rfl (Or.inl rfl)) pgs_nil))))
      (pss_cons (ps_set (i := 11) sc__law_deed_right.nd rfl (Or.inl rfl) (pe_call G__law_copy (hr.mono (by decide)) (by rfl) g__law_copy k__law_copy b__law_copy .nil pass0 (pa_cons (pv 7) (pa_cons (pv 9) (pa_cons (pv 10) pa_nil)))))
      (pss_one (ps_ret (pe_call G__law_same (hr.mono (by decide)) (by rfl) g__law_same k__law_same b__law_same .nil pass0 (pa_cons (pe_meth (pv 3) O.c_ListDesk h_ListDesk__hear G_ListDesk__hear (hr.mono (by decide)) b_ListDesk__hear .nil pass0 (pa_cons (pv 11) pa_nil)) (pa_cons (pe_call G__law_hear_due (hr.mono (by decide)) (by rfl) g__law_hear_due k__law_hear_due b__law_hear_due .nil pass0 (pa_cons (pv 1) (pa_cons (pv 2) (pa_cons (pv 4) (pa_cons (pv 11) pa_nil))))) pa_nil)))))))))), ?_⟩
    have big : ∀ {n : Nat}, n ≤ 30000 → n < sizeLine := fun h => Nat.lt_of_le_of_lt h (by decide)
    have lln := nl.ln
    -- the notice
    refine ⟨_, rfl, _, rfl, .inl ⟨s, a, ns, us, c + 2, rfl, SqL.of hns, nss, une, by omega, hS.mono (by omega), fun z H1 zm x1 S1 => ?_⟩⟩
    obtain ⟨t, du⟩ := un z zm
    have T1 := TT.ext (K := K) x1 hS
    have du := du.tt T1
    have hb := hb.tk T1.1
    have spx := spx.keep fun x hx w hw => x1 x w (fun e => sG (by rw [← e]; exact hx)) hw
    have gl := gl.of fun x hx w hw => x1 x w (fun e => sG (by rw [← e]; exact hx)) hw
    have bo := bo.keep T1 fun x hx w hw => x1 x w (fun e => sF (by rw [← e]; exact hx)) hw
    have g1 := Gr.src (K := K) (F := F) x1 hS
    clear hS T1 hns zm un
    -- the ways
    refine ⟨_, rfl, _, rfl, _, rfl, b, ls, v, sp, n, G, rfl, hb, nl, spx, nn, fun P ps H2 m2 hP pl pr => ⟨P, rfl, ⟨_, SqL.of hP⟩, fun N hN => ?_⟩⟩
    have du2 := du.tt (TT.same m2)
    have bo2 := bo.same m2
    obtain ⟨E, B, F1, F2, dk2, md2, rfl, dj⟩ := bo2
    have md2' := md2
    obtain ⟨L, D, bl, mm, rfl⟩ := md2
    obtain ⟨us0, hu0, hd0⟩ := mm.ex
    obtain ⟨ua, ui, ub, uk, uus, uks, rfl, hA, uul, e1, hi, e4, hb4, e7, hk, k0⟩ := du2.at
    refine lc_list (K := K) (a := P) (xs := ps) (fun i H' => ∃ ws : List V, H' N = some (.lst ws) ∧ ws.length ≤ i ∧ (∀ w ∈ ws, PrAt K b ls H' w) ∧ Same H2 H') ⟨[], upd_same, Nat.zero_le _, (fun _ h => by cases h), same_new hN⟩ (fun i H' _ h => by obtain ⟨_, _, _, _, m⟩ := h; exact SqL.of (m _ _ hP)) ?_ ?_
    · rintro i x H3 hi3 ⟨ws, h3, wl, wp, m3⟩
      have il := (List.getElem?_eq_some_iff.mp hi3).1
      obtain ⟨pc, e, y, rfl, hpc, em, yo⟩ := PrAt.same m3 (pr x (List.mem_of_getElem? hi3))
      have ho := nl.ho e em
      have fin : ∀ H4, Same H3 H4 → ∃ acc, H4 N = some (.lst acc) ∧ acc.length < sizeLine ∧ ∃ ws : List V, (upd H4 N (.lst (acc ++ [V.ref pc]))) N = some (.lst ws) ∧ ws.length ≤ i + 1 ∧ (∀ w ∈ ws, PrAt K b ls (upd H4 N (.lst (acc ++ [V.ref pc]))) w) ∧ Same H2 (upd H4 N (.lst (acc ++ [V.ref pc]))) := fun H4 m4 => by
        have T := tk_put (K := K) (o := HO.lst (ws ++ [V.ref pc])) (m4 _ _ h3)
        refine ⟨ws, m4 _ _ h3, big (by omega), ws ++ [.ref pc], upd_same, by rw [List.length_append]; show _ + 1 ≤ _; omega, fun w hw => ?_, sput (m3.trans m4) hN⟩
        rcases List.mem_append.mp hw with k | k
        · exact (PrAt.same m4 (wp w k)).tk T
        · exact ⟨pc, e, y, List.mem_singleton.mp k, T _ _ (m4.tup hpc), em, yo⟩
      refine ⟨rfl, _, rfl, pc, _, 0, _, rfl, rfl, hpc, atI_nat (j := 0) rfl, ⟨_, rfl⟩, at2 e.h, Str.ofString "@", rfl, rfl, rfl, Nat.le_trans (len_at2 ho) (by decide), fun B4 hB4 => ?_⟩
      rw [spl_at2 ho.p ho.s]
      have n4 := same_new (o := HO.lst ([e.h.1, e.h.2].map V.str)) hB4
      refine ⟨B4, _, 1, _, rfl, rfl, SqL.of upd_same, atI_nat (j := 1) rfl, _, rfl, rfl, _, rfl, ite2 (fun _ => iteT ⟨_, rfl, fin _ n4⟩) (fun _ => ?_)⟩
      have m4' := m3.trans n4
      refine ⟨_, rfl, pc, _, 0, _, rfl, rfl, n4.tup hpc, atI_nat (j := 0) rfl, _, rfl, ua, uus, 1, .ref ui, rfl, rfl, m4'.tup hA, e1, by show 2 ≤ sizeLine; decide, fun T hT => ?_⟩
      have n5 := same_new (o := HO.tup [V.str (at2 e.h), V.ref ui]) hT
      have m5 := m4'.trans n5
      refine ⟨_, rfl, p, _, 0, _, rfl, rfl, SqL.of (m5 _ _ mm.ob), atI_nat (j := 0) rfl, exD (at2 e.h, nid t), L, us0, E.map exD, ⟨T, _, rfl, SqT.of upd_same, dlc (dls _) (dlc (id_dv8 (m5 _ _ hi)) dln)⟩, rfl, SqL.of (m5 _ _ hu0), hd0.tk (TK.same m5), ex_okd du2.2.1 (sm_at2 ho), ex_okl mm.em.2, _, rfl, ite2 (fun _ => ⟨_, rfl, fin _ (n4.trans n5)⟩) (fun _ => ⟨ws, (n4.trans n5) _ _ h3, by omega, fun w hw => PrAt.same (n4.trans n5) (wp w hw), m5⟩)⟩
    rintro H3 ⟨ws, h3, wl, wp, m3⟩
    have m23 := m2.trans m3
    have S3 := S1.ext m23
    have Ns : N ≠ s := (S1.ext m2).ne hN
    have NF : N ∉ F1 ++ mdF p L D bl := fun h => by
      obtain ⟨w, hw⟩ := bo.live N h
      have := Same.free m2 hN
      rw [this] at hw; cases hw
    -- which deed
    refine ⟨_, rfl, s, a, 3, c + 1, rfl, by decide, by decide, S3.mono (by omega), fun v4 H4 _ _ x4 S4 => ?_⟩
    have T4 := (TT.same (K := K) m23).trans (TT.ext (K := K) x4 S3)
    have k14 : ∀ x w, x ≠ s → H1 x = some w → H4 x = some w := fun x w hx hw => x4 x w hx (m23 _ _ hw)
    have du4 := du.tt T4
    have hb4' := hb.tk T4.1
    have spx4 := spx.keep fun x hx w hw => k14 x w (fun e => sG (by rw [← e]; exact hx)) hw
    have gl4 := gl.of fun x hx w hw => k14 x w (fun e => sG (by rw [← e]; exact hx)) hw
    have ne4 : ∀ x ∈ F1 ++ mdF p L D bl, x ≠ s := fun x hx e => sF (by rw [← e]; exact hx)
    have T34 := TT.ext (K := K) x4 S3
    have dk4 : DkE K A_ListDesk H4 o v n E B F1 m := (dk2.same m3).keep T34 fun x hx w hw => x4 x w (ne4 x (List.mem_append_left _ hx)) hw
    have md4 : MdE K H4 p E B (mdF p L D bl) m := (md2'.same m3).keep T34 fun x hx w hw => x4 x w (ne4 x (List.mem_append_right _ hx)) hw
    have h4 := x4 _ _ Ns h3
    have wp4 : ∀ w ∈ ws, PrAt K b ls H4 w := fun w hw => (wp w hw).tk T34.1
    have g4 := (g1.trans (Gr.same m23)).trans (Gr.src (F := F1 ++ mdF p L D bl) x4 S3)
    have hA4 := T34.1 _ _ (m3.tup hA)
    have hk4 := T34.1 _ _ (m3.tup hk)
    have hb44 := T34.1 _ _ (m3.tup hb4)
    have dk4' := dk4
    obtain ⟨X1, X2, l1, l2, dd4, eF1⟩ := dk4
    obtain ⟨dx, ob4⟩ := dd4.ob
    refine ⟨rfl, _, rfl, ite2 (fun _ => iteT ?_) (fun _ => ⟨_, rfl, N, _, rfl, .inl (SqL.of h4), rfl, _, rfl, ite2 (fun _ => iteT ?_) (fun hwne => ⟨_, rfl, ua, uus, 7, .ref uk, rfl, rfl, hA4, e7, uk, uks, 0, _, rfl, rfl, hk4, k0, rfl, _, rfl, ite2 (fun _ => ?_) (fun _ => ?_)⟩)⟩)⟩
    rotate_left 3
    · -- a letter
      have wne : ws ≠ [] := fun h => by
        rw [h] at hwne
        revert hwne
        decide
      refine ⟨_, rfl, _, rfl, .inl ⟨s, a, N, ws, c, rfl, SqL.of h4, Ns, wne, by omega, S4, fun z H5 zm x5 S5 => ?_⟩⟩
      have T5 := TT.ext (K := K) x5 S4
      obtain ⟨pc, e, y, rfl, hpc, em, yo⟩ := (wp4 z zm).tk T5.1
      have ho := nl.ho e em
      have du5 := du4.tt T5
      refine ⟨pc, _, rfl, hpc, rfl, _, _, rfl, _, _, rfl, rfl, ?_⟩
      refine ⟨_, rfl, _, rfl, _, rfl, t, .ref ua, at2 e.h, at2 y, rfl, du5, by have := ad_len ho; omega, by have := ad_len yo; omega, fun w H6 m6 hw => ?_⟩
      have T6 := T5.trans (TT.same m6)
      have du6 := du5.tt (TT.same m6)
      have k46 : ∀ x w, x ≠ s → H4 x = some w → H6 x = some w := fun x w hx hw => m6 _ _ (x5 x w hx hw)
      have dk6 := dk4'.keep T6 fun x hx w hw => k46 x w (ne4 x (List.mem_append_left _ hx)) hw
      have md6 := md4.keep T6 fun x hx w hw => k46 x w (ne4 x (List.mem_append_right _ hx)) hw
      have spx6 := spx4.keep fun x hx w hw => k46 x w (fun e => sG (by rw [← e]; exact hx)) hw
      have gl6 := gl4.of fun x hx w hw => k46 x w (fun e => sG (by rw [← e]; exact hx)) hw
      have hb6 := hb4'.tk T6.1
      have dk6' := dk6
      obtain ⟨Y1, Y2, j1, j2, dd6, eF6⟩ := dk6'
      obtain ⟨dx6, ob6⟩ := dd6.ob
      refine ⟨_, rfl, o, dx6, _, rfl, ob6, rfl, _, rfl, o, b, ls, v, n, E, B, F1, m, t, .ref ua, w, at2 e.h, y, rfl, dk6, hb6, nl, du6, hw, yo, m4, fun r F1' H7 dr dk7 g7 => ?_⟩
      have o7 := g7.off dj md6.live
      have oG := g7.off (G := G) (fun x hx h => gF x hx (List.mem_append_left _ h)) gl6
      refine ⟨_, rfl, _, rfl, _, rfl, _, rfl, b, ls, v, sp, p, E, B, mdF p L D bl, G, m, t, .ref ua, w, at2 e.h, y, rfl, hb6.tk g7.tt.1, nl, spx6.keep oG.1, (fun x hx h => gF x hx (List.mem_append_right _ h)), md6.keep g7.tt o7.1, du6.tt g7.tt, hw.tk g7.tt.1, yo, m4, fun r2 F2' H8 dr2 md8 g8 => ?_⟩
      refine ⟨_, r, r2, rfl, dr.tk g8.tt.1, dr2, dl_le (dlT (by have := he_len nl (E := E) (a := at2 y) (t := t); omega) (he_dl du6.1)) (by decide), ?_⟩
      obtain ⟨bo8, g68⟩ := two_step dk7 g7 md8 g8 md6.live dj
      have g6 := (g4.trans (Gr.src (F := F1 ++ mdF p L D bl) x5 S4)).trans (Gr.same m6)
      have S6 := S5.ext m6
      obtain ⟨_, hs6⟩ := S6.lst
      exact q _ H8 bo8 (g6.trans (g68.more2 [s])) (g68.one sF hs6).2 (S6.extL g68.ex sF aF)
    all_goals
      obtain ⟨y, hy, ey, yn⟩ := site57 nn
      have yp := nl.net.ok.sp y hy
      refine ⟨_, rfl, _, rfl, b, v, n, rfl, hb4', fun u du' => ?_⟩
      rw [ey] at du'
      obtain ⟨sa, sus, rfl, hS', _, e5⟩ := si_at (show DV K H4 (siD y) u from du')
      refine ⟨sa, sus, 5, _, rfl, rfl, hS', atI_nat (j := 5) e5, _, rfl, ua, uus, 4, .ref ub, rfl, rfl, hA4, e4, y.p, ub, t.bs, rfl, hb44, by omega, by have := du4.1.bs.1; omega, du4.1.bs.2, fun H5 m5 => ⟨_, rfl, ?_⟩⟩
      have T5 := TT.same (K := K) m5
      have dk5 := dk4'.same m5
      have md5 := md4.same m5
      refine ite2 (fun _ => ?_) (fun _ => ?_)
      · exact q _ H5 ⟨E, B, F1, mdF p L D bl, dk5.mono (by omega), md5.mono (by omega), rfl, dj⟩ (g4.trans (Gr.same m5)) sF ((S4.ext m5).mono (by omega))
      have du5 := du4.tt T5
      have hb5 := hb4'.tk T5.1
      refine ⟨_, rfl, o, dx, _, rfl, m5 _ _ ob4, rfl, _, rfl, o, b, ls, v, n, E, B, F1, m, t, .ref ua, rfl, dk5, hb5, nl, nn, du5, m4, fun r F1' H7 dr dk7 g7 => ?_⟩
      have o7 := g7.off dj md5.live
      have gl5 := gl4.of fun x hx w hw => m5 _ _ hw
      have oG := g7.off (G := G) (fun x hx h => gF x hx (List.mem_append_left _ h)) gl5
      refine ⟨_, rfl, _, rfl, _, rfl, _, rfl, _, rfl, b, ls, v, sp, p, E, B, mdF p L D bl, G, m, t, .ref ua, n, rfl, hb5.tk g7.tt.1, nl, (spx4.keep fun x hx w hw => m5 _ _ hw).keep oG.1, gl5.of oG.1, (fun x hx h => gF x hx (List.mem_append_right _ h)), md5.keep g7.tt o7.1, nn, du5.tt g7.tt, m4, fun r2 F2' H8 dr2 md8 g8 => ?_⟩
      refine ⟨_, r, r2, rfl, dr.tk g8.tt.1, dr2, dl_le (dlT (by have := tkr_len nl (s := n) (E := E) (t := t); omega) (tkr_dl du5.1)) (by decide), ?_⟩
      obtain ⟨bo8, g68⟩ := two_step dk7 g7 md8 g8 md5.live dj
      have S5 := S4.ext m5
      obtain ⟨_, hs5⟩ := S5.lst
      exact q _ H8 bo8 ((g4.trans (Gr.same m5)).trans (g68.more2 [s])) (g68.one sF hs5).2 ((S5.extL g68.ex sF aF).mono (by omega))
end

end Z
namespace Z
open PySem L2 SX
structure Cor (K : PySem.W.Frag) (C : Addr) (H : Hp) (s e : Addr) (b : Bk) (v : V) (sp : Addr) (G Bs : List Addr) (us : List V) (o0 p0 : Addr) (n0 : Str) (F0 : List Addr) (o1 p1 : Addr) (n1 : Str) (F1 : List Addr) (M c : Nat) : Prop where
  hb : DV K H (bkD b) v
  spx : SpX H b sp G
  gb : ∀ q ∈ G, q ∈ Bs
  bl : Live H Bs
  b0 : Both K C H o0 p0 v n0 F0 M
  b1 : Both K C H o1 p1 v n1 F1 M
  un : ∀ u ∈ us, ∃ t, N8 K H t u
  sB : s ∉ Bs
  s0 : s ∉ F0
  s1 : s ∉ F1
  e0 : e ∉ F0
  e1 : e ∉ F1
  d0 : ∀ q ∈ Bs, q ∉ F0
  d1 : ∀ q ∈ Bs, q ∉ F1
  dd : ∀ q ∈ F1, q ∉ F0
  src : Src H s e c
theorem src_live {H : Hp} {s a : Addr} {c : Nat} (h : Src H s a c) : (∃ o, H a = some o) ∧ a ≠ s := by
  obtain ⟨ns, i, b, e, t, h1, h2, h3, _⟩ := h
  exact ⟨⟨_, h2⟩, by first | exact h3 | exact Ne.symm h3⟩
section
variable {K : PySem.W.Frag} {C : Addr} {H H' : Hp} {s e : Addr} {b : Bk} {v : V} {sp : Addr} {G Bs : List Addr} {us : List V} {o0 p0 o1 p1 : Addr} {n0 n1 : Str} {F0 F1 F' : List Addr} {M M' c c' : Nat}
theorem Cor.swap (h : Cor K C H s e b v sp G Bs us o0 p0 n0 F0 o1 p1 n1 F1 M c) : Cor K C H s e b v sp G Bs us o1 p1 n1 F1 o0 p0 n0 F0 M c :=
  ⟨h.hb, h.spx, h.gb, h.bl, h.b1, h.b0, h.un, h.sB, h.s1, h.s0, h.e1, h.e0, h.d1, h.d0, fun q hq k => h.dd q k hq, h.src⟩
theorem Cor.step (h : Cor K C H s e b v sp G Bs us o0 p0 n0 F0 o1 p1 n1 F1 M c) (bo : Both K C H' o0 p0 v n0 F' M') (le : M ≤ M') (g : Gr K (s :: F0) H (s :: F') H') (sf : s ∉ F') (S : Src H' s e c') :
    Cor K C H' s e b v sp G Bs us o0 p0 n0 F' o1 p1 n1 F1 M' c' ∧ ∀ q ∈ Bs, ∀ w, H q = some w → H' q = some w := by
  have offB := g.off (G := Bs) (fun q hq m => (List.mem_cons.mp m).elim (fun z => h.sB (by rw [← z]; exact hq)) (h.d0 q hq)) h.bl
  have off1 := g.off (G := F1) (fun q hq m => (List.mem_cons.mp m).elim (fun z => h.s1 (by rw [← z]; exact hq)) (h.dd q hq)) h.b1.live
  obtain ⟨⟨eo, he⟩, es⟩ := src_live h.src
  have offe := g.one (fun m => (List.mem_cons.mp m).elim es h.e0) he
  exact ⟨⟨h.hb.tk g.tt.1, h.spx.keep fun q hq => offB.1 q (h.gb q hq), h.gb, h.bl.of offB.1, bo, (h.b1.keep g.tt off1.1).mono le, fun u hu => (h.un u hu).imp fun t k => k.tt g.tt, h.sB, sf, h.s1, fun m => offe.2 (List.mem_cons_of_mem _ m), h.e1, fun q hq m => offB.2 q hq (List.mem_cons_of_mem _ m), h.d1, fun q hq m => off1.2 q hq (List.mem_cons_of_mem _ m), S⟩, offB.1⟩
theorem Cor.ext (h : Cor K C H s e b v sp G Bs us o0 p0 n0 F0 o1 p1 n1 F1 M c) (x : Ext s H H') (S : Src H' s e c') :
    Cor K C H' s e b v sp G Bs us o0 p0 n0 F0 o1 p1 n1 F1 M c' ∧ ∀ q ∈ Bs, ∀ w, H q = some w → H' q = some w :=
  h.step (h.b0.keep (TT.ext x h.src) fun q hq w hw => x q w (fun z => h.s0 (by rw [← z]; exact hq)) hw) (Nat.le_refl _) (Gr.src x h.src) h.s0 S
theorem Cor.same (h : Cor K C H s e b v sp G Bs us o0 p0 n0 F0 o1 p1 n1 F1 M c) (x : Same H H') :
    Cor K C H' s e b v sp G Bs us o0 p0 n0 F0 o1 p1 n1 F1 M c ∧ ∀ q ∈ Bs, ∀ w, H q = some w → H' q = some w := h.ext (Ext.of x) (h.src.ext x)
end
/-- both desks and both models, whichever -/
def LSt (K : PySem.W.Frag) (C : Addr) (H : Hp) (s e : Addr) (b : Bk) (v : V) (sp : Addr) (G Bs : List Addr) (us : List V) (o0 p0 : Addr) (n0 : Str) (o1 p1 : Addr) (n1 : Str) (M c : Nat) : Prop := ∃ F0 F1, Cor K C H s e b v sp G Bs us o0 p0 n0 F0 o1 p1 n1 F1 M c
section
variable {K : PySem.W.Frag} {C : Addr} {H H' : Hp} {s e : Addr} {b : Bk} {v : V} {sp : Addr} {G Bs : List Addr} {us : List V} {o0 p0 o1 p1 : Addr} {n0 n1 : Str} {M M' c c' : Nat}
theorem LSt.at (h : LSt K C H s e b v sp G Bs us o0 p0 n0 o1 p1 n1 M c) {k : Int} (k0 : 0 ≤ k) (k1 : k < 2) :
    ∃ (o p : Addr) (n : Str) (F : List Addr), (n = n0 ∨ n = n1) ∧ atI [V.ref o0, V.ref o1] k = some (.ref o) ∧ atI [V.ref p0, V.ref p1] k = some (.ref p) ∧ atI [V.str n0, V.str n1] k = some (.str n) ∧ Both K C H o p v n F M ∧ s ∉ F ∧ e ∉ F ∧ (∀ q ∈ Bs, q ∉ F) ∧
      ∀ (F' : List Addr) (H' : Hp) (M' c' : Nat), Both K C H' o p v n F' M' → M ≤ M' → Gr K (s :: F) H (s :: F') H' → s ∉ F' → Src H' s e c' → LSt K C H' s e b v sp G Bs us o0 p0 n0 o1 p1 n1 M' c' ∧ ∀ q ∈ Bs, ∀ w, H q = some w → H' q = some w := by
  obtain ⟨F0, F1, h⟩ := h
  have : k = 0 ∨ k = 1 := by omega
  rcases this with rfl | rfl
  · refine ⟨o0, p0, n0, F0, .inl rfl, rfl, rfl, rfl, h.b0, h.s0, h.e0, h.d0, fun F' H' M' c' bo le g sf S => ?_⟩
    obtain ⟨h1, h2⟩ := h.step bo le g sf S
    exact ⟨⟨_, _, h1⟩, h2⟩
  · refine ⟨o1, p1, n1, F1, .inr rfl, rfl, rfl, rfl, h.b1, h.s1, h.e1, h.d1, fun F' H' M' c' bo le g sf S => ?_⟩
    obtain ⟨h1, h2⟩ := h.swap.step bo le g sf S
    exact ⟨⟨_, _, h1.swap⟩, h2⟩
theorem LSt.ext (h : LSt K C H s e b v sp G Bs us o0 p0 n0 o1 p1 n1 M c) (x : Ext s H H') (S : Src H' s e c') : LSt K C H' s e b v sp G Bs us o0 p0 n0 o1 p1 n1 M c' ∧ ∀ q ∈ Bs, ∀ w, H q = some w → H' q = some w := by
  obtain ⟨F0, F1, h⟩ := h
  obtain ⟨h1, h2⟩ := h.ext x S
  exact ⟨⟨_, _, h1⟩, h2⟩
theorem LSt.same (h : LSt K C H s e b v sp G Bs us o0 p0 n0 o1 p1 n1 M c) (x : Same H H') : LSt K C H' s e b v sp G Bs us o0 p0 n0 o1 p1 n1 M c ∧ ∀ q ∈ Bs, ∀ w, H q = some w → H' q = some w := by
  obtain ⟨F0, F1, h⟩ := h
  obtain ⟨h1, h2⟩ := h.same x
  exact ⟨⟨_, _, h1⟩, h2⟩
theorem LSt.mono (h : LSt K C H s e b v sp G Bs us o0 p0 n0 o1 p1 n1 M c) (le : M ≤ M') (lc : c' ≤ c) : LSt K C H s e b v sp G Bs us o0 p0 n0 o1 p1 n1 M' c' := by
  obtain ⟨F0, F1, h⟩ := h
  exact ⟨F0, F1, h.hb, h.spx, h.gb, h.bl, h.b0.mono le, h.b1.mono le, h.un, h.sB, h.s0, h.s1, h.e0, h.e1, h.d0, h.d1, h.dd, h.src.mono lc⟩
end
def Frs (H : Hp) (F : List Addr) : Prop := ∀ q ∈ F, H q = none
theorem frs_dj {H : Hp} {A B : List Addr} (a : Live H A) (b : Frs H B) : ∀ q ∈ A, q ∉ B := fun q hq h => by
  obtain ⟨o, ho⟩ := a q hq
  rw [b q h] at ho; cases ho
theorem Frs.back {H H' : Hp} {F : List Addr} (f : Frs H' F) (m : Same H H') : Frs H F := fun q hq => Same.free m (f q hq)
theorem Live.same {H H' : Hp} {F : List Addr} (l : Live H F) (m : Same H H') : Live H' F := fun q hq => (l q hq).imp fun o h => m _ _ h
theorem mk_desk {K : PySem.W.Frag} {H H6 H7 : Hp} {p : Addr} {F : List Addr} (m : Same H H6) (n : H p = none) (g : Gr K [p] H6 F H7) : Same H H7 ∧ Frs H F := by
  refine ⟨fun b o h => g.ex b o (fun z => ?_) (m _ _ h), fun q hq => ?_⟩
  · rw [List.mem_singleton.mp z, n] at h; cases h
  · rcases g.fr q hq with z | z
    · rw [List.mem_singleton.mp z]; exact n
    · exact Same.free m z
theorem mk_model {K : PySem.W.Frag} {H : Hp} {L D M : Addr} (hL : H L = none) (hD : (upd H L (.lst [])) D = none) (hM : (upd (upd H L (.lst [])) D (.dK [])) M = none) :
    MdE K (upd (upd (upd H L (.lst [])) D (.dK [])) M (.lst [.ref L, .ref D])) M [] [] (mdF M L D []) 0 ∧ Same H (upd (upd (upd H L (.lst [])) D (.dK [])) M (.lst [.ref L, .ref D])) ∧ Frs H (mdF M L D []) := by
  have LD : L ≠ D := fun z => by rw [← z, upd_same] at hD; cases hD
  have LM : L ≠ M := fun z => by rw [← z, upd_ne LD, upd_same] at hM; cases hM
  have DM : D ≠ M := fun z => by rw [← z, upd_same] at hM; cases hM
  have m1 := same_new (o := HO.lst []) hL
  have m2 := same_new (o := HO.dK []) hD
  have m3 := same_new (o := HO.lst [V.ref L, V.ref D]) hM
  refine ⟨⟨L, D, [], ⟨upd_same, ⟨[], by rw [upd_ne LM, upd_ne LD]; exact upd_same, dln⟩, ⟨Nat.le_refl _, (fun _ h => by cases h)⟩, ⟨by rw [upd_ne DM]; exact upd_same, List.nodup_nil, by simp [foot], (fun _ h => by cases h), fun _ _ => rfl, Nat.le_refl _, Nat.le_refl _⟩, by simp [foot, LD, LM.symm, DM.symm]⟩, rfl⟩, m1.trans (m2.trans m3), fun q hq => ?_⟩
  simp only [mdF, foot, List.map_nil, List.mem_cons, List.not_mem_nil, or_false] at hq
  rcases hq with z | z | z
  · rw [z]; exact Same.free (m1.trans m2) hM
  · rw [z]; exact hL
  · rw [z]; exact Same.free m1 hD
section
variable {P : Program} {w : World} {K : PySem.W.Frag} {mg : Str → Option Value} {base : Heap}
theorem ok_law {f : Addr} {fd : FuncData} (F : Fun K "law" "law" s_law f fd) (T : Tx mg) {A_ListDesk : Addr} (O : To K mg A_ListDesk)  (C_ListDesk____init__ : CalI P w K mg base A_ListDesk ["self", "book", "site"] 1 (sp58_init K A_ListDesk)) (C__law_boxes_right : Cal P w K mg base "_law_boxes_right" ["book", "desk", "model", "name"] 13 (sp58_boxes K A_ListDesk)) (C__law_carried_notice : Cal P w K mg base "_law_carried_notice" ["source", "book", "words", "number"] 8 (sp58_notice K)) (C__law_deed_right : Cal P w K mg base "_law_deed_right" ["source", "book", "spreads", "desk", "model", "name", "notices"] 13 (sp58_deed K A_ListDesk)) (C__law_draw : Cal P w K mg base "_law_draw" ["source", "many"] 2 sp__law_draw) (C__law_nets : Cal P w K mg base "_law_nets" ["source", "book", "words"] 5 (sp57_nets K)) (C__law_pick : Cal P w K mg base "_law_pick" ["source", "row"] 3 (sp3__law_pick K)) (C__law_source : Cal P w K mg base "_law_source" ["script"] 2 (sp__law_source K)) (C__law_spreads : Cal P w K mg base "_law_spreads" ["book"] 3 (sp57_spreads K)) (C__law_wide_book : Cal P w K mg base "_law_wide_book" ["source", "words", "most"] 9 (sp57_wide K)) (C__law_words : Cal P w K mg base "_law_words" ["source"] 5 (sp2__law_words K)) : FnOk P w K mg base CX0 14 f fd ["script"] (sp_law K) := by
  obtain ⟨f_ListDesk____init__, fd_ListDesk____init__, G_ListDesk____init__, h_ListDesk____init__, b_ListDesk____init__⟩ := C_ListDesk____init__
  obtain ⟨f__law_boxes_right, fd__law_boxes_right, G__law_boxes_right, g__law_boxes_right, k__law_boxes_right, b__law_boxes_right⟩ := C__law_boxes_right
  obtain ⟨f__law_carried_notice, fd__law_carried_notice, G__law_carried_notice, g__law_carried_notice, k__law_carried_notice, b__law_carried_notice⟩ := C__law_carried_notice
  obtain ⟨f__law_deed_right, fd__law_deed_right, G__law_deed_right, g__law_deed_right, k__law_deed_right, b__law_deed_right⟩ := C__law_deed_right
  obtain ⟨f__law_draw, fd__law_draw, G__law_draw, g__law_draw, k__law_draw, b__law_draw⟩ := C__law_draw
  obtain ⟨f__law_nets, fd__law_nets, G__law_nets, g__law_nets, k__law_nets, b__law_nets⟩ := C__law_nets
  obtain ⟨f__law_pick, fd__law_pick, G__law_pick, g__law_pick, k__law_pick, b__law_pick⟩ := C__law_pick
  obtain ⟨f__law_source, fd__law_source, G__law_source, g__law_source, k__law_source, b__law_source⟩ := C__law_source
  obtain ⟨f__law_spreads, fd__law_spreads, G__law_spreads, g__law_spreads, k__law_spreads, b__law_spreads⟩ := C__law_spreads
  obtain ⟨f__law_wide_book, fd__law_wide_book, G__law_wide_book, g__law_wide_book, k__law_wide_book, b__law_wide_book⟩ := C__law_wide_book
  obtain ⟨f__law_words, fd__law_words, G__law_words, g__law_words, k__law_words, b__law_words⟩ := C__law_words
  refine F.ok sc_law (fun vs H Q E h => ?_) (fun cdv A outer s₀ H vs Q E hr h => ?_)
  · obtain ⟨a, ns, rfl, _⟩ := h; rfl
  · obtain ⟨a, ns, rfl, hA, hlen, q⟩ := h
    refine ⟨_, (pss_cons (ps_set (i := 1) sc_law.nd rfl (Or.inr rfl) (pe_call G__law_source (hr.mono (by decide)) (by rfl) g__law_source k__law_source b__law_source .nil pass0 (pa_cons (pv 0) pa_nil)))
      (pss_cons (ps_set (i := 2) sc_law.nd rfl (Or.inr rfl) (pe_call G__law_words (hr.mono (by decide)) (by rfl) g__law_words k__law_words b__law_words .nil pass0 (pa_cons (pv 1) pa_nil)))
      (pss_cons (ps_set (i := 3) sc_law.nd rfl (Or.inr rfl) (pe_call G__law_nets (hr.mono (by decide)) (by rfl) g__law_nets k__law_nets b__law_nets .nil pass0 (pa_cons (pv 1) (pa_cons (pe_call G__law_wide_book (hr.mono (by decide)) (by rfl) g__law_wide_book k__law_wide_book b__law_wide_book .nil pass0 (pa_cons (pv 1) (pa_cons (pv 2) (pa_cons pe_int pa_nil)))) (pa_cons (pv 2) pa_nil)))))
      (pss_cons (ps_set (i := 4) sc_law.nd rfl (Or.inl rfl) (pe_call G__law_spreads (hr.mono (by decide)) (by rfl) g__law_spreads k__law_spreads b__law_spreads .nil pass0 (pa_cons (pv 3) pa_nil)))
      (pss_cons (ps_setLc (i := 6) (own := [("k", 5)]) (g := gName 5) (tt := tYes) rfl sc_law.nd rfl rfl (sw_true rfl rfl rfl (by decide +kernel)) (pi_range1 (by rfl) T.n_range (pa_cons pe_int pa_nil)) (blkOk_by (own := [("k", 5)]) (N := N_law) (sc := defScope s_law) (by decide +kernel)) (fun _ _ _ _ _ => pg_name (i := 5) sc_law.nd rfl (Or.inl rfl)) (fun _ _ _ _ _ => pts_nil) (fun _ _ _ _ _ => (pe_ix (ix_tupQ (K := K) rfl) (pe_call G__law_pick (hr.mono (by decide)) (by rfl) g__law_pick k__law_pick b__law_pick .nil pass0 (pa_cons (pv 1) (pa_cons (pe_ix (ix_tupQ (K := K) rfl) (pv 3) pe_int (fun _ _ => rfl)) pa_nil))) pe_int (fun _ _ => rfl))))
      (pss_cons (ps_set (i := 7) sc_law.nd rfl (Or.inl rfl) (pe_lst (pa_cons (pe_make h_ListDesk____init__ G_ListDesk____init__ (hr.mono (by decide)) (by rfl) O.g_ListDesk b_ListDesk____init__ .nil pass0 (pa_cons (pv 3) (pa_cons (pe_ix ix_list (pv 6) pe_int (fun _ _ => rfl)) pa_nil))) (pa_cons (pe_make h_ListDesk____init__ G_ListDesk____init__ (hr.mono (by decide)) (by rfl) O.g_ListDesk b_ListDesk____init__ .nil pass0 (pa_cons (pv 3) (pa_cons (pe_ix ix_list (pv 6) pe_int (fun _ _ => rfl)) pa_nil))) pa_nil))))
      (pss_cons (ps_set (i := 8) sc_law.nd rfl (Or.inl rfl) (pe_lst (pa_cons (pe_lst (pa_cons (pe_lst pa_nil) (pa_cons pe_dnewK pa_nil))) (pa_cons (pe_lst (pa_cons (pe_lst pa_nil) (pa_cons pe_dnewK pa_nil))) pa_nil))))
      (pss_cons (ps_setLc (i := 9) (own := [("k", 5)]) (g := gName 5) (tt := tYes) rfl sc_law.nd rfl rfl (sw_true rfl rfl rfl (by decide +kernel)) (pi_range1 (by rfl) T.n_range (pa_cons pe_int pa_nil)) (blkOk_by (own := [("k", 5)]) (N := N_law) (sc := defScope s_law) (by decide +kernel)) (fun _ _ _ _ _ => pg_name (i := 5) sc_law.nd rfl (Or.inl rfl)) (fun _ _ _ _ _ => pts_nil) (fun _ _ _ _ _ => (pe_call G__law_carried_notice (hr.mono (by decide)) (by rfl) g__law_carried_notice k__law_carried_notice b__law_carried_notice .nil pass0 (pa_cons (pv 1) (pa_cons (pv 3) (pa_cons (pv 2) (pa_cons (pe_op op_add (pe_op op_mul pe_int (pv 5)) pe_int) pa_nil)))))))
      (pss_cons (ps_for PassesOwn.never rfl (pi_range1 (by rfl) T.n_range (pa_cons (pe_op op_add pe_int (pe_call G__law_draw (hr.mono (by decide)) (by rfl) g__law_draw k__law_draw b__law_draw .nil pass0 (pa_cons (pv 1) (pa_cons pe_int pa_nil)))) pa_nil)) (pg_name (i := 10) sc_law.nd rfl (Or.inl rfl))
      (pss_cons (ps_set (i := 5) sc_law.nd rfl (Or.inl rfl) (pe_call G__law_draw (hr.mono (by decide)) (by rfl) g__law_draw k__law_draw b__law_draw .nil pass0 (pa_cons (pv 1) (pa_cons pe_int pa_nil))))
        (pss_cons (ps_if (pt_not (pt_val (pe_call G__law_deed_right (hr.mono (by decide)) (by rfl) g__law_deed_right k__law_deed_right b__law_deed_right .nil pass0 (pa_cons (pv 1) (pa_cons (pv 3) (pa_cons (pv 4) (pa_cons (pe_ix ix_list (pv 7) (pv 5) (fun _ _ => rfl)) (pa_cons (pe_ix ix_list (pv 8) (pv 5) (fun _ _ => rfl)) (pa_cons (pe_ix ix_list (pv 6) (pv 5) (fun _ _ => rfl)) (pa_cons (pv 9) pa_nil))))))))))
        (pss_one (ps_ret pe_bl))
        pss_nil)
        (pss_cons (ps_set (i := 5) sc_law.nd rfl (Or.inl rfl) (pe_call G__law_draw (hr.mono (by decide)) (by rfl) g__law_draw k__law_draw b__law_draw .nil pass0 (pa_cons (pv 1) (pa_cons pe_int pa_nil))))
        (pss_one (ps_if (PW.pt (pw_and (pt_cmpR op_eq (pe_call G__law_draw (hr.mono (by decide)) (by rfl) g__law_draw k__law_draw b__law_draw .nil pass0 (pa_cons (pv 1) (pa_cons pe_int pa_nil))) pe_int (nomark _)) (pw_and1 (pt_not (pt_val (pe_call G__law_boxes_right (hr.mono (by decide)) (by rfl) g__law_boxes_right k__law_boxes_right b__law_boxes_right .nil pass0 (pa_cons (pv 3) (pa_cons (pe_ix ix_list (pv 7) (pv 5) (fun _ _ => rfl)) (pa_cons (pe_ix ix_list (pv 8) (pv 5) (fun _ _ => rfl)) (pa_cons (pe_ix ix_list (pv 6) (pv 5) (fun _ _ => rfl)) pa_nil))))))))))
        (pss_one (ps_ret pe_bl))
        pss_nil))))))
      (pss_cons (ps_for PassesOwn.never rfl (pi_tup (pe_tup (pa_cons pe_int (pa_cons pe_int (pa_cons pe_int pa_nil))))) (pg_name (i := 5) sc_law.nd rfl (Or.inl rfl))
      (pss_one (ps_if (pt_not (pt_val (pe_call G__law_boxes_right (hr.mono (by decide)) (by rfl) g__law_boxes_right k__law_boxes_right b__law_boxes_right .nil pass0 (pa_cons (pv 3) (pa_cons (pe_ix ix_list (pv 7) (pv 5) (fun _ _ => rfl)) (pa_cons (pe_ix ix_list (pv 8) (pv 5) (fun _ _ => rfl)) (pa_cons (pe_ix ix_list (pv 6) (pv 5) (fun _ _ => rfl)) pa_nil)))))))
        (pss_one (ps_ret pe_bl))
        pss_nil)))
      (pss_one (ps_ret pe_bl)))))))))))), ?_⟩
    have big : ∀ {n : Nat}, n ≤ 30000 → n < sizeLine := fun h => Nat.lt_of_le_of_lt h (by decide)
    refine ⟨_, rfl, a, ns, rfl, hA, hlen, fun s e H1 hs x1 S1 => ?_⟩
    refine ⟨_, rfl, s, e, 200000, rfl, S1.mono (by decide), fun w ws H2 hw hWd hW x2 S2 => ?_⟩
    have wn : w ≠ s := S1.ne hw
    refine ⟨_, rfl, _, rfl, _, rfl, s, e, w, ws, 4, 160000, rfl, by decide, by decide, SqL.of hWd, wn, hW, S2.mono (by decide), fun v b0 H3 hb0 nb l21 swo x3 S3 => ?_⟩
    refine ⟨_, rfl, s, e, w, b0, v, ws, 150000, rfl, hb0, nb, l21, swo, SqL.of (x3 _ _ wn hWd), wn, hW, S3.mono (by decide), fun u b ls H4 hb nl lne l21' x4 S4 => ?_⟩
    have hW4 := x4 _ _ wn (x3 _ _ wn hWd)
    clear hb0 nb swo x3 S3 S2 S1 x1 x2 hWd hs
    refine ⟨_, rfl, b, u, s, e, 150000, rfl, hb, nl.net, S4, fun sp H5 m5 spr => ?_⟩
    obtain ⟨G, spx, gl, sG⟩ := SpX.of spr
    have S5 := S4.ext m5
    have hb5 := hb.tk (TK.same m5)
    have hW5 := m5 _ _ hW4
    clear spr S4 hb hW4 m5
    have hb5' := hb5
    obtain ⟨ba, u0, u1, u2, u3, u4, u5, c6, w6, c7, w7, rfl, hB, d0, d1, d2, d3, d4, d5, h6, e6, h7, e7⟩ := bk_all hb5'
    obtain ⟨c3, w3, rfl, h3, d3⟩ := d3
    have wl3 := d3.map_len
    have sl := nl.net.ok.si
    have wne : w3 ≠ [] := fun e => nl.net.ne (List.length_eq_zero_iff.mp (by rw [← wl3, e]; rfl))
    -- the names
    refine ⟨2, rfl, by decide, by decide, fun LN hLN => ?_⟩
    have LNs := S5.ne hLN
    have LNe := S5.nea hLN
    refine lc_range (lo := 0) (n := 2) (fun i H' => ∃ nn : List Str, H' LN = some (.lst (nn.map V.str)) ∧ nn.length = i ∧ (∀ n ∈ nn, n ∈ nms b) ∧ Ext s H5 H' ∧ Src H' s e (150000 - i)) ⟨[], upd_same, rfl, (fun _ h => by cases h), Ext.new hLN, S5.new hLN⟩ ?_ ?_
    · rintro i H6 hi ⟨nn, hN6, nl6, nm6, x6, S6⟩
      have T6 := TT.ext (K := K) x6 S5
      refine ⟨rfl, _, rfl, _, rfl, ba, _, 3, .ref c3, rfl, rfl, T6.1 _ _ hB, atI_nat (j := 3) rfl, .inr (.inr ⟨s, e, c3, w3, 150000 - (i + 1), rfl, T6.1 _ _ h3, wne, by omega, S6.mono (by omega), fun z H7 zm x7 S7 => ?_⟩)⟩
      obtain ⟨zi, hz⟩ := List.getElem?_of_mem zm
      obtain ⟨si, hsi', dz⟩ := d3.map_get hz
      have T7 := T6.trans (TT.ext (K := K) x7 S6)
      obtain ⟨za, zus, rfl, hZ, e1, _⟩ := si_at (dz.tk T7.1)
      refine ⟨za, zus, 1, _, rfl, rfl, hZ, atI_nat (j := 1) e1, nn.map V.str, x7 _ _ LNs hN6, by rw [List.length_map]; exact big (by omega), nn ++ [si.n], by rw [upd_same, List.map_append]; rfl, by rw [List.length_append, nl6]; rfl, fun n hn => ?_, fun c o nc hc => ?_, (S7.put LNs LNe)⟩
      · rcases List.mem_append.mp hn with h | h
        · exact nm6 n h
        · rw [List.mem_singleton.mp h]; exact List.mem_map_of_mem (f := (·.n)) (List.mem_of_getElem? hsi')
      · rw [upd_ne (ne_of_none hc hLN)]; exact x7 _ _ nc (x6 _ _ nc hc)
    rintro H6 ⟨nn, hN6, nl6, nm6, x6, S6⟩
    have T6 := TT.ext (K := K) x6 S5
    have hb6 := hb5.tk T6.1
    have spx6 := spx.keep fun x hx w hw => x6 x w (fun z => sG (by rw [← z]; exact hx)) hw
    have gl6 := gl.of fun x hx w hw => x6 x w (fun z => sG (by rw [← z]; exact hx)) hw
    have hW6 := x6 _ _ wn hW5
    obtain ⟨n0, n1, rfl⟩ : ∃ n0 n1, nn = [n0, n1] := by
      cases nn with
      | nil => cases nl6
      | cons x t =>
        cases t with
        | nil => cases nl6
        | cons y t =>
          cases t with
          | nil => exact ⟨x, y, rfl⟩
          | cons z t => simp only [List.length_cons] at nl6; omega
    have nn0 : n0 ∈ nms b := nm6 n0 (by simp)
    have nn1 : n1 ∈ nms b := nm6 n1 (by simp)
    have LNG : LN ∉ G := fun m => by
      obtain ⟨o, ho⟩ := gl LN m
      rw [hLN] at ho; cases ho
    clear T6 x6 S5 hb5 hB d0 d1 d2 d3 d4 d5 h6 e6 h7 e7 h3 spx gl hW5 hLN
    -- the desks
    refine ⟨_, rfl, _, rfl, LN, _, 0, _, rfl, rfl, SqL.of hN6, atI_nat (j := 0) rfl, fun o0 dx0 ho0 hdx0 do0 => ?_⟩
    have i1 := same_new (o := HO.own o0) hdx0
    have i2 := same_new (o := HO.ins A_ListDesk dx0 []) (show (upd H6 dx0 (.own o0)) o0 = none by rw [upd_ne do0.symm]; exact ho0)
    refine ⟨o0, dx0, .ref ba, n0, rfl, upd_same, fun Fd0 H7 g7 dk0 => ⟨rfl, ?_⟩⟩
    obtain ⟨m67, f0⟩ := mk_desk (i1.trans i2) ho0 g7
    have hN7 := m67 _ _ hN6
    refine ⟨_, rfl, _, rfl, LN, _, 1, _, rfl, rfl, SqL.of hN7, atI_nat (j := 1) rfl, fun o1 dx1 ho1 hdx1 do1 => ?_⟩
    have i3 := same_new (o := HO.own o1) hdx1
    have i4 := same_new (o := HO.ins A_ListDesk dx1 []) (show (upd H7 dx1 (.own o1)) o1 = none by rw [upd_ne do1.symm]; exact ho1)
    refine ⟨o1, dx1, .ref ba, n1, rfl, upd_same, fun Fd1 H9 g9 dk1 => ⟨rfl, ?_⟩⟩
    obtain ⟨m79, f1⟩ := mk_desk (i3.trans i4) ho1 g9
    refine ⟨by show 2 ≤ sizeLine; decide, fun LD hLD => ?_⟩
    have mD := same_new (o := HO.lst [V.ref o0, V.ref o1]) hLD
    have hD10 : (upd H9 LD (.lst [.ref o0, .ref o1])) LD = some (.lst [.ref o0, .ref o1]) := upd_same
    generalize (upd H9 LD (.lst [.ref o0, .ref o1])) = H10 at mD hD10 ⊢
    -- the models
    refine ⟨Nat.zero_le _, fun L0 hL0 => fun D0 hD0 => ⟨by show 2 ≤ sizeLine; decide, fun M0 hM0 => ?_⟩⟩
    obtain ⟨md0, mA, fm0⟩ := mk_model (K := K) hL0 hD0 hM0
    generalize (upd (upd (upd H10 L0 (.lst [])) D0 (.dK [])) M0 (.lst [.ref L0, .ref D0])) = H13 at md0 mA ⊢
    refine ⟨Nat.zero_le _, fun L1 hL1 => fun D1 hD1 => ⟨by show 2 ≤ sizeLine; decide, fun M1 hM1 => ?_⟩⟩
    obtain ⟨md1, mB, fm1⟩ := mk_model (K := K) hL1 hD1 hM1
    generalize (upd (upd (upd H13 L1 (.lst [])) D1 (.dK [])) M1 (.lst [.ref L1, .ref D1])) = H16 at md1 mB ⊢
    generalize mdF M0 L0 D0 [] = Fm0 at md0 fm0
    generalize mdF M1 L1 D1 [] = Fm1 at md1 fm1
    refine ⟨by show 2 ≤ sizeLine; decide, fun LM hLM => ?_⟩
    have mM := same_new (o := HO.lst [V.ref M0, V.ref M1]) hLM
    have hM17 : (upd H16 LM (.lst [.ref M0, .ref M1])) LM = some (.lst [.ref M0, .ref M1]) := upd_same
    generalize (upd H16 LM (.lst [.ref M0, .ref M1])) = H17 at mM hM17 ⊢
    -- the notices
    refine ⟨3, rfl, by decide, by decide, fun LT hLT => ?_⟩
    have m6_9 := m67.trans m79
    have m6_10 := m6_9.trans mD
    have m10_16 := mA.trans mB
    have m6_16 := m6_10.trans m10_16
    have m6_17 := m6_16.trans mM
    have S17 := S6.ext m6_17
    have LTs := S17.ne hLT
    have LTe := S17.nea hLT
    have hb17 := hb6.tk (TK.same m6_17)
    have hW17 := m6_17 _ _ hW6
    refine lc_range (lo := 0) (n := 3) (fun i H' => ∃ us : List V, H' LT = some (.lst us) ∧ us.length = i ∧ (∀ x ∈ us, ∃ t, N8 K H' t x) ∧ Ext s H17 H' ∧ Src H' s e (140000 - 2000 * i)) ⟨[], upd_same, rfl, (fun _ h => by cases h), Ext.new hLT, (S17.new hLT).mono (by omega)⟩ ?_ ?_
    · rintro i H' hi ⟨us, hU, ul, un, x', S'⟩
      have T' := TT.ext (K := K) x' S17
      refine ⟨rfl, _, rfl, _, rfl, _, rfl, _, rfl, _, _, rfl, rfl, .inl ⟨by decide, by decide⟩, _, _, rfl, rfl, s, e, w, b, ls, .ref ba, ws, 7 * i + 1, 140000 - 2000 * (i + 1), ?_, hb17.tk T'.1, nl, lne, SqL.of (x' _ _ wn hW17), wn, hW, by omega, S'.mono (by omega), fun t z H'' nt x'' S'' => ?_⟩
      · show [V.ref s, V.ref ba, V.ref w, V.int ((7 : Int) * (0 + (i : Int)) + 1)] = _
        rw [show (7 : Int) * (0 + (i : Int)) + 1 = ((7 * i + 1 : Nat) : Int) by omega]
      have hU'' := x'' _ _ LTs hU
      have TP := TT.put (K := K) (o := HO.lst (us ++ [z])) hU''
      refine ⟨us, hU'', big (by omega), us ++ [z], upd_same, by rw [List.length_append, ul]; rfl, fun y hy => ?_, fun c o nc hc => ?_, S''.put LTs LTe⟩
      · rcases List.mem_append.mp hy with h | h
        · exact (un y h).imp fun t k => (k.tt (TT.ext (K := K) x'' S')).tt TP
        · rw [List.mem_singleton.mp h]; exact ⟨t, nt.tt TP⟩
      · rw [upd_ne (ne_of_none hc hLT)]; exact x'' _ _ nc (x' _ _ nc hc)
    rintro H20 ⟨us, hU20, ul20, un20, x20, S20⟩
    have une : us ≠ [] := fun h => by rw [h] at ul20; cases ul20
    -- everything together
    have A6 : Live H6 (s :: e :: LN :: G) := fun q hq => by
      obtain ⟨le, _⟩ := src_live S6
      obtain ⟨_, ls⟩ := S6.lst
      rcases List.mem_cons.mp hq with z | hq
      · rw [z]; exact ⟨_, ls⟩
      rcases List.mem_cons.mp hq with z | hq
      · rw [z]; exact le
      rcases List.mem_cons.mp hq with z | hq
      · rw [z]; exact ⟨_, hN6⟩
      · exact gl6 q hq
    have sep : ∀ {q : Addr} {F : List Addr} {Hx : Hp}, Hx q = none → Live Hx F → q ∉ F := fun h l m => by
      obtain ⟨o, ho⟩ := l _ m
      rw [h] at ho; cases ho
    have lv0 : Live H7 Fd0 := dk0.live
    have lv1 : Live H9 Fd1 := dk1.live
    have lm0 : Live H13 Fm0 := md0.live
    have lm1 : Live H16 Fm1 := md1.live
    have lv0_10 := lv0.same (m79.trans mD)
    have lv1_10 := lv1.same mD
    have lv0_16 := lv0_10.same m10_16
    have lv1_16 := lv1_10.same m10_16
    have lm0_16 := lm0.same mB
    have aF0 : ∀ q ∈ s :: e :: LN :: G, q ∉ Fd0 ++ Fm0 := fun q hq m => (List.mem_append.mp m).elim (frs_dj A6 f0 q hq) (frs_dj (A6.same m6_10) fm0 q hq)
    have aF1 : ∀ q ∈ s :: e :: LN :: G, q ∉ Fd1 ++ Fm1 := fun q hq m => (List.mem_append.mp m).elim (frs_dj (A6.same m67) f1 q hq) (frs_dj (A6.same (m6_10.trans mA)) fm1 q hq)
    have dF0 : LD ∉ Fd0 ++ Fm0 := fun m => (List.mem_append.mp m).elim (sep hLD (lv0.same m79)) fun m => by
      have := fm0 _ m
      rw [hD10] at this; cases this
    have dF1 : LD ∉ Fd1 ++ Fm1 := fun m => (List.mem_append.mp m).elim (sep hLD lv1) fun m => by
      have := fm1 _ m
      rw [mA _ _ hD10] at this; cases this
    have lF0 : Live H16 (Fd0 ++ Fm0) := fun q hq => (List.mem_append.mp hq).elim (lv0_16 q) (lm0_16 q)
    have lF1 : Live H16 (Fd1 ++ Fm1) := fun q hq => (List.mem_append.mp hq).elim (lv1_16 q) (lm1 q)
    have sF0 := aF0 s (by simp)
    have sF1 := aF1 s (by simp)
    have T1720 := TT.ext (K := K) x20 S17
    have kp : ∀ q w, q ≠ s → H17 q = some w → H20 q = some w := fun q w h1 h2 => x20 q w h1 h2
    have nsF0 : ∀ q ∈ Fd0 ++ Fm0, q ≠ s := fun q hq z => sF0 (by rw [← z]; exact hq)
    have nsF1 : ∀ q ∈ Fd1 ++ Fm1, q ≠ s := fun q hq z => sF1 (by rw [← z]; exact hq)
    have LDs : LD ≠ s := (S6.ext m6_9).ne hLD
    have LMs : LM ≠ s := (S6.ext m6_16).ne hLM
    have b0' : Both K A_ListDesk H20 o0 M0 (.ref ba) n0 (Fd0 ++ Fm0) 0 := ⟨[], [], Fd0, Fm0, (dk0.same (((m79.trans mD).trans m10_16).trans mM)).keep T1720 fun q hq w hw => kp q w (nsF0 q (List.mem_append_left _ hq)) hw, (md0.same (mB.trans mM)).keep T1720 fun q hq w hw => kp q w (nsF0 q (List.mem_append_right _ hq)) hw, rfl, fun q hq m => frs_dj lv0_10 fm0 q m hq⟩
    have b1' : Both K A_ListDesk H20 o1 M1 (.ref ba) n1 (Fd1 ++ Fm1) 0 := ⟨[], [], Fd1, Fm1, (dk1.same ((mD.trans m10_16).trans mM)).keep T1720 fun q hq w hw => kp q w (nsF1 q (List.mem_append_left _ hq)) hw, (md1.same mM).keep T1720 fun q hq w hw => kp q w (nsF1 q (List.mem_append_right _ hq)) hw, rfl, fun q hq m => frs_dj (lv1_10.same mA) fm1 q m hq⟩
    have st0 : LSt K A_ListDesk H20 s e b (.ref ba) sp G (LD :: LM :: LT :: LN :: G) us o0 M0 n0 o1 M1 n1 0 134000 := by
      refine ⟨Fd0 ++ Fm0, Fd1 ++ Fm1, hb17.tk T1720.1, ?_, fun q hq => by simp [hq], fun q hq => ?_, b0', b1', un20, ?_, sF0, sF1, aF0 e (by simp), aF1 e (by simp), fun q hq => ?_, fun q hq => ?_, fun q hq m => ?_, S20⟩
      · exact spx6.keep fun x hx w hw => kp x w (fun z => sG (by rw [← z]; exact hx)) (m6_17 _ _ hw)
      · rcases List.mem_cons.mp hq with z | hq
        · rw [z]; exact ⟨_, kp _ _ LDs (mM _ _ (m10_16 _ _ hD10))⟩
        rcases List.mem_cons.mp hq with z | hq
        · rw [z]; exact ⟨_, kp _ _ LMs hM17⟩
        rcases List.mem_cons.mp hq with z | hq
        · rw [z]; exact ⟨_, hU20⟩
        rcases List.mem_cons.mp hq with z | hq
        · rw [z]; exact ⟨_, kp _ _ LNs (m6_17 _ _ hN6)⟩
        · obtain ⟨o, ho⟩ := gl6 q hq
          exact ⟨o, kp _ _ (fun z => sG (by rw [← z]; exact hq)) (m6_17 _ _ ho)⟩
      · intro m
        rcases List.mem_cons.mp m with z | m
        · exact LDs z.symm
        rcases List.mem_cons.mp m with z | m
        · exact LMs z.symm
        rcases List.mem_cons.mp m with z | m
        · exact LTs z.symm
        rcases List.mem_cons.mp m with z | m
        · exact LNs z.symm
        · exact sG m
      · rcases List.mem_cons.mp hq with z | hq
        · rw [z]; exact dF0
        rcases List.mem_cons.mp hq with z | hq
        · rw [z]; exact sep hLM lF0
        rcases List.mem_cons.mp hq with z | hq
        · rw [z]; exact sep hLT (lF0.same mM)
        · exact aF0 q (List.mem_cons_of_mem _ (List.mem_cons_of_mem _ hq))
      · rcases List.mem_cons.mp hq with z | hq
        · rw [z]; exact dF1
        rcases List.mem_cons.mp hq with z | hq
        · rw [z]; exact sep hLM lF1
        rcases List.mem_cons.mp hq with z | hq
        · rw [z]; exact sep hLT (lF1.same mM)
        · exact aF1 q (List.mem_cons_of_mem _ (List.mem_cons_of_mem _ hq))
      · rcases List.mem_append.mp hq with h | h <;> rcases List.mem_append.mp m with k | k
        · exact frs_dj lv0 f1 q k h
        · exact frs_dj lv1_10 fm0 q h k
        · exact frs_dj (lv0_10.same mA) fm1 q k h
        · exact frs_dj lm0 fm1 q k h
    have hN20 := kp _ _ LNs (m6_17 _ _ hN6)
    have hD20 := kp _ _ LDs (mM _ _ (m10_16 _ _ hD10))
    have hM20 := kp _ _ LMs hM17
    clear aF0 aF1 dF0 dF1 lF0 lF1 sF0 sF1 nsF0 nsF1 b0' b1' lv0 lv1 lm0 lm1 lv0_10 lv1_10 lv0_16 lv1_16 lm0_16 A6 dk0 dk1 md0 md1 fm0 fm1 f0 f1 mA mB mD mM m67 m79 m6_9 m6_10 m10_16 m6_16 m6_17 i1 i2 i3 i4 hLD hLM hLT hL0 hL1 hD0 hD1 hM0 hM1 hN6 hN7 hD10 hM17 hb6 spx6 gl6 un20 T1720 g7 g9 kp sep
    refine ⟨_, rfl, s, e, 11, 133000, rfl, by decide, by decide, S20.mono (by omega), fun v11 H21 v0 v1 x21 S21 => ⟨_, _, rfl, rfl, _, rfl, by omega, by omega, ?_⟩⟩
    obtain ⟨st1, kb⟩ := st0.ext x21 S21
    have hN21 := kb LN (by simp) _ hN20
    have hD21 := kb LD (by simp) _ hD20
    have hM21 := kb LM (by simp) _ hM20
    have hU21 := kb LT (by simp) _ hU20
    clear kb st0 hN20 hD20 hM20 hU20 x20 x21 S20 S17 S21 hb17 hW17
    have nnk : ∀ {n : Str}, (n = n0 ∨ n = n1) → n ∈ nms b := fun h => h.elim (fun z => by rw [z]; exact nn0) fun z => by rw [z]; exact nn1
    refine for_range (lo := 0) (n := (6 + v11).toNat) (fun i σ H' => ∃ (v5 v10 : Option V), σ = [some (.ref a), some (.ref s), some (.ref w), some (.ref ba), some (.ref sp), v5, some (.ref LN), some (.ref LD), some (.ref LM), some (.ref LT), v10] ∧ LSt K A_ListDesk H' s e b (.ref ba) sp G (LD :: LM :: LT :: LN :: G) us o0 M0 n0 o1 M1 n1 (20 * i) (133000 - 10 * i) ∧ H' LN = some (.lst ([n0, n1].map V.str)) ∧ H' LD = some (.lst [.ref o0, .ref o1]) ∧ H' LM = some (.lst [.ref M0, .ref M1]) ∧ H' LT = some (.lst us)) ?_ ?_ ?_
    · exact ⟨_, _, rfl, st1, hN21, hD21, hM21, hU21⟩
    · rintro i σ H22 hi ⟨v5, v10, rfl, st, hN, hD, hM, hU⟩
      have i16 : i < 17 := by omega
      obtain ⟨F0, F1, cor⟩ := id st
      refine ⟨_, rfl, s, e, 2, 133000 - 10 * i - 1, rfl, by decide, by decide, cor.src.mono (by omega), fun k H23 k0 k1 x23 S23 => ?_⟩
      obtain ⟨st, kb⟩ := st.ext x23 S23
      have hN := kb LN (by simp) _ hN
      have hD := kb LD (by simp) _ hD
      have hM := kb LM (by simp) _ hM
      have hU := kb LT (by simp) _ hU
      obtain ⟨F0, F1, cor⟩ := id st
      obtain ⟨o, p, n, F, nk, eo, ep, en, bo, sF, eF, dB, nx⟩ := st.at k0 k1
      have GB : ∀ q ∈ G, q ∈ LD :: LM :: LT :: LN :: G := fun q hq => by simp [hq]
      refine ⟨_, rfl, _, rfl, _, rfl, _, rfl, _, rfl, LD, _, k, _, rfl, rfl, SqL.of hD, eo, _, rfl, _, rfl, LM, _, k, _, rfl, rfl, SqL.of hM, ep, _, rfl, _, rfl, LN, _, k, _, rfl, rfl, SqL.of hN, en, _, rfl, s, e, b, ls, .ref ba, sp, o, p, LT, n, us, F, G, 20 * i, 133000 - 10 * i - 4, rfl, cor.hb, nl, cor.spx, fun q hq => cor.bl q (GB q hq), fun q hq => dB q (GB q hq), sG, sF, eF, bo, nnk nk, hU, LTs, une, by omega, cor.un, by omega, S23.mono (by omega), fun F' H24 bo24 g24 sF' S24 => ⟨_, rfl, iteF ?_⟩⟩
      obtain ⟨st, kb⟩ := nx F' H24 _ _ bo24 (by omega) g24 sF' S24
      have hN := kb LN (by simp) _ hN
      have hD := kb LD (by simp) _ hD
      have hM := kb LM (by simp) _ hM
      have hU := kb LT (by simp) _ hU
      refine ⟨_, rfl, s, e, 2, 133000 - 10 * i - 5, rfl, by decide, by decide, S24.mono (by omega), fun k2 H25 k20 k21 x25 S25 => ?_⟩
      obtain ⟨st, kb⟩ := st.ext x25 S25
      have hN := kb LN (by simp) _ hN
      have hD := kb LD (by simp) _ hD
      have hM := kb LM (by simp) _ hM
      have hU := kb LT (by simp) _ hU
      refine ⟨_, rfl, s, e, 3, 133000 - 10 * i - 6, rfl, by decide, by decide, S25.mono (by omega), fun v3 H26 _ _ x26 S26 => ?_⟩
      obtain ⟨st, kb⟩ := st.ext x26 S26
      have hN := kb LN (by simp) _ hN
      have hD := kb LD (by simp) _ hD
      have hM := kb LM (by simp) _ hM
      have hU := kb LT (by simp) _ hU
      refine ⟨rfl, _, rfl, ite2 (fun _ => ?_) (fun _ => iteF ⟨_, _, rfl, st.mono (by omega) (by omega), hN, hD, hM, hU⟩)⟩
      obtain ⟨F0, F1, cor⟩ := id st
      obtain ⟨o, p, n, F, nk, eo, ep, en, bo, _⟩ := st.at k20 k21
      refine ⟨_, rfl, _, rfl, _, rfl, LD, _, k2, _, rfl, rfl, SqL.of hD, eo, _, rfl, _, rfl, LM, _, k2, _, rfl, rfl, SqL.of hM, ep, _, rfl, _, rfl, LN, _, k2, _, rfl, rfl, SqL.of hN, en, b, ls, .ref ba, o, p, n, F, _, rfl, cor.hb, nl, nnk nk, bo, by omega, fun H27 m27 => ⟨_, rfl, iteF ?_⟩⟩
      obtain ⟨st, kb⟩ := st.same m27
      exact ⟨_, _, rfl, st.mono (by omega) (by omega), kb LN (by simp) _ hN, kb LD (by simp) _ hD, kb LM (by simp) _ hM, kb LT (by simp) _ hU⟩
    rintro σ H22 ⟨v5, v10, rfl, st, hN, hD, hM, hU⟩
    refine ⟨by show 3 ≤ sizeLine; decide, fun T hT => ⟨T, rfl, ⟨_, SqT.of upd_same⟩, ?_⟩⟩
    have n23 := same_new (o := HO.tup [V.int 0, V.int 1, V.int 0]) hT
    obtain ⟨st, kb⟩ := st.same n23
    have hN := kb LN (by simp) _ hN
    have hD := kb LD (by simp) _ hD
    have hM := kb LM (by simp) _ hM
    have hT23 : SqT K (upd H22 T (.tup [V.int 0, V.int 1, V.int 0])) T [V.int 0, V.int 1, V.int 0] := SqT.of upd_same
    generalize upd H22 T (.tup [V.int 0, V.int 1, V.int 0]) = H23 at st hN hD hM hT23 ⊢
    refine for_tup (K := K) (a := T) (xs := [V.int 0, V.int 1, V.int 0]) (fun i σ H' => ∃ (v5 : Option V), σ = [some (.ref a), some (.ref s), some (.ref w), some (.ref ba), some (.ref sp), v5, some (.ref LN), some (.ref LD), some (.ref LM), some (.ref LT), v10] ∧ LSt K A_ListDesk H' s e b (.ref ba) sp G (LD :: LM :: LT :: LN :: G) us o0 M0 n0 o1 M1 n1 400 0 ∧ H' LN = some (.lst ([n0, n1].map V.str)) ∧ H' LD = some (.lst [.ref o0, .ref o1]) ∧ H' LM = some (.lst [.ref M0, .ref M1]) ∧ SqT K H' T [V.int 0, V.int 1, V.int 0]) ?_ (fun i σ H' _ h => by obtain ⟨_, _, _, _, _, _, h⟩ := h; exact h) ?_ ?_
    · exact ⟨_, rfl, st.mono (by omega) (by omega), hN, hD, hM, hT23⟩
    · rintro i x σ H24 hi ⟨v5, rfl, st, hN, hD, hM, hT24⟩
      obtain ⟨k, rfl, k0, k1⟩ : ∃ k : Int, x = .int k ∧ 0 ≤ k ∧ k < 2 := by
        have := List.mem_of_getElem? hi
        simp only [List.mem_cons, List.not_mem_nil, or_false] at this
        rcases this with rfl | rfl | rfl
        · exact ⟨0, rfl, by decide, by decide⟩
        · exact ⟨1, rfl, by decide, by decide⟩
        · exact ⟨0, rfl, by decide, by decide⟩
      obtain ⟨F0, F1, cor⟩ := id st
      obtain ⟨o, p, n, F, nk, eo, ep, en, bo, _⟩ := st.at k0 k1
      refine ⟨_, rfl, _, rfl, _, rfl, LD, _, k, _, rfl, rfl, SqL.of hD, eo, _, rfl, _, rfl, LM, _, k, _, rfl, rfl, SqL.of hM, ep, _, rfl, _, rfl, LN, _, k, _, rfl, rfl, SqL.of hN, en, b, ls, .ref ba, o, p, n, F, _, rfl, cor.hb, nl, nnk nk, bo, by omega, fun H27 m27 => ⟨_, rfl, iteF ?_⟩⟩
      obtain ⟨st, kb⟩ := st.same m27
      exact ⟨_, rfl, st, kb LN (by simp) _ hN, kb LD (by simp) _ hD, kb LM (by simp) _ hM, m27.tup hT24⟩
    rintro σ H24 ⟨v5, rfl, _⟩
    exact q H24
end

end Z
namespace Z
open PySem L2 SX
set_option maxHeartbeats 0 in
theorem all_mk {l : PySem.W.OpenLaw} {w : World} {K : PySem.W.Frag} {h : Heap} {mg : Str → Option Value} {fa : Addr} (X : K.In h) (G : h.Ns mainGlobals mg) (hfa : mg "law" = some (.ref fa))
    {f0 : Addr} {od0 an0 : Option Addr} {sl0 : Array (Option Value)} {oc0 kV0 dc0 pm0 cd0 ct0 : Value}
    {f1 : Addr} {od1 an1 : Option Addr} {sl1 : Array (Option Value)} {oc1 kV1 dc1 pm1 cd1 ct1 : Value}
    {f2 : Addr} {od2 an2 : Option Addr} {sl2 : Array (Option Value)} {oc2 kV2 dc2 pm2 cd2 ct2 : Value}
    {f3 : Addr} {od3 an3 : Option Addr} {sl3 : Array (Option Value)} {oc3 kV3 dc3 pm3 cd3 ct3 : Value}
    {f4 : Addr} {od4 an4 : Option Addr} {sl4 : Array (Option Value)} {oc4 kV4 dc4 pm4 cd4 ct4 : Value}
    {f5 : Addr} {od5 an5 : Option Addr} {sl5 : Array (Option Value)} {oc5 kV5 dc5 pm5 cd5 ct5 : Value}
    {f6 : Addr} {od6 an6 : Option Addr} {sl6 : Array (Option Value)} {oc6 kV6 dc6 pm6 cd6 ct6 : Value}
    {f7 : Addr} {od7 an7 : Option Addr} {sl7 : Array (Option Value)} {oc7 kV7 dc7 pm7 cd7 ct7 : Value}
    {f8 : Addr} {od8 an8 : Option Addr} {sl8 : Array (Option Value)} {oc8 kV8 dc8 pm8 cd8 ct8 : Value}
    {f9 : Addr} {od9 an9 : Option Addr} {sl9 : Array (Option Value)} {oc9 kV9 dc9 pm9 cd9 ct9 : Value}
    {f10 : Addr} {od10 an10 : Option Addr} {sl10 : Array (Option Value)} {oc10 kV10 dc10 pm10 cd10 ct10 : Value}
    {f11 : Addr} {od11 an11 : Option Addr} {sl11 : Array (Option Value)} {oc11 kV11 dc11 pm11 cd11 ct11 : Value}
    {f12 : Addr} {od12 an12 : Option Addr} {sl12 : Array (Option Value)} {oc12 kV12 dc12 pm12 cd12 ct12 : Value}
    {f13 : Addr} {od13 an13 : Option Addr} {sl13 : Array (Option Value)} {oc13 kV13 dc13 pm13 cd13 ct13 : Value}
    {f14 : Addr} {od14 an14 : Option Addr} {sl14 : Array (Option Value)} {oc14 kV14 dc14 pm14 cd14 ct14 : Value}
    {f15 : Addr} {od15 an15 : Option Addr} {sl15 : Array (Option Value)} {oc15 kV15 dc15 pm15 cd15 ct15 : Value}
    {f16 : Addr} {od16 an16 : Option Addr} {sl16 : Array (Option Value)} {oc16 kV16 dc16 pm16 cd16 ct16 : Value}
    {f17 : Addr} {od17 an17 : Option Addr} {sl17 : Array (Option Value)} {oc17 kV17 dc17 pm17 cd17 ct17 : Value}
    {f18 : Addr} {od18 an18 : Option Addr} {sl18 : Array (Option Value)} {oc18 kV18 dc18 pm18 cd18 ct18 : Value}
    {f19 : Addr} {od19 an19 : Option Addr} {sl19 : Array (Option Value)} {oc19 kV19 dc19 pm19 cd19 ct19 : Value}
    {f20 : Addr} {od20 an20 : Option Addr} {sl20 : Array (Option Value)} {oc20 kV20 dc20 pm20 cd20 ct20 : Value}
    {f21 : Addr} {od21 an21 : Option Addr} {sl21 : Array (Option Value)} {oc21 kV21 dc21 pm21 cd21 ct21 : Value}
    {f22 : Addr} {od22 an22 : Option Addr} {sl22 : Array (Option Value)} {oc22 kV22 dc22 pm22 cd22 ct22 : Value}
    {f23 : Addr} {od23 an23 : Option Addr} {sl23 : Array (Option Value)} {oc23 kV23 dc23 pm23 cd23 ct23 : Value}
    {f24 : Addr} {od24 an24 : Option Addr} {sl24 : Array (Option Value)} {oc24 kV24 dc24 pm24 cd24 ct24 : Value}
    {f25 : Addr} {od25 an25 : Option Addr} {sl25 : Array (Option Value)} {oc25 kV25 dc25 pm25 cd25 ct25 : Value}
    {f26 : Addr} {od26 an26 : Option Addr} {sl26 : Array (Option Value)} {oc26 kV26 dc26 pm26 cd26 ct26 : Value}
    {f27 : Addr} {od27 an27 : Option Addr} {sl27 : Array (Option Value)} {oc27 kV27 dc27 pm27 cd27 ct27 : Value}
    {f28 : Addr} {od28 an28 : Option Addr} {sl28 : Array (Option Value)} {oc28 kV28 dc28 pm28 cd28 ct28 : Value}
    {f29 : Addr} {od29 an29 : Option Addr} {sl29 : Array (Option Value)} {oc29 kV29 dc29 pm29 cd29 ct29 : Value}
    {f30 : Addr} {od30 an30 : Option Addr} {sl30 : Array (Option Value)} {oc30 kV30 dc30 pm30 cd30 ct30 : Value}
    {f31 : Addr} {od31 an31 : Option Addr} {sl31 : Array (Option Value)} {oc31 kV31 dc31 pm31 cd31 ct31 : Value}
    {f32 : Addr} {od32 an32 : Option Addr} {sl32 : Array (Option Value)} {oc32 kV32 dc32 pm32 cd32 ct32 : Value}
    {f33 : Addr} {od33 an33 : Option Addr} {sl33 : Array (Option Value)} {oc33 kV33 dc33 pm33 cd33 ct33 : Value}
    {f34 : Addr} {od34 an34 : Option Addr} {sl34 : Array (Option Value)} {oc34 kV34 dc34 pm34 cd34 ct34 : Value}
    {f35 : Addr} {od35 an35 : Option Addr} {sl35 : Array (Option Value)} {oc35 kV35 dc35 pm35 cd35 ct35 : Value}
    {f36 : Addr} {od36 an36 : Option Addr} {sl36 : Array (Option Value)} {oc36 kV36 dc36 pm36 cd36 ct36 : Value}
    {f37 : Addr} {od37 an37 : Option Addr} {sl37 : Array (Option Value)} {oc37 kV37 dc37 pm37 cd37 ct37 : Value}
    {f38 : Addr} {od38 an38 : Option Addr} {sl38 : Array (Option Value)} {oc38 kV38 dc38 pm38 cd38 ct38 : Value}
    {f39 : Addr} {od39 an39 : Option Addr} {sl39 : Array (Option Value)} {oc39 kV39 dc39 pm39 cd39 ct39 : Value}
    {f40 : Addr} {od40 an40 : Option Addr} {sl40 : Array (Option Value)} {oc40 kV40 dc40 pm40 cd40 ct40 : Value}
    {f41 : Addr} {od41 an41 : Option Addr} {sl41 : Array (Option Value)} {oc41 kV41 dc41 pm41 cd41 ct41 : Value}
    {f42 : Addr} {od42 an42 : Option Addr} {sl42 : Array (Option Value)} {oc42 kV42 dc42 pm42 cd42 ct42 : Value}
    {f43 : Addr} {od43 an43 : Option Addr} {sl43 : Array (Option Value)} {oc43 kV43 dc43 pm43 cd43 ct43 : Value}
    {f44 : Addr} {od44 an44 : Option Addr} {sl44 : Array (Option Value)} {oc44 kV44 dc44 pm44 cd44 ct44 : Value}
    {f45 : Addr} {od45 an45 : Option Addr} {sl45 : Array (Option Value)} {oc45 kV45 dc45 pm45 cd45 ct45 : Value}
    {f46 : Addr} {od46 an46 : Option Addr} {sl46 : Array (Option Value)} {oc46 kV46 dc46 pm46 cd46 ct46 : Value}
    {f47 : Addr} {od47 an47 : Option Addr} {sl47 : Array (Option Value)} {oc47 kV47 dc47 pm47 cd47 ct47 : Value}
    {f48 : Addr} {od48 an48 : Option Addr} {sl48 : Array (Option Value)} {oc48 kV48 dc48 pm48 cd48 ct48 : Value}
    {f49 : Addr} {od49 an49 : Option Addr} {sl49 : Array (Option Value)} {oc49 kV49 dc49 pm49 cd49 ct49 : Value}
    {f50 : Addr} {od50 an50 : Option Addr} {sl50 : Array (Option Value)} {oc50 kV50 dc50 pm50 cd50 ct50 : Value}
    {f51 : Addr} {od51 an51 : Option Addr} {sl51 : Array (Option Value)} {oc51 kV51 dc51 pm51 cd51 ct51 : Value}
    {f52 : Addr} {od52 an52 : Option Addr} {sl52 : Array (Option Value)} {oc52 kV52 dc52 pm52 cd52 ct52 : Value}
    {f53 : Addr} {od53 an53 : Option Addr} {sl53 : Array (Option Value)} {oc53 kV53 dc53 pm53 cd53 ct53 : Value}
    {f54 : Addr} {od54 an54 : Option Addr} {sl54 : Array (Option Value)} {oc54 kV54 dc54 pm54 cd54 ct54 : Value}
    {f55 : Addr} {od55 an55 : Option Addr} {sl55 : Array (Option Value)} {oc55 kV55 dc55 pm55 cd55 ct55 : Value}
    {f56 : Addr} {od56 an56 : Option Addr} {sl56 : Array (Option Value)} {oc56 kV56 dc56 pm56 cd56 ct56 : Value}
    {f57 : Addr} {od57 an57 : Option Addr} {sl57 : Array (Option Value)} {oc57 kV57 dc57 pm57 cd57 ct57 : Value}
    {f58 : Addr} {od58 an58 : Option Addr} {sl58 : Array (Option Value)} {oc58 kV58 dc58 pm58 cd58 ct58 : Value}
    {f59 : Addr} {od59 an59 : Option Addr} {sl59 : Array (Option Value)} {oc59 kV59 dc59 pm59 cd59 ct59 : Value}
    {f60 : Addr} {od60 an60 : Option Addr} {sl60 : Array (Option Value)} {oc60 kV60 dc60 pm60 cd60 ct60 : Value}
    {f61 : Addr} {od61 an61 : Option Addr} {sl61 : Array (Option Value)} {oc61 kV61 dc61 pm61 cd61 ct61 : Value}
    {A_ListDesk : Addr}
    (oG_ListDesk : PySem.W.nsIn K mainGlobals "ListDesk" = some (some (.ref A_ListDesk)))
    (oP_ListDesk : PySem.W.plainGet K A_ListDesk Str.empty = true)
    (oD_ListDesk : PySem.W.hasDictIn K A_ListDesk = true)
    (oO_ListDesk : PySem.W.plainOver K A_ListDesk = true)
    (oS_ListDesk : PySem.W.findIn K (.ref A_ListDesk) "__setattr__" = some (some (.builtin "object.__setattr__")))
    (oM_ListDesk : PySem.W.makesIn K A_ListDesk = true)
    (oK_ListDesk : PySem.W.keepIn K (.ref A_ListDesk) = true)
    (oN_ListDesk__book : PySem.W.findIn K (.ref A_ListDesk) "_book" = some none)
    (oN_ListDesk__site : PySem.W.findIn K (.ref A_ListDesk) "_site" = some none)
    (oN_ListDesk__expanded : PySem.W.findIn K (.ref A_ListDesk) "_expanded" = some none)
    (oN_ListDesk__boxes : PySem.W.findIn K (.ref A_ListDesk) "_boxes" = some none)
    (a0 : PySem.W.nsIn K mainGlobals "id_text" = some (some (.ref f0))) (l0 : K.lookup f0 = some ⟨oc0, od0, .func (PySem.W.fnOf "id_text" "id_text" (defArgs s_id_text) (defBody s_id_text) (defScope s_id_text) .none kV0 dc0 pm0 an0 cd0 ct0), sl0⟩) (c0 : PySem.W.codeIn K cd0 "id_text" = true) (k0 : PySem.W.keepIn K (.ref f0) = true)
    (a1 : PySem.W.nsIn K mainGlobals "split_address" = some (some (.ref f1))) (l1 : K.lookup f1 = some ⟨oc1, od1, .func (PySem.W.fnOf "split_address" "split_address" (defArgs s_split_address) (defBody s_split_address) (defScope s_split_address) .none kV1 dc1 pm1 an1 cd1 ct1), sl1⟩) (c1 : PySem.W.codeIn K cd1 "split_address" = true) (k1 : PySem.W.keepIn K (.ref f1) = true)
    (a2 : PySem.W.nsIn K mainGlobals "add_place" = some (some (.ref f2))) (l2 : K.lookup f2 = some ⟨oc2, od2, .func (PySem.W.fnOf "add_place" "add_place" (defArgs s_add_place) (defBody s_add_place) (defScope s_add_place) .none kV2 dc2 pm2 an2 cd2 ct2), sl2⟩) (c2 : PySem.W.codeIn K cd2 "add_place" = true) (k2 : PySem.W.keepIn K (.ref f2) = true)
    (a3 : PySem.W.nsIn K mainGlobals "follows" = some (some (.ref f3))) (l3 : K.lookup f3 = some ⟨oc3, od3, .func (PySem.W.fnOf "follows" "follows" (defArgs s_follows) (defBody s_follows) (defScope s_follows) .none kV3 dc3 pm3 an3 cd3 ct3), sl3⟩) (c3 : PySem.W.codeIn K cd3 "follows" = true) (k3 : PySem.W.keepIn K (.ref f3) = true)
    (a4 : PySem.W.nsIn K mainGlobals "standing" = some (some (.ref f4))) (l4 : K.lookup f4 = some ⟨oc4, od4, .func (PySem.W.fnOf "standing" "standing" (defArgs s_standing) (defBody s_standing) (defScope s_standing) .none kV4 dc4 pm4 an4 cd4 ct4), sl4⟩) (c4 : PySem.W.codeIn K cd4 "standing" = true) (k4 : PySem.W.keepIn K (.ref f4) = true)
    (a5 : PySem.W.nsIn K mainGlobals "fits" = some (some (.ref f5))) (l5 : K.lookup f5 = some ⟨oc5, od5, .func (PySem.W.fnOf "fits" "fits" (defArgs s_fits) (defBody s_fits) (defScope s_fits) .none kV5 dc5 pm5 an5 cd5 ct5), sl5⟩) (c5 : PySem.W.codeIn K cd5 "fits" = true) (k5 : PySem.W.keepIn K (.ref f5) = true)
    (a6 : PySem.W.nsIn K mainGlobals "items_of" = some (some (.ref f6))) (l6 : K.lookup f6 = some ⟨oc6, od6, .func (PySem.W.fnOf "items_of" "items_of" (defArgs s_items_of) (defBody s_items_of) (defScope s_items_of) .none kV6 dc6 pm6 an6 cd6 ct6), sl6⟩) (c6 : PySem.W.codeIn K cd6 "items_of" = true) (k6 : PySem.W.keepIn K (.ref f6) = true)
    (a7 : PySem.W.nsIn K mainGlobals "lets" = some (some (.ref f7))) (l7 : K.lookup f7 = some ⟨oc7, od7, .func (PySem.W.fnOf "lets" "lets" (defArgs s_lets) (defBody s_lets) (defScope s_lets) .none kV7 dc7 pm7 an7 cd7 ct7), sl7⟩) (c7 : PySem.W.codeIn K cd7 "lets" = true) (k7 : PySem.W.keepIn K (.ref f7) = true)
    (a8 : PySem.W.nsIn K mainGlobals "site_of" = some (some (.ref f8))) (l8 : K.lookup f8 = some ⟨oc8, od8, .func (PySem.W.fnOf "site_of" "site_of" (defArgs s_site_of) (defBody s_site_of) (defScope s_site_of) .none kV8 dc8 pm8 an8 cd8 ct8), sl8⟩) (c8 : PySem.W.codeIn K cd8 "site_of" = true) (k8 : PySem.W.keepIn K (.ref f8) = true)
    (a9 : PySem.W.nsIn K mainGlobals "neighbours" = some (some (.ref f9))) (l9 : K.lookup f9 = some ⟨oc9, od9, .func (PySem.W.fnOf "neighbours" "neighbours" (defArgs s_neighbours) (defBody s_neighbours) (defScope s_neighbours) .none kV9 dc9 pm9 an9 cd9 ct9), sl9⟩) (c9 : PySem.W.codeIn K cd9 "neighbours" = true) (k9 : PySem.W.keepIn K (.ref f9) = true)
    (a10 : PySem.W.nsIn K mainGlobals "copy_to" = some (some (.ref f10))) (l10 : K.lookup f10 = some ⟨oc10, od10, .func (PySem.W.fnOf "copy_to" "copy_to" (defArgs s_copy_to) (defBody s_copy_to) (defScope s_copy_to) .none kV10 dc10 pm10 an10 cd10 ct10), sl10⟩) (c10 : PySem.W.codeIn K cd10 "copy_to" = true) (k10 : PySem.W.keepIn K (.ref f10) = true)
    (a11 : PySem.W.nsIn K mainGlobals "distances" = some (some (.ref f11))) (l11 : K.lookup f11 = some ⟨oc11, od11, .func (PySem.W.fnOf "distances" "distances" (defArgs s_distances) (defBody s_distances) (defScope s_distances) .none kV11 dc11 pm11 an11 cd11 ct11), sl11⟩) (c11 : PySem.W.codeIn K cd11 "distances" = true) (k11 : PySem.W.keepIn K (.ref f11) = true)
    (a12 : PySem.W.nsIn K mainGlobals "list_of" = some (some (.ref f12))) (l12 : K.lookup f12 = some ⟨oc12, od12, .func (PySem.W.fnOf "list_of" "list_of" (defArgs s_list_of) (defBody s_list_of) (defScope s_list_of) .none kV12 dc12 pm12 an12 cd12 ct12), sl12⟩) (c12 : PySem.W.codeIn K cd12 "list_of" = true) (k12 : PySem.W.keepIn K (.ref f12) = true)
    (a13 : PySem.W.nsIn K mainGlobals "near_members" = some (some (.ref f13))) (l13 : K.lookup f13 = some ⟨oc13, od13, .func (PySem.W.fnOf "near_members" "near_members" (defArgs s_near_members) (defBody s_near_members) (defScope s_near_members) .none kV13 dc13 pm13 an13 cd13 ct13), sl13⟩) (c13 : PySem.W.codeIn K cd13 "near_members" = true) (k13 : PySem.W.keepIn K (.ref f13) = true)
    (a14 : PySem.W.nsIn K mainGlobals "lists_for" = some (some (.ref f14))) (l14 : K.lookup f14 = some ⟨oc14, od14, .func (PySem.W.fnOf "lists_for" "lists_for" (defArgs s_lists_for) (defBody s_lists_for) (defScope s_lists_for) .none kV14 dc14 pm14 an14 cd14 ct14), sl14⟩) (c14 : PySem.W.codeIn K cd14 "lists_for" = true) (k14 : PySem.W.keepIn K (.ref f14) = true)
    (a15 : PySem.W.findIn K (.ref A_ListDesk) "__init__" = some (some (.ref f15)))
    (i15 : PySem.W.isFn K (.ref f15) = true)
    (l15 : K.lookup f15 = some ⟨oc15, od15, .func (PySem.W.fnOf "__init__" "ListDesk.__init__" (defArgs s_ListDesk____init__) (defBody s_ListDesk____init__) (defScope s_ListDesk____init__) .none kV15 dc15 pm15 an15 cd15 ct15), sl15⟩)
    (c15 : PySem.W.codeIn K cd15 "ListDesk.__init__" = true)
    (k15 : PySem.W.keepIn K (.ref f15) = true)
    (a16 : PySem.W.findIn K (.ref A_ListDesk) "take" = some (some (.ref f16)))
    (i16 : PySem.W.isFn K (.ref f16) = true)
    (l16 : K.lookup f16 = some ⟨oc16, od16, .func (PySem.W.fnOf "take" "ListDesk.take" (defArgs s_ListDesk__take) (defBody s_ListDesk__take) (defScope s_ListDesk__take) .none kV16 dc16 pm16 an16 cd16 ct16), sl16⟩)
    (c16 : PySem.W.codeIn K cd16 "ListDesk.take" = true)
    (k16 : PySem.W.keepIn K (.ref f16) = true)
    (a17 : PySem.W.findIn K (.ref A_ListDesk) "expand" = some (some (.ref f17)))
    (i17 : PySem.W.isFn K (.ref f17) = true)
    (l17 : K.lookup f17 = some ⟨oc17, od17, .func (PySem.W.fnOf "expand" "ListDesk.expand" (defArgs s_ListDesk__expand) (defBody s_ListDesk__expand) (defScope s_ListDesk__expand) .none kV17 dc17 pm17 an17 cd17 ct17), sl17⟩)
    (c17 : PySem.W.codeIn K cd17 "ListDesk.expand" = true)
    (k17 : PySem.W.keepIn K (.ref f17) = true)
    (a18 : PySem.W.findIn K (.ref A_ListDesk) "hear" = some (some (.ref f18)))
    (i18 : PySem.W.isFn K (.ref f18) = true)
    (l18 : K.lookup f18 = some ⟨oc18, od18, .func (PySem.W.fnOf "hear" "ListDesk.hear" (defArgs s_ListDesk__hear) (defBody s_ListDesk__hear) (defScope s_ListDesk__hear) .none kV18 dc18 pm18 an18 cd18 ct18), sl18⟩)
    (c18 : PySem.W.codeIn K cd18 "ListDesk.hear" = true)
    (k18 : PySem.W.keepIn K (.ref f18) = true)
    (a19 : PySem.W.findIn K (.ref A_ListDesk) "box" = some (some (.ref f19)))
    (i19 : PySem.W.isFn K (.ref f19) = true)
    (l19 : K.lookup f19 = some ⟨oc19, od19, .func (PySem.W.fnOf "box" "ListDesk.box" (defArgs s_ListDesk__box) (defBody s_ListDesk__box) (defScope s_ListDesk__box) .none kV19 dc19 pm19 an19 cd19 ct19), sl19⟩)
    (c19 : PySem.W.codeIn K cd19 "ListDesk.box" = true)
    (k19 : PySem.W.keepIn K (.ref f19) = true)
    (a20 : PySem.W.nsIn K mainGlobals "_law_mix" = some (some (.ref f20))) (l20 : K.lookup f20 = some ⟨oc20, od20, .func (PySem.W.fnOf "_law_mix" "_law_mix" (defArgs s__law_mix) (defBody s__law_mix) (defScope s__law_mix) .none kV20 dc20 pm20 an20 cd20 ct20), sl20⟩) (c20 : PySem.W.codeIn K cd20 "_law_mix" = true) (k20 : PySem.W.keepIn K (.ref f20) = true)
    (a21 : PySem.W.nsIn K mainGlobals "_law_source" = some (some (.ref f21))) (l21 : K.lookup f21 = some ⟨oc21, od21, .func (PySem.W.fnOf "_law_source" "_law_source" (defArgs s__law_source) (defBody s__law_source) (defScope s__law_source) .none kV21 dc21 pm21 an21 cd21 ct21), sl21⟩) (c21 : PySem.W.codeIn K cd21 "_law_source" = true) (k21 : PySem.W.keepIn K (.ref f21) = true)
    (a22 : PySem.W.nsIn K mainGlobals "_law_draw" = some (some (.ref f22))) (l22 : K.lookup f22 = some ⟨oc22, od22, .func (PySem.W.fnOf "_law_draw" "_law_draw" (defArgs s__law_draw) (defBody s__law_draw) (defScope s__law_draw) .none kV22 dc22 pm22 an22 cd22 ct22), sl22⟩) (c22 : PySem.W.codeIn K cd22 "_law_draw" = true) (k22 : PySem.W.keepIn K (.ref f22) = true)
    (a23 : PySem.W.nsIn K mainGlobals "_law_pick" = some (some (.ref f23))) (l23 : K.lookup f23 = some ⟨oc23, od23, .func (PySem.W.fnOf "_law_pick" "_law_pick" (defArgs s__law_pick) (defBody s__law_pick) (defScope s__law_pick) .none kV23 dc23 pm23 an23 cd23 ct23), sl23⟩) (c23 : PySem.W.codeIn K cd23 "_law_pick" = true) (k23 : PySem.W.keepIn K (.ref f23) = true)
    (a24 : PySem.W.nsIn K mainGlobals "_law_shuffled" = some (some (.ref f24))) (l24 : K.lookup f24 = some ⟨oc24, od24, .func (PySem.W.fnOf "_law_shuffled" "_law_shuffled" (defArgs s__law_shuffled) (defBody s__law_shuffled) (defScope s__law_shuffled) .none kV24 dc24 pm24 an24 cd24 ct24), sl24⟩) (c24 : PySem.W.codeIn K cd24 "_law_shuffled" = true) (k24 : PySem.W.keepIn K (.ref f24) = true)
    (a25 : PySem.W.nsIn K mainGlobals "_law_new_name" = some (some (.ref f25))) (l25 : K.lookup f25 = some ⟨oc25, od25, .func (PySem.W.fnOf "_law_new_name" "_law_new_name" (defArgs s__law_new_name) (defBody s__law_new_name) (defScope s__law_new_name) .none kV25 dc25 pm25 an25 cd25 ct25), sl25⟩) (c25 : PySem.W.codeIn K cd25 "_law_new_name" = true) (k25 : PySem.W.keepIn K (.ref f25) = true)
    (a26 : PySem.W.nsIn K mainGlobals "_law_names" = some (some (.ref f26))) (l26 : K.lookup f26 = some ⟨oc26, od26, .func (PySem.W.fnOf "_law_names" "_law_names" (defArgs s__law_names) (defBody s__law_names) (defScope s__law_names) .none kV26 dc26 pm26 an26 cd26 ct26), sl26⟩) (c26 : PySem.W.codeIn K cd26 "_law_names" = true) (k26 : PySem.W.keepIn K (.ref f26) = true)
    (a27 : PySem.W.nsIn K mainGlobals "_law_row" = some (some (.ref f27))) (l27 : K.lookup f27 = some ⟨oc27, od27, .func (PySem.W.fnOf "_law_row" "_law_row" (defArgs s__law_row) (defBody s__law_row) (defScope s__law_row) .none kV27 dc27 pm27 an27 cd27 ct27), sl27⟩) (c27 : PySem.W.codeIn K cd27 "_law_row" = true) (k27 : PySem.W.keepIn K (.ref f27) = true)
    (a28 : PySem.W.nsIn K mainGlobals "_law_words" = some (some (.ref f28))) (l28 : K.lookup f28 = some ⟨oc28, od28, .func (PySem.W.fnOf "_law_words" "_law_words" (defArgs s__law_words) (defBody s__law_words) (defScope s__law_words) .none kV28 dc28 pm28 an28 cd28 ct28), sl28⟩) (c28 : PySem.W.codeIn K cd28 "_law_words" = true) (k28 : PySem.W.keepIn K (.ref f28) = true)
    (a29 : PySem.W.nsIn K mainGlobals "_law_board" = some (some (.ref f29))) (l29 : K.lookup f29 = some ⟨oc29, od29, .func (PySem.W.fnOf "_law_board" "_law_board" (defArgs s__law_board) (defBody s__law_board) (defScope s__law_board) .none kV29 dc29 pm29 an29 cd29 ct29), sl29⟩) (c29 : PySem.W.codeIn K cd29 "_law_board" = true) (k29 : PySem.W.keepIn K (.ref f29) = true)
    (a30 : PySem.W.nsIn K mainGlobals "_law_boards" = some (some (.ref f30))) (l30 : K.lookup f30 = some ⟨oc30, od30, .func (PySem.W.fnOf "_law_boards" "_law_boards" (defArgs s__law_boards) (defBody s__law_boards) (defScope s__law_boards) .none kV30 dc30 pm30 an30 cd30 ct30), sl30⟩) (c30 : PySem.W.codeIn K cd30 "_law_boards" = true) (k30 : PySem.W.keepIn K (.ref f30) = true)
    (a31 : PySem.W.nsIn K mainGlobals "_law_glob" = some (some (.ref f31))) (l31 : K.lookup f31 = some ⟨oc31, od31, .func (PySem.W.fnOf "_law_glob" "_law_glob" (defArgs s__law_glob) (defBody s__law_glob) (defScope s__law_glob) .none kV31 dc31 pm31 an31 cd31 ct31), sl31⟩) (c31 : PySem.W.codeIn K cd31 "_law_glob" = true) (k31 : PySem.W.keepIn K (.ref f31) = true)
    (a32 : PySem.W.nsIn K mainGlobals "_law_pattern" = some (some (.ref f32))) (l32 : K.lookup f32 = some ⟨oc32, od32, .func (PySem.W.fnOf "_law_pattern" "_law_pattern" (defArgs s__law_pattern) (defBody s__law_pattern) (defScope s__law_pattern) .none kV32 dc32 pm32 an32 cd32 ct32), sl32⟩) (c32 : PySem.W.codeIn K cd32 "_law_pattern" = true) (k32 : PySem.W.keepIn K (.ref f32) = true)
    (a33 : PySem.W.nsIn K mainGlobals "_law_fits" = some (some (.ref f33))) (l33 : K.lookup f33 = some ⟨oc33, od33, .func (PySem.W.fnOf "_law_fits" "_law_fits" (defArgs s__law_fits) (defBody s__law_fits) (defScope s__law_fits) .none kV33 dc33 pm33 an33 cd33 ct33), sl33⟩) (c33 : PySem.W.codeIn K cd33 "_law_fits" = true) (k33 : PySem.W.keepIn K (.ref f33) = true)
    (a34 : PySem.W.nsIn K mainGlobals "_law_lets" = some (some (.ref f34))) (l34 : K.lookup f34 = some ⟨oc34, od34, .func (PySem.W.fnOf "_law_lets" "_law_lets" (defArgs s__law_lets) (defBody s__law_lets) (defScope s__law_lets) .none kV34 dc34 pm34 an34 cd34 ct34), sl34⟩) (c34 : PySem.W.codeIn K cd34 "_law_lets" = true) (k34 : PySem.W.keepIn K (.ref f34) = true)
    (a35 : PySem.W.nsIn K mainGlobals "_law_lets_some" = some (some (.ref f35))) (l35 : K.lookup f35 = some ⟨oc35, od35, .func (PySem.W.fnOf "_law_lets_some" "_law_lets_some" (defArgs s__law_lets_some) (defBody s__law_lets_some) (defScope s__law_lets_some) .none kV35 dc35 pm35 an35 cd35 ct35), sl35⟩) (c35 : PySem.W.codeIn K cd35 "_law_lets_some" = true) (k35 : PySem.W.keepIn K (.ref f35) = true)
    (a36 : PySem.W.nsIn K mainGlobals "_law_site" = some (some (.ref f36))) (l36 : K.lookup f36 = some ⟨oc36, od36, .func (PySem.W.fnOf "_law_site" "_law_site" (defArgs s__law_site) (defBody s__law_site) (defScope s__law_site) .none kV36 dc36 pm36 an36 cd36 ct36), sl36⟩) (c36 : PySem.W.codeIn K cd36 "_law_site" = true) (k36 : PySem.W.keepIn K (.ref f36) = true)
    (a37 : PySem.W.nsIn K mainGlobals "_law_steward" = some (some (.ref f37))) (l37 : K.lookup f37 = some ⟨oc37, od37, .func (PySem.W.fnOf "_law_steward" "_law_steward" (defArgs s__law_steward) (defBody s__law_steward) (defScope s__law_steward) .none kV37 dc37 pm37 an37 cd37 ct37), sl37⟩) (c37 : PySem.W.codeIn K cd37 "_law_steward" = true) (k37 : PySem.W.keepIn K (.ref f37) = true)
    (a38 : PySem.W.nsIn K mainGlobals "_law_needed" = some (some (.ref f38))) (l38 : K.lookup f38 = some ⟨oc38, od38, .func (PySem.W.fnOf "_law_needed" "_law_needed" (defArgs s__law_needed) (defBody s__law_needed) (defScope s__law_needed) .none kV38 dc38 pm38 an38 cd38 ct38), sl38⟩) (c38 : PySem.W.codeIn K cd38 "_law_needed" = true) (k38 : PySem.W.keepIn K (.ref f38) = true)
    (a39 : PySem.W.nsIn K mainGlobals "_law_is_int" = some (some (.ref f39))) (l39 : K.lookup f39 = some ⟨oc39, od39, .func (PySem.W.fnOf "_law_is_int" "_law_is_int" (defArgs s__law_is_int) (defBody s__law_is_int) (defScope s__law_is_int) .none kV39 dc39 pm39 an39 cd39 ct39), sl39⟩) (c39 : PySem.W.codeIn K cd39 "_law_is_int" = true) (k39 : PySem.W.keepIn K (.ref f39) = true)
    (a40 : PySem.W.nsIn K mainGlobals "_law_same" = some (some (.ref f40))) (l40 : K.lookup f40 = some ⟨oc40, od40, .func (PySem.W.fnOf "_law_same" "_law_same" (defArgs s__law_same) (defBody s__law_same) (defScope s__law_same) .none kV40 dc40 pm40 an40 cd40 ct40), sl40⟩) (c40 : PySem.W.codeIn K cd40 "_law_same" = true) (k40 : PySem.W.keepIn K (.ref f40) = true)
    (a41 : PySem.W.nsIn K mainGlobals "_law_body" = some (some (.ref f41))) (l41 : K.lookup f41 = some ⟨oc41, od41, .func (PySem.W.fnOf "_law_body" "_law_body" (defArgs s__law_body) (defBody s__law_body) (defScope s__law_body) .none kV41 dc41 pm41 an41 cd41 ct41), sl41⟩) (c41 : PySem.W.codeIn K cd41 "_law_body" = true) (k41 : PySem.W.keepIn K (.ref f41) = true)
    (a42 : PySem.W.nsIn K mainGlobals "_law_lines" = some (some (.ref f42))) (l42 : K.lookup f42 = some ⟨oc42, od42, .func (PySem.W.fnOf "_law_lines" "_law_lines" (defArgs s__law_lines) (defBody s__law_lines) (defScope s__law_lines) .none kV42 dc42 pm42 an42 cd42 ct42), sl42⟩) (c42 : PySem.W.codeIn K cd42 "_law_lines" = true) (k42 : PySem.W.keepIn K (.ref f42) = true)
    (a43 : PySem.W.nsIn K mainGlobals "_law_feeds" = some (some (.ref f43))) (l43 : K.lookup f43 = some ⟨oc43, od43, .func (PySem.W.fnOf "_law_feeds" "_law_feeds" (defArgs s__law_feeds) (defBody s__law_feeds) (defScope s__law_feeds) .none kV43 dc43 pm43 an43 cd43 ct43), sl43⟩) (c43 : PySem.W.codeIn K cd43 "_law_feeds" = true) (k43 : PySem.W.keepIn K (.ref f43) = true)
    (a44 : PySem.W.nsIn K mainGlobals "_law_sites" = some (some (.ref f44))) (l44 : K.lookup f44 = some ⟨oc44, od44, .func (PySem.W.fnOf "_law_sites" "_law_sites" (defArgs s__law_sites) (defBody s__law_sites) (defScope s__law_sites) .none kV44 dc44 pm44 an44 cd44 ct44), sl44⟩) (c44 : PySem.W.codeIn K cd44 "_law_sites" = true) (k44 : PySem.W.keepIn K (.ref f44) = true)
    (a45 : PySem.W.nsIn K mainGlobals "_law_book" = some (some (.ref f45))) (l45 : K.lookup f45 = some ⟨oc45, od45, .func (PySem.W.fnOf "_law_book" "_law_book" (defArgs s__law_book) (defBody s__law_book) (defScope s__law_book) .none kV45 dc45 pm45 an45 cd45 ct45), sl45⟩) (c45 : PySem.W.codeIn K cd45 "_law_book" = true) (k45 : PySem.W.keepIn K (.ref f45) = true)
    (a46 : PySem.W.nsIn K mainGlobals "_law_over_lines" = some (some (.ref f46))) (l46 : K.lookup f46 = some ⟨oc46, od46, .func (PySem.W.fnOf "_law_over_lines" "_law_over_lines" (defArgs s__law_over_lines) (defBody s__law_over_lines) (defScope s__law_over_lines) .none kV46 dc46 pm46 an46 cd46 ct46), sl46⟩) (c46 : PySem.W.codeIn K cd46 "_law_over_lines" = true) (k46 : PySem.W.keepIn K (.ref f46) = true)
    (a47 : PySem.W.nsIn K mainGlobals "_law_thinned" = some (some (.ref f47))) (l47 : K.lookup f47 = some ⟨oc47, od47, .func (PySem.W.fnOf "_law_thinned" "_law_thinned" (defArgs s__law_thinned) (defBody s__law_thinned) (defScope s__law_thinned) .none kV47 dc47 pm47 an47 cd47 ct47), sl47⟩) (c47 : PySem.W.codeIn K cd47 "_law_thinned" = true) (k47 : PySem.W.keepIn K (.ref f47) = true)
    (a48 : PySem.W.nsIn K mainGlobals "_law_spread" = some (some (.ref f48))) (l48 : K.lookup f48 = some ⟨oc48, od48, .func (PySem.W.fnOf "_law_spread" "_law_spread" (defArgs s__law_spread) (defBody s__law_spread) (defScope s__law_spread) .none kV48 dc48 pm48 an48 cd48 ct48), sl48⟩) (c48 : PySem.W.codeIn K cd48 "_law_spread" = true) (k48 : PySem.W.keepIn K (.ref f48) = true)
    (a49 : PySem.W.nsIn K mainGlobals "_law_wide_book" = some (some (.ref f49))) (l49 : K.lookup f49 = some ⟨oc49, od49, .func (PySem.W.fnOf "_law_wide_book" "_law_wide_book" (defArgs s__law_wide_book) (defBody s__law_wide_book) (defScope s__law_wide_book) .none kV49 dc49 pm49 an49 cd49 ct49), sl49⟩) (c49 : PySem.W.codeIn K cd49 "_law_wide_book" = true) (k49 : PySem.W.keepIn K (.ref f49) = true)
    (a50 : PySem.W.nsIn K mainGlobals "_law_nets" = some (some (.ref f50))) (l50 : K.lookup f50 = some ⟨oc50, od50, .func (PySem.W.fnOf "_law_nets" "_law_nets" (defArgs s__law_nets) (defBody s__law_nets) (defScope s__law_nets) .none kV50 dc50 pm50 an50 cd50 ct50), sl50⟩) (c50 : PySem.W.codeIn K cd50 "_law_nets" = true) (k50 : PySem.W.keepIn K (.ref f50) = true)
    (a51 : PySem.W.nsIn K mainGlobals "_law_spreads" = some (some (.ref f51))) (l51 : K.lookup f51 = some ⟨oc51, od51, .func (PySem.W.fnOf "_law_spreads" "_law_spreads" (defArgs s__law_spreads) (defBody s__law_spreads) (defScope s__law_spreads) .none kV51 dc51 pm51 an51 cd51 ct51), sl51⟩) (c51 : PySem.W.codeIn K cd51 "_law_spreads" = true) (k51 : PySem.W.keepIn K (.ref f51) = true)
    (a52 : PySem.W.nsIn K mainGlobals "_law_gates_due" = some (some (.ref f52))) (l52 : K.lookup f52 = some ⟨oc52, od52, .func (PySem.W.fnOf "_law_gates_due" "_law_gates_due" (defArgs s__law_gates_due) (defBody s__law_gates_due) (defScope s__law_gates_due) .none kV52 dc52 pm52 an52 cd52 ct52), sl52⟩) (c52 : PySem.W.codeIn K cd52 "_law_gates_due" = true) (k52 : PySem.W.keepIn K (.ref f52) = true)
    (a53 : PySem.W.nsIn K mainGlobals "_law_copy" = some (some (.ref f53))) (l53 : K.lookup f53 = some ⟨oc53, od53, .func (PySem.W.fnOf "_law_copy" "_law_copy" (defArgs s__law_copy) (defBody s__law_copy) (defScope s__law_copy) .none kV53 dc53 pm53 an53 cd53 ct53), sl53⟩) (c53 : PySem.W.codeIn K cd53 "_law_copy" = true) (k53 : PySem.W.keepIn K (.ref f53) = true)
    (a54 : PySem.W.nsIn K mainGlobals "_law_carried_notice" = some (some (.ref f54))) (l54 : K.lookup f54 = some ⟨oc54, od54, .func (PySem.W.fnOf "_law_carried_notice" "_law_carried_notice" (defArgs s__law_carried_notice) (defBody s__law_carried_notice) (defScope s__law_carried_notice) .none kV54 dc54 pm54 an54 cd54 ct54), sl54⟩) (c54 : PySem.W.codeIn K cd54 "_law_carried_notice" = true) (k54 : PySem.W.keepIn K (.ref f54) = true)
    (a55 : PySem.W.nsIn K mainGlobals "_law_ways_here" = some (some (.ref f55))) (l55 : K.lookup f55 = some ⟨oc55, od55, .func (PySem.W.fnOf "_law_ways_here" "_law_ways_here" (defArgs s__law_ways_here) (defBody s__law_ways_here) (defScope s__law_ways_here) .none kV55 dc55 pm55 an55 cd55 ct55), sl55⟩) (c55 : PySem.W.codeIn K cd55 "_law_ways_here" = true) (k55 : PySem.W.keepIn K (.ref f55) = true)
    (a56 : PySem.W.nsIn K mainGlobals "_law_expanded" = some (some (.ref f56))) (l56 : K.lookup f56 = some ⟨oc56, od56, .func (PySem.W.fnOf "_law_expanded" "_law_expanded" (defArgs s__law_expanded) (defBody s__law_expanded) (defScope s__law_expanded) .none kV56 dc56 pm56 an56 cd56 ct56), sl56⟩) (c56 : PySem.W.codeIn K cd56 "_law_expanded" = true) (k56 : PySem.W.keepIn K (.ref f56) = true)
    (a57 : PySem.W.nsIn K mainGlobals "_law_take_due" = some (some (.ref f57))) (l57 : K.lookup f57 = some ⟨oc57, od57, .func (PySem.W.fnOf "_law_take_due" "_law_take_due" (defArgs s__law_take_due) (defBody s__law_take_due) (defScope s__law_take_due) .none kV57 dc57 pm57 an57 cd57 ct57), sl57⟩) (c57 : PySem.W.codeIn K cd57 "_law_take_due" = true) (k57 : PySem.W.keepIn K (.ref f57) = true)
    (a58 : PySem.W.nsIn K mainGlobals "_law_hear_due" = some (some (.ref f58))) (l58 : K.lookup f58 = some ⟨oc58, od58, .func (PySem.W.fnOf "_law_hear_due" "_law_hear_due" (defArgs s__law_hear_due) (defBody s__law_hear_due) (defScope s__law_hear_due) .none kV58 dc58 pm58 an58 cd58 ct58), sl58⟩) (c58 : PySem.W.codeIn K cd58 "_law_hear_due" = true) (k58 : PySem.W.keepIn K (.ref f58) = true)
    (a59 : PySem.W.nsIn K mainGlobals "_law_deed_right" = some (some (.ref f59))) (l59 : K.lookup f59 = some ⟨oc59, od59, .func (PySem.W.fnOf "_law_deed_right" "_law_deed_right" (defArgs s__law_deed_right) (defBody s__law_deed_right) (defScope s__law_deed_right) .none kV59 dc59 pm59 an59 cd59 ct59), sl59⟩) (c59 : PySem.W.codeIn K cd59 "_law_deed_right" = true) (k59 : PySem.W.keepIn K (.ref f59) = true)
    (a60 : PySem.W.nsIn K mainGlobals "_law_boxes_right" = some (some (.ref f60))) (l60 : K.lookup f60 = some ⟨oc60, od60, .func (PySem.W.fnOf "_law_boxes_right" "_law_boxes_right" (defArgs s__law_boxes_right) (defBody s__law_boxes_right) (defScope s__law_boxes_right) .none kV60 dc60 pm60 an60 cd60 ct60), sl60⟩) (c60 : PySem.W.codeIn K cd60 "_law_boxes_right" = true) (k60 : PySem.W.keepIn K (.ref f60) = true)
    (a61 : PySem.W.nsIn K mainGlobals "law" = some (some (.ref f61))) (l61 : K.lookup f61 = some ⟨oc61, od61, .func (PySem.W.fnOf "law" "law" (defArgs s_law) (defBody s_law) (defScope s_law) .none kV61 dc61 pm61 an61 cd61 ct61), sl61⟩) (c61 : PySem.W.codeIn K cd61 "law" = true) (k61 : PySem.W.keepIn K (.ref f61) = true)
    (z_abs : PySem.W.nsIn K mainGlobals "abs" = some none)
    (z_bool : PySem.W.nsIn K mainGlobals "bool" = some none)
    (z_int : PySem.W.nsIn K mainGlobals "int" = some none)
    (z_isinstance : PySem.W.nsIn K mainGlobals "isinstance" = some none)
    (z_len : PySem.W.nsIn K mainGlobals "len" = some none)
    (z_list : PySem.W.nsIn K mainGlobals "list" = some none)
    (z_max : PySem.W.nsIn K mainGlobals "max" = some none)
    (z_min : PySem.W.nsIn K mainGlobals "min" = some none)
    (z_range : PySem.W.nsIn K mainGlobals "range" = some none)
    (z_reversed : PySem.W.nsIn K mainGlobals "reversed" = some none)
    (z_sorted : PySem.W.nsIn K mainGlobals "sorted" = some none)
    (z_str : PySem.W.nsIn K mainGlobals "str" = some none)
    (z_tuple : PySem.W.nsIn K mainGlobals "tuple" = some none) :
    ∃ fd : FuncData, (∀ (s : Shared) (v : Value), BindsTo s fd ⟨[v], []⟩ [("script", v)]) ∧ ∀ base : Heap, K.In base → base.Ns mainGlobals mg → FnOk l.prog w K mg base CX0 14 fa fd ["script"] (sp_law K) := by
  have e := hfa.symm.trans (PySem.W.mg_of X G a61)
  cases e
  have T : Tx mg := ⟨PySem.W.mg_none_of X G z_abs, PySem.W.mg_none_of X G z_bool, PySem.W.mg_none_of X G z_int, PySem.W.mg_none_of X G z_isinstance, PySem.W.mg_none_of X G z_len, PySem.W.mg_none_of X G z_list, PySem.W.mg_none_of X G z_max, PySem.W.mg_none_of X G z_min, PySem.W.mg_none_of X G z_range, PySem.W.mg_none_of X G z_reversed, PySem.W.mg_none_of X G z_sorted, PySem.W.mg_none_of X G z_str, PySem.W.mg_none_of X G z_tuple⟩
  refine ⟨PySem.W.fnOf "law" "law" (defArgs s_law) (defBody s_law) (defScope s_law) .none kV61 dc61 pm61 an61 cd61 ct61, fun s v => .of_eq rfl, fun base _ _ => ?_⟩
  have D_id_text : Df K mg "id_text" s_id_text ["id"] := ⟨f0, _, fun_mk (st := s_id_text) l0 c0 k0, PySem.W.mg_of X G a0, (fun_mk (st := s_id_text) l0 c0 k0).binds (ps := ["id"]) fun _ _ _ _ _ _ us hl => match us, hl with | [_], _ => rfl⟩
  have D_split_address : Df K mg "split_address" s_split_address ["address"] := ⟨f1, _, fun_mk (st := s_split_address) l1 c1 k1, PySem.W.mg_of X G a1, (fun_mk (st := s_split_address) l1 c1 k1).binds (ps := ["address"]) fun _ _ _ _ _ _ us hl => match us, hl with | [_], _ => rfl⟩
  have D_add_place : Df K mg "add_place" s_add_place ["glob", "places", "place"] := ⟨f2, _, fun_mk (st := s_add_place) l2 c2 k2, PySem.W.mg_of X G a2, (fun_mk (st := s_add_place) l2 c2 k2).binds (ps := ["glob", "places", "place"]) fun _ _ _ _ _ _ us hl => match us, hl with | [_, _, _], _ => rfl⟩
  have D_follows : Df K mg "follows" s_follows ["glob", "standing", "character"] := ⟨f3, _, fun_mk (st := s_follows) l3 c3 k3, PySem.W.mg_of X G a3, (fun_mk (st := s_follows) l3 c3 k3).binds (ps := ["glob", "standing", "character"]) fun _ _ _ _ _ _ us hl => match us, hl with | [_, _, _], _ => rfl⟩
  have D_standing : Df K mg "standing" s_standing ["glob", "beginning"] := ⟨f4, _, fun_mk (st := s_standing) l4 c4 k4, PySem.W.mg_of X G a4, (fun_mk (st := s_standing) l4 c4 k4).binds (ps := ["glob", "beginning"]) fun _ _ _ _ _ _ us hl => match us, hl with | [_, _], _ => rfl⟩
  have D_fits : Df K mg "fits" s_fits ["glob", "board"] := ⟨f5, _, fun_mk (st := s_fits) l5 c5 k5, PySem.W.mg_of X G a5, (fun_mk (st := s_fits) l5 c5 k5).binds (ps := ["glob", "board"]) fun _ _ _ _ _ _ us hl => match us, hl with | [_, _], _ => rfl⟩
  have D_items_of : Df K mg "items_of" s_items_of ["pattern"] := ⟨f6, _, fun_mk (st := s_items_of) l6 c6 k6, PySem.W.mg_of X G a6, (fun_mk (st := s_items_of) l6 c6 k6).binds (ps := ["pattern"]) fun _ _ _ _ _ _ us hl => match us, hl with | [_], _ => rfl⟩
  have D_lets : Df K mg "lets" s_lets ["pattern", "board"] := ⟨f7, _, fun_mk (st := s_lets) l7 c7 k7, PySem.W.mg_of X G a7, (fun_mk (st := s_lets) l7 c7 k7).binds (ps := ["pattern", "board"]) fun _ _ _ _ _ _ us hl => match us, hl with | [_, _], _ => rfl⟩
  have D_site_of : Df K mg "site_of" s_site_of ["book", "name"] := ⟨f8, _, fun_mk (st := s_site_of) l8 c8 k8, PySem.W.mg_of X G a8, (fun_mk (st := s_site_of) l8 c8 k8).binds (ps := ["book", "name"]) fun _ _ _ _ _ _ us hl => match us, hl with | [_, _], _ => rfl⟩
  have D_neighbours : Df K mg "neighbours" s_neighbours ["book", "name"] := ⟨f9, _, fun_mk (st := s_neighbours) l9 c9 k9, PySem.W.mg_of X G a9, (fun_mk (st := s_neighbours) l9 c9 k9).binds (ps := ["book", "name"]) fun _ _ _ _ _ _ us hl => match us, hl with | [_, _], _ => rfl⟩
  have D_copy_to : Df K mg "copy_to" s_copy_to ["notice", "list_address", "member"] := ⟨f10, _, fun_mk (st := s_copy_to) l10 c10 k10, PySem.W.mg_of X G a10, (fun_mk (st := s_copy_to) l10 c10 k10).binds (ps := ["notice", "list_address", "member"]) fun _ _ _ _ _ _ us hl => match us, hl with | [_, _, _], _ => rfl⟩
  have D_distances : Df K mg "distances" s_distances ["book", "site"] := ⟨f11, _, fun_mk (st := s_distances) l11 c11 k11, PySem.W.mg_of X G a11, (fun_mk (st := s_distances) l11 c11 k11).binds (ps := ["book", "site"]) fun _ _ _ _ _ _ us hl => match us, hl with | [_, _], _ => rfl⟩
  have D_list_of : Df K mg "list_of" s_list_of ["book", "address"] := ⟨f12, _, fun_mk (st := s_list_of) l12 c12 k12, PySem.W.mg_of X G a12, (fun_mk (st := s_list_of) l12 c12 k12).binds (ps := ["book", "address"]) fun _ _ _ _ _ _ us hl => match us, hl with | [_, _], _ => rfl⟩
  have D_near_members : Df K mg "near_members" s_near_members ["book", "entry"] := ⟨f13, _, fun_mk (st := s_near_members) l13 c13 k13, PySem.W.mg_of X G a13, (fun_mk (st := s_near_members) l13 c13 k13).binds (ps := ["book", "entry"]) fun _ _ _ _ _ _ us hl => match us, hl with | [_, _], _ => rfl⟩
  have D_lists_for : Df K mg "lists_for" s_lists_for ["book", "site", "boards"] := ⟨f14, _, fun_mk (st := s_lists_for) l14 c14 k14, PySem.W.mg_of X G a14, (fun_mk (st := s_lists_for) l14 c14 k14).binds (ps := ["book", "site", "boards"]) fun _ _ _ _ _ _ us hl => match us, hl with | [_, _, _], _ => rfl⟩
  have D_ListDesk____init__ : DfI K A_ListDesk "ListDesk.__init__" s_ListDesk____init__ ["self", "book", "site"] := ⟨f15, _, fun_mk (st := s_ListDesk____init__) l15 c15 k15, ⟨oM_ListDesk, a15, i15, oK_ListDesk⟩, (fun_mk (st := s_ListDesk____init__) l15 c15 k15).binds (ps := ["self", "book", "site"]) fun _ _ _ _ _ _ us hl => match us, hl with | [_, _, _], _ => rfl⟩
  have D_ListDesk__take : DfM K A_ListDesk "take" "ListDesk.take" s_ListDesk__take ["self", "notice"] := ⟨f16, _, fun_mk (st := s_ListDesk__take) l16 c16 k16, ⟨a16, i16, k16⟩, (fun_mk (st := s_ListDesk__take) l16 c16 k16).binds (ps := ["self", "notice"]) fun _ _ _ _ _ _ us hl => match us, hl with | [_, _], _ => rfl⟩
  have D_ListDesk__expand : DfM K A_ListDesk "expand" "ListDesk.expand" s_ListDesk__expand ["self", "address", "notice"] := ⟨f17, _, fun_mk (st := s_ListDesk__expand) l17 c17 k17, ⟨a17, i17, k17⟩, (fun_mk (st := s_ListDesk__expand) l17 c17 k17).binds (ps := ["self", "address", "notice"]) fun _ _ _ _ _ _ us hl => match us, hl with | [_, _, _], _ => rfl⟩
  have D_ListDesk__hear : DfM K A_ListDesk "hear" "ListDesk.hear" s_ListDesk__hear ["self", "letter"] := ⟨f18, _, fun_mk (st := s_ListDesk__hear) l18 c18 k18, ⟨a18, i18, k18⟩, (fun_mk (st := s_ListDesk__hear) l18 c18 k18).binds (ps := ["self", "letter"]) fun _ _ _ _ _ _ us hl => match us, hl with | [_, _], _ => rfl⟩
  have D_ListDesk__box : DfM K A_ListDesk "box" "ListDesk.box" s_ListDesk__box ["self", "address"] := ⟨f19, _, fun_mk (st := s_ListDesk__box) l19 c19 k19, ⟨a19, i19, k19⟩, (fun_mk (st := s_ListDesk__box) l19 c19 k19).binds (ps := ["self", "address"]) fun _ _ _ _ _ _ us hl => match us, hl with | [_, _], _ => rfl⟩
  have D__law_mix : Df K mg "_law_mix" s__law_mix ["seed", "turn"] := ⟨f20, _, fun_mk (st := s__law_mix) l20 c20 k20, PySem.W.mg_of X G a20, (fun_mk (st := s__law_mix) l20 c20 k20).binds (ps := ["seed", "turn"]) fun _ _ _ _ _ _ us hl => match us, hl with | [_, _], _ => rfl⟩
  have D__law_source : Df K mg "_law_source" s__law_source ["script"] := ⟨f21, _, fun_mk (st := s__law_source) l21 c21 k21, PySem.W.mg_of X G a21, (fun_mk (st := s__law_source) l21 c21 k21).binds (ps := ["script"]) fun _ _ _ _ _ _ us hl => match us, hl with | [_], _ => rfl⟩
  have D__law_draw : Df K mg "_law_draw" s__law_draw ["source", "many"] := ⟨f22, _, fun_mk (st := s__law_draw) l22 c22 k22, PySem.W.mg_of X G a22, (fun_mk (st := s__law_draw) l22 c22 k22).binds (ps := ["source", "many"]) fun _ _ _ _ _ _ us hl => match us, hl with | [_, _], _ => rfl⟩
  have D__law_pick : Df K mg "_law_pick" s__law_pick ["source", "row"] := ⟨f23, _, fun_mk (st := s__law_pick) l23 c23 k23, PySem.W.mg_of X G a23, (fun_mk (st := s__law_pick) l23 c23 k23).binds (ps := ["source", "row"]) fun _ _ _ _ _ _ us hl => match us, hl with | [_, _], _ => rfl⟩
  have D__law_shuffled : Df K mg "_law_shuffled" s__law_shuffled ["source", "row"] := ⟨f24, _, fun_mk (st := s__law_shuffled) l24 c24 k24, PySem.W.mg_of X G a24, (fun_mk (st := s__law_shuffled) l24 c24 k24).binds (ps := ["source", "row"]) fun _ _ _ _ _ _ us hl => match us, hl with | [_, _], _ => rfl⟩
  have D__law_new_name : Df K mg "_law_new_name" s__law_new_name ["source", "used"] := ⟨f25, _, fun_mk (st := s__law_new_name) l25 c25 k25, PySem.W.mg_of X G a25, (fun_mk (st := s__law_new_name) l25 c25 k25).binds (ps := ["source", "used"]) fun _ _ _ _ _ _ us hl => match us, hl with | [_, _], _ => rfl⟩
  have D__law_names : Df K mg "_law_names" s__law_names ["source", "many"] := ⟨f26, _, fun_mk (st := s__law_names) l26 c26 k26, PySem.W.mg_of X G a26, (fun_mk (st := s__law_names) l26 c26 k26).binds (ps := ["source", "many"]) fun _ _ _ _ _ _ us hl => match us, hl with | [_, _], _ => rfl⟩
  have D__law_row : Df K mg "_law_row" s__law_row ["source", "size"] := ⟨f27, _, fun_mk (st := s__law_row) l27 c27 k27, PySem.W.mg_of X G a27, (fun_mk (st := s__law_row) l27 c27 k27).binds (ps := ["source", "size"]) fun _ _ _ _ _ _ us hl => match us, hl with | [_, _], _ => rfl⟩
  have D__law_words : Df K mg "_law_words" s__law_words ["source"] := ⟨f28, _, fun_mk (st := s__law_words) l28 c28 k28, PySem.W.mg_of X G a28, (fun_mk (st := s__law_words) l28 c28 k28).binds (ps := ["source"]) fun _ _ _ _ _ _ us hl => match us, hl with | [_], _ => rfl⟩
  have D__law_board : Df K mg "_law_board" s__law_board ["source", "words"] := ⟨f29, _, fun_mk (st := s__law_board) l29 c29 k29, PySem.W.mg_of X G a29, (fun_mk (st := s__law_board) l29 c29 k29).binds (ps := ["source", "words"]) fun _ _ _ _ _ _ us hl => match us, hl with | [_, _], _ => rfl⟩
  have D__law_boards : Df K mg "_law_boards" s__law_boards ["source", "words", "most"] := ⟨f30, _, fun_mk (st := s__law_boards) l30 c30 k30, PySem.W.mg_of X G a30, (fun_mk (st := s__law_boards) l30 c30 k30).binds (ps := ["source", "words", "most"]) fun _ _ _ _ _ _ us hl => match us, hl with | [_, _, _], _ => rfl⟩
  have D__law_glob : Df K mg "_law_glob" s__law_glob ["source", "words"] := ⟨f31, _, fun_mk (st := s__law_glob) l31 c31 k31, PySem.W.mg_of X G a31, (fun_mk (st := s__law_glob) l31 c31 k31).binds (ps := ["source", "words"]) fun _ _ _ _ _ _ us hl => match us, hl with | [_, _], _ => rfl⟩
  have D__law_pattern : Df K mg "_law_pattern" s__law_pattern ["source", "words"] := ⟨f32, _, fun_mk (st := s__law_pattern) l32 c32 k32, PySem.W.mg_of X G a32, (fun_mk (st := s__law_pattern) l32 c32 k32).binds (ps := ["source", "words"]) fun _ _ _ _ _ _ us hl => match us, hl with | [_, _], _ => rfl⟩
  have D__law_fits : Df K mg "_law_fits" s__law_fits ["glob", "board"] := ⟨f33, _, fun_mk (st := s__law_fits) l33 c33 k33, PySem.W.mg_of X G a33, (fun_mk (st := s__law_fits) l33 c33 k33).binds (ps := ["glob", "board"]) fun _ _ _ _ _ _ us hl => match us, hl with | [_, _], _ => rfl⟩
  have D__law_lets : Df K mg "_law_lets" s__law_lets ["pattern", "board"] := ⟨f34, _, fun_mk (st := s__law_lets) l34 c34 k34, PySem.W.mg_of X G a34, (fun_mk (st := s__law_lets) l34 c34 k34).binds (ps := ["pattern", "board"]) fun _ _ _ _ _ _ us hl => match us, hl with | [_, _], _ => rfl⟩
  have D__law_lets_some : Df K mg "_law_lets_some" s__law_lets_some ["pattern", "boards"] := ⟨f35, _, fun_mk (st := s__law_lets_some) l35 c35 k35, PySem.W.mg_of X G a35, (fun_mk (st := s__law_lets_some) l35 c35 k35).binds (ps := ["pattern", "boards"]) fun _ _ _ _ _ _ us hl => match us, hl with | [_, _], _ => rfl⟩
  have D__law_site : Df K mg "_law_site" s__law_site ["book", "name"] := ⟨f36, _, fun_mk (st := s__law_site) l36 c36 k36, PySem.W.mg_of X G a36, (fun_mk (st := s__law_site) l36 c36 k36).binds (ps := ["book", "name"]) fun _ _ _ _ _ _ us hl => match us, hl with | [_, _], _ => rfl⟩
  have D__law_steward : Df K mg "_law_steward" s__law_steward ["book", "board"] := ⟨f37, _, fun_mk (st := s__law_steward) l37 c37 k37, PySem.W.mg_of X G a37, (fun_mk (st := s__law_steward) l37 c37 k37).binds (ps := ["book", "board"]) fun _ _ _ _ _ _ us hl => match us, hl with | [_, _], _ => rfl⟩
  have D__law_needed : Df K mg "_law_needed" s__law_needed ["book", "boards"] := ⟨f38, _, fun_mk (st := s__law_needed) l38 c38 k38, PySem.W.mg_of X G a38, (fun_mk (st := s__law_needed) l38 c38 k38).binds (ps := ["book", "boards"]) fun _ _ _ _ _ _ us hl => match us, hl with | [_, _], _ => rfl⟩
  have D__law_is_int : Df K mg "_law_is_int" s__law_is_int ["value"] := ⟨f39, _, fun_mk (st := s__law_is_int) l39 c39 k39, PySem.W.mg_of X G a39, (fun_mk (st := s__law_is_int) l39 c39 k39).binds (ps := ["value"]) fun _ _ _ _ _ _ us hl => match us, hl with | [_], _ => rfl⟩
  have D__law_same : Df K mg "_law_same" s__law_same ["actual", "due"] := ⟨f40, _, fun_mk (st := s__law_same) l40 c40 k40, PySem.W.mg_of X G a40, (fun_mk (st := s__law_same) l40 c40 k40).binds (ps := ["actual", "due"]) fun _ _ _ _ _ _ us hl => match us, hl with | [_, _], _ => rfl⟩
  have D__law_body : Df K mg "_law_body" s__law_body ["source"] := ⟨f41, _, fun_mk (st := s__law_body) l41 c41 k41, PySem.W.mg_of X G a41, (fun_mk (st := s__law_body) l41 c41 k41).binds (ps := ["source"]) fun _ _ _ _ _ _ us hl => match us, hl with | [_], _ => rfl⟩
  have D__law_lines : Df K mg "_law_lines" s__law_lines ["source", "names"] := ⟨f42, _, fun_mk (st := s__law_lines) l42 c42 k42, PySem.W.mg_of X G a42, (fun_mk (st := s__law_lines) l42 c42 k42).binds (ps := ["source", "names"]) fun _ _ _ _ _ _ us hl => match us, hl with | [_, _], _ => rfl⟩
  have D__law_feeds : Df K mg "_law_feeds" s__law_feeds ["source", "lines", "words", "wide"] := ⟨f43, _, fun_mk (st := s__law_feeds) l43 c43 k43, PySem.W.mg_of X G a43, (fun_mk (st := s__law_feeds) l43 c43 k43).binds (ps := ["source", "lines", "words", "wide"]) fun _ _ _ _ _ _ us hl => match us, hl with | [_, _, _, _], _ => rfl⟩
  have D__law_sites : Df K mg "_law_sites" s__law_sites ["source", "names", "words", "window", "offsets"] := ⟨f44, _, fun_mk (st := s__law_sites) l44 c44 k44, PySem.W.mg_of X G a44, (fun_mk (st := s__law_sites) l44 c44 k44).binds (ps := ["source", "names", "words", "window", "offsets"]) fun _ _ _ _ _ _ us hl => match us, hl with | [_, _, _, _, _], _ => rfl⟩
  have D__law_book : Df K mg "_law_book" s__law_book ["source", "many", "words"] := ⟨f45, _, fun_mk (st := s__law_book) l45 c45 k45, PySem.W.mg_of X G a45, (fun_mk (st := s__law_book) l45 c45 k45).binds (ps := ["source", "many", "words"]) fun _ _ _ _ _ _ us hl => match us, hl with | [_, _, _], _ => rfl⟩
  have D__law_over_lines : Df K mg "_law_over_lines" s__law_over_lines ["book", "lines"] := ⟨f46, _, fun_mk (st := s__law_over_lines) l46 c46 k46, PySem.W.mg_of X G a46, (fun_mk (st := s__law_over_lines) l46 c46 k46).binds (ps := ["book", "lines"]) fun _ _ _ _ _ _ us hl => match us, hl with | [_, _], _ => rfl⟩
  have D__law_thinned : Df K mg "_law_thinned" s__law_thinned ["source", "book"] := ⟨f47, _, fun_mk (st := s__law_thinned) l47 c47 k47, PySem.W.mg_of X G a47, (fun_mk (st := s__law_thinned) l47 c47 k47).binds (ps := ["source", "book"]) fun _ _ _ _ _ _ us hl => match us, hl with | [_, _], _ => rfl⟩
  have D__law_spread : Df K mg "_law_spread" s__law_spread ["book", "start"] := ⟨f48, _, fun_mk (st := s__law_spread) l48 c48 k48, PySem.W.mg_of X G a48, (fun_mk (st := s__law_spread) l48 c48 k48).binds (ps := ["book", "start"]) fun _ _ _ _ _ _ us hl => match us, hl with | [_, _], _ => rfl⟩
  have D__law_wide_book : Df K mg "_law_wide_book" s__law_wide_book ["source", "words", "most"] := ⟨f49, _, fun_mk (st := s__law_wide_book) l49 c49 k49, PySem.W.mg_of X G a49, (fun_mk (st := s__law_wide_book) l49 c49 k49).binds (ps := ["source", "words", "most"]) fun _ _ _ _ _ _ us hl => match us, hl with | [_, _, _], _ => rfl⟩
  have D__law_nets : Df K mg "_law_nets" s__law_nets ["source", "book", "words"] := ⟨f50, _, fun_mk (st := s__law_nets) l50 c50 k50, PySem.W.mg_of X G a50, (fun_mk (st := s__law_nets) l50 c50 k50).binds (ps := ["source", "book", "words"]) fun _ _ _ _ _ _ us hl => match us, hl with | [_, _, _], _ => rfl⟩
  have D__law_spreads : Df K mg "_law_spreads" s__law_spreads ["book"] := ⟨f51, _, fun_mk (st := s__law_spreads) l51 c51 k51, PySem.W.mg_of X G a51, (fun_mk (st := s__law_spreads) l51 c51 k51).binds (ps := ["book"]) fun _ _ _ _ _ _ us hl => match us, hl with | [_], _ => rfl⟩
  have D__law_gates_due : Df K mg "_law_gates_due" s__law_gates_due ["book", "name", "boards"] := ⟨f52, _, fun_mk (st := s__law_gates_due) l52 c52 k52, PySem.W.mg_of X G a52, (fun_mk (st := s__law_gates_due) l52 c52 k52).binds (ps := ["book", "name", "boards"]) fun _ _ _ _ _ _ us hl => match us, hl with | [_, _, _], _ => rfl⟩
  have D__law_copy : Df K mg "_law_copy" s__law_copy ["notice", "home", "member"] := ⟨f53, _, fun_mk (st := s__law_copy) l53 c53 k53, PySem.W.mg_of X G a53, (fun_mk (st := s__law_copy) l53 c53 k53).binds (ps := ["notice", "home", "member"]) fun _ _ _ _ _ _ us hl => match us, hl with | [_, _, _], _ => rfl⟩
  have D__law_carried_notice : Df K mg "_law_carried_notice" s__law_carried_notice ["source", "book", "words", "number"] := ⟨f54, _, fun_mk (st := s__law_carried_notice) l54 c54 k54, PySem.W.mg_of X G a54, (fun_mk (st := s__law_carried_notice) l54 c54 k54).binds (ps := ["source", "book", "words", "number"]) fun _ _ _ _ _ _ us hl => match us, hl with | [_, _, _, _], _ => rfl⟩
  have D__law_ways_here : Df K mg "_law_ways_here" s__law_ways_here ["book", "spreads", "name"] := ⟨f55, _, fun_mk (st := s__law_ways_here) l55 c55 k55, PySem.W.mg_of X G a55, (fun_mk (st := s__law_ways_here) l55 c55 k55).binds (ps := ["book", "spreads", "name"]) fun _ _ _ _ _ _ us hl => match us, hl with | [_, _, _], _ => rfl⟩
  have D__law_expanded : Df K mg "_law_expanded" s__law_expanded ["book", "spreads", "model", "home", "notice"] := ⟨f56, _, fun_mk (st := s__law_expanded) l56 c56 k56, PySem.W.mg_of X G a56, (fun_mk (st := s__law_expanded) l56 c56 k56).binds (ps := ["book", "spreads", "model", "home", "notice"]) fun _ _ _ _ _ _ us hl => match us, hl with | [_, _, _, _, _], _ => rfl⟩
  have D__law_take_due : Df K mg "_law_take_due" s__law_take_due ["book", "spreads", "model", "name", "notice"] := ⟨f57, _, fun_mk (st := s__law_take_due) l57 c57 k57, PySem.W.mg_of X G a57, (fun_mk (st := s__law_take_due) l57 c57 k57).binds (ps := ["book", "spreads", "model", "name", "notice"]) fun _ _ _ _ _ _ us hl => match us, hl with | [_, _, _, _, _], _ => rfl⟩
  have D__law_hear_due : Df K mg "_law_hear_due" s__law_hear_due ["book", "spreads", "model", "letter"] := ⟨f58, _, fun_mk (st := s__law_hear_due) l58 c58 k58, PySem.W.mg_of X G a58, (fun_mk (st := s__law_hear_due) l58 c58 k58).binds (ps := ["book", "spreads", "model", "letter"]) fun _ _ _ _ _ _ us hl => match us, hl with | [_, _, _, _], _ => rfl⟩
  have D__law_deed_right : Df K mg "_law_deed_right" s__law_deed_right ["source", "book", "spreads", "desk", "model", "name", "notices"] := ⟨f59, _, fun_mk (st := s__law_deed_right) l59 c59 k59, PySem.W.mg_of X G a59, (fun_mk (st := s__law_deed_right) l59 c59 k59).binds (ps := ["source", "book", "spreads", "desk", "model", "name", "notices"]) fun _ _ _ _ _ _ us hl => match us, hl with | [_, _, _, _, _, _, _], _ => rfl⟩
  have D__law_boxes_right : Df K mg "_law_boxes_right" s__law_boxes_right ["book", "desk", "model", "name"] := ⟨f60, _, fun_mk (st := s__law_boxes_right) l60 c60 k60, PySem.W.mg_of X G a60, (fun_mk (st := s__law_boxes_right) l60 c60 k60).binds (ps := ["book", "desk", "model", "name"]) fun _ _ _ _ _ _ us hl => match us, hl with | [_, _, _, _], _ => rfl⟩
  have O : To K mg A_ListDesk := { g_ListDesk := PySem.W.mg_of X G oG_ListDesk, c_ListDesk := ⟨oP_ListDesk, oD_ListDesk, oO_ListDesk, oS_ListDesk⟩, n_ListDesk_book := oN_ListDesk__book, n_ListDesk_site := oN_ListDesk__site, n_ListDesk_expanded := oN_ListDesk__expanded, n_ListDesk_boxes := oN_ListDesk__boxes }
  have C_ListDesk____init__ := ok_ListDesk____init__ (P := l.prog) (w := w) (base := base) D_ListDesk____init__ T O 
  have C_ListDesk__box := ok_ListDesk__box (P := l.prog) (w := w) (base := base) D_ListDesk__box T O 
  have C__law_is_int := ok__law_is_int (P := l.prog) (w := w) (base := base) D__law_is_int T 
  have C__law_same := ok__law_same (P := l.prog) (w := w) (base := base) D__law_same T C__law_is_int 11
  have C__law_boxes_right := ok__law_boxes_right (P := l.prog) (w := w) (base := base) D__law_boxes_right T O C_ListDesk__box C__law_same
  have C__law_mix := ok__law_mix (P := l.prog) (w := w) (base := base) D__law_mix T 
  have C__law_draw := ok__law_draw (P := l.prog) (w := w) (base := base) D__law_draw T C__law_mix
  have C__law_pick := ok__law_pick (P := l.prog) (w := w) (base := base) D__law_pick T C__law_draw
  have C__law_board := ok__law_board (P := l.prog) (w := w) (base := base) D__law_board T C__law_draw C__law_pick
  have C__law_boards := ok__law_boards (P := l.prog) (w := w) (base := base) D__law_boards T C__law_board C__law_draw
  have C__law_row := ok__law_row (P := l.prog) (w := w) (base := base) D__law_row T C__law_draw
  have C__law_body := ok__law_body (P := l.prog) (w := w) (base := base) D__law_body T C__law_draw C__law_row
  have C__law_fits := ok__law_fits (P := l.prog) (w := w) (base := base) D__law_fits T 
  have C__law_lets := ok__law_lets (P := l.prog) (w := w) (base := base) D__law_lets T C__law_fits
  have C__law_steward := ok__law_steward (P := l.prog) (w := w) (base := base) D__law_steward T C__law_lets
  have C__law_needed := ok__law_needed (P := l.prog) (w := w) (base := base) D__law_needed T C__law_steward
  have C__law_carried_notice := ok__law_carried_notice (P := l.prog) (w := w) (base := base) D__law_carried_notice T C__law_boards C__law_body C__law_draw C__law_needed C__law_pick C__law_row
  have C_id_text := ok_id_text (P := l.prog) (w := w) (base := base) D_id_text T 
  have C_copy_to := ok_copy_to (P := l.prog) (w := w) (base := base) D_copy_to T C_id_text
  have C_list_of := ok_list_of (P := l.prog) (w := w) (base := base) D_list_of T 
  have C_neighbours := ok_neighbours (P := l.prog) (w := w) (base := base) D_neighbours T 
  have C_distances := ok_distances (P := l.prog) (w := w) (base := base) D_distances T C_neighbours
  have C_split_address := ok_split_address (P := l.prog) (w := w) (base := base) D_split_address T 
  have C_near_members := ok_near_members (P := l.prog) (w := w) (base := base) D_near_members T C_distances C_split_address
  have C_ListDesk__expand := ok_ListDesk__expand (P := l.prog) (w := w) (base := base) D_ListDesk__expand T O C_copy_to C_list_of C_near_members
  have C_ListDesk__hear := ok_ListDesk__hear (P := l.prog) (w := w) (base := base) D_ListDesk__hear T O C_ListDesk__expand C_list_of
  have C_add_place := ok_add_place (P := l.prog) (w := w) (base := base) D_add_place T 
  have C_follows := ok_follows (P := l.prog) (w := w) (base := base) D_follows T C_add_place
  have C_standing := ok_standing (P := l.prog) (w := w) (base := base) D_standing T C_add_place C_follows
  have C_fits := ok_fits (P := l.prog) (w := w) (base := base) D_fits T C_standing
  have C_items_of := ok_items_of (P := l.prog) (w := w) (base := base) D_items_of T 
  have C_lets := ok_lets (P := l.prog) (w := w) (base := base) D_lets T C_fits C_items_of
  have C_site_of := ok_site_of (P := l.prog) (w := w) (base := base) D_site_of T 
  have C_lists_for := ok_lists_for (P := l.prog) (w := w) (base := base) D_lists_for T C_lets C_site_of C_split_address
  have C_ListDesk__take := ok_ListDesk__take (P := l.prog) (w := w) (base := base) D_ListDesk__take T O C_ListDesk__expand C_lists_for
  have C__law_copy := ok__law_copy (P := l.prog) (w := w) (base := base) D__law_copy T 
  have C__law_expanded := ok__law_expanded (P := l.prog) (w := w) (base := base) D__law_expanded T C__law_copy
  have C__law_hear_due := ok__law_hear_due (P := l.prog) (w := w) (base := base) D__law_hear_due T C__law_expanded
  have C__law_lets_some := ok__law_lets_some (P := l.prog) (w := w) (base := base) D__law_lets_some T C__law_lets
  have C__law_site := ok__law_site (P := l.prog) (w := w) (base := base) D__law_site T 
  have C__law_gates_due := ok__law_gates_due (P := l.prog) (w := w) (base := base) D__law_gates_due T C__law_lets C__law_site
  have C__law_take_due := ok__law_take_due (P := l.prog) (w := w) (base := base) D__law_take_due T C__law_expanded C__law_gates_due
  have C__law_ways_here := ok__law_ways_here (P := l.prog) (w := w) (base := base) D__law_ways_here T 
  have C__law_deed_right := ok__law_deed_right (P := l.prog) (w := w) (base := base) D__law_deed_right T O C_ListDesk__hear C_ListDesk__take C__law_copy C__law_draw C__law_hear_due C__law_lets_some C__law_pick C__law_same C__law_site C__law_take_due C__law_ways_here
  have C__law_new_name := ok__law_new_name (P := l.prog) (w := w) (base := base) D__law_new_name T C__law_draw
  have C__law_names := ok__law_names (P := l.prog) (w := w) (base := base) D__law_names T C__law_new_name
  have C__law_shuffled := ok__law_shuffled (P := l.prog) (w := w) (base := base) D__law_shuffled T C__law_draw
  have C__law_nets := ok__law_nets (P := l.prog) (w := w) (base := base) D__law_nets T C__law_board C__law_draw C__law_names C__law_pick C__law_shuffled
  have C__law_source := ok__law_source (P := l.prog) (w := w) (base := base) D__law_source T C__law_mix
  have C__law_spread := ok__law_spread (P := l.prog) (w := w) (base := base) D__law_spread T 
  have C__law_spreads := ok__law_spreads (P := l.prog) (w := w) (base := base) D__law_spreads T C__law_spread
  have C__law_glob := ok__law_glob (P := l.prog) (w := w) (base := base) D__law_glob T C__law_board C__law_pick
  have C__law_pattern := ok__law_pattern (P := l.prog) (w := w) (base := base) D__law_pattern T C__law_draw C__law_glob
  have C__law_feeds := ok__law_feeds (P := l.prog) (w := w) (base := base) D__law_feeds T C__law_draw C__law_pattern C__law_shuffled
  have C__law_lines := ok__law_lines (P := l.prog) (w := w) (base := base) D__law_lines T C__law_draw C__law_pick
  have C__law_sites := ok__law_sites (P := l.prog) (w := w) (base := base) D__law_sites T C__law_draw C__law_pattern
  have C__law_book := ok__law_book (P := l.prog) (w := w) (base := base) D__law_book T C__law_draw C__law_feeds C__law_lines C__law_names C__law_sites
  have C__law_over_lines := ok__law_over_lines (P := l.prog) (w := w) (base := base) D__law_over_lines T 
  have C__law_thinned := ok__law_thinned (P := l.prog) (w := w) (base := base) D__law_thinned T C__law_draw C__law_over_lines
  have C__law_wide_book := ok__law_wide_book (P := l.prog) (w := w) (base := base) D__law_wide_book T C__law_book C__law_draw C__law_pattern C__law_pick C__law_thinned
  have C__law_words := ok__law_words (P := l.prog) (w := w) (base := base) D__law_words T C__law_draw C__law_names
  exact ok_law (fun_mk (st := s_law) l61 c61 k61) T O C_ListDesk____init__ C__law_boxes_right C__law_carried_notice C__law_deed_right C__law_draw C__law_nets C__law_pick C__law_source C__law_spreads C__law_wide_book C__law_words
theorem walk {l : PySem.W.OpenLaw} {q : Program} {loose : List Str} {XP : (Str → Option Value) → Heap → Prop} {YP : World → Heap → Prop} {d : DefRec} {K : Params → PySem.W.Frag} (hn : l.most = some 63) (hdf : d.params.defaults = [])
    (hY : ∀ (w : World) (h : Heap), YP w h → (K w.params).In h)
    (F : ∀ (w : World) (mg : Str → Option Value) (fa : Addr) (h : Heap), (K w.params).In h → h.Ns mainGlobals mg → mg d.name = some (.ref fa) →
      ∃ fd : FuncData, (∀ (s : Shared) (u : Value), BindsTo s fd ⟨[u], []⟩ [("script", u)]) ∧ ∀ base : Heap, (K w.params).In base → base.Ns mainGlobals mg → FnOk l.prog w (K w.params) mg base CX0 14 fa fd ["script"] (sp_law (K w.params))) :
    PySem.W.WalkO q loose XP YP l.row.toRowW d [] (fun f vs => PySem.call f vs) :=
  L2.walk_of (n := 63) (k := 14) (x := "script") (CX := fun _ => CX0) (sp := fun w => sp_law (K w.params)) hn (by decide) hdf ⟨rfl, by decide, by decide⟩ hY F (fun _ _ a ns hl _ hS => ⟨a, ns, rfl, hS, hl, fun _ => rfl⟩) fun _ _ _ _ _ z => z
end Z
open PySem PySem.W PyProof.Rows in
set_option maxRecDepth 100000 in
set_option maxHeartbeats 0 in
theorem PySem.Challenge.cw_criermoot_k58_list_desks_holds : PySem.Challenge.rw_criermoot_k58_list_desks.Holds := by
  w_on; o_law; k_head; (case hw => w_witness2)
  k_fill
  refine Z.walk (l := PySem.Challenge.rw_criermoot_k58_list_desks) rfl rfl (fun w h Y => PySem.W.kIn_of Y) ?F
  case F =>
    intro w mg fa h KX G hmg
    refine' Z.all_mk KX G hmg ?oG_ListDesk ?oP_ListDesk ?oD_ListDesk ?oO_ListDesk ?oS_ListDesk ?oM_ListDesk ?oK_ListDesk ?oN_ListDesk__book ?oN_ListDesk__site ?oN_ListDesk__expanded ?oN_ListDesk__boxes ?a0 ?l0 ?c0 ?k0 ?a1 ?l1 ?c1 ?k1 ?a2 ?l2 ?c2 ?k2 ?a3 ?l3 ?c3 ?k3 ?a4 ?l4 ?c4 ?k4 ?a5 ?l5 ?c5 ?k5 ?a6 ?l6 ?c6 ?k6 ?a7 ?l7 ?c7 ?k7 ?a8 ?l8 ?c8 ?k8 ?a9 ?l9 ?c9 ?k9 ?a10 ?l10 ?c10 ?k10 ?a11 ?l11 ?c11 ?k11 ?a12 ?l12 ?c12 ?k12 ?a13 ?l13 ?c13 ?k13 ?a14 ?l14 ?c14 ?k14 ?a15 ?i15 ?l15 ?c15 ?k15 ?a16 ?i16 ?l16 ?c16 ?k16 ?a17 ?i17 ?l17 ?c17 ?k17 ?a18 ?i18 ?l18 ?c18 ?k18 ?a19 ?i19 ?l19 ?c19 ?k19 ?a20 ?l20 ?c20 ?k20 ?a21 ?l21 ?c21 ?k21 ?a22 ?l22 ?c22 ?k22 ?a23 ?l23 ?c23 ?k23 ?a24 ?l24 ?c24 ?k24 ?a25 ?l25 ?c25 ?k25 ?a26 ?l26 ?c26 ?k26 ?a27 ?l27 ?c27 ?k27 ?a28 ?l28 ?c28 ?k28 ?a29 ?l29 ?c29 ?k29 ?a30 ?l30 ?c30 ?k30 ?a31 ?l31 ?c31 ?k31 ?a32 ?l32 ?c32 ?k32 ?a33 ?l33 ?c33 ?k33 ?a34 ?l34 ?c34 ?k34 ?a35 ?l35 ?c35 ?k35 ?a36 ?l36 ?c36 ?k36 ?a37 ?l37 ?c37 ?k37 ?a38 ?l38 ?c38 ?k38 ?a39 ?l39 ?c39 ?k39 ?a40 ?l40 ?c40 ?k40 ?a41 ?l41 ?c41 ?k41 ?a42 ?l42 ?c42 ?k42 ?a43 ?l43 ?c43 ?k43 ?a44 ?l44 ?c44 ?k44 ?a45 ?l45 ?c45 ?k45 ?a46 ?l46 ?c46 ?k46 ?a47 ?l47 ?c47 ?k47 ?a48 ?l48 ?c48 ?k48 ?a49 ?l49 ?c49 ?k49 ?a50 ?l50 ?c50 ?k50 ?a51 ?l51 ?c51 ?k51 ?a52 ?l52 ?c52 ?k52 ?a53 ?l53 ?c53 ?k53 ?a54 ?l54 ?c54 ?k54 ?a55 ?l55 ?c55 ?k55 ?a56 ?l56 ?c56 ?k56 ?a57 ?l57 ?c57 ?k57 ?a58 ?l58 ?c58 ?k58 ?a59 ?l59 ?c59 ?k59 ?a60 ?l60 ?c60 ?k60 ?a61 ?l61 ?c61 ?k61 ?z_abs ?z_bool ?z_int ?z_isinstance ?z_len ?z_list ?z_max ?z_min ?z_range ?z_reversed ?z_sorted ?z_str ?z_tuple
    (case oG_ListDesk => k_is)
    (case oP_ListDesk => k_is)
    (case oD_ListDesk => k_is)
    (case oO_ListDesk => k_is)
    (case oS_ListDesk => k_is)
    (case oM_ListDesk => k_is)
    (case oK_ListDesk => k_is)
    (case oN_ListDesk__book => k_is)
    (case oN_ListDesk__site => k_is)
    (case oN_ListDesk__expanded => k_is)
    (case oN_ListDesk__boxes => k_is)
    (case a0 => k_is)
    (case l0 => k_is)
    (case c0 => k_is)
    (case k0 => k_is)
    (case a1 => k_is)
    (case l1 => k_is)
    (case c1 => k_is)
    (case k1 => k_is)
    (case a2 => k_is)
    (case l2 => k_is)
    (case c2 => k_is)
    (case k2 => k_is)
    (case a3 => k_is)
    (case l3 => k_is)
    (case c3 => k_is)
    (case k3 => k_is)
    (case a4 => k_is)
    (case l4 => k_is)
    (case c4 => k_is)
    (case k4 => k_is)
    (case a5 => k_is)
    (case l5 => k_is)
    (case c5 => k_is)
    (case k5 => k_is)
    (case a6 => k_is)
    (case l6 => k_is)
    (case c6 => k_is)
    (case k6 => k_is)
    (case a7 => k_is)
    (case l7 => k_is)
    (case c7 => k_is)
    (case k7 => k_is)
    (case a8 => k_is)
    (case l8 => k_is)
    (case c8 => k_is)
    (case k8 => k_is)
    (case a9 => k_is)
    (case l9 => k_is)
    (case c9 => k_is)
    (case k9 => k_is)
    (case a10 => k_is)
    (case l10 => k_is)
    (case c10 => k_is)
    (case k10 => k_is)
    (case a11 => k_is)
    (case l11 => k_is)
    (case c11 => k_is)
    (case k11 => k_is)
    (case a12 => k_is)
    (case l12 => k_is)
    (case c12 => k_is)
    (case k12 => k_is)
    (case a13 => k_is)
    (case l13 => k_is)
    (case c13 => k_is)
    (case k13 => k_is)
    (case a14 => k_is)
    (case l14 => k_is)
    (case c14 => k_is)
    (case k14 => k_is)
    (case a15 => k_is)
    (case i15 => k_is)
    (case l15 => k_is)
    (case c15 => k_is)
    (case k15 => k_is)
    (case a16 => k_is)
    (case i16 => k_is)
    (case l16 => k_is)
    (case c16 => k_is)
    (case k16 => k_is)
    (case a17 => k_is)
    (case i17 => k_is)
    (case l17 => k_is)
    (case c17 => k_is)
    (case k17 => k_is)
    (case a18 => k_is)
    (case i18 => k_is)
    (case l18 => k_is)
    (case c18 => k_is)
    (case k18 => k_is)
    (case a19 => k_is)
    (case i19 => k_is)
    (case l19 => k_is)
    (case c19 => k_is)
    (case k19 => k_is)
    (case a20 => k_is)
    (case l20 => k_is)
    (case c20 => k_is)
    (case k20 => k_is)
    (case a21 => k_is)
    (case l21 => k_is)
    (case c21 => k_is)
    (case k21 => k_is)
    (case a22 => k_is)
    (case l22 => k_is)
    (case c22 => k_is)
    (case k22 => k_is)
    (case a23 => k_is)
    (case l23 => k_is)
    (case c23 => k_is)
    (case k23 => k_is)
    (case a24 => k_is)
    (case l24 => k_is)
    (case c24 => k_is)
    (case k24 => k_is)
    (case a25 => k_is)
    (case l25 => k_is)
    (case c25 => k_is)
    (case k25 => k_is)
    (case a26 => k_is)
    (case l26 => k_is)
    (case c26 => k_is)
    (case k26 => k_is)
    (case a27 => k_is)
    (case l27 => k_is)
    (case c27 => k_is)
    (case k27 => k_is)
    (case a28 => k_is)
    (case l28 => k_is)
    (case c28 => k_is)
    (case k28 => k_is)
    (case a29 => k_is)
    (case l29 => k_is)
    (case c29 => k_is)
    (case k29 => k_is)
    (case a30 => k_is)
    (case l30 => k_is)
    (case c30 => k_is)
    (case k30 => k_is)
    (case a31 => k_is)
    (case l31 => k_is)
    (case c31 => k_is)
    (case k31 => k_is)
    (case a32 => k_is)
    (case l32 => k_is)
    (case c32 => k_is)
    (case k32 => k_is)
    (case a33 => k_is)
    (case l33 => k_is)
    (case c33 => k_is)
    (case k33 => k_is)
    (case a34 => k_is)
    (case l34 => k_is)
    (case c34 => k_is)
    (case k34 => k_is)
    (case a35 => k_is)
    (case l35 => k_is)
    (case c35 => k_is)
    (case k35 => k_is)
    (case a36 => k_is)
    (case l36 => k_is)
    (case c36 => k_is)
    (case k36 => k_is)
    (case a37 => k_is)
    (case l37 => k_is)
    (case c37 => k_is)
    (case k37 => k_is)
    (case a38 => k_is)
    (case l38 => k_is)
    (case c38 => k_is)
    (case k38 => k_is)
    (case a39 => k_is)
    (case l39 => k_is)
    (case c39 => k_is)
    (case k39 => k_is)
    (case a40 => k_is)
    (case l40 => k_is)
    (case c40 => k_is)
    (case k40 => k_is)
    (case a41 => k_is)
    (case l41 => k_is)
    (case c41 => k_is)
    (case k41 => k_is)
    (case a42 => k_is)
    (case l42 => k_is)
    (case c42 => k_is)
    (case k42 => k_is)
    (case a43 => k_is)
    (case l43 => k_is)
    (case c43 => k_is)
    (case k43 => k_is)
    (case a44 => k_is)
    (case l44 => k_is)
    (case c44 => k_is)
    (case k44 => k_is)
    (case a45 => k_is)
    (case l45 => k_is)
    (case c45 => k_is)
    (case k45 => k_is)
    (case a46 => k_is)
    (case l46 => k_is)
    (case c46 => k_is)
    (case k46 => k_is)
    (case a47 => k_is)
    (case l47 => k_is)
    (case c47 => k_is)
    (case k47 => k_is)
    (case a48 => k_is)
    (case l48 => k_is)
    (case c48 => k_is)
    (case k48 => k_is)
    (case a49 => k_is)
    (case l49 => k_is)
    (case c49 => k_is)
    (case k49 => k_is)
    (case a50 => k_is)
    (case l50 => k_is)
    (case c50 => k_is)
    (case k50 => k_is)
    (case a51 => k_is)
    (case l51 => k_is)
    (case c51 => k_is)
    (case k51 => k_is)
    (case a52 => k_is)
    (case l52 => k_is)
    (case c52 => k_is)
    (case k52 => k_is)
    (case a53 => k_is)
    (case l53 => k_is)
    (case c53 => k_is)
    (case k53 => k_is)
    (case a54 => k_is)
    (case l54 => k_is)
    (case c54 => k_is)
    (case k54 => k_is)
    (case a55 => k_is)
    (case l55 => k_is)
    (case c55 => k_is)
    (case k55 => k_is)
    (case a56 => k_is)
    (case l56 => k_is)
    (case c56 => k_is)
    (case k56 => k_is)
    (case a57 => k_is)
    (case l57 => k_is)
    (case c57 => k_is)
    (case k57 => k_is)
    (case a58 => k_is)
    (case l58 => k_is)
    (case c58 => k_is)
    (case k58 => k_is)
    (case a59 => k_is)
    (case l59 => k_is)
    (case c59 => k_is)
    (case k59 => k_is)
    (case a60 => k_is)
    (case l60 => k_is)
    (case c60 => k_is)
    (case k60 => k_is)
    (case a61 => k_is)
    (case l61 => k_is)
    (case c61 => k_is)
    (case k61 => k_is)
    (case z_abs => k_is)
    (case z_bool => k_is)
    (case z_int => k_is)
    (case z_isinstance => k_is)
    (case z_len => k_is)
    (case z_list => k_is)
    (case z_max => k_is)
    (case z_min => k_is)
    (case z_range => k_is)
    (case z_reversed => k_is)
    (case z_sorted => k_is)
    (case z_str => k_is)
    (case z_tuple => k_is)
