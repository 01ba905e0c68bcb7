import PyProof.Rows.All
import Wide.All
import OpenK.AllK
import Wide.FinOn
import HandS.Base
import HandS.Call
import HandS.List
import HandS.Comp
import HandS.Ends
import HandS.Dict
import HandS.Iter
import HandS.Text
import HandS.Words
import HandS.WordsList
import HandS.Conv
import HandS.Codes
import HandS.IsInst
import HandS.Replace
import HandS.StrMore
import HandS.TupAny
import HandS.WideBits
import HandS.ForExc
import HandS.ExcInit
import HandS.ExcField
import HandS.ExcIs
import KE.KExcIs
import HandS.Sort
import HandS.Deep
import KE.SortData
import KE.DataMinMax
import KE.KSortTupAny
import KE.KDictSum
import KE.KDictItemsList
import KE.KDictCopyH
import PyProof.DictUpdate
import PyProof.Transfer
import HandS.DictTup
import HandS.ExcOwn
import HandS.ExcValue
import PyProof.MinMaxWalk
import KE.GoesEnum
import KE.GoesMore
import HandS.Rev
import HandS.ReplaceLit
import PyProof.Rows.StrCut
import HandS.TupMul
import HandS.Zip
import KE.KDictZip
import HandS.TupLe
import HandS.Walk
import PySem.Challenge.RW_criermoot_k22_labels_judged
set_option Elab.async false
set_option linter.all false
set_option maxRecDepth 100000
namespace Z
open PySem L2

/-! ### heaps -/
/-- all that was tracked is as it was, but for what stands at s -/
def Ext (s : Addr) (H H' : Hp) : Prop := ∀ b o, b ≠ s → H b = some o → H' b = some o
theorem Ext.refl (s : Addr) (H : Hp) : Ext s H H := fun _ _ _ h => h
theorem Ext.trans {s : Addr} {H H1 H2 : Hp} (a : Ext s H H1) (b : Ext s H1 H2) : Ext s H H2 := fun c o n h => b c o n (a c o n h)
theorem Ext.of {s : Addr} {H H' : Hp} (a : Same H H') : Ext s H H' := fun c o _ h => a c o h
theorem Ext.new {s p : Addr} {H : Hp} {o : HO} (n : H p = none) : Ext s H (upd H p o) := fun b u _ h => by
  rw [upd_ne (ne_of_none h n)]; exact h
theorem Ext.put {s : Addr} {H : Hp} {o : HO} : Ext s H (upd H s o) := fun b u n h => by
  rw [upd_ne n]; exact h
theorem same_new {p : Addr} {H : Hp} {o : HO} (n : H p = none) : Same H (upd H p o) := fun b u h => by
  rw [upd_ne (ne_of_none h n)]; exact h
theorem Ext.seqT {K : PySem.W.Frag} {s a : Addr} {H H' : Hp} {xs ys : List V} (x : Ext s H H') (hs : H s = some (.lst ys)) (h : SqT K H a xs) : SqT K H' a xs := by
  rcases h with (h | ⟨o, h⟩) | h
  · exact .inl (.inl (x _ _ (fun e => by rw [e, hs] at h; cases h) h))
  · exact .inl (.inr ⟨o, x _ _ (fun e => by rw [e, hs] at h; cases h) h⟩)
  · exact .inr h
theorem Ext.seqL {K : PySem.W.Frag} {s a : Addr} {H H' : Hp} {xs : List V} (x : Ext s H H') (n : a ≠ s) (h : SqL K H a xs) : SqL K H' a xs := by
  rcases h with (h | ⟨o, h⟩) | h
  · exact .inl (.inl (x _ _ n h))
  · exact .inl (.inr ⟨o, x _ _ n h⟩)
  · exact .inr h

theorem and_nn {x : Int} (hx : 0 ≤ x) (k : Nat) : 0 ≤ Builtin.bitAnd x (1 * 2 ^ k - 1) := by
  rw [Int.one_mul, Bits.bitAnd_mask k hx]
  exact Int.emod_nonneg _ (Int.ne_of_gt (Int.pow_pos (by decide)))
/-! ### the source of draws -/
def Src (H : Hp) (s a : Addr) (c : Nat) : Prop := ∃ (ns : List Int) (i b e t : Int),
  H s = some (.lst [.ref a, .int i, .int b, .int e, .int t]) ∧ H a = some (.lst (ns.map V.int)) ∧ a ≠ s ∧ ns.length ≤ 63 ∧ 0 ≤ i ∧ i ≤ 63 ∧ 0 ≤ b ∧ 0 ≤ e ∧ e < 2147483647 ∧ 0 ≤ t ∧ t + c < 4000000000000000000
theorem Src.lst {H : Hp} {s a : Addr} {c : Nat} (h : Src H s a c) : ∃ xs, H s = some (.lst xs) := by
  obtain ⟨_, _, _, _, _, h, _⟩ := h; exact ⟨_, h⟩
theorem Src.mono {H : Hp} {s a : Addr} {c d : Nat} (h : Src H s a c) (l : d ≤ c) : Src H s a d := by
  obtain ⟨ns, i, b, e, t, h1, h2, h3, h4, h5, h6, h7, h8, h9, h10, h11⟩ := h
  exact ⟨ns, i, b, e, t, h1, h2, h3, h4, h5, h6, h7, h8, h9, h10, by omega⟩
theorem Src.ext {H H' : Hp} {s a : Addr} {c : Nat} (h : Src H s a c) (x : Same H H') : Src H' s a c := by
  obtain ⟨ns, i, b, e, t, h1, h2, h3⟩ := h
  exact ⟨ns, i, b, e, t, x _ _ h1, x _ _ h2, h3⟩
theorem Src.new {H : Hp} {s a p : Addr} {o : HO} {c : Nat} (h : Src H s a c) (n : H p = none) : Src (upd H p o) s a c := h.ext (same_new n)
theorem Src.ne {H : Hp} {s a p : Addr} {c : Nat} (h : Src H s a c) (n : H p = none) : p ≠ s := by
  obtain ⟨xs, e⟩ := h.lst
  exact (ne_of_none e n).symm
theorem Src.nea {H : Hp} {s a p : Addr} {c : Nat} (h : Src H s a c) (n : H p = none) : p ≠ a := by
  obtain ⟨ns, i, b, e, t, h1, h2, h3⟩ := h
  exact (ne_of_none h2 n).symm
theorem Src.put {H : Hp} {s a p : Addr} {o : HO} {c : Nat} (h : Src H s a c) (n : p ≠ s) (m : p ≠ a) : Src (upd H p o) s a c := by
  obtain ⟨ns, i, b, e', t, h1, h2, h3⟩ := h
  exact ⟨ns, i, b, e', t, by rw [upd_ne n.symm]; exact h1, by rw [upd_ne m.symm]; exact h2, h3⟩

/-! ### defs and their callers -/
section
variable (P : Program) (w : World) (K : PySem.W.Frag) (mg : Str → Option Value) (base : Heap)
/-- a def as callers use it -/
def Cal (x : Str) (ps : List Str) (k : Nat) (sp : Sp) : Prop := ∃ (f : Addr) (fd : FuncData), FnOk P w K mg base CX0 k f fd ps sp ∧ mg x = some (.ref f) ∧ PySem.W.keepIn K (.ref f) = true ∧ Binds K fd ps []
/-- a def as the top has left it -/
def Df (x : Str) (st : Stmt) (ps : List Str) : Prop := ∃ (f : Addr) (fd : FuncData), Fun K x x st f fd ∧ mg x = some (.ref f) ∧ Binds K fd ps []
end
theorem Cal.mono {P : Program} {w : World} {K : PySem.W.Frag} {mg : Str → Option Value} {base : Heap} {x : Str} {ps : List Str} {j k : Nat} {sp : Sp} (C : Cal P w K mg base x ps j sp) (h : j ≤ k) : Cal P w K mg base x ps k sp := by
  obtain ⟨f, fd, G, g, kp, b⟩ := C
  exact ⟨f, fd, G.mono h, g, kp, b⟩

/-! ### the promises of the drawing defs -/
def sp__law_mix : Sp := fun vs H Q _ => ∃ (x y : Int), vs = [.int x, .int y] ∧ 0 ≤ x ∧ x < 9000000000000000000 ∧ 0 ≤ y ∧ y < 9000000000000000000 ∧ ∀ v : Int, 0 ≤ v → v < 2147483647 → Q (.int v) H
def sp__law_source (K : PySem.W.Frag) : Sp := fun vs H Q _ => ∃ (a : Addr) (ns : List Int), vs = [.ref a] ∧ SqL K H a (ns.map V.int) ∧ ns.length ≤ 63 ∧ ∀ (s b : Addr) (H' : Hp), H s = none → Same H H' → Src H' s b 3000000000000000000 → Q (.ref s) H'
def sp__law_draw : Sp := fun vs H Q _ => ∃ (s a : Addr) (m : Int) (c : Nat), vs = [.ref s, .int m] ∧ 0 < m ∧ m < 1073741824 ∧ Src H s a (c + 1) ∧ ∀ (v : Int) (H' : Hp), 0 ≤ v → v < m → Ext s H H' → Src H' s a c → Q (.int v) H'

/-! ### data -/
inductive D where
  | non | bl (b : Bool) | int (i : Int) | str (x : Str) | tup (xs : List D)
mutual
def DV (K : PySem.W.Frag) (H : Hp) : D → V → Prop
  | .non, v => v = .non
  | .bl b, v => v = .bl b
  | .int i, v => v = .int i
  | .str x, v => v = .str x
  | .tup ds, v => ∃ a vs, v = .ref a ∧ SqT K H a vs ∧ DVs K H ds vs
def DVs (K : PySem.W.Frag) (H : Hp) : List D → List V → Prop
  | [], vs => vs = []
  | d :: ds, vs => ∃ v r, vs = v :: r ∧ DV K H d v ∧ DVs K H ds r
end
mutual
theorem DV.ext {K : PySem.W.Frag} {H H' : Hp} (x : ∀ a xs, SqT K H a xs → SqT K H' a xs) : ∀ {d : D} {v : V}, DV K H d v → DV K H' d v
  | .non, _, h => by unfold DV at *; exact h
  | .bl _, _, h => by unfold DV at *; exact h
  | .int _, _, h => by unfold DV at *; exact h
  | .str _, _, h => by unfold DV at *; exact h
  | .tup ds, v, h => by
    unfold DV at *
    obtain ⟨a, vs, e, q, r⟩ := h
    exact ⟨a, vs, e, x _ _ q, DVs.ext x r⟩
theorem DVs.ext {K : PySem.W.Frag} {H H' : Hp} (x : ∀ a xs, SqT K H a xs → SqT K H' a xs) : ∀ {ds : List D} {vs : List V}, DVs K H ds vs → DVs K H' ds vs
  | [], _, h => by unfold DVs at *; exact h
  | d :: ds, vs, h => by
    unfold DVs at *
    obtain ⟨v, r, e, q, t⟩ := h
    exact ⟨v, r, e, DV.ext x q, DVs.ext x t⟩
end
theorem DVs.len {K : PySem.W.Frag} {H : Hp} : ∀ {ds : List D} {vs : List V}, DVs K H ds vs → vs.length = ds.length
  | [], _, h => by unfold DVs at h; subst h; rfl
  | d :: ds, vs, h => by
    unfold DVs at h
    obtain ⟨v, r, e, q, t⟩ := h
    rw [e, List.length_cons, List.length_cons, DVs.len t]
theorem DVs.get {K : PySem.W.Frag} {H : Hp} : ∀ {ds : List D} {vs : List V} {i : Nat} {d : D}, DVs K H ds vs → ds[i]? = some d → ∃ v, vs[i]? = some v ∧ DV K H d v
  | [], _, i, d, h, e => by simp at e
  | x :: ds, vs, i, d, h, e => by
    unfold DVs at h
    obtain ⟨v, r, e1, q, t⟩ := h
    subst e1
    cases i with
    | zero =>
      have : x = d := by simpa using e
      subst this
      exact ⟨v, rfl, q⟩
    | succ i => exact DVs.get (i := i) t (by simpa using e)
theorem DVs.strs {K : PySem.W.Frag} {H : Hp} : ∀ (xs : List Str), DVs K H (xs.map D.str) (xs.map V.str)
  | [] => by unfold DVs; rfl
  | x :: xs => by
    unfold DVs
    exact ⟨_, _, rfl, by unfold DV; rfl, DVs.strs xs⟩
theorem DVs.ints {K : PySem.W.Frag} {H : Hp} : ∀ (xs : List Int), DVs K H (xs.map D.int) (xs.map V.int)
  | [] => by unfold DVs; rfl
  | x :: xs => by
    unfold DVs
    exact ⟨_, _, rfl, by unfold DV; rfl, DVs.ints xs⟩
/-- tuples lie within fewer than n others -/
def DL : Nat → D → Prop
  | 0, _ => False
  | n + 1, .tup xs => xs.length ≤ 1000000 ∧ ∀ x ∈ xs, DL n x
  | _ + 1, _ => True
theorem TyX.ofT {K : PySem.W.Frag} {H : Hp} {a : Addr} {xs : List V} (h : SqT K H a xs) : TyX K H (.ref a) (.type "tuple") := by
  rcases h with (h | ⟨o, h⟩) | ⟨o, _, _, e, c, _⟩
  · exact .base (.tup h)
  · exact .fTuple h
  · exact .kTuple e c
def sp__law_is_int (K : PySem.W.Frag) : Sp := fun vs H Q _ => ∃ i : Int, vs = [.int i] ∧ Q (.bl true) H
/-- of two values with the same data it tells True -/
def sp__law_same (K : PySem.W.Frag) (n : Nat) : Sp := fun vs H Q _ => ∃ (d : D) (v u : V), vs = [v, u] ∧ DV K H d v ∧ DV K H d u ∧ DL n d ∧ Q (.bl true) H

/-! ### texts by their signs -/
open SX (S S_cat S_len S_inj)
theorem S_lst (l : List Nat) : (S l).cps.toList = l := rfl
theorem S_of (x : Str) : x = S x.cps.toList := (SX.S_tl x).symm
theorem S_app (a b : List Nat) : S a ++ S b = S (a ++ b) := S_cat a b
/-- a for over the signs of a text -/
theorem for_str {l : List Nat} {g : TG} {tb : TS} {D : Ends} {σ : St} {H : Hp} (Pv : Nat → St → Hp → Prop) (h0 : Pv 0 σ H)
    (hs : ∀ i c σ H, l[i]? = some c → Pv i σ H → g (.str (S [c])) σ H fun σ2 H2 => tb { D with nx := Pv (i + 1), ct := Pv (i + 1), bk := D.nx } σ2 H2) (hd : ∀ σ H, Pv l.length σ H → D.nx σ H) :
    ∃ W : Nat → Nat → St → Hp → Prop, (∃ m, W 0 m σ H) ∧ ∀ i m σ H, W i m σ H →
      ((Its (S l)).stop i H ∧ D.nx σ H) ∨ ((Its (S l)).go i H ∧ ∃ N : St → Hp → Prop, (∀ σ' H', N σ' H' → ∃ m', m' < m ∧ W (i + 1) m' σ' H') ∧ ∀ x H', (Its (S l)).yld i H x H' → g x σ H' fun σ2 H2 => tb { D with nx := N, ct := N, bk := D.nx } σ2 H2) := by
  refine ⟨fun i m σ H => m = l.length - i ∧ i ≤ l.length ∧ Pv i σ H, ⟨l.length, by simp, Nat.zero_le _, h0⟩, ?_⟩
  rintro i m σ H ⟨rfl, hi, p⟩
  by_cases hlt : i < l.length
  · refine .inr ⟨by show i < l.toArray.size; simpa using hlt, Pv (i + 1), fun σ' H' p' => ⟨l.length - (i + 1), by omega, rfl, hlt, p'⟩, fun x H' y => ?_⟩
    obtain ⟨e, c, hc, y⟩ := y
    subst e y
    exact hs i c σ _ (by simpa using hc) p
  · have e : i = l.length := by omega
    subst e
    exact .inl ⟨by show l.toArray.size ≤ l.length; simp, hd σ H p⟩
/-- a comprehension over the signs of a text -/
theorem lc_str {l : List Nat} {g : TG} {tt : TT} {te : TE} {vs : List Nat} {σ : St} {H1 : Hp} {D : Addr} {Qd : Hp → Prop} (Pv : Nat → Hp → Prop) (h0 : Pv 0 (upd H1 D (.lst [])))
    (hs : ∀ i c H, l[i]? = some c → Pv i H → g (.str (S [c])) (wipe σ vs) H fun σ2 H2 => wipe σ2 vs = wipe σ vs ∧ tt σ2 H2 fun b H3 =>
      if b = true then te σ2 H3 fun y H4 => ∃ acc, H4 D = some (.lst acc) ∧ acc.length < sizeLine ∧ Pv (i + 1) (upd H4 D (.lst (acc ++ [y]))) else Pv (i + 1) H3) (hd : ∀ H, Pv l.length H → Qd H) :
    ∃ W : Nat → Nat → Hp → Prop, (∃ m, W 0 m (upd H1 D (.lst []))) ∧ ∀ i m H, W i m H →
      ((Its (S l)).stop i H ∧ Qd H) ∨ ((Its (S l)).go i H ∧ ∃ Nx : Hp → Prop, (∀ H', Nx H' → ∃ m', m' < m ∧ W (i + 1) m' H') ∧ ∀ x H', (Its (S l)).yld i H x H' → g x (wipe σ vs) H' fun σ2 H2 => wipe σ2 vs = wipe σ vs ∧ tt σ2 H2 fun b H3 =>
        if b = true then te σ2 H3 fun y H4 => ∃ acc, H4 D = some (.lst acc) ∧ acc.length < sizeLine ∧ Nx (upd H4 D (.lst (acc ++ [y]))) else Nx H3) := by
  refine ⟨fun i m H => m = l.length - i ∧ i ≤ l.length ∧ Pv i H, ⟨l.length, by simp, Nat.zero_le _, h0⟩, ?_⟩
  rintro i m H ⟨rfl, hi, p⟩
  by_cases hlt : i < l.length
  · refine .inr ⟨by show i < l.toArray.size; simpa using hlt, Pv (i + 1), fun H' p' => ⟨l.length - (i + 1), by omega, rfl, hlt, p'⟩, fun x H' y => ?_⟩
    obtain ⟨e, c, hc, y⟩ := y
    subst e y
    exact hs i c _ (by simpa using hc) p
  · have e : i = l.length := by omega
    subst e
    exact .inl ⟨by show l.toArray.size ≤ l.length; simp, hd H p⟩
/-- signs of rows -/
def Asc (l : List Nat) : Prop := ∀ x ∈ l, 32 ≤ x ∧ x ≤ 126
theorem Asc.nil : Asc [] := fun _ h => nomatch h
theorem Asc.app {a b : List Nat} (x : Asc a) (y : Asc b) : Asc (a ++ b) := fun c h => (List.mem_append.mp h).elim (x c) (y c)
theorem Asc.by_ {l : List Nat} (h : l.all (fun x => decide (32 ≤ x) && decide (x ≤ 126)) = true) : Asc l := fun x m => by
  have := List.all_eq_true.mp h x m
  simp at this
  exact this
theorem Asc.all128 {l : List Nat} (h : Asc l) : l.all (· < 128) = true := List.all_eq_true.mpr fun x m => decide_eq_true (by have := h x m; omega)
theorem joinNil : ∀ ls : List (List Nat), TL.joinL [] ls = ls.flatten
  | [] => rfl
  | [x] => by simp [TL.joinL]
  | x :: y :: r => by
    have := joinNil (y :: r)
    simp only [TL.joinL] at *
    rw [List.flatten_cons, ← this]
    simp [TL.joinL]
theorem join_nil (ls : List (List Nat)) : Txt.join (S []) (ls.map S) = S ls.flatten := by
  rw [SX.join_S, joinNil]

/-! ### texts, further -/
abbrev tl (x : Str) : List Nat := x.cps.toList
theorem tl_S (l : List Nat) : tl (S l) = l := rfl
theorem S_tl (x : Str) : S (tl x) = x := rfl
theorem tl_app (x y : Str) : tl (x ++ y) = tl x ++ tl y := TL.tl_append x y
theorem tl_len (x : Str) : x.length = (tl x).length := by show x.cps.size = x.cps.toList.length; simp
theorem tl_ext {x y : Str} (h : tl x = tl y) : x = y := TL.ext_tl h
theorem at_str {x : Str} {i : Int} (h0 : 0 ≤ i) (h1 : i < (x.length : Int)) : ∃ c, x.cps[i.toNat]? = some c ∧ (tl x)[i.toNat]? = some c ∧ c ∈ tl x := by
  have h : i.toNat < (tl x).length := by rw [← tl_len]; omega
  refine ⟨(tl x)[i.toNat], ?_, List.getElem?_eq_getElem h, List.getElem_mem h⟩
  have := List.getElem?_eq_getElem h
  rw [← this]; simp [tl]
/-- small letters and digits -/
def Low (l : List Nat) : Prop := ∀ x ∈ l, (97 ≤ x ∧ x ≤ 122) ∨ (48 ≤ x ∧ x ≤ 57)
theorem Low.nil : Low [] := fun _ h => nomatch h
theorem Low.app {a b : List Nat} (x : Low a) (y : Low b) : Low (a ++ b) := fun c h => (List.mem_append.mp h).elim (x c) (y c)
theorem Low.asc {a : List Nat} (x : Low a) : Asc a := fun c h => by have := x c h; omega
theorem low_num (n : Nat) : Low (TL.numL n) := fun c h => .inr (by have := TL.numL_digits n c h; omega)
theorem num_len : ∀ n : Nat, (TL.numL n).length ≤ n + 1 := fun n => by
  induction n using Nat.strongRecOn with
  | ind n ih =>
    by_cases h : n < 10
    · rw [TL.numL_lt h]; simp
    · rw [TL.numL_step (by omega), List.length_append]
      have := ih (n / 10) (by omega)
      simp; omega
/-- a name: a letter, then letters and digits -/
def Nm (l : List Nat) : Prop := (∃ c r, l = c :: r ∧ 97 ≤ c ∧ c ≤ 122) ∧ Low l
theorem Nm.app {a b : List Nat} (x : Nm a) (y : Low b) : Nm (a ++ b) := by
  obtain ⟨⟨c, r, e, h⟩, l⟩ := x
  exact ⟨⟨c, r ++ b, by rw [e]; rfl, h⟩, l.app y⟩
theorem flat_strs (xs : List Str) : (xs.map V.str).all flatV = true := List.all_eq_true.mpr fun x h => by
  obtain ⟨y, _, rfl⟩ := List.mem_map.mp h; rfl
theorem inV_strs (x : Str) (xs : List Str) : inV (V.str x) (xs.map V.str) = decide (x ∈ xs) := by
  unfold inV
  induction xs with
  | nil => rfl
  | cons y ys ih =>
    rw [List.map_cons, List.any_cons, ih]
    by_cases e : x = y
    · subst e; simp [eqV]
    · have : ¬ y = x := fun h => e h.symm
      simp [eqV, e, this]
def sp__law_new_name (K : PySem.W.Frag) : Sp := fun vs H Q _ => ∃ (s a u : Addr) (us : List Str) (c : Nat), vs = [.ref s, .ref u] ∧ SqL K H u (us.map V.str) ∧ u ≠ s ∧ us.length ≤ 60 ∧ Src H s a (c + 8) ∧
  ∀ (x : Str) (H' : Hp), Nm (tl x) → (tl x).length ≤ 70 → Ext s H H' → Src H' s a c → Q (.str x) H'
def sp__law_names (K : PySem.W.Frag) : Sp := fun vs H Q _ => ∃ (s a : Addr) (m c : Nat), vs = [.ref s, .int m] ∧ m ≤ 60 ∧ Src H s a (c + 8 * m) ∧
  ∀ (u : Addr) (us : List Str) (H' : Hp), H u = none → H' u = some (.lst (us.map V.str)) → us.length = m → (∀ x ∈ us, Nm (tl x) ∧ (tl x).length ≤ 70) → Ext s H H' → Src H' s a c → Q (.ref u) H'
def sp__law_row : Sp := fun vs H Q _ => ∃ (s a : Addr) (m : Int) (c : Nat), vs = [.ref s, .int m] ∧ 0 ≤ m ∧ m ≤ 1000 ∧ Src H s a (c + m.toNat) ∧
  ∀ (x : Str) (H' : Hp), Asc (tl x) → (tl x).length = m.toNat → Ext s H H' → Src H' s a c → Q (.str x) H'

/-! ### rules that name the written part themselves (for the blocks of comprehensions) -/
section
variable {X : Cx} {K : PySem.W.Frag}
/-- len of a text -/
theorem call_lenS : CallR X (.builtin "len") (fun xs H Q => ∃ x : Str, xs = [.str x] ∧ x.length ≤ sizeLine ∧ Q (.int x.length) H) := by
  intro pins s σ H xs us Q I r h
  obtain ⟨x, e, hl, q⟩ := h
  exact call_len pins s σ H xs us Q I r ⟨.str x, x.length, e, ⟨hl, rfl⟩, q⟩
theorem call_lenQ (h : X.K = K) : CallR X (.builtin "len") (fun xs H Q => ∃ p ys, xs = [.ref p] ∧ (SqL K H p ys ∨ SqT K H p ys) ∧ Q (.int ys.length) H) := by
  subst h; exact call_len_seq
theorem ix_listQ (h : X.K = K) : IxR X (rIxL K) := by subst h; exact ix_list
theorem ix_tupQ (h : X.K = K) : IxR X (rIxT K) := by subst h; exact ix_tup
theorem in_seqQ (h : X.K = K) : OpR X (compareOp .In) (rIn K false) := by subst h; exact op_in_seq
theorem notIn_seqQ (h : X.K = K) : OpR X (compareOp .NotIn) (rIn K true) := by subst h; exact op_notIn_seq
theorem isiQ (h : X.K = K) : CallR X (.builtin "isinstance") (rIsi K) := by subst h; exact call_isi
end

/-- texts of one sign each -/
def Ones (p : Nat → Prop) (xs : List Str) : Prop := ∀ x ∈ xs, ∃ c, tl x = [c] ∧ p c
theorem Ones.tail {p : Nat → Prop} {x : Str} {xs : List Str} (h : Ones p (x :: xs)) : Ones p xs := fun y m => h y (List.mem_cons_of_mem _ m)
theorem ones_len {p : Nat → Prop} : ∀ {xs : List Str}, (∀ x ∈ xs, ∃ c, tl x = [c] ∧ p c) → (xs.map (·.length)).sum = xs.length
  | [], _ => rfl
  | x :: xs, h => by
    obtain ⟨c, e, _⟩ := h x List.mem_cons_self
    have : x.length = 1 := by rw [tl_len, e]; rfl
    rw [List.map_cons, List.sum_cons, ones_len (Ones.tail h), List.length_cons, this]
    omega
/-- their only signs -/
def heads (xs : List Str) : List Nat := xs.map fun x => (tl x).headD 0
theorem tl_join0 (xs : List Str) : tl (Txt.join (S []) xs) = (xs.map tl).flatten := by
  have e : xs = (xs.map tl).map S := by rw [List.map_map]; exact (List.map_id _).symm
  have h := join_nil (xs.map tl)
  rw [← e] at h
  show tl (Txt.join (S []) xs) = _
  rw [h]
theorem ones_join {p : Nat → Prop} {xs : List Str} (h : ∀ x ∈ xs, ∃ c, tl x = [c] ∧ p c) : tl (Txt.join (S []) xs) = heads xs := by
  rw [tl_join0]
  induction xs with
  | nil => rfl
  | cons x xs ih =>
    obtain ⟨c, e, _⟩ := h x List.mem_cons_self
    rw [List.map_cons, List.flatten_cons, ih (Ones.tail h), e]
    show c :: heads xs = (tl x).headD 0 :: heads xs
    rw [e]; rfl
theorem ones_all {p : Nat → Prop} {xs : List Str} (h : ∀ x ∈ xs, ∃ c, tl x = [c] ∧ p c) : ∀ c ∈ heads xs, p c := fun c m => by
  obtain ⟨x, hx, e⟩ := List.mem_map.mp m
  obtain ⟨d, e2, hd⟩ := h x hx
  rw [e2] at e
  have : d = c := e
  rw [← this]; exact hd
theorem str0 : Str.ofString "" = S [] := rfl
theorem ones_room {p : Nat → Prop} {xs : List Str} (h : ∀ x ∈ xs, ∃ c, tl x = [c] ∧ p c) : (xs.map (·.length)).sum + xs.length * (Str.ofString "").length = xs.length := by
  rw [ones_len h]; show xs.length + xs.length * 0 = xs.length; omega
theorem ones_joinE {p : Nat → Prop} {xs : List Str} (h : ∀ x ∈ xs, ∃ c, tl x = [c] ∧ p c) : tl (Txt.join (Str.ofString "") xs) = heads xs := ones_join h
theorem ones_asc {xs : List Str} (h : ∀ x ∈ xs, ∃ c, tl x = [c] ∧ 32 ≤ c ∧ c ≤ 126) : Asc (heads xs) := fun c m => ones_all (p := fun c => 32 ≤ c ∧ c ≤ 126) h c m
theorem heads_len (xs : List Str) : (heads xs).length = xs.length := List.length_map _

theorem alpha_mem {c : Nat} (h : c ∈ tl (Str.ofString "abcdefghijklmnopqrstuvwxyz")) : 97 ≤ c ∧ c ≤ 122 := by
  have : (tl (Str.ofString "abcdefghijklmnopqrstuvwxyz")).all (fun c => decide (97 ≤ c) && decide (c ≤ 122)) = true := by decide +kernel
  have := List.all_eq_true.mp this c h
  simp at this; exact this
theorem low_mem {c : Nat} (h : c ∈ tl (Str.ofString "abcdefghijklmnopqrstuvwxyz" ++ Str.ofString "0123456789")) : (97 ≤ c ∧ c ≤ 122) ∨ (48 ≤ c ∧ c ≤ 57) := by
  rw [tl_app] at h
  have : (tl (Str.ofString "abcdefghijklmnopqrstuvwxyz") ++ tl (Str.ofString "0123456789")).all (fun c => (decide (97 ≤ c) && decide (c ≤ 122)) || (decide (48 ≤ c) && decide (c ≤ 57))) = true := by decide +kernel
  have := List.all_eq_true.mp this c h
  simp at this; exact this

theorem log_small {i : Nat} (h : i ≤ 1000000) : (Int.natAbs (0 + (i : Int))).log2 < 1920 := by
  rw [Int.zero_add, Int.natAbs_natCast]
  by_cases e : i = 0
  · subst e; decide
  · rw [Nat.log2_lt e]
    exact Nat.lt_of_le_of_lt h (Nat.lt_of_lt_of_le (by decide : 1000000 < 2 ^ 20) (Nat.pow_le_pow_right (by decide) (by decide)))

theorem fold_take {α β : Type} {f : β → α → β} {a : β} {l : List α} {i : Nat} {c : α} (h : l[i]? = some c) : (l.take (i + 1)).foldl f a = f ((l.take i).foldl f a) c := by
  rw [List.take_add_one, h, List.foldl_append]
  rfl
theorem fold_all {α β : Type} {f : β → α → β} {a : β} {l : List α} : (l.take l.length).foldl f a = l.foldl f a := by rw [List.take_length]
theorem in_abc {c : Nat} : decide (c ∈ (Str.ofString "abcdefghijklmnopqrstuvwxyz").cps.toList) = (decide (97 ≤ c) && decide (c ≤ 122)) := by
  have e : (Str.ofString "abcdefghijklmnopqrstuvwxyz").cps.toList = List.range' 97 26 := by decide +kernel
  rw [e, Bool.eq_iff_iff, decide_eq_true_iff, List.mem_range'_1]
  simp only [Bool.and_eq_true, decide_eq_true_eq]
  omega
theorem in_ABC {c : Nat} : decide (c ∈ (Str.ofString "ABCDEFGHIJKLMNOPQRSTUVWXYZ").cps.toList) = (decide (65 ≤ c) && decide (c ≤ 90)) := by
  have e : (Str.ofString "ABCDEFGHIJKLMNOPQRSTUVWXYZ").cps.toList = List.range' 65 26 := by decide +kernel
  rw [e, Bool.eq_iff_iff, decide_eq_true_iff, List.mem_range'_1]
  simp only [Bool.and_eq_true, decide_eq_true_eq]
  omega
theorem in_012 {c : Nat} : decide (c ∈ (Str.ofString "0123456789").cps.toList) = (decide (48 ≤ c) && decide (c ≤ 57)) := by
  have e : (Str.ofString "0123456789").cps.toList = List.range' 48 10 := by decide +kernel
  rw [e, Bool.eq_iff_iff, decide_eq_true_iff, List.mem_range'_1]
  simp only [Bool.and_eq_true, decide_eq_true_eq]
  omega
theorem in_abc012 {c : Nat} : decide (c ∈ (Str.ofString "abcdefghijklmnopqrstuvwxyz0123456789").cps.toList) = ((decide (97 ≤ c) && decide (c ≤ 122)) || (decide (48 ≤ c) && decide (c ≤ 57))) := by
  have e : (Str.ofString "abcdefghijklmnopqrstuvwxyz0123456789").cps.toList = List.range' 97 26 ++ List.range' 48 10 := by decide +kernel
  rw [e, Bool.eq_iff_iff, decide_eq_true_iff, List.mem_append, List.mem_range'_1, List.mem_range'_1]
  simp only [Bool.and_eq_true, Bool.or_eq_true, decide_eq_true_eq]
  omega
/-- literal texts -/
theorem tl_mapS (ws : List Str) : (ws.map tl).map S = ws := by rw [List.map_map]; exact List.map_id _

theorem strs_at (zs : List Str) {v : Int} (h0 : 0 ≤ v) (h1 : v < (zs.length : Int)) : ∃ z, z ∈ zs ∧ atI (zs.map V.str) v = some (.str z) := by
  have h : v.toNat < zs.length := by omega
  exact ⟨zs[v.toNat], List.getElem_mem h, at_of (j := v.toNat) (by omega) (by rw [List.getElem?_map, List.getElem?_eq_getElem h]; rfl)⟩
theorem tl_upper {x : Str} (h : Asc (tl x)) : tl (Txt.upper x) = (tl x).map PyProof.Rows.up1 := congrArg tl (SX.upper_S (a := tl x) h.all128)
theorem asc_upper {x : Str} (h : Asc (tl x)) : Asc (tl (Txt.upper x)) := by
  rw [tl_upper h]
  intro c hc
  obtain ⟨d, hd, e⟩ := List.mem_map.mp hc
  have := h d hd
  unfold PyProof.Rows.up1 at e
  split at e <;> omega
theorem len_upper {x : Str} (h : Asc (tl x)) : (tl (Txt.upper x)).length = (tl x).length := by rw [tl_upper h, List.length_map]
theorem DL.strs {n : Nat} (xs : List Str) (h : xs.length ≤ 1000000) : DL (n + 2) (.tup (xs.map D.str)) := ⟨by rw [List.length_map]; exact h, fun d m => by obtain ⟨x, _, rfl⟩ := List.mem_map.mp m; exact True.intro⟩
theorem DV.strs {K : PySem.W.Frag} {H : Hp} {p : Addr} {xs : List Str} (h : H p = some (.tup (xs.map V.str))) : DV K H (.tup (xs.map D.str)) (.ref p) := by
  unfold DV
  exact ⟨p, _, rfl, SqT.of h, DVs.strs xs⟩
def sp_law (K : PySem.W.Frag) : Sp := fun vs H Q _ => ∃ (a : Addr) (ns : List Int), vs = [.ref a] ∧ SqL K H a (ns.map V.int) ∧ ns.length ≤ 63 ∧ ∀ H', Q (.bl true) H'
end Z
namespace Z
open PySem L2 SX
/-! ### cuts -/
theorem sIx_pos {n d : Nat} {i : Int} (h : 0 ≤ i) : HT.sIx n d (some i) = min i.toNat n := by
  obtain ⟨k, rfl⟩ := Int.eq_ofNat_of_zero_le h
  rw [HT.sIx_nat]; rfl
theorem cutS_to {z : Str} {i : Int} (h : 0 ≤ i) : tl (cutS z none (some i)) = (tl z).take i.toNat := by
  show ((tl z).drop 0).take (HT.sIx z.length z.length (some i) - 0) = _
  rw [sIx_pos h, List.drop_zero, Nat.sub_zero, tl_len]
  by_cases e : i.toNat ≤ (tl z).length
  · rw [Nat.min_eq_left e]
  · rw [Nat.min_eq_right (by omega), List.take_length, List.take_of_length_le (by omega)]
theorem cutS_from {z : Str} {i : Int} (h : 0 ≤ i) : tl (cutS z (some i) none) = (tl z).drop i.toNat := by
  show ((tl z).drop (HT.sIx z.length 0 (some i))).take (z.length - HT.sIx z.length 0 (some i)) = _
  rw [sIx_pos h, tl_len]
  by_cases e : i.toNat ≤ (tl z).length
  · rw [Nat.min_eq_left e, List.take_of_length_le (by rw [List.length_drop]; omega)]
  · rw [Nat.min_eq_right (by omega), List.drop_of_length_le (l := tl z) (i := i.toNat) (by omega), List.drop_of_length_le (Nat.le_refl _), List.take_nil]
theorem cutS_mid {z : Str} {i j : Int} (h : 0 ≤ i) (h2 : 0 ≤ j) : tl (cutS z (some i) (some j)) = ((tl z).drop i.toNat).take (j.toNat - i.toNat) := by
  show ((tl z).drop (HT.sIx z.length 0 (some i))).take (HT.sIx z.length z.length (some j) - HT.sIx z.length 0 (some i)) = _
  rw [sIx_pos h, sIx_pos h2, tl_len]
  by_cases e : i.toNat ≤ (tl z).length
  · rw [Nat.min_eq_left e]
    by_cases f : j.toNat ≤ (tl z).length
    · rw [Nat.min_eq_left f]
    · rw [Nat.min_eq_right (by omega), List.take_of_length_le (by rw [List.length_drop]; omega), List.take_of_length_le (by rw [List.length_drop]; omega)]
  · rw [Nat.min_eq_right (a := i.toNat) (by omega), List.drop_of_length_le (Nat.le_refl _), List.drop_of_length_le (l := tl z) (i := i.toNat) (by omega)]; simp
theorem cutV_to {xs : List V} {i : Int} (h : 0 ≤ i) : cutV xs none (some i) = xs.take i.toNat := by
  show ((xs.drop 0).take (HT.sIx xs.length xs.length (some i) - 0)) = _
  rw [sIx_pos h, List.drop_zero, Nat.sub_zero]
  by_cases e : i.toNat ≤ xs.length
  · rw [Nat.min_eq_left e]
  · rw [Nat.min_eq_right (by omega), List.take_length, List.take_of_length_le (by omega)]
theorem cutV_from {xs : List V} {i : Int} (h : 0 ≤ i) : cutV xs (some i) none = xs.drop i.toNat := by
  show ((xs.drop (HT.sIx xs.length 0 (some i))).take (xs.length - HT.sIx xs.length 0 (some i))) = _
  rw [sIx_pos h]
  by_cases e : i.toNat ≤ xs.length
  · rw [Nat.min_eq_left e, List.take_of_length_le (by rw [List.length_drop]; omega)]
  · rw [Nat.min_eq_right (by omega), List.drop_of_length_le (l := xs) (i := i.toNat) (by omega), List.drop_of_length_le (Nat.le_refl _), List.take_nil]
/-- the text k times -/
def rep (k : Nat) (l : List Nat) : List Nat := (List.replicate k l).flatten
theorem rep_fold (x : Array Nat) : ∀ (k : Nat) (a : Array Nat), ((List.replicate k x).foldl (· ++ ·) a).toList = a.toList ++ rep k x.toList
  | 0, a => by simp [rep]
  | k + 1, a => by
    rw [List.replicate_succ, List.foldl_cons, rep_fold x k]
    simp [rep, List.replicate_succ]
theorem rep_len (k : Nat) (l : List Nat) : (rep k l).length = k * l.length := by
  induction k with
  | zero => simp [rep]
  | succ k ih => unfold rep at *; rw [List.replicate_succ, List.flatten_cons, List.length_append, ih, Nat.succ_mul]; omega
theorem rep_mem {k : Nat} {l : List Nat} {c : Nat} (h : c ∈ rep k l) : c ∈ l := by
  obtain ⟨x, hx, hc⟩ := List.mem_flatten.mp h
  rw [(List.mem_replicate.mp hx).2] at hc; exact hc
section
variable {X : Cx}
/-- s * k -/
theorem op_mul_str : OpR X (binaryOp .Mult) (fun x y H Q => ∃ (z : Str) (k : Int), x = .str z ∧ y = .int k ∧ k ≤ 100000 ∧ (-100000 ≤ k) ∧ (tl z).length * k.toNat ≤ 10000000 ∧ ∀ r : Str, tl r = rep k.toNat (tl z) → Q (.str r) H) := by
  intro pins s σ H x y v u Q I rx ry h
  obtain ⟨z, k, rfl, rfl, h1, h0, hz, q⟩ := h
  obtain ⟨t, rfl⟩ := rx
  obtain ⟨t', rfl⟩ := ry
  have hz' : z.length * k.toNat ≤ 10000000 := by rw [tl_len]; exact hz
  have small := PyProof.Rows.short24 (n := z.length * k.toNat) (Nat.le_trans hz' (by decide))
  refine P.mul_str ?_ (fun a b => ?_) (fun _ _ => small) ?_
  · rw [decide_eq_false (by omega), decide_eq_false (by omega)]; rfl
  · have hk : 1 ≤ k := by omega
    have hm : (z.length : Int) * k ≤ 10000000 := by
      have : ((z.length * k.toNat : Nat) : Int) ≤ 10000000 := by omega
      rw [Int.natCast_mul, Int.toNat_of_nonneg (by omega)] at this; exact this
    have hle : (z.length : Int) ≤ (2 ^ 63 - 1) / k := by
      rw [Int.le_ediv_iff_mul_le (by omega)]
      exact Int.le_trans hm (by decide)
    omega
  · by_cases hk : k < 1
    · rw [if_pos hk]
      refine ⟨by decide, ?_⟩
      exact ⟨.str Str.empty, H, I.tok _, ⟨_, rfl⟩, q _ (by rw [show k.toNat = 0 by omega]; rfl)⟩
    · rw [if_neg hk]
      by_cases hb : (k == 1 || z.length == 0) = true
      · rw [if_pos hb]
        refine ⟨.str z, H, I, ⟨_, rfl⟩, q _ ?_⟩
        rw [Bool.or_eq_true] at hb
        rcases hb with e | e
        · have : k = 1 := by simpa using e
          subst this; simp [rep]
        · have e : z.length = 0 := by simpa using e
          rw [tl_len] at e
          have : tl z = [] := List.length_eq_zero_iff.mp e
          rw [this]
          exact (List.length_eq_zero_iff.mp (by rw [rep_len]; rfl)).symm
      · rw [if_neg hb]
        have hr : tl (⟨(List.replicate k.toNat z.cps).foldl (· ++ ·) #[]⟩ : Str) = rep k.toNat (tl z) := by
          show ((List.replicate k.toNat z.cps).foldl (· ++ ·) #[]).toList = _
          rw [rep_fold]; simp [tl]
        refine ⟨?_, ?_⟩
        · rw [tl_len, hr, rep_len, Nat.mul_comm]
          exact Nat.le_trans hz (by decide)
        · exact ⟨.str _, H, I.tok _, ⟨_, rfl⟩, q _ hr⟩
end
section
variable {X : Cx} {K : PySem.W.Frag}
/-- t + u, of tuples -/
theorem op_cat (hK : X.K = K) : OpR X (binaryOp .Add) (fun x y H Q => ∃ a b xs ys, x = .ref a ∧ y = .ref b ∧ SqT K H a xs ∧ SqT K H b ys ∧ xs.length + ys.length ≤ sizeLine ∧
    ∀ p H', Same H H' → SqT K H' p (xs ++ ys) → Q (.ref p) H') := by
  subst hK
  intro pins s σ H x y v u Q I rx ry h
  obtain ⟨a, b, xs, ys, e1, e2, ha, hb, hz, q⟩ := h
  refine op_catA pins s σ H x y v u Q I rx ry ⟨a, b, xs, ys, e1, e2, ha, hb, hz, fun e => ?_, fun _ e => ?_, fun _ _ p hp => q p _ (same_new hp) (SqT.of upd_same)⟩
  · subst e; exact q b H (Same.refl _) hb
  · subst e; exact q a H (Same.refl _) (by rw [List.append_nil]; exact ha)
/-- t[lo:hi] of a tuple -/
theorem sl_tupS (hK : X.K = K) : SlR X (fun x lo hi H Q => ∃ a xs, x = .ref a ∧ SqT K H a xs ∧ ∀ p H', Same H H' → SqT K H' p (cutV xs lo hi) → Q (.ref p) H') := by
  subst hK
  intro pins s σ H x v vl vu lo hi sl Q I rx hs pl pu h
  obtain ⟨a, xs, e, hx, q⟩ := h
  refine sl_tupA pins s σ H x v vl vu lo hi sl Q I rx hs pl pu ⟨a, xs, e, hx, fun hw => q a H (Same.refl _) ?_, fun _ p hp => q p _ (same_new hp) (SqT.of upd_same)⟩
  have : cutV xs lo hi = xs := by
    show (xs.drop (HT.sIx xs.length 0 lo)).take (HT.sIx xs.length xs.length hi - HT.sIx xs.length 0 lo) = xs
    rw [hw.1, hw.2, List.drop_zero, Nat.sub_zero, List.take_length]
  rw [this]; exact hx
end
theorem _root_.L2.Same.tup {K : PySem.W.Frag} {H H' : Hp} {a : Addr} {xs : List V} (e : Same H H') (h : SqT K H a xs) : SqT K H' a xs := by
  rcases h with (h | ⟨o, h⟩) | h
  · exact .inl (.inl (e _ _ h))
  · exact .inl (.inr ⟨o, e _ _ h⟩)
  · exact .inr h

/-- a comprehension over a range that makes texts by draws (at most d of them for each) -/
theorem lc_strs {j n d : Nat} {te : TE} {vs : List Nat} {σ : St} {H : Hp} {D s a : Addr} {c : Nat} {Qd : Hp → Prop} (p : Str → Prop) (hD : H D = none) (hS : Src H s a (c + n * d)) (hn : n ≤ 100000)
    (hw : ∀ i : Nat, wipe ((wipe σ vs).set j (some (.int (0 + (i : Int))))) vs = wipe σ vs)
    (hs : ∀ (i c' : Nat) (H1 : Hp) (R : VK), i < n → Ext s H H1 → Src H1 s a (c' + d) → (∀ (x : Str) (H2 : Hp), p x → Ext s H1 H2 → Src H2 s a c' → R (.str x) H2) → te ((wipe σ vs).set j (some (.int (0 + (i : Int))))) H1 R)
    (hd : ∀ (xs : List Str) (H' : Hp), H' D = some (.lst (xs.map V.str)) → xs.length = n → (∀ x ∈ xs, p x) → Ext s H H' → Src H' s a c → Qd H') :
    ∃ W : Nat → Nat → Hp → Prop, (∃ m, W 0 m (upd H D (.lst []))) ∧ ∀ i m H, W i m H →
      ((Itr 0 n).stop i H ∧ Qd H) ∨ ((Itr 0 n).go i H ∧ ∃ Nx : Hp → Prop, (∀ H', Nx H' → ∃ m', m' < m ∧ W (i + 1) m' H') ∧ ∀ x H', (Itr 0 n).yld i H x H' → gName j x (wipe σ vs) H' fun σ2 H2 => wipe σ2 vs = wipe σ vs ∧ tYes σ2 H2 fun b H3 =>
        if b = true then te σ2 H3 fun y H4 => ∃ acc, H4 D = some (.lst acc) ∧ acc.length < sizeLine ∧ Nx (upd H4 D (.lst (acc ++ [y]))) else Nx H3) := by
  have Ds : D ≠ s := hS.ne hD
  have Da : D ≠ a := hS.nea hD
  refine lc_range (lo := 0) (n := n) (fun i H' => ∃ xs : List Str, H' D = some (.lst (xs.map V.str)) ∧ xs.length = i ∧ (∀ x ∈ xs, p x) ∧ Ext s H H' ∧ Src H' s a (c + (n - i) * d)) ?_ ?_ ?_
  · exact ⟨[], upd_same, rfl, (fun _ h => by cases h), Ext.new hD, (hS.new hD).mono (by simp)⟩
  · rintro i H' hi ⟨xs, hx, hl, hA, hE, hS'⟩
    refine ⟨hw i, ?_⟩
    show te _ H' _
    have e : c + (n - i) * d = c + (n - (i + 1)) * d + d := by
      rw [show n - i = n - (i + 1) + 1 by omega, Nat.succ_mul]; omega
    refine hs i (c + (n - (i + 1)) * d) H' _ hi hE (by rw [← e]; exact hS') (fun x H2 hp hE2 hS2 => ?_)
    refine ⟨xs.map V.str, hE2 _ _ Ds hx, ?_, xs ++ [x], by rw [upd_same, List.map_append]; rfl, by rw [List.length_append]; simp [hl], fun y hy => ?_, ?_, hS2.put Ds Da⟩
    · rw [List.length_map]; exact Nat.lt_of_lt_of_le (show xs.length < 100000 by omega) (by decide)
    · rcases List.mem_append.mp hy with h | h
      · exact hA y h
      · rw [List.mem_singleton.mp h]; exact hp
    · intro b o hb hH
      rw [upd_ne (ne_of_none hH hD)]; exact hE2 _ _ hb (hE _ _ hb hH)
  · rintro H' ⟨xs, hx, hl, hA, hE, hS'⟩
    exact hd xs H' hx hl hA hE (hS'.mono (by omega))
theorem atI_pos {α : Type} {xs : List α} {v : Int} {x : α} (h0 : 0 ≤ v) (h : xs[v.toNat]? = some x) : atI xs v = some x := by
  have e : v = (v.toNat : Int) := by omega
  rw [e]; exact atI_nat h
/-- any item of a list of texts -/
def sp__law_pick (K : PySem.W.Frag) : Sp := fun vs H Q _ =>
  (∃ (s a r : Addr) (xs : List V) (c : Nat), vs = [.ref s, .ref r] ∧ SqL K H r xs ∧ r ≠ s ∧ xs ≠ [] ∧ xs.length ≤ 100000 ∧ Src H s a (c + 1) ∧ ∀ (v : V) (H' : Hp), v ∈ xs → Ext s H H' → Src H' s a c → Q v H') ∨
  (∃ (s a : Addr) (x : Str) (c : Nat), vs = [.ref s, .str x] ∧ tl x ≠ [] ∧ (tl x).length ≤ 100000 ∧ Src H s a (c + 1) ∧ ∀ (ch : Nat) (H' : Hp), ch ∈ tl x → Ext s H H' → Src H' s a c → Q (.str (S [ch])) H')
def sp__law_once_in : Sp := fun vs H Q _ => ∃ (s a : Addr) (m : Int) (c : Nat), vs = [.ref s, .int m] ∧ 0 < m ∧ m < 1073741824 ∧ Src H s a (c + 1) ∧ ∀ (b : Bool) (H' : Hp), Ext s H H' → Src H' s a c → Q (.bl b) H'
end Z
namespace Z
open PySem L2
/-! ### own errors: raised, caught, asked -/
section
variable (P : Program) (w : World) (K : PySem.W.Frag) (mg : Str → Option Value) (base : Heap)
/-- a def that may raise, as callers use it -/
def CalX (x : Str) (ps : List Str) (k : Nat) (sp : Sp) : Prop := ∃ (f : Addr) (fd : FuncData), FnOk P w K mg base (L2.CX P w) k f fd ps sp ∧ mg x = some (.ref f) ∧ PySem.W.keepIn K (.ref f) = true ∧ Binds K fd ps []
end
/-- an own error class with an __init__ of its own (at fI) -/
structure XOk (K : PySem.W.Frag) (mg : Str → Option Value) (x : Str) (C : Addr) : Prop where
  g : mg x = some (.ref C)
  o : OexC K C
  e : ExcC K C
theorem XOk.xf {K : PySem.W.Frag} {mg : Str → Option Value} {x : Str} {C : Addr} (T : XOk K mg x C) : XfC K C := ⟨T.e.hg, T.e.hk, T.e.hs, T.e.hd⟩
/-- the class's __init__(self, f): self.f = f -/
def sp_init (K : PySem.W.Frag) (C : Addr) (f : Str) : Sp := fun vs H Q _ => ∃ (a : Addr) (v : V), vs = [.ref a, v] ∧ OexC K C ∧ PySem.W.findIn K (.ref C) f = some none ∧ H a = some (exo a C none) ∧
  ∀ dx, H dx = none → dx ≠ a → Q .non (upd (upd H dx (exd dx [(f, v)])) a (exo a C (some dx)))
/-- isinstance(e, c), e the caught error at a -/
def rIsX (K : PySem.W.Frag) (cls : Value) (d : Option Addr) (a : Addr) : List V → Hp → VK → Prop := fun xs H Q => ∃ (D dd : Addr) (c : V) (cv : Value) (b : Bool) (fs : List (Str × V)), cls = .ref D ∧ d = some dd ∧ ExcC K D ∧ xs = [.ref a, c] ∧ H dd = some (.xd fs) ∧ ClsV c cv ∧
  PySem.W.kitOne K cls cv = some b ∧ Q (.bl b) H
def rIsXT (K : PySem.W.Frag) (cls : Value) (d : Option Addr) (a : Addr) : List V → Hp → VK → Prop := fun xs H Q => ∃ (D dd tp : Addr) (cs : List V) (us : List Value) (b : Bool) (fs : List (Str × V)), cls = .ref D ∧ d = some dd ∧ ExcC K D ∧ xs = [.ref a, .ref tp] ∧ H dd = some (.xd fs) ∧
  H tp = some (.tup cs) ∧ Paired ClsV cs us ∧ PySem.W.kitAny K cls us = some b ∧ Q (.bl b) H
section
variable {X : Cx} {a : Addr} {oe : Obj} {cls : Value} {d : Option Addr} {pn : List (Addr × Obj)}
theorem inst_at {pins : List (Addr × Obj)} {σ : St} {H : Hp} {s : Shared} {D dd : Addr} {fs : List (Str × V)} (I : Inv (X.suite a ((a, oe) :: pn)) pins σ H s) (hz : Zc (.ref D) (some dd) oe) (hf : ∃ vs, oe.data = .fields vs) (hd : H dd = some (.xd fs)) :
    ∃ od, PySem.W.InstAt s.heap a oe D (some od) := by
  obtain ⟨hget, _⟩ := I.pin (a, oe) (List.mem_append.mpr (.inl List.mem_cons_self))
  obtain ⟨vs, hv⟩ := hf
  have hx : ObjOk X.prog X.w H s.heap dd (.xd fs) := I.hok dd _ hd
  obtain ⟨mA, hns, hr⟩ := hx
  obtain ⟨od, ho, hl⟩ := lookIn_ns hns
  exact ⟨od, ⟨hget, hz.1, by unfold PySem.W.notCls; rw [hv] <;> rfl, by rw [hz.2]; exact ho⟩⟩
theorem kitx_D {K : PySem.W.Frag} {D x : Addr} {ox : Obj} {od : Option Obj} (C : ExcC K D) : PySem.W.KitX K (.ref x) (.ref D) (fun h => PySem.W.InstAt h x ox D od) := by
  refine PySem.W.kitx_exc ?_ C.hg C.hk C.hs C.ha C.hn C.ht C.hm
  have h := C.hd
  obtain ⟨cd, hc, _⟩ := PySem.W.any_some h
  rw [hc]; rfl
theorem call_isX (hz : Zc cls d oe) (hf : ∃ vs, oe.data = .fields vs) : CallR (X.suite a ((a, oe) :: pn)) (.builtin "isinstance") (rIsX X.K cls d a) := by
  intro pins s σ H xs us Q I r h
  obtain ⟨D, dd, c, cv, b, fs, rfl, rfl, C, rfl, hd, k, e, q⟩ := h
  obtain ⟨u1, u2, rfl, r1, r2⟩ := vals2 r
  have e2 := k.eq r2
  subst e2
  obtain rfl : u1 = Value.ref a := r1
  obtain ⟨od, J⟩ := inst_at I hz hf hd
  exact PySem.W.kia_one (kitx_D C) I.kIn J e (fun z => nomatch z) fun tk => ⟨.bl b, H, I.kept (t' := tk) fun _ _ z => z, rfl, q⟩
theorem call_isXT (hz : Zc cls d oe) (hf : ∃ vs, oe.data = .fields vs) : CallR (X.suite a ((a, oe) :: pn)) (.builtin "isinstance") (rIsXT X.K cls d a) := by
  intro pins s σ H xs us Q I r h
  obtain ⟨D, dd, tp, cs, ws, b, fs, rfl, rfl, C, rfl, hd, hT, k, e, q⟩ := h
  obtain ⟨u1, u2, rfl, r1, r2⟩ := vals2 r
  obtain rfl : u2 = Value.ref tp := r2
  obtain rfl : u1 = Value.ref a := r1
  obtain ⟨od, J⟩ := inst_at I hz hf hd
  obtain ⟨_, its, rv, o, h1, h2, n, h3⟩ := (show ObjOk X.prog X.w H s.heap tp (.tup cs) from I.hok tp _ hT)
  have e3 := ClsV.all k rv
  subst e3
  obtain ⟨oc, od', dt, sl⟩ := o
  simp only at h2 h3
  subst h2 h3
  exact PySem.W.kia_tup (kitx_D C) I.kIn J h1 e (fun z => nomatch z) fun tk => ⟨.bl b, H, I.kept (t' := tk) fun _ _ z => z, rfl, q⟩
end
/-- the heap behind a made error -/
theorem made_same {H : Hp} {a dx : Addr} {o1 o2 o3 o4 : HO} (ha : H a = none) (hd : H dx = none) : Same H (upd (del (upd (upd (upd H a o1) dx o2) a o3) a) dx o4) := fun b u h => by
  rw [upd_ne (ne_of_none h hd), del_ne (ne_of_none h ha), upd_ne (ne_of_none h ha), upd_ne (ne_of_none h hd), upd_ne (ne_of_none h ha)]; exact h
/-- what a raised error tells: behind it all stands that stood -/
theorem paired1 {c : V} {u : Value} (k : ClsV c u) : Paired ClsV [c] [u] := .cons k .nil
end Z
namespace Z
open PySem L2 SX
open PySem.Builtin.Str (occurrences lastOccurrence subAt)
theorem at_one {x : Str} {c hi k : Nat} (h : hi ≤ (tl x).length) : StrLaws.At x (S [c]) hi k ↔ k < hi ∧ (tl x)[k]? = some c := by
  have e := StrLaws.subAt_one x c k
  have l1 : (S [c]).length = 1 := rfl
  unfold StrLaws.At
  constructor
  · rintro ⟨h1, h2⟩
    rw [l1] at h1
    refine ⟨by omega, e.mp ⟨?_, h2⟩⟩
    show k + 1 ≤ x.length
    rw [tl_len]; omega
  · rintro ⟨h1, h2⟩
    have h3 := e.mpr h2
    exact ⟨by rw [l1]; omega, h3.2⟩
theorem find_from (x : Str) (c : Nat) {i : Int} (h : 0 ≤ i) :
    (Txt.find3 x (S [c]) i = -1 ∧ ∀ k : Nat, i ≤ (k : Int) → (tl x)[k]? ≠ some c) ∨ ∃ k : Nat, Txt.find3 x (S [c]) i = (k : Int) ∧ i ≤ (k : Int) ∧ (tl x)[k]? = some c ∧ ∀ j : Nat, i ≤ (j : Int) → j < k → (tl x)[j]? ≠ some c := by
  obtain ⟨n, rfl⟩ := Int.eq_ofNat_of_zero_le h
  have hf : fromIndex x.length (n : Int) = n := by
    unfold fromIndex
    rw [if_neg (by omega), Int.max_eq_right (by omega)]; rfl
  unfold Txt.find3
  rw [hf, StrLaws.occ_eq]
  have hx : x.length = (tl x).length := tl_len x
  rcases StrLaws.occ_first x (S [c]) x.length 1 (Nat.le_refl _) (List.range' n (x.length + 1 - n)) n (fun i hi => (List.mem_range'_1.mp hi).1) with ⟨h0, hn⟩ | ⟨pre, a, post, e, h0, ha, hn⟩
  · refine .inl ⟨by rw [h0], fun k hk hc => ?_⟩
    have hlt := (List.getElem?_eq_some_iff.mp hc).1
    exact hn k (List.mem_range'_1.mpr ⟨by omega, by omega⟩) ((at_one (by omega)).mpr ⟨by omega, hc⟩)
  · have h1 := (at_one (by omega)).mp ha
    have hm : a ∈ List.range' n (x.length + 1 - n) := by rw [e]; simp
    refine .inr ⟨a, ?_, by have := (List.mem_range'_1.mp hm).1; omega, h1.2, fun j hj hl hc => ?_⟩
    · cases hq : (forIn (List.range' n (x.length + 1 - n)) ((#[] : Array Nat), n) (StrLaws.occBody x (S [c]) x.length 1)).run.fst.toList with
      | nil =>
        have : (forIn (List.range' n (x.length + 1 - n)) ((#[] : Array Nat), n) (StrLaws.occBody x (S [c]) x.length 1)).run.fst = #[] := Array.toList_eq_nil_iff.mp hq
        rw [this] at h0; simp at h0
      | cons b r =>
        have hb : (forIn (List.range' n (x.length + 1 - n)) ((#[] : Array Nat), n) (StrLaws.occBody x (S [c]) x.length 1)).run.fst[0]? = some b := by
          rw [← Array.getElem?_toList, hq]; rfl
        rw [hb] at h0
        cases h0; rfl
    · have hjm : j ∈ pre := by
        have hlt := (List.getElem?_eq_some_iff.mp hc).1
        have hjr : j ∈ List.range' n (x.length + 1 - n) := List.mem_range'_1.mpr ⟨by omega, by omega⟩
        have hp : (pre ++ a :: post).Pairwise (· < ·) := by rw [← e]; exact List.pairwise_lt_range'
        rw [e] at hjr
        rcases List.mem_append.mp hjr with q | q
        · exact q
        · rcases List.mem_cons.mp q with q | q
          · omega
          · have := (List.pairwise_cons.mp (List.pairwise_append.mp hp).2.1).1 j q
            omega
      exact hn j hjm ((at_one (by omega)).mpr ⟨by have := (List.getElem?_eq_some_iff.mp hc).1; omega, hc⟩)
theorem rfind_in (x : Str) (c : Nat) {i m : Int} (h : 0 ≤ i) (hm : 0 ≤ m) :
    (Txt.rfindIn x (S [c]) i m = -1 ∧ ∀ k : Nat, i ≤ (k : Int) → (k : Int) < m → (tl x)[k]? ≠ some c) ∨ ∃ k : Nat, Txt.rfindIn x (S [c]) i m = (k : Int) ∧ i ≤ (k : Int) ∧ (k : Int) < m ∧ (tl x)[k]? = some c ∧ ∀ j : Nat, k < j → (j : Int) < m → (tl x)[j]? ≠ some c := by
  obtain ⟨n, rfl⟩ := Int.eq_ofNat_of_zero_le h
  obtain ⟨e, rfl⟩ := Int.eq_ofNat_of_zero_le hm
  have hf : fromIndex x.length (n : Int) = n := by
    unfold fromIndex
    rw [if_neg (by omega), Int.max_eq_right (by omega)]; rfl
  have ht : toIndexW x.length (e : Int) = min e x.length := by
    unfold toIndexW
    rw [if_neg (by omega), Int.max_eq_right (by omega)]; rfl
  have hx : x.length = (tl x).length := tl_len x
  unfold Txt.rfindIn
  rw [hf, ht, StrLaws.last_eq]
  have key := StrLaws.last_run x (S [c]) (min e x.length) (List.range' n (min e x.length + 1 - n)) [] none (fun _ h => nomatch h) (fun _ h => nomatch h) List.pairwise_lt_range'
  rw [List.nil_append] at key
  cases hq : (forIn (List.range' n (min e x.length + 1 - n)) none (StrLaws.lastBody x (S [c]) (min e x.length))).run with
  | none =>
    rw [hq] at key
    refine .inl ⟨rfl, fun k hk hk2 hc => ?_⟩
    have hlt := (List.getElem?_eq_some_iff.mp hc).1
    exact key k (List.mem_range'_1.mpr ⟨by omega, by omega⟩) ((at_one (by omega)).mpr ⟨by omega, hc⟩)
  | some a =>
    rw [hq] at key
    obtain ⟨ha, hl⟩ := key
    have h1 := (at_one (by omega)).mp ha
    have hr : n ≤ a := by
      -- the last place is one of those that were looked at
      have : ∀ (l : List Nat) (st : Option Nat) (b : Nat), (forIn l st (StrLaws.lastBody x (S [c]) (min e x.length))).run = some b → st = some b ∨ b ∈ l := by
        intro l
        induction l with
        | nil => intro st b hb; exact .inl hb
        | cons d l ih =>
          intro st b hb
          rw [List.forIn_cons] at hb
          unfold StrLaws.lastBody at hb
          split at hb
          · rcases ih _ _ hb with q | q
            · exact .inr (by cases q; exact List.mem_cons_self)
            · exact .inr (List.mem_cons_of_mem _ q)
          · rcases ih _ _ hb with q | q
            · exact .inl q
            · exact .inr (List.mem_cons_of_mem _ q)
      rcases this _ _ _ hq with q | q
      · cases q
      · exact (List.mem_range'_1.mp q).1
    refine .inr ⟨a, rfl, by omega, by omega, h1.2, fun j hj hj2 hc => ?_⟩
    have hlt := (List.getElem?_eq_some_iff.mp hc).1
    exact hl j (List.mem_range'_1.mpr ⟨by omega, by omega⟩) hj ((at_one (by omega)).mpr ⟨by omega, hc⟩)

theorem tl_inj : ∀ {a b : List Str}, a.map tl = b.map tl → a = b
  | [], [], _ => rfl
  | [], _ :: _, h => by cases h
  | _ :: _, [], h => by cases h
  | x :: a, y :: b, h => by
    rw [List.map_cons, List.map_cons] at h
    obtain ⟨h1, h2⟩ := List.cons.inj h
    rw [tl_ext h1, tl_inj h2]
theorem DV.strsT {K : PySem.W.Frag} {H : Hp} {p : Addr} {xs : List Str} (h : SqT K H p (xs.map V.str)) : DV K H (.tup (xs.map D.str)) (.ref p) := by
  unfold DV
  exact ⟨p, _, rfl, h, DVs.strs xs⟩
end Z
namespace Z
open PySem PySem.W PySem.Calls PyProof.Rows L2
/-! ### data, as the sorts and comparisons see it -/
mutual
def py : D → PyData
  | .non => .none
  | .bl b => .bool b
  | .int i => .int i
  | .str x => .str x
  | .tup xs => .tuple (pys xs)
def pys : List D → List PyData
  | [] => []
  | d :: ds => py d :: pys ds
end
theorem pys_map : ∀ ds : List D, pys ds = ds.map py
  | [] => by simp [pys]
  | d :: ds => by rw [pys, pys_map ds, List.map_cons]
section
variable {K : Frag} {H : Hp}
mutual
theorem DV.dp : ∀ {d : D} {v : V}, DV K H d v → Dp K H v (py d)
  | .non, _, h => by unfold DV at h; subst h; unfold py; exact .non
  | .bl b, _, h => by unfold DV at h; subst h; unfold py; exact .bl b
  | .int i, _, h => by unfold DV at h; subst h; unfold py; exact .int i
  | .str x, _, h => by unfold DV at h; subst h; unfold py; exact .str x
  | .tup ds, _, h => by
    unfold DV at h
    obtain ⟨a, vs, rfl, q, r⟩ := h
    unfold py
    exact .tup q (DVs.dpa r)
theorem DVs.dpa : ∀ {ds : List D} {vs : List V}, DVs K H ds vs → DpAll K H vs (pys ds)
  | [], _, h => by unfold DVs at h; subst h; unfold pys; exact .nil
  | d :: ds, _, h => by
    unfold DVs at h
    obtain ⟨v, r, rfl, q, t⟩ := h
    unfold pys
    exact .cons (DV.dp q) (DVs.dpa t)
end
end
mutual
theorem py_eqv : ∀ (d e : D), alike (py d) (py e) = true → (PyData.eqv (py d) (py e) = true ↔ d = e)
  | .non, .non, _ => by simp [py, PyData.eqv]
  | .bl b, .bl c, _ => by simp [py, PyData.eqv]
  | .int b, .int c, _ => by simp [py, PyData.eqv]
  | .str b, .str c, _ => by simp [py, PyData.eqv]
  | .tup xs, .tup ys, h => by
    have := pys_eqv xs ys (by simpa [py, alike] using h)
    simp only [py, PyData.eqv, D.tup.injEq]
    exact this
  | .non, .bl _, h | .non, .int _, h | .non, .str _, h | .non, .tup _, h => by simp [py, alike] at h
  | .bl _, .non, h | .bl _, .int _, h | .bl _, .str _, h | .bl _, .tup _, h => by simp [py, alike] at h
  | .int _, .non, h | .int _, .bl _, h | .int _, .str _, h | .int _, .tup _, h => by simp [py, alike] at h
  | .str _, .non, h | .str _, .bl _, h | .str _, .int _, h | .str _, .tup _, h => by simp [py, alike] at h
  | .tup _, .non, h | .tup _, .bl _, h | .tup _, .int _, h | .tup _, .str _, h => by simp [py, alike] at h
theorem pys_eqv : ∀ (d e : List D), alikeAll (pys d) (pys e) = true → (PyData.eqvAll (pys d) (pys e) = true ↔ d = e)
  | [], [], _ => by simp [pys, PyData.eqvAll]
  | [], y :: ys, _ => by simp [pys, PyData.eqvAll]
  | x :: xs, [], _ => by simp [pys, PyData.eqvAll]
  | x :: xs, y :: ys, h => by
    have h' : alike (py x) (py y) = true ∧ alikeAll (pys xs) (pys ys) = true := by simpa [pys, alikeAll] using h
    simp only [pys, PyData.eqvAll, Bool.and_eq_true, List.cons.injEq, py_eqv x y h'.1, pys_eqv xs ys h'.2]
end
/-- compared with another by == -/
def eqD (d e : D) : Bool := PyData.eqv (py d) (py e)
theorem eqD_iff {d e : D} (h : alike (py d) (py e) = true) : eqD d e = true ↔ d = e := py_eqv d e h
def Okd (d : D) : Prop := SeqAt.shaped (py d) = true
def Okl (ds : List D) : Prop := SeqAt.shaped (.list (pys ds)) = true
mutual
def fine : Nat → D → Bool
  | _, .non => true
  | _, .bl _ => true
  | _, .int _ => true
  | _, .str x => PyData.strOk x
  | 0, .tup _ => false
  | n + 1, .tup xs => fines n xs
def fines : Nat → List D → Bool
  | _, [] => true
  | n, d :: ds => fine n d && fines n ds
end
mutual
theorem fine_lay : ∀ {n : Nat} {d : D}, fine n d = true → (py d).canLay0 = true ∧ (py d).depth ≤ n
  | n, .non, _ => by simp [py, PyData.canLay0, PyData.depth]
  | n, .bl _, _ => by simp [py, PyData.canLay0, PyData.depth]
  | n, .int _, _ => by simp [py, PyData.canLay0, PyData.depth]
  | n, .str x, h => by
    have h' : PyData.strOk x = true := by cases n <;> simpa [fine] using h
    refine ⟨by simpa [py, PyData.canLay0] using h', by simp [py, PyData.depth]⟩
  | 0, .tup _, h => by simp [fine] at h
  | n + 1, .tup xs, h => by
    have h' := fines_lay (show fines n xs = true by simpa [fine] using h)
    refine ⟨by simpa [py, PyData.canLay0] using h'.1, ?_⟩
    simp only [py, PyData.depth]
    have := h'.2
    omega
theorem fines_lay : ∀ {n : Nat} {ds : List D}, fines n ds = true → PyData.canLayAll0 (pys ds) = true ∧ PyData.depthAll (pys ds) ≤ n
  | n, [], _ => by simp [pys, PyData.canLayAll0, PyData.depthAll]
  | n, d :: ds, h => by
    have h' : fine n d = true ∧ fines n ds = true := by simpa [fines] using h
    have h1 := fine_lay h'.1
    have h2 := fines_lay h'.2
    refine ⟨by simp [pys, PyData.canLayAll0, h1.1, h2.1], ?_⟩
    simp only [pys, PyData.depthAll]
    have := h1.2
    have := h2.2
    omega
end
theorem fine_ok {n : Nat} {d : D} (h : fine n d = true) (hn : n ≤ 60 := by decide) : Okd d := by
  have := fine_lay h
  unfold Okd SeqAt.shaped
  rw [this.1, decide_eq_true (by omega)]; rfl
theorem fines_ok {n : Nat} {ds : List D} (h : fines n ds = true) (hn : n ≤ 60 := by decide) : Okl ds := by
  have := fines_lay h
  unfold Okl SeqAt.shaped
  have e : (PyData.list (pys ds)).canLay0 = true := by simpa [PyData.canLay0] using this.1
  have f : (PyData.list (pys ds)).depth ≤ 64 := by simp only [PyData.depth]; omega
  rw [e, decide_eq_true f]; rfl
theorem fines_map {α : Type} {f : α → D} {n : Nat} : ∀ {l : List α}, (∀ x ∈ l, fine n (f x) = true) → fines n (l.map f) = true
  | [], _ => by simp [fines]
  | x :: l, h => by
    rw [List.map_cons, fines, h x (by simp), fines_map fun y m => h y (List.mem_cons_of_mem _ m)]; rfl
theorem fine_tup {n : Nat} {ds : List D} (h : fines n ds = true) : fine (n + 1) (.tup ds) = true := by simpa [fine] using h
theorem fine_low {n : Nat} {x : Str} (h : ∀ c ∈ tl x, c < 1114112) : fine n (.str x) = true := by
  have : PyData.strOk x = true := by
    unfold PyData.strOk
    rw [← Array.all_toList, List.all_eq_true]
    exact fun c m => decide_eq_true (h c m)
  cases n <;> simpa [fine] using this
theorem fines_cons {n : Nat} {d : D} {ds : List D} (h : fine n d = true) (t : fines n ds = true) : fines n (d :: ds) = true := by rw [fines, h, t]; rfl
theorem fines_nil {n : Nat} : fines n [] = true := by rw [fines]
theorem fine_int {n : Nat} {i : Int} : fine n (.int i) = true := by cases n <;> simp [fine]
theorem fine_non {n : Nat} : fine n .non = true := by cases n <;> simp [fine]
section
variable {X : Cx}
/-- == and != of data -/
def rEqDD (K : Frag) : R2 := fun x y H Q => ∃ d e, DV K H d x ∧ DV K H e y ∧ Okd d ∧ Okd e ∧ Q (.bl (eqD d e)) H
def rNeDD (K : Frag) : R2 := fun x y H Q => ∃ d e, DV K H d x ∧ DV K H e y ∧ Okd d ∧ Okd e ∧ Q (.bl (!eqD d e)) H
theorem op_eqDD (hu : X.A.units + 64 < cLine) : OpR X (compareOp .Eq) (rEqDD X.K) := by
  intro pins s σ H x y v u Q I rx ry h
  obtain ⟨d, e, hd, he, sd, se, q⟩ := h
  exact op_eqD hu pins s σ H x y v u Q I rx ry ⟨_, _, hd.dp, he.dp, sd, se, q⟩
theorem op_neDD (hu : X.A.units + 64 < cLine) : OpR X (compareOp .NotEq) (rNeDD X.K) := by
  intro pins s σ H x y v u Q I rx ry h
  obtain ⟨d, e, hd, he, sd, se, q⟩ := h
  exact op_neD hu pins s σ H x y v u Q I rx ry ⟨_, _, hd.dp, he.dp, sd, se, q⟩
/-- in and not in over a list of data -/
def rInDD (K : Frag) (neg : Bool) : R2 := fun x y H Q => ∃ (d : D) (a : Addr) (vs : List V) (ds : List D), DV K H d x ∧ y = .ref a ∧ SqL K H a vs ∧ DVs K H ds vs ∧ Okd d ∧ Okl ds ∧ Q (.bl (if neg then !ds.any (fun z => eqD z d) else ds.any fun z => eqD z d)) H
theorem any_pys (d : D) (ds : List D) : ((pys ds).any fun z => PyData.eqv z (py d)) = ds.any fun z => eqD z d := by
  rw [pys_map, List.any_map]; rfl
theorem op_inDD (hu : X.A.units + 65 < cLine) : OpR X (compareOp .In) (rInDD X.K false) := by
  intro pins s σ H x y v u Q I rx ry h
  obtain ⟨d, a, vs, ds, hd, rfl, hs, he, sd, se, q⟩ := h
  exact op_inD hu pins s σ H _ _ v u Q I rx ry ⟨_, _, hd.dp, .lst hs he.dpa, sd, se, by rw [any_pys]; exact q⟩
theorem op_notInDD (hu : X.A.units + 65 < cLine) : OpR X (compareOp .NotIn) (rInDD X.K true) := by
  intro pins s σ H x y v u Q I rx ry h
  obtain ⟨d, a, vs, ds, hd, rfl, hs, he, sd, se, q⟩ := h
  exact op_notInD hu pins s σ H _ _ v u Q I rx ry ⟨_, _, hd.dp, .lst hs he.dpa, sd, se, by rw [any_pys]; exact q⟩
theorem any_eqD {α : Type} {f : α → D} {d : α} {l : List α} (hf : ∀ x ∈ l, f x = f d → x = d) (h : ∀ x ∈ l, alike (py (f x)) (py (f d)) = true) : (l.map f).any (fun z => eqD z (f d)) = true ↔ d ∈ l := by
  rw [List.any_eq_true]
  constructor
  · rintro ⟨z, hz, e⟩
    obtain ⟨x, hx, rfl⟩ := List.mem_map.mp hz
    rw [← hf x hx ((eqD_iff (h x hx)).mp e)]; exact hx
  · intro m
    exact ⟨f d, List.mem_map_of_mem m, (eqD_iff (h d m)).mpr rfl⟩
/-- sorted(xs), xs a list of data -/
def dle {β : Type} (f : β → D) : β → β → Bool := dataLe false fun b => py (f b)
def rSortDD (K : Frag) : List V → Hp → VK → Prop := fun vs H Q => ∃ (a : Addr) (us : List V) (β : Type) (l : List β) (f : β → D), vs = [.ref a] ∧ SqL K H a us ∧ DVs K H (l.map f) us ∧ AllAlike (l.map fun b => py (f b)) ∧ Sortable (l.map fun b => py (f b)) ∧ (∀ b ∈ l, (py (f b)).depth ≤ 60) ∧
  ∀ (ys : List V) (p : Addr), H p = none → DVs K H ((l.mergeSort (dle f)).map f) ys → Q (.ref p) (upd H p (.lst ys))
theorem dvs_each {K : Frag} {H : Hp} {β : Type} {f : β → D} : ∀ {l : List β} {us : List V} {vs : List Value}, DVs K H (l.map f) us → Vals us vs → EachIs (fun u b => ∃ v, RelV v u ∧ DV K H (f b) v) vs l
  | [], _, _, h, r => by
    unfold List.map DVs at h; subst h; cases r; exact .nil
  | b :: l, _, _, h, r => by
    obtain ⟨v, t, rfl, q, h2⟩ := h
    cases r with
    | cons r1 r2 => exact .cons ⟨v, r1, q⟩ (dvs_each h2 r2)
theorem each_dvs {K : Frag} {H : Hp} {β : Type} {f : β → D} : ∀ {l : List β} {vs : List Value}, EachIs (fun u b => ∃ v, RelV v u ∧ DV K H (f b) v) vs l → ∃ us, DVs K H (l.map f) us ∧ Vals us vs
  | [], _, h => by cases h; exact ⟨[], by unfold List.map DVs; rfl, .nil⟩
  | b :: l, _, h => by
    cases h with
    | cons h1 h2 =>
      obtain ⟨v, r1, q⟩ := h1
      obtain ⟨us, d, r2⟩ := each_dvs h2
      exact ⟨v :: us, ⟨v, us, rfl, q, d⟩, .cons r1 r2⟩
theorem each_reads {pins : List (Addr × Obj)} {σ : L2.St} {H : Hp} {s : Shared} (I : Inv X pins σ H s) {β : Type} {f : β → D} {l : List β} {vs : List Value} (h : EachIs (fun u b => ∃ v, RelV v u ∧ DV X.K H (f b) v) vs l) :
    EachIs (fun u b => ∃ as, Reads s.heap u (py (f b)) as) vs l := h.mono fun u b ⟨v, r, q⟩ => Dp.reads I _ _ _ q.dp r
theorem vals_len : ∀ {us : List V} {vs : List Value}, Vals us vs → us.length = vs.length
  | _, _, .nil => rfl
  | _, _, .cons _ r => by rw [List.length_cons, List.length_cons, vals_len r]
theorem hu_big {n : Nat} (h : X.A.units + 65 < cLine) (k : n ≤ 60) : X.A.units + 2 + n < cLine := by omega
theorem cr_sortDD (hu : X.A.units + 65 < cLine) : CallR X (.builtin "sorted") (rSortDD X.K) := by
  intro pins s σ H vs us Q I r h
  obtain ⟨a, xs, β, l, f, rfl, hs, hd, hal, hsb, hdp, q⟩ := h
  obtain ⟨its, rv, hl, hz⟩ := I.list hs
  obtain ⟨u, rfl, ru⟩ := vals1 r
  obtain rfl : u = Value.ref a := ru
  have e := dvs_each hd rv
  have hlen := vals_len rv
  have hlen2 := e.length
  refine PySem.W.sorted_data (enc := fun b => py (f b)) hl.isList e (each_reads I e) hal hsb (by omega) (fun b m => hu_big hu (hdp b m)) fun out ho eo => ?_
  obtain ⟨ys, dy, ry⟩ := each_dvs eo
  have fr : H (s.heap.objs.size + 1) = none := I.hok.fresh (Nat.le_succ _)
  obtain ⟨n, hn⟩ := sortedAll_at s.heap its (List.toArray out)
  refine ⟨.ref _, upd H _ (.lst ys), I.laid (t' := s.toks) (fun b o g => sortedAll_old g) (Nat.le_succ _) ⟨?_, out, n, ry, hn⟩, rfl, q ys _ fr dy⟩
  rw [vals_len ry]; omega
/-- min(xs), max(xs) of data -/
def rMinDD (K : Frag) (mx : Bool) : List V → Hp → VK → Prop := fun vs H Q => ∃ (a : Addr) (us : List V) (β : Type) (l : List β) (f : β → D), vs = [.ref a] ∧ SqL K H a us ∧ DVs K H (l.map f) us ∧ AllAlike (l.map fun b => py (f b)) ∧ (∀ b ∈ l, f b ≠ .non) ∧ (∀ b ∈ l, (py (f b)).depth ≤ 60) ∧ l ≠ [] ∧
  ∀ (m : β) (v : V), m ∈ l → (∀ y ∈ l, (if mx then dataLt (py (f m)) (py (f y)) else dataLt (py (f y)) (py (f m))) = false) → DV K H (f m) v → Q v H
theorem depth_all {β : Type} {g : β → PyData} : ∀ {l : List β}, (∀ b ∈ l, (g b).depth ≤ 60) → PyData.depthAll (l.map g) ≤ 60
  | [], _ => by simp [PyData.depthAll]
  | b :: l, h => by
    have h1 := h b (by simp)
    have h2 := depth_all (l := l) fun c m => h c (List.mem_cons_of_mem _ m)
    rw [List.map_cons, PyData.depthAll]; omega
theorem lt_irr (x : PyData) : dataLt x x = false := lex_irrefl _
theorem minD_mem (x : PyData) : ∀ xs : List PyData, minD x xs ∈ x :: xs := by
  intro xs
  unfold minD
  suffices h : ∀ (xs : List PyData) (a : PyData) (L : List PyData), a ∈ L → (∀ y ∈ xs, y ∈ L) → xs.foldl (fun a y => if dataLt y a then y else a) a ∈ L from h xs x (x :: xs) (by simp) (fun y m => List.mem_cons_of_mem _ m)
  intro xs
  induction xs with
  | nil => intro a L h _; exact h
  | cons y ys ih =>
    intro a L h k
    rw [List.foldl_cons]
    refine ih _ L ?_ fun z m => k z (List.mem_cons_of_mem _ m)
    split
    · exact k y (by simp)
    · exact h
def pyLe (a b : PyData) : Bool := !dataLt b a
theorem pyLe_total : TotalLe pyLe := sortLe_total (listOrd itemOrd) false keyToks
theorem lt_of_pyLe {a b : PyData} (h : pyLe a b = true) : dataLt b a = false := by unfold pyLe at h; simpa using h
theorem pyLe_of {a b : PyData} (h : dataLt b a = false) : pyLe a b = true := by unfold pyLe; rw [h]; rfl
theorem pyLe_lt {a b : PyData} (h : dataLt a b = true) : pyLe a b = true := (pyLe_total.total a b).elim id fun k => by
  have := lt_of_pyLe k
  rw [this] at h; cases h
theorem minD_le : ∀ (xs : List PyData) (x : PyData), ∀ y ∈ x :: xs, pyLe (minD x xs) y = true := by
  intro xs
  suffices h : ∀ (xs : List PyData) (a : PyData) (L : List PyData), (∀ y ∈ L, pyLe a y = true) → ∀ y, y ∈ L ∨ y ∈ xs → pyLe (xs.foldl (fun a y => if dataLt y a then y else a) a) y = true from fun x y m => h xs x [x] (fun z m => by rw [List.mem_singleton.mp m]; exact pyLe_total.refl x) y (by
    rcases List.mem_cons.mp m with e | e
    · exact .inl (by rw [e]; simp)
    · exact .inr e)
  intro xs
  induction xs with
  | nil => intro a L h y m; exact h y (m.resolve_right (by simp))
  | cons z zs ih =>
    intro a L h y m
    rw [List.foldl_cons]
    refine ih _ (z :: L) ?_ y ?_
    · intro w mw
      by_cases c : dataLt z a = true
      · rw [if_pos c]
        rcases List.mem_cons.mp mw with e | e
        · rw [e]; exact pyLe_total.refl z
        · exact pyLe_total.trans _ _ _ (pyLe_lt c) (h w e)
      · rw [if_neg c]
        rcases List.mem_cons.mp mw with e | e
        · rw [e]; exact pyLe_of (by simpa using c)
        · exact h w e
    · rcases m with m | m
      · exact .inl (List.mem_cons_of_mem _ m)
      · rcases List.mem_cons.mp m with e | e
        · exact .inl (by rw [e]; simp)
        · exact .inr e
theorem maxD_mem (x : PyData) : ∀ xs : List PyData, maxD x xs ∈ x :: xs := by
  intro xs
  unfold maxD
  suffices h : ∀ (xs : List PyData) (a : PyData) (L : List PyData), a ∈ L → (∀ y ∈ xs, y ∈ L) → xs.foldl (fun a y => if dataLt a y then y else a) a ∈ L from h xs x (x :: xs) (by simp) (fun y m => List.mem_cons_of_mem _ m)
  intro xs
  induction xs with
  | nil => intro a L h _; exact h
  | cons y ys ih =>
    intro a L h k
    rw [List.foldl_cons]
    refine ih _ L ?_ fun z m => k z (List.mem_cons_of_mem _ m)
    split
    · exact k y (by simp)
    · exact h
theorem maxD_le : ∀ (xs : List PyData) (x : PyData), ∀ y ∈ x :: xs, pyLe y (maxD x xs) = true := by
  intro xs
  suffices h : ∀ (xs : List PyData) (a : PyData) (L : List PyData), (∀ y ∈ L, pyLe y a = true) → ∀ y, y ∈ L ∨ y ∈ xs → pyLe y (xs.foldl (fun a y => if dataLt a y then y else a) a) = true from fun x y m => h xs x [x] (fun z m => by rw [List.mem_singleton.mp m]; exact pyLe_total.refl x) y (by
    rcases List.mem_cons.mp m with e | e
    · exact .inl (by rw [e]; simp)
    · exact .inr e)
  intro xs
  induction xs with
  | nil => intro a L h y m; exact h y (m.resolve_right (by simp))
  | cons z zs ih =>
    intro a L h y m
    rw [List.foldl_cons]
    refine ih _ (z :: L) ?_ y ?_
    · intro w mw
      by_cases c : dataLt a z = true
      · rw [if_pos c]
        rcases List.mem_cons.mp mw with e | e
        · rw [e]; exact pyLe_total.refl z
        · exact pyLe_total.trans _ _ _ (h w e) (pyLe_lt c)
      · rw [if_neg c]
        rcases List.mem_cons.mp mw with e | e
        · rw [e]; exact pyLe_of (by simpa using c)
        · exact h w e
    · rcases m with m | m
      · exact .inl (List.mem_cons_of_mem _ m)
      · rcases List.mem_cons.mp m with e | e
        · exact .inl (by rw [e]; simp)
        · exact .inr e
theorem each_get {β : Type} {R : Value → β → Prop} : ∀ {vs : List Value} {l : List β} {i : Nat} {v : Value}, EachIs R vs l → vs[i]? = some v → ∃ b, l[i]? = some b ∧ R v b
  | _, _, _, _, .nil, h => by simp at h
  | _, _, 0, _, .cons h1 _, h => by cases (show some _ = some _ from h); exact ⟨_, rfl, h1⟩
  | _, _, i + 1, _, .cons _ t, h => each_get (i := i) t (by simpa using h)
theorem min_pick {pins : List (Addr × Obj)} {σ : L2.St} {H : Hp} {s : Shared} (I : Inv X pins σ H s) {β : Type} {l : List β} {f : β → D} {its : List Value} (e : EachIs (fun u b => ∃ v, RelV v u ∧ DV X.K H (f b) v) its l) (hal : AllAlike (l.map fun b => py (f b))) {i : Nat} {v : Value} {h' : Heap} {m : PyData} {bs : List Addr}
    (hv : its[i]? = some v) (hr : Reads h' v m bs) (kp : ∀ b o, s.heap.get? b = some o → h'.get? b = some o) (hm : m ∈ l.map fun b => py (f b)) : ∃ b w, b ∈ l ∧ RelV w v ∧ DV X.K H (f b) w ∧ py (f b) = m := by
  obtain ⟨b, hb, w, rw', dw⟩ := each_get e hv
  have mb := List.mem_of_getElem? hb
  obtain ⟨as, r1⟩ := Dp.reads I _ _ _ dw.dp rw'
  have r2 : Reads h' v (py (f b)) as := PyProof.Rows.Reads.keeps kp r1
  exact ⟨b, w, mb, rw', dw, alike_unique _ _ _ _ _ (hal _ (List.mem_map_of_mem mb) _ hm) r2 hr⟩
theorem cr_minDD (hu : X.A.units + 65 < cLine) (hc : X.calm = true) : CallR X (.builtin "min") (rMinDD X.K false) := by
  intro pins s σ H vs us Q I r h
  obtain ⟨a, xs, β, l, f, rfl, hs, hd, hal, hnn, hdp, hne, q⟩ := h
  obtain ⟨its, rv, hl, hz⟩ := I.list hs
  obtain ⟨u, rfl, ru⟩ := vals1 r
  obtain rfl : u = Value.ref a := ru
  have e := dvs_each hd rv
  obtain ⟨b0, l', rfl⟩ : ∃ b0 l', l = b0 :: l' := by
    cases l with
    | nil => exact absurd rfl hne
    | cons b r => exact ⟨b, r, rfl⟩
  obtain ⟨as, hra⟩ := Dp.readsAll I _ _ _ hd.dpa rv
  have ep : pys ((b0 :: l').map f) = py (f b0) :: l'.map (fun b => py (f b)) := by rw [pys_map, List.map_map]; rfl
  rw [ep] at hra
  have hal' : AllAlike (py (f b0) :: l'.map (fun b => py (f b))) := hal
  refine min_list_data (I.ok.hd hc) hl.isList (vs := its.toArray) (by simpa using hra) ⟨fun x mx y my => hal' x mx y my, fun x mx => ?_⟩ ?_ fun i v h' tk bs hv hr kp => ?_
  · obtain ⟨b, hb, rfl⟩ := List.mem_map.mp (show x ∈ (b0 :: l').map (fun b => py (f b)) from mx)
    intro e0
    refine hnn b hb ?_
    cases hf : f b with
    | non => rfl
    | _ => rw [hf] at e0; simp [py] at e0
  · have := depth_all hdp
    rw [List.map_cons] at this
    omega
  · obtain ⟨b, w, mb, rw', dw, em⟩ := min_pick I e hal (by simpa using hv) hr kp (minD_mem _ _)
    refine ⟨w, H, I.kept kp, rw', q b w mb (fun y my => ?_) dw⟩
    have := minD_le (l'.map fun b => py (f b)) (py (f b0)) (py (f y)) (List.mem_map_of_mem (f := fun b => py (f b)) my)
    rw [← em] at this
    exact lt_of_pyLe this
theorem cr_maxDD (hu : X.A.units + 65 < cLine) (hc : X.calm = true) : CallR X (.builtin "max") (rMinDD X.K true) := by
  intro pins s σ H vs us Q I r h
  obtain ⟨a, xs, β, l, f, rfl, hs, hd, hal, hnn, hdp, hne, q⟩ := h
  obtain ⟨its, rv, hl, hz⟩ := I.list hs
  obtain ⟨u, rfl, ru⟩ := vals1 r
  obtain rfl : u = Value.ref a := ru
  have e := dvs_each hd rv
  obtain ⟨b0, l', rfl⟩ : ∃ b0 l', l = b0 :: l' := by
    cases l with
    | nil => exact absurd rfl hne
    | cons b r => exact ⟨b, r, rfl⟩
  obtain ⟨as, hra⟩ := Dp.readsAll I _ _ _ hd.dpa rv
  have ep : pys ((b0 :: l').map f) = py (f b0) :: l'.map (fun b => py (f b)) := by rw [pys_map, List.map_map]; rfl
  rw [ep] at hra
  have hal' : AllAlike (py (f b0) :: l'.map (fun b => py (f b))) := hal
  refine max_list_data (I.ok.hd hc) hl.isList (vs := its.toArray) (by simpa using hra) ⟨fun x mx y my => hal' x mx y my, fun x mx => ?_⟩ ?_ fun i v h' tk bs hv hr kp => ?_
  · obtain ⟨b, hb, rfl⟩ := List.mem_map.mp (show x ∈ (b0 :: l').map (fun b => py (f b)) from mx)
    intro e0
    refine hnn b hb ?_
    cases hf : f b with
    | non => rfl
    | _ => rw [hf] at e0; simp [py] at e0
  · have := depth_all hdp
    rw [List.map_cons] at this
    omega
  · obtain ⟨b, w, mb, rw', dw, em⟩ := min_pick I e hal (by simpa using hv) hr kp (maxD_mem _ _)
    refine ⟨w, H, I.kept kp, rw', q b w mb (fun y my => ?_) dw⟩
    have := maxD_le (l'.map fun b => py (f b)) (py (f b0)) (py (f y)) (List.mem_map_of_mem (f := fun b => py (f b)) my)
    rw [← em] at this
    exact lt_of_pyLe this
/-- what a sorted list of data is -/
theorem dle_total {β : Type} (f : β → D) : TotalLe (dle f) := sortLe_total (listOrd itemOrd) false fun b => keyToks (py (f b))
theorem sort_perm {β : Type} (f : β → D) (l : List β) : (l.mergeSort (dle f)).Perm l := List.mergeSort_perm l _
theorem sort_pw {β : Type} (f : β → D) (l : List β) : (l.mergeSort (dle f)).Pairwise fun a b => dle f a b = true := sort_pairwise (dle_total f) l
theorem dle_str {β : Type} {f : β → Str} {a b : β} : dle (fun b => D.str (f b)) a b = !decide (tl (f b) < tl (f a)) := by
  show (!dataLt (py (.str (f b))) (py (.str (f a)))) = _
  rw [py, py, dataLt_str]
/-- the same, the written part named -/
theorem op_eqDDQ {K : Frag} (h : X.K = K) (hu : X.A.units + 65 < cLine) : OpR X (compareOp .Eq) (rEqDD K) := by subst h; exact op_eqDD (by omega)
theorem op_neDDQ {K : Frag} (h : X.K = K) (hu : X.A.units + 65 < cLine) : OpR X (compareOp .NotEq) (rNeDD K) := by subst h; exact op_neDD (by omega)
theorem op_inDDQ {K : Frag} (h : X.K = K) (hu : X.A.units + 65 < cLine) : OpR X (compareOp .In) (rInDD K false) := by subst h; exact op_inDD hu
theorem op_notInDDQ {K : Frag} (h : X.K = K) (hu : X.A.units + 65 < cLine) : OpR X (compareOp .NotIn) (rInDD K true) := by subst h; exact op_notInDD hu
theorem cr_sortDDQ {K : Frag} (h : X.K = K) (hu : X.A.units + 65 < cLine) : CallR X (.builtin "sorted") (rSortDD K) := by subst h; exact cr_sortDD hu
theorem cr_minDDQ {K : Frag} (h : X.K = K) (hu : X.A.units + 65 < cLine) (hc : X.calm = true) : CallR X (.builtin "min") (rMinDD K false) := by subst h; exact cr_minDD hu hc
theorem cr_maxDDQ {K : Frag} (h : X.K = K) (hu : X.A.units + 65 < cLine) (hc : X.calm = true) : CallR X (.builtin "max") (rMinDD K true) := by subst h; exact cr_maxDD hu hc
theorem aa_of {β : Type} {f : β → D} {l : List β} (h : ∀ b c, alike (py (f b)) (py (f c)) = true) : AllAlike (l.map fun b => py (f b)) := AllAlike.of h
theorem aa_str {β : Type} {f : β → Str} {l : List β} : AllAlike (l.map fun b => py (.str (f b))) := aa_of fun _ _ => by simp [py, alike]
theorem aa_int {β : Type} {f : β → Int} {l : List β} : AllAlike (l.map fun b => py (.int (f b))) := aa_of fun _ _ => by simp [py, alike]
theorem so_str {β : Type} {f : β → Str} {l : List β} : Sortable (l.map fun b => py (.str (f b))) := Sortable.others fun b => ⟨by simp [py], fun _ => by simp [py]⟩
theorem so_tup {β : Type} {f : β → D} {l : List β} (h : ∀ b, ∃ x r, f b = .tup (x :: r)) : Sortable (l.map fun b => py (f b)) := Sortable.tuples fun b => by
  obtain ⟨x, r, e⟩ := h b
  exact ⟨py x, pys r, by rw [e, py, pys]⟩
theorem lt_of_dl {x y : Str} (h : (if false = true then dataLt (py (.str y)) (py (.str x)) else dataLt (py (.str x)) (py (.str y))) = false) : ¬ tl x < tl y := by
  simp only [Bool.false_eq_true, if_false, py] at h
  rw [dataLt_str] at h
  exact of_decide_eq_false h
theorem room65 {k : Nat} {A : Around} (r : Room k A) : A.units + 65 < cLine := by have := r.un; omega
end
end Z
namespace Z
open PySem PySem.W PySem.Calls PyProof.Rows L2
/-! ### sorted of whatever can be collected, dicts among them -/
section
variable {prog : Program} {w : World} {A : Around} {E : Value → Shared → Prop} {s : Shared}
theorem each_ix {β : Type} {R : Value → β → Prop} : ∀ {vs : List Value} {bs : List β}, EachIs R vs bs → EachIs (fun v b => ∃ j : Nat, vs[j]? = some v ∧ bs[j]? = some b) vs bs
  | _, _, .nil => .nil
  | _, _, .cons h t => .cons ⟨0, rfl, rfl⟩ ((each_ix t).mono fun v b ⟨j, h1, h2⟩ => ⟨j + 1, h1, h2⟩)
theorem sorted_by {x : Value} {β : Type} {enc : β → PyData} {bs : List β} {C : Heap → List Value → Prop} {Q : Value → Shared → Prop}
    (hcol : ∀ {R' : List Value → Shared → Prop}, (∀ (h' : Heap) (tk : Nat) (vs : List Value), (∀ b o, s.heap.get? b = some o → h'.get? b = some o) → C h' vs → R' vs { s with heap := h', toks := tk }) → wpAny (model prog w) A.in1 (collect x) R' E s)
    (hC : ∀ h' vs, C h' vs → EachIs (fun v b => ∃ as, Reads h' v (enc b) as) vs bs)
    (hal : AllAlike (bs.map enc)) (hk : Sortable (bs.map enc)) (hL : bs.length ≤ sizeLine) (hu : ∀ b ∈ bs, A.units + 2 + (enc b).depth < cLine)
    (h : ∀ (h1 h' : Heap) (tk : Nat) (a : Addr) (vs out : List Value) (n : Nat), C h1 vs → (∀ b o, s.heap.get? b = some o → h1.get? b = some o) → (∀ b o, h1.get? b = some o → h'.get? b = some o) → h1.objs.size = a → h'.get? a = some (seqObj "list" out.toArray n) → out.length = bs.length →
      EachIs (fun v b => ∃ j : Nat, vs[j]? = some v ∧ bs[j]? = some b) out (bs.mergeSort (dataLe false enc)) → Q (.ref a) { s with heap := h', toks := tk }) :
    wpAny (model prog w) A (call (.builtin "sorted") [x]) Q E s := by
  refine call_function_entry kind_sorted plain_sorted entry_sorted (args_sorted1 _) ?_
  unfold Builtin.«sorted»
  refine wpAny_bind (m := checkCount "sorted" 1 1 _) (wpAny_pure ?_)
  refine wpAny_bind (hcol fun h1 tk vs kp hc => ?_)
  have er := hC h1 vs hc
  have el := er.length
  refine wpAny_bind (wpAny_newList ?_ (by omega))
  have ho : (h1.push { cls := .type "list", data := .seq vs.toArray }).get? h1.objs.size = some (seqObj "list" vs.toArray 0) := Heap.get?_push_size _ rfl
  have old : ∀ b o, h1.get? b = some o → (h1.push { cls := .type "list", data := .seq vs.toArray }).get? b = some o := fun b o e => Heap.get?_push_of_some _ e
  refine wpAny_bind (wpAny_holding (wpAny_mono (PySem.W.list_sort_data (A := A.in1) (enc := enc) (s := { s with heap := h1.push { cls := .type "list", data := .seq vs.toArray }, toks := tk }) ho (each_ix er) ?_ hal hk hL (fun b m => hu b m) fun out lo eo => ?_) (fun _ s' x => x) fun _ _ e => e))
  · refine er.mono fun v b ⟨as, r⟩ => ?_
    exact ⟨as, PyProof.Rows.Reads.keeps old r, fun m => by
      obtain ⟨o, ho⟩ := PyProof.On.reads_mem_get r _ m
      exact absurd (Heap.lt_size ho) (Nat.lt_irrefl _)⟩
  · obtain ⟨n, hn⟩ := sortedHeap_at (h := h1.push { cls := .type "list", data := .seq vs.toArray }) (out := List.toArray out) ho
    refine wpAny_pure ⟨_, rfl, h h1 _ _ _ vs out n hc kp (fun b o e => ?_) rfl hn lo eo⟩
    have lt := Heap.lt_size e
    rw [sortedHeap_old (Nat.ne_of_lt lt) (by rw [size_push']; exact Nat.lt_succ_of_lt lt)]
    exact old b o e
end
/-! ### keys, values and items of dicts, sorted -/
def kD : Key → D
  | .inl i => .int i
  | .inr x => .str x
theorem kD_dv {K : Frag} {H : Hp} : ∀ k : Key, DV K H (kD k) (kV k)
  | .inl i => by unfold kD; unfold DV; rfl
  | .inr x => by unfold kD; unfold DV; rfl
theorem kD_dvs {K : Frag} {H : Hp} : ∀ l : List Key, DVs K H (l.map kD) (l.map kV)
  | [] => by unfold List.map DVs; rfl
  | k :: l => ⟨_, _, rfl, kD_dv k, kD_dvs l⟩
theorem dvs_kD {K : Frag} {H : Hp} : ∀ {l : List Key} {ys : List V}, DVs K H (l.map kD) ys → ys = l.map kV
  | [], _, h => by unfold List.map DVs at h; exact h
  | .inl i :: l, _, h => by
    obtain ⟨v, r, rfl, q, t⟩ := h
    unfold kD DV at q
    rw [q, dvs_kD t]; rfl
  | .inr i :: l, _, h => by
    obtain ⟨v, r, rfl, q, t⟩ := h
    unfold kD DV at q
    rw [q, dvs_kD t]; rfl
theorem so_key {l : List Key} : Sortable (l.map fun k => py (kD k)) := Sortable.others fun k => by
  cases k with
  | inl i => exact ⟨by simp [kD, py], fun _ => by simp [kD, py]⟩
  | inr x => exact ⟨by simp [kD, py], fun _ => by simp [kD, py]⟩
theorem each_of_ix {β : Type} {R : Value → β → Prop} : ∀ {vs : List Value} {bs : List β}, vs.length = bs.length → (∀ (i : Nat) (v : Value) (b : β), vs[i]? = some v → bs[i]? = some b → R v b) → EachIs R vs bs
  | [], [], _, _ => .nil
  | [], _ :: _, h, _ => by simp at h
  | _ :: _, [], h, _ => by simp at h
  | v :: vs, b :: bs, h, k => .cons (k 0 v b rfl rfl) (each_of_ix (by simpa using h) fun i v' b' h1 h2 => k (i + 1) v' b' h1 h2)
theorem vals_of_each {β : Type} {R : Value → β → Prop} {f : β → V} : ∀ {out : List Value} {l : List β}, EachIs R out l → (∀ v b, R v b → RelV (f b) v) → Vals (l.map f) out
  | _, _, .nil, _ => .nil
  | _, _, .cons h t, k => .cons (k _ _ h) (vals_of_each t k)
theorem pair_get {α β : Type} {F : α → β → Prop} : ∀ {l₁ : List α} {l₂ : List β} {j : Nat} {x : α}, Paired F l₁ l₂ → l₁[j]? = some x → ∃ y, l₂[j]? = some y ∧ F x y
  | _, _, _, _, .nil, h => by simp at h
  | _, _, 0, _, .cons a _, h => by cases (show some _ = some _ from h); exact ⟨_, rfl, a⟩
  | _, _, j + 1, _, .cons _ t, h => pair_get (j := j) t (by simpa using h)
theorem kV_rel {P : Program} {w : World} {k : Key} {u : Value} (h : (mixKind P w).is k u = true) : RelV (kV k) u := by
  rcases keyIs_shape h with ⟨i, t, e1, e2⟩ | ⟨x, t, e1, e2⟩
  · subst e1; subst e2; exact ⟨t, rfl⟩
  · subst e1; subst e2; exact ⟨t, rfl⟩
theorem Dp.reads0 {h : Heap} (k : Key) {u : Value} (r : RelV (kV k) u) : ∃ as, Reads h u (py (kD k)) as := by
  cases k with
  | inl i => obtain ⟨t, e⟩ := (show ∃ t, u = Value.int i t from r); subst e; exact ⟨_, by unfold kD py; exact Reads.int i t⟩
  | inr x => obtain ⟨t, e⟩ := (show ∃ t, u = Value.str x t from r); subst e; exact ⟨_, by unfold kD py; exact Reads.str x t⟩
theorem no_get {h h' : Heap} (k : ∀ b o, h.get? b = some o → h'.get? b = some o) : h.get? h'.objs.size = none := by
  cases e : h.get? h'.objs.size with
  | none => rfl
  | some o => exact absurd (Heap.lt_size (k _ _ e)) (Nat.lt_irrefl _)
section
variable {X : Cx}
/-- what stands in the entries -/
theorem kv_raw {H : Hp} {h : Heap} {a : Addr} {kvs : List (Key × V)} (ok : HOk X.prog X.w H h) (e : H a = some (.dK kvs)) : kvs.length ≤ sizeLine ∧ (a == sysModules) = false ∧ ∃ es ep, h.DictRaw a es ep ∧ es.size = kvs.length ∧
    ∀ i (hi : i < es.size) k v, kvs[i]? = some (k, v) → RelV (kV k) es[i].key ∧ RelV v es[i].val := by
  obtain ⟨z, hd, vs, rel, dd⟩ := dk_of ok e
  obtain ⟨es, ep, hr, hs, he⟩ := dd.raw
  have hl : kvs.length = vs.length := Paired.length rel
  refine ⟨z, hd, es, ep, hr, by omega, fun i hi k v hk => ?_⟩
  obtain ⟨⟨k', u⟩, hp, h1, h2⟩ := pair_get rel hk
  have h1' : k = k' := h1
  subst h1'
  obtain ⟨q1, q2⟩ := he i hi k u hp
  exact ⟨kV_rel q1, by rw [q2]; exact h2⟩
def rSortKeys : List V → Hp → VK → Prop := fun vs H Q => ∃ (a : Addr) (kvs : List (Key × V)), vs = [.ref a] ∧ H a = some (.dK kvs) ∧ AllAlike ((kvs.map (·.1)).map fun k => py (kD k)) ∧
  ∀ p, H p = none → Q (.ref p) (upd H p (.lst (((kvs.map (·.1)).mergeSort (dle kD)).map kV)))
theorem cr_sortKeys (hu : X.A.units + 65 < cLine) (hc : X.calm = true) : CallR X (.builtin "sorted") rSortKeys := by
  intro pins s σ H vs us Q I r h
  obtain ⟨a, kvs, rfl, ha, hal, q⟩ := h
  obtain ⟨u, rfl, ru⟩ := vals1 r
  obtain rfl : u = Value.ref a := ru
  obtain ⟨z, lo, es, ep, hr, hs, he⟩ := kv_raw I.hok ha
  have hh : X.A.handled = none := I.ok.hd hc
  refine sorted_by (enc := fun k => py (kD k)) (bs := kvs.map (·.1)) (C := fun h' vs => (∀ b o, s.heap.get? b = some o → h'.get? b = some o) ∧ EachIs (fun u k => RelV (kV k) u) vs (kvs.map (·.1)))
    (fun {R'} k => kdu_collect (KdlSrc.rawDict (prog := X.prog) (w := X.w) lo) hh hr (by omega) fun h' tk acc kp hI => k h' tk acc.toList kp ⟨kp, each_of_ix (by rw [Array.length_toList, hI.1, List.length_map, hs]) fun i v k hv hk => ?_⟩)
    (fun h' vs c => c.2.mono fun u k ru => Dp.reads0 k ru) hal so_key (by rw [List.length_map]; exact z) (fun k _ => by
      have : (py (kD k)).depth = 0 := by cases k <;> simp [kD, py, PyData.depth]
      rw [this]; exact hu_big hu (by decide)) fun h1 h' tk b vs out n c kp1 kp2 eb hb lo' eo => ?_
  · rw [Array.getElem?_toList] at hv
    obtain ⟨hi, rfl⟩ := hI.2 i v hv
    rw [List.getElem?_map] at hk
    cases hk' : kvs[i]? with
    | none => rw [hk'] at hk; cases hk
    | some p =>
      rw [hk'] at hk
      obtain rfl := Option.some.inj hk
      exact (he i hi p.1 p.2 hk').1
  · have ng : s.heap.get? b = none := by rw [← eb]; exact no_get kp1
    have fr : H b = none := I.hok.gone ng
    have vo : Vals (((kvs.map (·.1)).mergeSort (dle kD)).map kV) out := vals_of_each eo fun v k ⟨j, h1, h2⟩ => by
      obtain ⟨k', hk', rk⟩ := each_get c.2 h1
      rw [h2] at hk'
      obtain rfl := Option.some.inj hk'
      exact rk
    refine ⟨.ref b, upd H b (.lst _), I.laidN (t' := tk) (fun b o g => kp2 b o (kp1 b o g)) ng fr ⟨?_, out, n, vo, hb⟩, rfl, q b fr⟩
    rw [vals_len vo, lo', List.length_map]; exact z
/-- the view d.values() at p -/
def valuesO (p d : Addr) : HO := .ext fun h => h.IsValuesView p d
theorem valuesO_ok {P : Program} {w : World} {H : Hp} {h : Heap} {p d : Addr} (e : h.get? p = some { cls := .type "dict_values", data := .fields #[.ref d] }) : ObjOk P w H h p (valuesO p d) :=
  ⟨⟨_, e, rfl, rfl⟩, ⟨_, e⟩, fun h1 h2 x k => let ⟨o, ho, r⟩ := x; ⟨o, k o ho, r⟩⟩
def rValuesK : V → List V → Hp → VK → Prop := fun x xs H Q => ∃ (a : Addr) (kvs : List (Key × V)), x = .ref a ∧ xs = [] ∧ H a = some (.dK kvs) ∧ ∀ p, H p = none → Q (.ref p) (upd H p (valuesO p a))
def rItemsK : V → List V → Hp → VK → Prop := fun x xs H Q => ∃ (a : Addr) (kvs : List (Key × V)), x = .ref a ∧ xs = [] ∧ H a = some (.dK kvs) ∧ ∀ p, H p = none → Q (.ref p) (upd H p (L2.DX.itemsO p a))
theorem mt_itemsK : MtR X "dict.items" rItemsK := by
  intro pins s σ H x xs v us Q I rx rxs h
  obtain ⟨a, kvs, rfl, rfl, ha, q⟩ := h
  cases rx
  cases rxs
  obtain ⟨z, hd, es, ep, hr, hs, he⟩ := kv_raw I.hok ha
  refine DT.callItems (es := es) (ep := ep) hd hr ?_
  have hf : H s.heap.objs.size = none := I.hok.fresh (Nat.le_refl _)
  exact ⟨.ref s.heap.objs.size, upd H s.heap.objs.size (L2.DX.itemsO s.heap.objs.size a), I.laid (t' := s.toks) (fun b u e => Heap.get?_push_of_some _ e) (Nat.le_refl _) (L2.DX.itemsO_ok (Heap.get?_push_size _ rfl)), rfl, q _ hf⟩
/-- sorted of such a view -/
def rSortVals (K : Frag) : List V → Hp → VK → Prop := fun vs H Q => ∃ (p a : Addr) (kvs : List (Key × V)) (β : Type) (l : List β) (f : β → D), vs = [.ref p] ∧ H p = some (valuesO p a) ∧ H a = some (.dK kvs) ∧ DVs K H (l.map f) (kvs.map (·.2)) ∧ AllAlike (l.map fun b => py (f b)) ∧ PySem.W.Sortable (l.map fun b => py (f b)) ∧ (∀ b ∈ l, (py (f b)).depth ≤ 60) ∧
  ∀ (ys : List V) (r : Addr), H r = none → DVs K H ((l.mergeSort (dle f)).map f) ys → Q (.ref r) (upd H r (.lst ys))
theorem cr_sortVals (hu : X.A.units + 65 < cLine) (hc : X.calm = true) : CallR X (.builtin "sorted") (rSortVals X.K) := by
  intro pins s σ H vs us Q I r h
  obtain ⟨p, a, kvs, β, l, f, rfl, hp, ha, hd, hal, hsb, hdp, q⟩ := h
  obtain ⟨u, rfl, ru⟩ := vals1 r
  obtain rfl : u = Value.ref p := ru
  have view : s.heap.IsValuesView p a := (show ObjOk X.prog X.w H s.heap p (valuesO p a) from I.hok p _ hp).1
  obtain ⟨z, lo, es, ep, hr, hs, he⟩ := kv_raw I.hok ha
  have hh : X.A.handled = none := I.ok.hd hc
  have ll : l.length = kvs.length := by have := hd.len; rw [List.length_map, List.length_map] at this; omega
  have dv : ∀ (i : Nat) (b : β) (k : Key) (v : V), l[i]? = some b → kvs[i]? = some (k, v) → DV X.K H (f b) v := fun i b k v hb hk => by
    obtain ⟨v', hv', d⟩ := hd.get (i := i) (d := f b) (by rw [List.getElem?_map, hb]; rfl)
    rw [List.getElem?_map, hk] at hv'
    obtain rfl := Option.some.inj hv'
    exact d
  refine sorted_by (enc := fun b => py (f b)) (bs := l) (C := fun h' vs => (∀ b o, s.heap.get? b = some o → h'.get? b = some o) ∧ EachIs (fun u b => ∃ v, RelV v u ∧ DV X.K H (f b) v) vs l)
    (fun {R'} k => kdu_collect (KdlSrc.rawValues (prog := X.prog) (w := X.w)) hh ⟨view, hr⟩ (by omega) fun h' tk acc kp hI => k h' tk acc.toList kp ⟨kp, each_of_ix (by rw [Array.length_toList, hI.1, ll, hs]) fun i v b hv hb => ?_⟩)
    (fun h' vs c => c.2.mono fun u b ⟨v, rv, d⟩ => by
      obtain ⟨as, rr⟩ := Dp.reads I _ _ _ d.dp rv
      exact ⟨as, PyProof.Rows.Reads.keeps c.1 rr⟩) hal hsb (by omega) (fun b m => hu_big hu (hdp b m)) fun h1 h' tk b vs out n c kp1 kp2 eb hb lo' eo => ?_
  · rw [Array.getElem?_toList] at hv
    obtain ⟨hi, rfl⟩ := hI.2 i v hv
    obtain ⟨⟨k, v⟩, hk⟩ : ∃ p, kvs[i]? = some p := ⟨_, List.getElem?_eq_getElem (by omega)⟩
    exact ⟨v, (he i hi k v hk).2, dv i b k v hb hk⟩
  · have ng : s.heap.get? b = none := by rw [← eb]; exact no_get kp1
    have fr : H b = none := I.hok.gone ng
    have eo2 : EachIs (fun u b => ∃ v, RelV v u ∧ DV X.K H (f b) v) out (l.mergeSort (dle f)) := eo.mono fun v k ⟨j, h1, h2⟩ => by
      obtain ⟨k', hk', rk⟩ := each_get c.2 h1
      rw [h2] at hk'
      obtain rfl := Option.some.inj hk'
      exact rk
    obtain ⟨ys, dy, ry⟩ := each_dvs eo2
    refine ⟨.ref b, upd H b (.lst ys), I.laidN (t' := tk) (fun b o g => kp2 b o (kp1 b o g)) ng fr ⟨?_, out, n, ry, hb⟩, rfl, q ys b fr dy⟩
    rw [vals_len ry, lo', ll]; exact z
/-- d.update(e) -/
def rUpdK : V → List V → Hp → VK → Prop := fun x xs H Q => ∃ (a b : Addr) (kvs more : List (Key × V)), x = .ref a ∧ xs = [.ref b] ∧ a ≠ b ∧ H a = some (.dK kvs) ∧ H b = some (.dK more) ∧ kvs.length + more.length ≤ sizeLine ∧ Q .non (upd H a (.dK (mergeK kvs more)))
theorem mt_updK : MtR X "dict.update" rUpdK := by
  intro pins s σ H x xs v us Q I rx rxs h
  obtain ⟨a, b, kvs, more, rfl, rfl, ab, ha, hb, hz, q⟩ := h
  cases rx
  obtain ⟨u, rfl, ru⟩ := rxs.one
  cases ru
  obtain ⟨z, hd, vs, rel, dd⟩ := dk_of I.hok ha
  obtain ⟨z', hd', vs', rel', dd'⟩ := dk_of I.hok hb
  refine call_meetsIn PySem.F.slot_dict_update dd.typeIs PySem.F.entry_dict_update (PySem.F.args_dict_update_2 _ _) (meets_dict_update (mixKind X.prog X.w) a b ab hd')
    ⟨vs, vs', dd, dd', by rw [← rel.length, ← rel'.length]; exact hz, fun h' d1 d2 hs => ⟨.non, _, ?_, rfl, q⟩⟩
  have he : ∃ q, h'.get? a = some q := let ⟨q, _, _, hq, _⟩ := d1; ⟨q, hq⟩
  exact d_write I (by rw [ha]; exact True.intro) hs he (dk_new (Nat.le_trans (length_mergeK _ _) hz) hd (KV.merge rel' rel) d1)
theorem mt_valuesK : MtR X "dict.values" rValuesK := by
  intro pins s σ H x xs v us Q I rx rxs h
  obtain ⟨a, kvs, rfl, rfl, ha, q⟩ := h
  cases rx
  cases rxs
  obtain ⟨z, hd, es, ep, hr, hs, he⟩ := kv_raw I.hok ha
  have hf : H s.heap.objs.size = none := I.hok.fresh (Nat.le_refl _)
  refine call_meetsIn PySem.F.slot_dict_values hr.typeIs PySem.F.entry_dict_values (PySem.F.args_dict_values_1 _) (meets_dict_values_raw (prog := X.prog) (w := X.w) a hd) ⟨⟨es, ep, hr⟩, ?_⟩
  exact ⟨.ref s.heap.objs.size, upd H s.heap.objs.size (valuesO s.heap.objs.size a), I.laid (t' := s.toks) (fun b u e => Heap.get?_push_of_some _ e) (Nat.le_refl _) (valuesO_ok (Heap.get?_push_size _ rfl)), rfl, q _ hf⟩
end
section
variable {prog : Program} {w : World} {A : Around} {E : Value → Shared → Prop} {s : Shared}
theorem bestX (bt : Nat → Nat → Bool) : (bt 1 0 = false ∧ argBest bt 1 = 0) ∨ (bt 1 0 = true ∧ argBest bt 1 = 1) := by
  by_cases h : bt 1 (argBest bt 0) = true
  · exact .inr ⟨h, if_pos h⟩
  · exact .inl ⟨Bool.eq_false_iff.mpr h, if_neg h⟩
/-- the larger one -/
theorem max_strX {x y : Str} {t u : Tok} {Q : Value → Shared → Prop} (calm : A.handled = none)
    (h : ∀ (hp : Heap) (tk : Nat), (∀ b o, s.heap.get? b = some o → hp.get? b = some o) → Q (if decide (tl x < tl y) = true then .str y u else .str x t) { s with heap := hp, toks := tk }) : wpAny (model prog w) A (call (.builtin "max") [.str x t, .str y u]) Q E s := by
  have tp : (s.heap.push { cls := .type "tuple", data := .seq #[.str x t, .str y u] }).IsTuple s.heap.objs.size #[.str x t, .str y u] := ⟨_, Heap.get?_push_size _ rfl, rfl, 0, rfl⟩
  have z1 : (s.heap.push { cls := .type "tuple", data := .seq #[.str x t, .str y u] }).objs.size = s.heap.objs.size + 1 := Heap.size_push ..
  refine call_max_two (wpAny_pyIter_tuple tp ?_)
  refine ⟨_, [_, s.heap.objs.size], [_], _, _, _, fun i j => decide ((if j = 0 then x else y).cps.toList < (if i = 0 then x else y).cps.toList), rfl, Walks.tuple (A := A.in1) calm _ s.heap.objs.size (by rw [z1]; exact Nat.ne_of_lt (Nat.lt_succ_self _)) #[.str x t, .str y u], ⟨⟨_, Heap.get?_push_size _ rfl, rfl, rfl⟩, tp.push _⟩, fun b hb => ?_, by simp, fun i j vi vj s1 Q1 E1 gi gj q => ?_, fun v hp tk hv kp => ?_⟩
  · show b < ((s.heap.push _).push _).objs.size
    rw [Heap.size_push]
    simp only [List.mem_cons, List.not_mem_nil, or_false] at hb
    rcases hb with e | e <;> subst e
    · exact Nat.lt_succ_self _
    · rw [z1]; exact Nat.lt_succ_of_lt (Nat.lt_succ_self _)
  · have pick : ∀ {k : Nat} {v : Value}, (#[Value.str x t, Value.str y u])[k]? = some v → ∃ tt, v = .str (if k = 0 then x else y) tt := fun {k v} g => by
      match k, g with
      | 0, g => exact ⟨t, (Option.some.inj g).symm⟩
      | 1, g => exact ⟨u, (Option.some.inj g).symm⟩
      | k + 2, g => simp at g
    obtain ⟨ti, rfl⟩ := pick gi
    obtain ⟨tj, rfl⟩ := pick gj
    exact PySem.P.gt_str q
  · have old : ∀ b o, s.heap.get? b = some o → hp.get? b = some o := fun b o g => by
      refine kp b o (fun m => ?_) (Heap.get?_push_of_some _ (Heap.get?_push_of_some _ g))
      have lt := Heap.lt_size g
      rw [List.mem_singleton.mp m, z1] at lt
      exact absurd lt (Nat.not_lt_of_lt (Nat.lt_succ_self _))
    have hv' : (#[Value.str x t, Value.str y u])[argBest (fun i j => decide ((if j = 0 then x else y).cps.toList < (if i = 0 then x else y).cps.toList)) 1]? = some v := hv
    rcases bestX (fun i j => decide ((if j = 0 then x else y).cps.toList < (if i = 0 then x else y).cps.toList)) with ⟨e0, e⟩ | ⟨e0, e⟩
    · rw [e] at hv'
      have ev : Value.str x t = v := Option.some.inj hv'
      have := h hp tk old
      have e1 : (decide (tl x < tl y)) = false := e0
      rw [e1] at this
      rw [← ev]; exact this
    · rw [e] at hv'
      have ev : Value.str y u = v := Option.some.inj hv'
      have := h hp tk old
      have e1 : (decide (tl x < tl y)) = true := e0
      rw [e1] at this
      rw [← ev]; exact this
theorem min_strX {x y : Str} {t u : Tok} {Q : Value → Shared → Prop} (calm : A.handled = none)
    (h : ∀ (hp : Heap) (tk : Nat), (∀ b o, s.heap.get? b = some o → hp.get? b = some o) → Q (if decide (tl y < tl x) = true then .str y u else .str x t) { s with heap := hp, toks := tk }) : wpAny (model prog w) A (call (.builtin "min") [.str x t, .str y u]) Q E s := by
  have tp : (s.heap.push { cls := .type "tuple", data := .seq #[.str x t, .str y u] }).IsTuple s.heap.objs.size #[.str x t, .str y u] := ⟨_, Heap.get?_push_size _ rfl, rfl, 0, rfl⟩
  have z1 : (s.heap.push { cls := .type "tuple", data := .seq #[.str x t, .str y u] }).objs.size = s.heap.objs.size + 1 := Heap.size_push ..
  refine call_min_two (wpAny_pyIter_tuple tp ?_)
  refine ⟨_, [_, s.heap.objs.size], [_], _, _, _, fun i j => decide ((if i = 0 then x else y).cps.toList < (if j = 0 then x else y).cps.toList), rfl, Walks.tuple (A := A.in1) calm _ s.heap.objs.size (by rw [z1]; exact Nat.ne_of_lt (Nat.lt_succ_self _)) #[.str x t, .str y u], ⟨⟨_, Heap.get?_push_size _ rfl, rfl, rfl⟩, tp.push _⟩, fun b hb => ?_, by simp, fun i j vi vj s1 Q1 E1 gi gj q => ?_, fun v hp tk hv kp => ?_⟩
  · show b < ((s.heap.push _).push _).objs.size
    rw [Heap.size_push]
    simp only [List.mem_cons, List.not_mem_nil, or_false] at hb
    rcases hb with e | e <;> subst e
    · exact Nat.lt_succ_self _
    · rw [z1]; exact Nat.lt_succ_of_lt (Nat.lt_succ_self _)
  · have pick : ∀ {k : Nat} {v : Value}, (#[Value.str x t, Value.str y u])[k]? = some v → ∃ tt, v = .str (if k = 0 then x else y) tt := fun {k v} g => by
      match k, g with
      | 0, g => exact ⟨t, (Option.some.inj g).symm⟩
      | 1, g => exact ⟨u, (Option.some.inj g).symm⟩
      | k + 2, g => simp at g
    obtain ⟨ti, rfl⟩ := pick gi
    obtain ⟨tj, rfl⟩ := pick gj
    exact PySem.P.lt_str q
  · have old : ∀ b o, s.heap.get? b = some o → hp.get? b = some o := fun b o g => by
      refine kp b o (fun m => ?_) (Heap.get?_push_of_some _ (Heap.get?_push_of_some _ g))
      have lt := Heap.lt_size g
      rw [List.mem_singleton.mp m, z1] at lt
      exact absurd lt (Nat.not_lt_of_lt (Nat.lt_succ_self _))
    have hv' : (#[Value.str x t, Value.str y u])[argBest (fun i j => decide ((if i = 0 then x else y).cps.toList < (if j = 0 then x else y).cps.toList)) 1]? = some v := hv
    rcases bestX (fun i j => decide ((if i = 0 then x else y).cps.toList < (if j = 0 then x else y).cps.toList)) with ⟨e0, e⟩ | ⟨e0, e⟩
    · rw [e] at hv'
      have ev : Value.str x t = v := Option.some.inj hv'
      have := h hp tk old
      have e1 : (decide (tl y < tl x)) = false := e0
      rw [e1] at this
      rw [← ev]; exact this
    · rw [e] at hv'
      have ev : Value.str y u = v := Option.some.inj hv'
      have := h hp tk old
      have e1 : (decide (tl y < tl x)) = true := e0
      rw [e1] at this
      rw [← ev]; exact this
end
section
variable {X : Cx}
def minP (x y : Str) : Str := if decide (tl y < tl x) = true then y else x
def maxP (x y : Str) : Str := if decide (tl x < tl y) = true then y else x
theorem call_maxX (hc : X.calm = true) : CallR X (.builtin "max") (fun xs H Q => ∃ x y : Str, xs = [.str x, .str y] ∧ Q (.str (maxP x y)) H) := by
  intro pins s σ H xs us Q I r h
  obtain ⟨x, y, rfl, q⟩ := h
  obtain ⟨u, w', rfl, ⟨t, rfl⟩, ⟨t', rfl⟩⟩ := vals2 r
  refine max_strX (I.ok.hd hc) fun hp tk old => ?_
  refine ⟨.str (maxP x y), H, I.kept old, ?_, q⟩
  unfold maxP
  split
  · exact ⟨t', rfl⟩
  · exact ⟨t, rfl⟩
theorem call_minX (hc : X.calm = true) : CallR X (.builtin "min") (fun xs H Q => ∃ x y : Str, xs = [.str x, .str y] ∧ Q (.str (minP x y)) H) := by
  intro pins s σ H xs us Q I r h
  obtain ⟨x, y, rfl, q⟩ := h
  obtain ⟨u, w', rfl, ⟨t, rfl⟩, ⟨t', rfl⟩⟩ := vals2 r
  refine min_strX (I.ok.hd hc) fun hp tk old => ?_
  refine ⟨.str (minP x y), H, I.kept old, ?_, q⟩
  unfold minP
  split
  · exact ⟨t', rfl⟩
  · exact ⟨t, rfl⟩
end
end Z
namespace Z
open PySem L2 SX
def top (i : Nat) : Stmt := PySem.Challenge.pw_criermoot_k22_labels_judged.main.body.getD i (.Pass ⟨0, 0, 0, 0⟩)
abbrev s_add_place : Stmt := top 1
abbrev N_add_place : List Str := ["glob", "places", "place"]
theorem sc_add_place : FnScope ["glob", "places", "place"] ["glob", "places", "place"] (defScope s_add_place) := ⟨rfl, rfl, rfl, by decide +kernel, rfl, by decide +kernel, by decide +kernel⟩
abbrev s_follows : Stmt := top 2
abbrev N_follows : List Str := ["glob", "standing", "character", "places", "place"]
theorem sc_follows : FnScope ["glob", "standing", "character", "places", "place"] ["glob", "standing", "character"] (defScope s_follows) := ⟨rfl, rfl, rfl, by decide +kernel, rfl, by decide +kernel, by decide +kernel⟩
abbrev s_standing : Stmt := top 3
abbrev N_standing : List Str := ["glob", "beginning", "places", "found", "character"]
theorem sc_standing : FnScope ["glob", "beginning", "places", "found", "character"] ["glob", "beginning"] (defScope s_standing) := ⟨rfl, rfl, rfl, by decide +kernel, rfl, by decide +kernel, by decide +kernel⟩
abbrev s_fits : Stmt := top 4
abbrev N_fits : List Str := ["glob", "board"]
theorem sc_fits : FnScope ["glob", "board"] ["glob", "board"] (defScope s_fits) := ⟨rfl, rfl, rfl, by decide +kernel, rfl, by decide +kernel, by decide +kernel⟩
abbrev s_items_of : Stmt := top 6
abbrev N_items_of : List Str := ["pattern", "item"]
theorem sc_items_of : FnScope ["pattern", "item"] ["pattern"] (defScope s_items_of) := ⟨rfl, rfl, rfl, by decide +kernel, rfl, by decide +kernel, by decide +kernel⟩
abbrev s_lets : Stmt := top 7
abbrev N_lets : List Str := ["pattern", "board", "sign", "glob"]
theorem sc_lets : FnScope ["pattern", "board", "sign", "glob"] ["pattern", "board"] (defScope s_lets) := ⟨rfl, rfl, rfl, by decide +kernel, rfl, by decide +kernel, by decide +kernel⟩
abbrev s_lets_one : Stmt := top 8
abbrev N_lets_one : List Str := ["pattern", "boards", "board"]
theorem sc_lets_one : FnScope ["pattern", "boards", "board"] ["pattern", "boards"] (defScope s_lets_one) := ⟨rfl, rfl, rfl, by decide +kernel, rfl, by decide +kernel, by decide +kernel⟩
abbrev s_sight : Stmt := top 9
abbrev N_sight : List Str := ["patterns", "boards", "pattern"]
theorem sc_sight : FnScope ["patterns", "boards", "pattern"] ["patterns", "boards"] (defScope s_sight) := ⟨rfl, rfl, rfl, by decide +kernel, rfl, by decide +kernel, by decide +kernel⟩
abbrev s_book_patterns : Stmt := top 11
abbrev N_book_patterns : List Str := ["book", "entry"]
theorem sc_book_patterns : FnScope ["book", "entry"] ["book"] (defScope s_book_patterns) := ⟨rfl, rfl, rfl, by decide +kernel, rfl, by decide +kernel, by decide +kernel⟩
abbrev s_book_sight : Stmt := top 12
abbrev N_book_sight : List Str := ["book", "boards"]
theorem sc_book_sight : FnScope ["book", "boards"] ["book", "boards"] (defScope s_book_sight) := ⟨rfl, rfl, rfl, by decide +kernel, rfl, by decide +kernel, by decide +kernel⟩
abbrev s_carriers : Stmt := top 13
abbrev N_carriers : List Str := ["book", "seen", "entry", "bit"]
theorem sc_carriers : FnScope ["book", "seen", "entry", "bit"] ["book", "seen"] (defScope s_carriers) := ⟨rfl, rfl, rfl, by decide +kernel, rfl, by decide +kernel, by decide +kernel⟩
abbrev s_links_of : Stmt := top 14
abbrev N_links_of : List Str := ["book", "seen", "size", "names", "found", "entry", "bit"]
theorem sc_links_of : FnScope ["book", "seen", "size", "names", "found", "entry", "bit"] ["book", "seen", "size"] (defScope s_links_of) := ⟨rfl, rfl, rfl, by decide +kernel, rfl, by decide +kernel, by decide +kernel⟩
abbrev s_ways_on : Stmt := top 15
abbrev N_ways_on : List Str := ["ways", "links", "reached", "found", "way", "giver", "taker", "bound"]
theorem sc_ways_on : FnScope ["ways", "links", "reached", "found", "way", "giver", "taker", "bound"] ["ways", "links", "reached"] (defScope s_ways_on) := ⟨rfl, rfl, rfl, by decide +kernel, rfl, by decide +kernel, by decide +kernel⟩
abbrev s_ways_from : Stmt := top 16
abbrev N_ways_from : List Str := ["origin", "names", "links", "reached", "level", "found"]
theorem sc_ways_from : FnScope ["origin", "names", "links", "reached", "level", "found"] ["origin", "names", "links"] (defScope s_ways_from) := ⟨rfl, rfl, rfl, by decide +kernel, rfl, by decide +kernel, by decide +kernel⟩
abbrev s_ways_of : Stmt := top 17
abbrev N_ways_of : List Str := ["book", "kind", "seen"]
theorem sc_ways_of : FnScope ["book", "kind", "seen"] ["book", "kind"] (defScope s_ways_of) := ⟨rfl, rfl, rfl, by decide +kernel, rfl, by decide +kernel, by decide +kernel⟩
abbrev s_keeps_link : Stmt := top 19
abbrev N_keeps_link : List Str := ["label", "bound", "behind"]
theorem sc_keeps_link : FnScope ["label", "bound", "behind"] ["label", "bound", "behind"] (defScope s_keeps_link) := ⟨rfl, rfl, rfl, by decide +kernel, rfl, by decide +kernel, by decide +kernel⟩
abbrev s_judge_labels : Stmt := top 20
abbrev N_judge_labels : List Str := ["book", "kind", "labels", "names", "told", "seen", "links", "entry", "giver", "taker", "bound", "label"]
theorem sc_judge_labels : FnScope ["book", "kind", "labels", "names", "told", "seen", "links", "entry", "giver", "taker", "bound", "label"] ["book", "kind", "labels"] (defScope s_judge_labels) := ⟨rfl, rfl, rfl, by decide +kernel, rfl, by decide +kernel, by decide +kernel⟩
abbrev s_hops_of : Stmt := top 22
abbrev N_hops_of : List Str := ["book", "kind", "ways", "entry"]
theorem sc_hops_of : FnScope ["book", "kind", "ways", "entry"] ["book", "kind"] (defScope s_hops_of) := ⟨rfl, rfl, rfl, by decide +kernel, rfl, by decide +kernel, by decide +kernel⟩
abbrev s__law_mix : Stmt := top 24
abbrev N__law_mix : List Str := ["seed", "turn", "number"]
theorem sc__law_mix : FnScope ["seed", "turn", "number"] ["seed", "turn"] (defScope s__law_mix) := ⟨rfl, rfl, rfl, by decide +kernel, rfl, by decide +kernel, by decide +kernel⟩
abbrev s__law_source : Stmt := top 25
abbrev N__law_source : List Str := ["script", "seed", "k"]
theorem sc__law_source : FnScope ["script", "seed", "k"] ["script"] (defScope s__law_source) := ⟨rfl, rfl, rfl, by decide +kernel, rfl, by decide +kernel, by decide +kernel⟩
abbrev s__law_draw : Stmt := top 26
abbrev N__law_draw : List Str := ["source", "many", "cell", "value"]
theorem sc__law_draw : FnScope ["source", "many", "cell", "value"] ["source", "many"] (defScope s__law_draw) := ⟨rfl, rfl, rfl, by decide +kernel, rfl, by decide +kernel, by decide +kernel⟩
abbrev s__law_pick : Stmt := top 27
abbrev N__law_pick : List Str := ["source", "row"]
theorem sc__law_pick : FnScope ["source", "row"] ["source", "row"] (defScope s__law_pick) := ⟨rfl, rfl, rfl, by decide +kernel, rfl, by decide +kernel, by decide +kernel⟩
abbrev s__law_once_in : Stmt := top 28
abbrev N__law_once_in : List Str := ["source", "many"]
theorem sc__law_once_in : FnScope ["source", "many"] ["source", "many"] (defScope s__law_once_in) := ⟨rfl, rfl, rfl, by decide +kernel, rfl, by decide +kernel, by decide +kernel⟩
abbrev s__law_shuffled : Stmt := top 29
abbrev N__law_shuffled : List Str := ["source", "row", "left", "done", "k"]
theorem sc__law_shuffled : FnScope ["source", "row", "left", "done", "k"] ["source", "row"] (defScope s__law_shuffled) := ⟨rfl, rfl, rfl, by decide +kernel, rfl, by decide +kernel, by decide +kernel⟩
abbrev s__law_new_name : Stmt := top 30
abbrev N__law_new_name : List Str := ["source", "used", "letters", "size", "name", "k", "tried"]
theorem sc__law_new_name : FnScope ["source", "used", "letters", "size", "name", "k", "tried"] ["source", "used"] (defScope s__law_new_name) := ⟨rfl, rfl, rfl, by decide +kernel, rfl, by decide +kernel, by decide +kernel⟩
abbrev s__law_names : Stmt := top 31
abbrev N__law_names : List Str := ["source", "many", "used", "k"]
theorem sc__law_names : FnScope ["source", "many", "used", "k"] ["source", "many"] (defScope s__law_names) := ⟨rfl, rfl, rfl, by decide +kernel, rfl, by decide +kernel, by decide +kernel⟩
abbrev s__law_words : Stmt := top 32
abbrev N__law_words : List Str := ["source"]
theorem sc__law_words : FnScope ["source"] ["source"] (defScope s__law_words) := ⟨rfl, rfl, rfl, by decide +kernel, rfl, by decide +kernel, by decide +kernel⟩
abbrev s__law_board : Stmt := top 33
abbrev N__law_board : List Str := ["source", "words", "size", "k"]
theorem sc__law_board : FnScope ["source", "words", "size", "k"] ["source", "words"] (defScope s__law_board) := ⟨rfl, rfl, rfl, by decide +kernel, rfl, by decide +kernel, by decide +kernel⟩
abbrev s__law_boards : Stmt := top 34
abbrev N__law_boards : List Str := ["source", "words", "most", "found", "k", "board"]
theorem sc__law_boards : FnScope ["source", "words", "most", "found", "k", "board"] ["source", "words", "most"] (defScope s__law_boards) := ⟨rfl, rfl, rfl, by decide +kernel, rfl, by decide +kernel, by decide +kernel⟩
abbrev s__law_glob : Stmt := top 35
abbrev N__law_glob : List Str := ["source", "words", "word", "menu"]
theorem sc__law_glob : FnScope ["source", "words", "word", "menu"] ["source", "words"] (defScope s__law_glob) := ⟨rfl, rfl, rfl, by decide +kernel, rfl, by decide +kernel, by decide +kernel⟩
abbrev s__law_pattern : Stmt := top 36
abbrev N__law_pattern : List Str := ["source", "words", "many", "items", "k"]
theorem sc__law_pattern : FnScope ["source", "words", "many", "items", "k"] ["source", "words"] (defScope s__law_pattern) := ⟨rfl, rfl, rfl, by decide +kernel, rfl, by decide +kernel, by decide +kernel⟩
abbrev s__law_fits : Stmt := top 37
abbrev N__law_fits : List Str := ["glob", "board", "spots", "k", "sign", "after"]
theorem sc__law_fits : FnScope ["glob", "board", "spots", "k", "sign", "after"] ["glob", "board"] (defScope s__law_fits) := ⟨rfl, rfl, rfl, by decide +kernel, rfl, by decide +kernel, by decide +kernel⟩
abbrev s__law_lets : Stmt := top 38
abbrev N__law_lets : List Str := ["pattern", "board", "answer", "item"]
theorem sc__law_lets : FnScope ["pattern", "board", "answer", "item"] ["pattern", "board"] (defScope s__law_lets) := ⟨rfl, rfl, rfl, by decide +kernel, rfl, by decide +kernel, by decide +kernel⟩
abbrev s__law_lets_some : Stmt := top 39
abbrev N__law_lets_some : List Str := ["pattern", "boards", "board"]
theorem sc__law_lets_some : FnScope ["pattern", "boards", "board"] ["pattern", "boards"] (defScope s__law_lets_some) := ⟨rfl, rfl, rfl, by decide +kernel, rfl, by decide +kernel, by decide +kernel⟩
abbrev s__law_is_int : Stmt := top 40
abbrev N__law_is_int : List Str := ["value"]
theorem sc__law_is_int : FnScope ["value"] ["value"] (defScope s__law_is_int) := ⟨rfl, rfl, rfl, by decide +kernel, rfl, by decide +kernel, by decide +kernel⟩
abbrev s__law_same : Stmt := top 41
abbrev N__law_same : List Str := ["actual", "due", "k"]
theorem sc__law_same : FnScope ["actual", "due", "k"] ["actual", "due"] (defScope s__law_same) := ⟨rfl, rfl, rfl, by decide +kernel, rfl, by decide +kernel, by decide +kernel⟩
abbrev s__law_lines : Stmt := top 42
abbrev N__law_lines : List Str := ["source", "names", "pairs", "k", "one", "two"]
theorem sc__law_lines : FnScope ["source", "names", "pairs", "k", "one", "two"] ["source", "names"] (defScope s__law_lines) := ⟨rfl, rfl, rfl, by decide +kernel, rfl, by decide +kernel, by decide +kernel⟩
abbrev s__law_all_lines : Stmt := top 43
abbrev N__law_all_lines : List Str := ["names", "lines", "one", "two"]
theorem sc__law_all_lines : FnScope ["names", "lines", "one", "two"] ["names"] (defScope s__law_all_lines) := ⟨rfl, rfl, rfl, by decide +kernel, rfl, by decide +kernel, by decide +kernel⟩
abbrev s__law_net : Stmt := top 44
abbrev N__law_net : List Str := ["source", "many", "words", "names", "lines", "patterns", "sizes", "feeds", "pair", "way", "hops", "size", "sites", "name"]
theorem sc__law_net : FnScope ["source", "many", "words", "names", "lines", "patterns", "sizes", "feeds", "pair", "way", "hops", "size", "sites", "name"] ["source", "many", "words"] (defScope s__law_net) := ⟨rfl, rfl, rfl, by decide +kernel, rfl, by decide +kernel, by decide +kernel⟩
abbrev s__law_kind : Stmt := top 45
abbrev N__law_kind : List Str := ["source", "book", "words", "sizes", "feed", "origin"]
theorem sc__law_kind : FnScope ["source", "book", "words", "sizes", "feed", "origin"] ["source", "book", "words"] (defScope s__law_kind) := ⟨rfl, rfl, rfl, by decide +kernel, rfl, by decide +kernel, by decide +kernel⟩
abbrev s__law_wide : Stmt := top 46
abbrev N__law_wide : List Str := ["book", "kind", "carried", "feeds", "site", "feed"]
theorem sc__law_wide : FnScope ["book", "kind", "carried", "feeds", "site", "feed"] ["book", "kind"] (defScope s__law_wide) := ⟨rfl, rfl, rfl, by decide +kernel, rfl, by decide +kernel, by decide +kernel⟩
abbrev s__law_labels_right : Stmt := top 47
abbrev N__law_labels_right : List Str := ["book", "kind", "wide", "labels", "names", "feed", "base", "after", "site", "label"]
theorem sc__law_labels_right : FnScope ["book", "kind", "wide", "labels", "names", "feed", "base", "after", "site", "label"] ["book", "kind", "wide", "labels"] (defScope s__law_labels_right) := ⟨rfl, rfl, rfl, by decide +kernel, rfl, by decide +kernel, by decide +kernel⟩
abbrev s__law_least_hops : Stmt := top 48
abbrev N__law_least_hops : List Str := ["book", "kind", "wide", "hops", "step", "feed", "site"]
theorem sc__law_least_hops : FnScope ["book", "kind", "wide", "hops", "step", "feed", "site"] ["book", "kind", "wide"] (defScope s__law_least_hops) := ⟨rfl, rfl, rfl, by decide +kernel, rfl, by decide +kernel, by decide +kernel⟩
abbrev s__law_bent : Stmt := top 49
abbrev N__law_bent : List Str := ["source", "labels", "spot", "less", "more", "menu"]
theorem sc__law_bent : FnScope ["source", "labels", "spot", "less", "more", "menu"] ["source", "labels"] (defScope s__law_bent) := ⟨rfl, rfl, rfl, by decide +kernel, rfl, by decide +kernel, by decide +kernel⟩
abbrev s__law_all_labels : Stmt := top 50
abbrev N__law_all_labels : List Str := ["source", "book", "least", "size", "found", "k", "once", "site"]
theorem sc__law_all_labels : FnScope ["source", "book", "least", "size", "found", "k", "once", "site"] ["source", "book", "least"] (defScope s__law_all_labels) := ⟨rfl, rfl, rfl, by decide +kernel, rfl, by decide +kernel, by decide +kernel⟩
abbrev s__law_above : Stmt := top 51
abbrev N__law_above : List Str := ["labels", "hops", "k"]
theorem sc__law_above : FnScope ["labels", "hops", "k"] ["labels", "hops"] (defScope s__law_above) := ⟨rfl, rfl, rfl, by decide +kernel, rfl, by decide +kernel, by decide +kernel⟩
abbrev s_law : Stmt := top 52
abbrev N_law : List Str := ["script", "source", "words", "many", "book", "kind", "wide", "told", "least", "labels", "due", "hops"]
theorem sc_law : FnScope ["script", "source", "words", "many", "book", "kind", "wide", "told", "least", "labels", "due", "hops"] ["script"] (defScope s_law) := ⟨rfl, rfl, rfl, by decide +kernel, rfl, by decide +kernel, by decide +kernel⟩
structure Tx (mg : Str → Option Value) : Prop where
  n_abs : mg "abs" = none
  n_all : mg "all" = none
  n_any : mg "any" = none
  n_bool : mg "bool" = none
  n_dict : mg "dict" = none
  n_int : mg "int" = none
  n_isinstance : mg "isinstance" = none
  n_len : mg "len" = none
  n_list : mg "list" = none
  n_max : mg "max" = none
  n_min : mg "min" = none
  n_range : mg "range" = none
  n_reversed : mg "reversed" = none
  n_sorted : mg "sorted" = none
  n_str : mg "str" = none
  n_tuple : mg "tuple" = none
  n_zip : mg "zip" = none
end Z
namespace Z
open PySem PySem.Spec PyProof.Rows L2 SX
/-! ### enumerate(text) -/
def ItEs (x : Str) : It := ⟨fun i _ => i < x.cps.size, fun i H v H' => ∃ (T : Addr) (c : Nat), v = .ref T ∧ H T = none ∧ H' = upd H T (.tup [.int (i : Nat), .str ⟨#[c]⟩]) ∧ x.cps[i]? = some c, fun i _ => i = x.cps.size⟩
theorem turn_enumS {P : Program} {w : World} {K : PySem.W.Frag} {elts : List Expr} {kk : Nat} {tpos : Pos} (x : Str) (t : Tok) (e it : Addr) :
    Turn P w K (.Tuple elts kk tpos) (ItEs x) [e, it] e (fun i h => (∃ old, IsEnum h e it ((i : Nat) : Int) old) ∧ h.IsStrIter it (strIterType x) x t i ∧ e ≠ it) where
  mem := by simp
  obj := fun i h st b hb => by
    obtain ⟨⟨old, he⟩, ⟨o, ho, hc, hd⟩, _⟩ := st
    have e' : b = e ∨ b = it := by simpa using hb
    rcases e' with z | z
    · rw [z]; exact ⟨_, he, fun v q => nomatch q⟩
    · rw [z]; exact ⟨o, ho, fun v q => by rw [hd] at q; cases q⟩
  keep := fun i h h' st k => by
    obtain ⟨⟨old, he⟩, ⟨o, ho, r⟩, hne⟩ := st
    exact ⟨⟨old, k e (by simp) _ he⟩, ⟨o, k it (by simp) o ho, r⟩, hne⟩
  item := by
    intro X hP hw hK hc i pins s σ H E I hf st hg
    subst hP hw hK
    obtain ⟨⟨old, he⟩, hit, hne⟩ := st
    have hel : e < s.heap.objs.size := Heap.lt_size he
    have hil : it < s.heap.objs.size := by obtain ⟨_, q, _⟩ := hit; exact Heap.lt_size q
    have D := Draws.text (prog := X.prog) (w := X.w) (A := X.A.in1) (I.ok.hd hc) it x t
    refine wpAny_pyNext_enum_itemC D he hit hg hne (by simp [hne]) fun v h' tk hv ho hit' hT hsz hk => ?_
    obtain ⟨c, u, hcx, rfl⟩ := hv
    refine ⟨_, rfl, wpAny_letOwnedTupleGo_enum (s := { s with heap := h', toks := tk + 1 }) ho fun h'' he' sb => ?_⟩
    have hT2 : h''.get? s.heap.objs.size = some { cls := .type "tuple", data := .seq #[.int i tk, .str ⟨#[c]⟩ u] } := (sb.2 _ (Nat.ne_of_gt hel)).trans hT
    have new : ObjOk X.prog X.w (upd H s.heap.objs.size (.tup [.int (i : Nat), .str ⟨#[c]⟩])) h'' s.heap.objs.size (.tup [.int (i : Nat), .str ⟨#[c]⟩]) :=
      ⟨by show 2 ≤ sizeLine; decide, [.int i tk, .str ⟨#[c]⟩ u], .cons ⟨_, rfl⟩ (.cons ⟨_, rfl⟩ .nil), ⟨_, hT2, rfl, _, rfl⟩⟩
    have I1 : Inv X pins σ (upd H s.heap.objs.size (.tup [.int (i : Nat), .str ⟨#[c]⟩])) { s with heap := h'', toks := tk + 1 } :=
      I.turnedNew (ch := [e, it]) (fun b ob hb q => (sb.2 b (fun z => hb (by simp [z]))).trans (hk b ob (fun z => hb (by simp [z])) (fun z => hb (by simp [z])) q)) hf (Nat.le_refl _) new
    refine ⟨.ref s.heap.objs.size, _, I1, rfl, ⟨_, c, rfl, I.hok.fresh (Nat.le_refl _), rfl, hcx⟩, ⟨⟨.str ⟨#[c]⟩ u, ?_⟩, ?_, hne⟩, fun b hb => ?_⟩
    · have e1 : ((i + 1 : Nat) : Int) = (i : Int) + 1 := by omega
      rw [e1]; exact he'
    · obtain ⟨o, q, r⟩ := hit'
      exact ⟨o, (sb.2 it (Ne.symm hne)).trans q, r⟩
    · have hb' : b < s.heap.objs.size := by
        have e' : b = e ∨ b = it := by simpa using hb
        rcases e' with z | z
        · rw [z]; exact hel
        · rw [z]; exact hil
      rw [upd_ne (Nat.ne_of_lt hb')]
      exact (hf b hb).1
  done := by
    intro X hP hw hK hc i pins s σ H E I hf st hg
    subst hP hw hK
    obtain ⟨⟨old, he⟩, hit, hne⟩ := st
    obtain ⟨f0, f1, f2, f3, f4, f5⟩ := hf it (by simp)
    have hg' : i = x.cps.size := hg
    subst hg'
    have D := Draws.text (prog := X.prog) (w := X.w) (A := X.A.in1) (I.ok.hd hc) it x t
    exact wpAny_pyNext_enum_endD D he hit fun h' eb => ⟨rfl, I.turned (t' := s.toks) (fun b o hb q => eb b o hb q) f0 f1 f3 f4 f5⟩
  self := fun A i s Q E st h => let ⟨⟨_, he⟩, _⟩ := st; wpAny_pyIter_enum he h
def iEnumS (ta : TA) : TI := fun σ H R => ta σ H fun vs H1 => ∃ x : Str, vs = [.str x] ∧ R (ItEs x) H1
theorem pi_enumS {X : Cx} {e : Expr} {ta : TA} {p pos tpos : Pos} {elts : List Expr} {kk : Nat} (hg : Gl X "enumerate") (hm : X.mg "enumerate" = none) (ha : PA X [e] ta) (hs : starEach [e] X.env = [(false, eval e X.env)] := by rfl) :
    PI X (.Tuple elts kk tpos) (.Call (.Name "enumerate" p) [e] [] pos) (iEnumS ta) := by
  refine ⟨fun pins s σ H R I h => ?_⟩
  refine Call_ (ld_blt I hg hm boot_enumerate (PyProof.Rows.callWith_type1 (thn (ha.run pos pins s σ H _ I h) fun us s1 ⟨vs, H1, I1, r1, q1⟩ => ?_) hs rfl))
  obtain ⟨x, ex, q⟩ := q1
  subst ex
  cases r1 with
  | cons r rr =>
    cases rr
    obtain ⟨t, rfl⟩ := r
    refine call_enumerate_str fun h' he hit hsz hk => wpAny_pyIter_enum he ?_
    have I2 : Inv X pins σ H1 { s1 with heap := h' } := I1.kept (t' := s1.toks) hk
    refine ⟨s1.heap.objs.size + 1, [s1.heap.objs.size + 1, s1.heap.objs.size], _, _, H1, rfl, I2, turn_enumS x t (s1.heap.objs.size + 1) s1.heap.objs.size, ⟨⟨.none, he⟩, hit, Nat.succ_ne_self _⟩, fun b hb => ?_, q⟩
    have e' : b = s1.heap.objs.size + 1 ∨ b = s1.heap.objs.size := by simpa using hb
    have hle : s1.heap.objs.size ≤ b := by
      rcases e' with z | z
      · rw [z]; exact Nat.le_add_right _ _
      · rw [z]; exact Nat.le_refl _
    exact I1.fpOk hle (I1.hok.fresh hle)
theorem for_enumS {l : List Nat} {g : TG} {tb : TS} {D : Ends} {σ : L2.St} {H : Hp} (Pv : Nat → L2.St → Hp → Prop) (h0 : Pv 0 σ H)
    (hs : ∀ i c T σ H, l[i]? = some c → Pv i σ H → H T = none → g (.ref T) σ (upd H T (.tup [.int (i : Nat), .str (S [c])])) fun σ2 H2 => tb { D with nx := Pv (i + 1), ct := Pv (i + 1), bk := D.nx } σ2 H2) (hd : ∀ σ H, Pv l.length σ H → D.nx σ H) :
    ∃ W : Nat → Nat → L2.St → Hp → Prop, (∃ m, W 0 m σ H) ∧ ∀ i m σ H, W i m σ H →
      ((ItEs (S l)).stop i H ∧ D.nx σ H) ∨ ((ItEs (S l)).go i H ∧ ∃ N : L2.St → Hp → Prop, (∀ σ' H', N σ' H' → ∃ m', m' < m ∧ W (i + 1) m' σ' H') ∧ ∀ x H', (ItEs (S l)).yld i H x H' → g x σ H' fun σ2 H2 => tb { D with nx := N, ct := N, bk := D.nx } σ2 H2) := by
  refine ⟨fun i m σ H => m = l.length - i ∧ i ≤ l.length ∧ Pv i σ H, ⟨l.length, by simp, Nat.zero_le _, h0⟩, ?_⟩
  rintro i m σ H ⟨rfl, hi, p⟩
  by_cases hlt : i < l.length
  · refine .inr ⟨by show i < l.toArray.size; simpa using hlt, Pv (i + 1), fun σ' H' p' => ⟨l.length - (i + 1), by omega, rfl, hlt, p'⟩, fun x H' y => ?_⟩
    obtain ⟨T, c, rfl, hT, rfl, hc⟩ := y
    exact hs i c T _ _ (by simpa using hc) p hT
  · have e : i = l.length := by omega
    subst e
    exact .inl ⟨by show l.length = l.toArray.size; simp, hd σ H p⟩
end Z
namespace Z
open PySem L2 SX
/-! ### where a beginning stands in a glob -/
abbrev nts (l : List Nat) : List V := l.map fun k : Nat => V.int (k : Int)
def st0 (g : List Nat) : Nat → Prop
  | 0 => True
  | i + 1 => g[i]? = some 42 ∧ st0 g i
def nxt (g : List Nat) (M : Nat → Prop) (c : Nat) : Nat → Prop
  | 0 => False
  | i + 1 => (g[i]? = some 42 ∧ (nxt g M c i ∨ M (i + 1))) ∨ (g[i]? ≠ some 42 ∧ M i ∧ (g[i]? = some 63 ∨ g[i]? = some c))
def stand (g b : List Nat) : Nat → Prop := b.foldl (fun M c => nxt g M c) (st0 g)
/-- closed along stars -/
def closed (g : List Nat) (M : Nat → Prop) : Prop := ∀ y, M y → g[y]? = some 42 → M (y + 1)
def within (g : List Nat) (M : Nat → Prop) : Prop := ∀ y, M y → y ≤ g.length
theorem st0_closed (g : List Nat) : closed g (st0 g) := fun _ h e => ⟨e, h⟩
theorem st0_within (g : List Nat) : within g (st0 g) := fun y h => by
  cases y with
  | zero => omega
  | succ i => have := (List.getElem?_eq_some_iff.mp h.1).1; omega
theorem nxt_closed (g : List Nat) (M : Nat → Prop) (c : Nat) : closed g (nxt g M c) := fun _ h e => .inl ⟨e, .inl h⟩
theorem nxt_within (g : List Nat) (M : Nat → Prop) (c : Nat) : within g (nxt g M c) := fun y h => by
  cases y with
  | zero => omega
  | succ i =>
    rcases h with ⟨h, _⟩ | ⟨_, _, h | h⟩ <;> (have := (List.getElem?_eq_some_iff.mp h).1; omega)
theorem stand_nil (g : List Nat) : stand g [] = st0 g := rfl
theorem stand_snoc (g b : List Nat) (c : Nat) : stand g (b ++ [c]) = nxt g (stand g b) c := by unfold stand; rw [List.foldl_append]; rfl
theorem stand_ok (g b : List Nat) : closed g (stand g b) ∧ within g (stand g b) := by
  unfold stand
  rw [← List.reverse_reverse b, List.foldl_reverse]
  cases b.reverse with
  | nil => exact ⟨st0_closed g, st0_within g⟩
  | cons c r => exact ⟨nxt_closed g _ c, nxt_within g _ c⟩
/-- the places, ascending -/
def Asd (ps : List Nat) (M : Nat → Prop) : Prop := ps.Pairwise (· < ·) ∧ ∀ y, y ∈ ps ↔ M y
theorem asd_one : ∀ {a b : List Nat}, a.Pairwise (· < ·) → b.Pairwise (· < ·) → (∀ y, y ∈ a ↔ y ∈ b) → a = b
  | [], [], _, _, _ => rfl
  | [], y :: b, _, _, h => by have := (h y).mpr (by simp); cases this
  | x :: a, [], _, _, h => by have := (h x).mp (by simp); cases this
  | x :: a, y :: b, pa, pb, h => by
    have ha := List.pairwise_cons.mp pa
    have hb := List.pairwise_cons.mp pb
    have e : x = y := by
      have h1 := (h x).mp (by simp)
      have h2 := (h y).mpr (by simp)
      rcases List.mem_cons.mp h1 with e | e
      · exact e
      · rcases List.mem_cons.mp h2 with f | f
        · exact f.symm
        · have := hb.1 x e; have := ha.1 y f; omega
    subst e
    rw [asd_one ha.2 hb.2 fun z => ?_]
    constructor
    · intro hz
      rcases List.mem_cons.mp ((h z).mp (List.mem_cons_of_mem _ hz)) with e | e
      · subst e; have := ha.1 z hz; omega
      · exact e
    · intro hz
      rcases List.mem_cons.mp ((h z).mpr (List.mem_cons_of_mem _ hz)) with e | e
      · subst e; have := hb.1 z hz; omega
      · exact e
theorem Asd.one {a b : List Nat} {M : Nat → Prop} (x : Asd a M) (y : Asd b M) : a = b := asd_one x.1 y.1 fun z => (x.2 z).trans (y.2 z).symm
theorem Asd.congr {a : List Nat} {M N : Nat → Prop} (x : Asd a M) (h : ∀ y, M y ↔ N y) : Asd a N := ⟨x.1, fun y => (x.2 y).trans (h y)⟩
theorem Asd.len {a : List Nat} {M : Nat → Prop} {g : List Nat} (x : Asd a M) (w : within g M) : a.length ≤ g.length + 1 := by
  have : ∀ (n : Nat) (l : List Nat), l.Pairwise (· < ·) → (∀ y ∈ l, y < n) → l.length ≤ n := by
    intro n
    induction n with
    | zero => intro l _ h; cases l with
      | nil => simp
      | cons y r => have := h y (by simp); omega
    | succ n ih =>
      intro l p h
      rcases List.eq_nil_or_concat l with e | ⟨r, z, e⟩
      · subst e; simp
      · subst e
        rw [List.concat_eq_append] at p h ⊢
        have h2 := ih r (List.pairwise_append.mp p).1 (fun y hy => by
          have := (List.pairwise_append.mp p).2.2 y hy z (by simp)
          have := h z (by simp)
          omega)
        rw [List.length_append]; simp; exact h2
  exact this (g.length + 1) a x.1 fun y hy => by have := w y ((x.2 y).mp hy); omega
/-- a row of stars behind x -/
def isRun (g : List Nat) (x k : Nat) : Prop := (∀ j, j < k → g[x + j]? = some 42) ∧ g[x + k]? ≠ some 42
/-- places that are built up: L so far, m the greatest one that was put in, A what was put in -/
structure Up (g L : List Nat) (m : Nat) (A : Nat → Prop) : Prop where
  asc : L.Pairwise (· < ·)
  cl : ∀ y ∈ L, g[y]? = some 42 → y + 1 ∈ L
  gap : ∀ y z, m ≤ y → y ≤ z → z ∈ L → y ∈ L
  has : ∀ y, A y → y ∈ L
  only : ∀ (N : Nat → Prop), closed g N → (∀ y, A y → N y) → ∀ y ∈ L, N y
theorem Up.nil (g : List Nat) : Up g [] 0 (fun _ => False) := ⟨.nil, (fun _ h => by cases h), (fun _ _ _ _ h => by cases h), (fun _ h => h.elim), (fun _ _ _ _ h => by cases h)⟩
theorem Up.stay {g L : List Nat} {m x z : Nat} {A : Nat → Prop} (u : Up g L m A) (hm : m ≤ x) (hz : z ∈ L) (hx : x ≤ z) : Up g L x (fun y => A y ∨ y = x) :=
  ⟨u.asc, u.cl, fun y z a b c => u.gap y z (by omega) b c, fun y h => h.elim (u.has y) fun e => by subst e; exact u.gap _ _ hm hx hz, fun N c h => u.only N c fun y a => h y (.inl a)⟩
theorem run_mem {x k y : Nat} : y ∈ List.range' x (k + 1) ↔ x ≤ y ∧ y ≤ x + k := by rw [List.mem_range'_1]; omega
theorem Up.more {g L : List Nat} {m x k : Nat} {A : Nat → Prop} (u : Up g L m A) (hl : ∀ y ∈ L, y < x) (hr : isRun g x k) : Up g (L ++ List.range' x (k + 1)) x (fun y => A y ∨ y = x) := by
  refine ⟨?_, ?_, ?_, ?_, ?_⟩
  · exact List.pairwise_append.mpr ⟨u.asc, List.pairwise_lt_range', fun a ha b hb => by have := hl a ha; have := (run_mem.mp hb).1; omega⟩
  · intro y hy e
    rcases List.mem_append.mp hy with h | h
    · exact List.mem_append_left _ (u.cl y h e)
    · refine List.mem_append_right _ (run_mem.mpr ?_)
      have := run_mem.mp h
      by_cases q : y = x + k
      · subst q; exact absurd e hr.2
      · omega
  · intro y z hy hyz hz
    rcases List.mem_append.mp hz with h | h
    · have := hl z h; omega
    · have := run_mem.mp h
      exact List.mem_append_right _ (run_mem.mpr ⟨by omega, by omega⟩)
  · intro y h
    rcases h with h | e
    · exact List.mem_append_left _ (u.has y h)
    · subst e; exact List.mem_append_right _ (run_mem.mpr ⟨Nat.le_refl _, by omega⟩)
  · intro N c h y hy
    rcases List.mem_append.mp hy with q | q
    · exact u.only N c (fun z a => h z (.inl a)) y q
    · obtain ⟨q1, q2⟩ := run_mem.mp q
      have : ∀ j, j ≤ k → N (x + j) := by
        intro j
        induction j with
        | zero => intro _; exact h x (.inr rfl)
        | succ j ih => intro hj; exact c _ (ih (by omega)) (hr.1 j (by omega))
      have := this (y - x) (by omega)
      rwa [show x + (y - x) = y by omega] at this
theorem Up.congr {g L : List Nat} {m : Nat} {A B : Nat → Prop} (u : Up g L m A) (h : ∀ y, A y ↔ B y) : Up g L m B :=
  ⟨u.asc, u.cl, u.gap, fun y b => u.has y ((h y).mpr b), fun N c q => u.only N c fun y a => q y ((h y).mp a)⟩
/-- what is put in by the places of M that are taken -/
def puts (g : List Nat) (c : Nat) (T : Nat → Prop) (y : Nat) : Prop := (T y ∧ ∃ i, y = i + 1 ∧ g[i]? = some 42) ∨ ∃ i, y = i + 1 ∧ T i ∧ (g[i]? = some 63 ∨ g[i]? = some c)
theorem puts_next {g : List Nat} {M : Nat → Prop} {c : Nat} (hc : c ≠ 42) (cl : closed g M) {L : List Nat} {m : Nat} (u : Up g L m (puts g c M)) : Asd L (nxt g M c) := by
  refine ⟨u.asc, fun y => ⟨fun hy => u.only _ (nxt_closed g M c) (fun y p => ?_) y hy, ?_⟩⟩
  · rcases p with ⟨t, i, rfl, e⟩ | ⟨i, rfl, t, e⟩
    · exact .inl ⟨e, .inr t⟩
    · refine .inr ⟨fun q => ?_, t, e⟩
      rcases e with e | e <;> rw [e] at q
      · cases q
      · exact hc (Option.some.inj q)
  · intro h
    induction y with
    | zero => exact h.elim
    | succ i ih =>
      rcases h with ⟨e, h | h⟩ | ⟨_, t, e⟩
      · exact u.cl i (ih h) e
      · exact u.has _ (.inl ⟨h, i, rfl, e⟩)
      · exact u.has _ (.inr ⟨i, rfl, t, e⟩)
theorem start_asd {g L : List Nat} {m : Nat} (u : Up g L m (fun y => y = 0)) : Asd L (st0 g) := by
  refine ⟨u.asc, fun y => ⟨fun hy => u.only _ (st0_closed g) (fun y e => by subst e; exact True.intro) y hy, ?_⟩⟩
  intro h
  induction y with
  | zero => exact u.has 0 rfl
  | succ i ih => exact u.cl i (ih h.2) h.1
/-! ### promises -/
def sp_add_place : Sp := fun vs H Q _ => ∃ (g : Str) (p : Addr) (x : Nat) (L : List Nat) (m : Nat) (A : Nat → Prop), vs = [.str g, .ref p, .int (x : Int)] ∧ H p = some (.lst (nts L)) ∧ Up (tl g) L m A ∧ m ≤ x ∧ x ≤ (tl g).length ∧ (∀ y ∈ L, y ≤ (tl g).length) ∧ (tl g).length ≤ 10000 ∧
  ∀ (L' : List Nat) (H' : Hp), H' p = some (.lst (nts L')) → (∀ b, b ≠ p → H' b = H b) → Up (tl g) L' x (fun y => A y ∨ y = x) → (∀ y ∈ L', y ≤ (tl g).length) → Q .non H'
def sp_follows (K : PySem.W.Frag) : Sp := fun vs H Q _ => ∃ (g : Str) (a : Addr) (c : Nat) (ps : List Nat) (M : Nat → Prop), vs = [.str g, .ref a, .str (S [c])] ∧ SqT K H a (nts ps) ∧ Asd ps M ∧ closed (tl g) M ∧ within (tl g) M ∧ c ≠ 42 ∧ (tl g).length ≤ 10000 ∧
  ∀ (q : Addr) (qs : List Nat) (H' : Hp), Same H H' → H' q = some (.tup (nts qs)) → Asd qs (nxt (tl g) M c) → Q (.ref q) H'
def sp_standing (K : PySem.W.Frag) : Sp := fun vs H Q _ => ∃ (g b : Str), vs = [.str g, .str b] ∧ (∀ c ∈ tl b, c ≠ 42) ∧ (tl g).length ≤ 10000 ∧
  ∀ (q : Addr) (qs : List Nat) (H' : Hp), Same H H' → H' q = some (.tup (nts qs)) → Asd qs (stand (tl g) (tl b)) → Q (.ref q) H'
open Classical in
def sp_fits (K : PySem.W.Frag) : Sp := fun vs H Q _ => ∃ (g b : Str), vs = [.str g, .str b] ∧ (∀ c ∈ tl b, c ≠ 42) ∧ (tl g).length ≤ 10000 ∧
  ∀ (H' : Hp), Same H H' → Q (.bl (decide (stand (tl g) (tl b) (tl g).length))) H'
theorem inV_nts (n : Nat) (l : List Nat) : inV (V.int (n : Int)) (nts l) = decide (n ∈ l) := by
  unfold inV nts
  induction l with
  | nil => rfl
  | cons y ys ih =>
    rw [List.map_cons, List.any_cons, ih]
    by_cases e : n = y
    · subst e; simp [eqV]
    · have : ¬ (y : Int) = (n : Int) := fun h => e (by omega)
      simp [eqV, e, this]
theorem flat_nts (xs : List Nat) : (nts xs).all flatV = true := List.all_eq_true.mpr fun x h => by
  obtain ⟨y, _, rfl⟩ := List.mem_map.mp h; rfl
theorem DVs.nats {K : PySem.W.Frag} {H : Hp} (xs : List Nat) : DVs K H (xs.map fun k : Nat => D.int (k : Int)) (nts xs) := by
  have := DVs.ints (K := K) (H := H) (xs.map fun k : Nat => (k : Int))
  rwa [List.map_map, List.map_map] at this
theorem DV.nats {K : PySem.W.Frag} {H : Hp} {p : Addr} {xs : List Nat} (h : SqT K H p (nts xs)) : DV K H (.tup (xs.map fun k : Nat => D.int (k : Int))) (.ref p) := by
  unfold DV
  exact ⟨p, _, rfl, h, DVs.nats xs⟩
theorem DL.nats {n : Nat} (xs : List Nat) (h : xs.length ≤ 1000000) : DL (n + 2) (.tup (xs.map fun k : Nat => D.int (k : Int))) := ⟨by rw [List.length_map]; exact h, fun d m => by obtain ⟨x, _, rfl⟩ := List.mem_map.mp m; exact True.intro⟩
end Z
namespace Z
open PySem L2 SX
/-! ### patterns -/
def parts (p : List Nat) : List (List Nat) := TL.spl [44] 0 [] p
theorem spl_bound (c0 : Nat) : ∀ (l acc : List Nat), (∀ q ∈ TL.spl [c0] 0 acc l, q.length ≤ acc.length + l.length) ∧ (TL.spl [c0] 0 acc l).length ≤ l.length + 1
  | [], acc => by
    rw [TL.spl_nil]
    exact ⟨fun q h => by rw [List.mem_singleton.mp h]; exact Nat.le_refl _, Nat.le_refl _⟩
  | c :: r, acc => by
    cases h : TL.pre [c0] (c :: r) with
    | true =>
      rw [TL.spl_hit h]
      have ih := spl_bound c0 r []
      refine ⟨fun q hq => ?_, ?_⟩
      · rcases List.mem_cons.mp hq with e | e
        · subst e; omega
        · have := ih.1 q e; rw [List.length_nil] at this; rw [List.length_cons]; omega
      · have := ih.2; show (TL.spl [c0] 0 [] r).length + 1 ≤ r.length + 1 + 1; omega
    | false =>
      rw [TL.spl_miss h]
      have ih := spl_bound c0 r (acc ++ [c])
      refine ⟨fun q hq => ?_, ?_⟩
      · have := ih.1 q hq; rw [List.length_append] at this; rw [List.length_cons]; simp at this; omega
      · rw [List.length_cons]; have := ih.2; omega
theorem parts_len {p q : List Nat} (h : q ∈ parts p) : q.length ≤ p.length := by have := (spl_bound 44 p []).1 q h; rw [List.length_nil] at this; omega
theorem parts_num (p : List Nat) : (parts p).length ≤ p.length + 1 := (spl_bound 44 p []).2
/-- an item: its sign, its glob -/
def isBar (it : List Nat) : Bool := decide (it.take 1 = [33])
def globOf (it : List Nat) : List Nat := if isBar it = true then it.drop 1 else it
theorem globOf_len (it : List Nat) : (globOf it).length ≤ it.length := by
  unfold globOf; split
  · rw [List.length_drop]; omega
  · exact Nat.le_refl _
def fit (g b : List Nat) : Prop := stand g b g.length
open Classical in
noncomputable def letsL (its : List (List Nat)) (b : List Nat) : Bool := its.foldl (fun ans it => if fit (globOf it) b then !isBar it else ans) false
open Classical in
theorem lets_skip (b : List Nat) : ∀ (its : List (List Nat)) (v : Bool), (∀ it ∈ its, ¬ fit (globOf it) b) → its.foldl (fun ans it => if fit (globOf it) b then !isBar it else ans) v = v
  | [], _, _ => rfl
  | x :: r, v, h => by rw [List.foldl_cons, if_neg (h x (by simp))]; exact lets_skip b r v fun y hy => h y (List.mem_cons_of_mem _ hy)
theorem lets_last {its : List (List Nat)} {b : List Nat} {i : Nat} {it : List Nat} (h : its[i]? = some it) (hf : fit (globOf it) b) (hn : ∀ (j : Nat) (y : List Nat), i < j → its[j]? = some y → ¬ fit (globOf y) b) : letsL its b = !isBar it := by
  classical
  unfold letsL
  have e : its = its.take i ++ it :: its.drop (i + 1) := by
    obtain ⟨h1, h2⟩ := List.getElem?_eq_some_iff.mp h
    rw [← h2, List.getElem_cons_drop, List.take_append_drop]
  rw [e, List.foldl_append, List.foldl_cons, if_pos hf]
  refine lets_skip b _ _ fun y hy => ?_
  obtain ⟨j, hj, e2⟩ := List.getElem_of_mem hy
  refine hn (i + 1 + j) y (by omega) ?_
  have := List.getElem?_eq_getElem hj
  rw [List.getElem?_drop, e2] at this
  exact this
theorem lets_none {its : List (List Nat)} {b : List Nat} (hn : ∀ (j : Nat) (y : List Nat), its[j]? = some y → ¬ fit (globOf y) b) : letsL its b = false := by
  classical
  unfold letsL
  refine lets_skip b _ _ fun y hy => ?_
  obtain ⟨j, hj, e⟩ := List.getElem_of_mem hy
  exact hn j y (by rw [List.getElem?_eq_getElem hj, e])
def Clean (b : List Nat) : Prop := ∀ c ∈ b, c ≠ 42
theorem bar_starts (x : Str) : Txt.startswith x (Str.ofString "!") = isBar (tl x) := by
  have e := StrLaws.subAt_one x 33 0
  have e0 : ((tl x)[0]? = some 33) ↔ (tl x).take 1 = [33] := by
    cases tl x with
    | nil => simp
    | cons y r => simp
  unfold Txt.startswith isBar
  rw [Bool.eq_iff_iff, Bool.and_eq_true, decide_eq_true_iff, decide_eq_true_iff, ← e0]
  exact e
theorem bar_cut (x : Str) : decide (V.str (cutS x none (some 1)) = V.str (Str.ofString "!")) = isBar (tl x) := by
  unfold isBar
  rw [Bool.eq_iff_iff, decide_eq_true_iff, decide_eq_true_iff]
  have e : tl (cutS x none (some 1)) = (tl x).take 1 := cutS_to (by decide)
  constructor
  · intro h
    have h2 := congrArg tl (V.str.inj h)
    rw [e] at h2; exact h2
  · intro h
    exact congrArg V.str (tl_ext (by rw [e, h]; rfl))
/-- the law's places: those that lie ahead of a star, too -/
def Lax (g : List Nat) (N M : Nat → Prop) : Prop := ∀ y, M y ↔ (N y ∨ (g[y]? = some 42 ∧ N (y + 1)))
theorem lax_start (g : List Nat) : Lax g (st0 g) (st0 g) := fun y => ⟨.inl, fun h => h.elim id fun k => k.2.2⟩
/-- what the law puts in, ahead of its last loop -/
def lawA (g : List Nat) (M : Nat → Prop) (c : Nat) (y : Nat) : Prop := (M y ∧ g[y]? = some 42) ∨ ∃ i, y = i + 1 ∧ M i ∧ (g[i]? = some 63 ∨ g[i]? = some c)
def lawB (g : List Nat) (A : Nat → Prop) : Nat → Prop
  | 0 => A 0
  | i + 1 => A (i + 1) ∨ (lawB g A i ∧ g[i]? = some 42)
theorem lax_next {g : List Nat} {N M : Nat → Prop} {c : Nat} (hc : c ≠ 42) (cl : closed g N) (l : Lax g N M) : Lax g (nxt g N c) (lawB g (lawA g M c)) := by
  have ns : ∀ i : Nat, (g[i]? = some 63 ∨ g[i]? = some c) → g[i]? ≠ some 42 := fun i h e => by
    rcases h with h | h <;> rw [h] at e
    · cases e
    · exact hc (Option.some.inj e)
  have bA : ∀ y, lawA g M c y → lawB g (lawA g M c) y := fun y h => by
    cases y with
    | zero => exact h
    | succ i => exact .inl h
  have fA : ∀ y, lawA g M c y → nxt g N c y ∨ (g[y]? = some 42 ∧ nxt g N c (y + 1)) := fun y h => by
    rcases h with ⟨m, e⟩ | ⟨i, rfl, m, k⟩
    · refine .inr ⟨e, .inl ⟨e, .inr ?_⟩⟩
      rcases (l y).mp m with n | ⟨_, n⟩
      · exact cl y n e
      · exact n
    · refine .inl (.inr ⟨ns i k, ?_, k⟩)
      rcases (l i).mp m with n | ⟨q, _⟩
      · exact n
      · exact absurd q (ns i k)
  have back : ∀ y, nxt g N c y → lawB g (lawA g M c) y := fun y => by
    induction y with
    | zero => intro h; exact h.elim
    | succ i ih =>
      rintro (⟨e, h | h⟩ | ⟨_, n, k⟩)
      · exact .inr ⟨ih h, e⟩
      · exact .inr ⟨bA i (.inl ⟨(l i).mpr (.inr ⟨e, h⟩), e⟩), e⟩
      · exact .inl (.inr ⟨i, rfl, (l i).mpr (.inl n), k⟩)
  intro y
  constructor
  · induction y with
    | zero => intro h; exact fA 0 h
    | succ i ih =>
      rintro (h | ⟨h, e⟩)
      · exact fA _ h
      · rcases ih h with n | ⟨_, n⟩
        · exact .inl (.inl ⟨e, .inl n⟩)
        · exact .inl n
  · rintro (h | ⟨e, h⟩)
    · exact back y h
    · rcases h with ⟨_, h | h⟩ | ⟨q, _⟩
      · exact back y h
      · exact bA y (.inl ⟨(l y).mpr (.inr ⟨e, h⟩), e⟩)
      · exact absurd e q
/-! ### promises -/
def itemV (it : List Nat) : List V := [.int (if isBar it = true then 0 else 1), .str (S (globOf it))]
def sp_items_of (K : PySem.W.Frag) : Sp := fun vs H Q _ => ∃ (p : Str), vs = [.str p] ∧ (tl p).length ≤ 3000 ∧
  ∀ (q : Addr) (ts : List Addr) (H' : Hp), Same H H' → H' q = some (.tup (ts.map V.ref)) → ts.length = (parts (tl p)).length → (∀ (i : Nat) (t : Addr) (it : List Nat), ts[i]? = some t → (parts (tl p))[i]? = some it → H' t = some (.tup (itemV it))) → Q (.ref q) H'
def sp_lets (K : PySem.W.Frag) : Sp := fun vs H Q _ => ∃ (p b : Str), vs = [.str p, .str b] ∧ (tl p).length ≤ 3000 ∧ Clean (tl b) ∧ ∀ H', Same H H' → Q (.bl (letsL (parts (tl p)) (tl b))) H'
def sp_lets_one (K : PySem.W.Frag) : Sp := fun vs H Q _ => ∃ (p : Str) (a : Addr) (bs : List Str), vs = [.str p, .ref a] ∧ SqT K H a (bs.map V.str) ∧ (tl p).length ≤ 3000 ∧ bs.length ≤ 1000 ∧ (∀ b ∈ bs, Clean (tl b)) ∧ ∀ H', Same H H' → Q (.bl (bs.any fun b => letsL (parts (tl p)) (tl b))) H'
open Classical in
def sp__law_fits (K : PySem.W.Frag) : Sp := fun vs H Q _ => ∃ (g b : Str), vs = [.str g, .str b] ∧ Clean (tl b) ∧ (tl g).length ≤ 10000 ∧ ∀ (H' : Hp), Same H H' → Q (.bl (decide (fit (tl g) (tl b)))) H'
def sp__law_lets (K : PySem.W.Frag) : Sp := sp_lets K
def sp__law_lets_some (K : PySem.W.Frag) : Sp := sp_lets_one K
theorem split_bar (p : Str) : Txt.split p (Str.ofString ",") = (parts (tl p)).map S := split_S (a := tl p) (b := [44]) (by decide) (by decide)

/-! ### lists of truth values -/
def Bs (bs : List Bool) (n : Nat) (M : Nat → Prop) : Prop := bs.length = n + 1 ∧ ∀ y, bs[y]? = some true ↔ M y
theorem Bs.set {bs : List Bool} {n k : Nat} {M : Nat → Prop} (h : Bs bs n M) (hk : k ≤ n) : Bs (bs.set k true) n (fun y => M y ∨ y = k) := by
  refine ⟨by rw [List.length_set]; exact h.1, fun y => ?_⟩
  rw [List.getElem?_set]
  by_cases e : k = y
  · subst e
    rw [if_pos rfl, if_pos (by have := h.1; omega)]
    exact ⟨fun _ => .inr rfl, fun _ => rfl⟩
  · rw [if_neg e]
    exact ⟨fun q => .inl ((h.2 y).mp q), fun q => q.elim (h.2 y).mpr fun z => absurd z.symm e⟩
theorem Bs.congr {bs : List Bool} {n : Nat} {M N : Nat → Prop} (h : Bs bs n M) (e : ∀ y, M y ↔ N y) : Bs bs n N := ⟨h.1, fun y => (h.2 y).trans (e y)⟩
theorem Bs.get {bs : List Bool} {n k : Nat} {M : Nat → Prop} (h : Bs bs n M) (hk : k ≤ n) : ∃ b : Bool, bs[k]? = some b ∧ (b = true ↔ M k) := by
  have hl : k < bs.length := by have := h.1; omega
  refine ⟨bs[k], List.getElem?_eq_getElem hl, ?_⟩
  rw [← h.2 k, List.getElem?_eq_getElem hl]
  exact ⟨fun e => by rw [e], fun e => Option.some.inj e⟩
theorem atI_bl {bs : List Bool} {k : Nat} {b : Bool} {z : Int} (hz : z = (k : Int)) (h : bs[k]? = some b) : atI (bs.map V.bl) z = some (.bl b) := at_of hz (by rw [List.getElem?_map, h]; rfl)
theorem ixN_pos {n k : Nat} {z : Int} (hz : z = (k : Int)) (h : k < n) : ixN n z = some k := by
  subst hz
  unfold ixN
  rw [if_pos (by omega), if_pos (by omega)]; rfl
theorem map_set_bl (bs : List Bool) (k : Nat) : (bs.map V.bl).set k (.bl true) = (bs.set k true).map V.bl := by rw [List.map_set]
theorem bs_false (n : Nat) : Bs (List.replicate (n + 1) false) n (fun _ => False) := by
  refine ⟨List.length_replicate, fun y => ⟨fun h => ?_, fun h => h.elim⟩⟩
  rw [List.getElem?_replicate] at h
  split at h <;> cases h
theorem flatten_one (n : Nat) : (List.replicate n [V.bl false]).flatten = (List.replicate n false).map V.bl := by
  induction n with
  | zero => rfl
  | succ n ih => rw [List.replicate_succ, List.flatten_cons, ih, List.replicate_succ, List.map_cons]; rfl
end Z
namespace Z
open PySem L2 SX
def sp13 (f n : Nat) : Sp := fun vs H Q _ => ∃ (s a : Addr) (c : Nat), vs = [.ref s] ∧ Src H s a (c + f) ∧ ∀ (x : Str) (H' : Hp), (tl x).length ≤ n → Ext s H H' → Src H' s a c → Q (.str x) H'
def sp13_bent : Sp := fun vs H Q _ => ∃ (s a : Addr) (x : Str) (c : Nat), vs = [.ref s, .str x] ∧ (tl x).length ≤ 1000 ∧ Src H s a (c + 10) ∧ ∀ (y : Str) (H' : Hp), (tl y).length ≤ (tl x).length + 3 → Ext s H H' → Src H' s a c → Q (.str y) H'
theorem ext_free {H H1 : Hp} {s a u : Addr} {c : Nat} (x : Ext s H H1) (S : Src H1 s a c) (h : H1 u = none) : H u = none := by
  cases e : H u with
  | none => rfl
  | some o =>
    by_cases q : u = s
    · subst q
      obtain ⟨xs, e2⟩ := S.lst
      rw [h] at e2; cases e2
    · have := x _ _ q e
      rw [h] at this; cases this
theorem joinL_len {s : List Nat} {n : Nat} : ∀ {ls : List (List Nat)}, (∀ l ∈ ls, l.length ≤ n) → (TL.joinL s ls).length ≤ ls.length * (n + s.length)
  | [], _ => by simp [TL.joinL]
  | [x], h => by have := h x (by simp); show x.length ≤ 1 * (n + s.length); omega
  | x :: y :: r, h => by
    have ih := joinL_len (s := s) (ls := y :: r) (fun l m => h l (List.mem_cons_of_mem _ m))
    have := h x (by simp)
    show (x ++ (s ++ TL.joinL s (y :: r))).length ≤ ((y :: r).length + 1) * (n + s.length)
    rw [List.length_append, List.length_append, Nat.succ_mul]
    omega
theorem tl_joinS (s : Str) (xs : List Str) : tl (Txt.join s xs) = TL.joinL (tl s) (xs.map tl) := by
  have h := join_S (tl s) (xs.map tl)
  rw [tl_mapS] at h
  exact congrArg tl h
theorem sum_len {n : Nat} : ∀ {xs : List Str}, (∀ x ∈ xs, (tl x).length ≤ n) → (xs.map (·.length)).sum ≤ xs.length * n
  | [], _ => by simp
  | x :: xs, h => by
    have := h x (by simp)
    have ih := sum_len (n := n) (xs := xs) (fun y m => h y (List.mem_cons_of_mem _ m))
    rw [List.map_cons, List.sum_cons, List.length_cons, Nat.succ_mul, tl_len]; omega
theorem cut_le (x : Str) (i j : Option Int) : (tl (cutS x i j)).length ≤ (tl x).length := by
  show ((List.drop _ (tl x)).take _).length ≤ _
  rw [List.length_take, List.length_drop]; omega
theorem len_mem {n : Nat} {xs : List Str} {w : V} (h : ∀ x ∈ xs, (tl x).length ≤ n) (m : w ∈ xs.map V.str) : ∃ x, w = V.str x ∧ (tl x).length ≤ n := by
  obtain ⟨x, hx, rfl⟩ := List.mem_map.mp m
  exact ⟨x, rfl, h x hx⟩
end Z
namespace Z
open PySem L2 SX
/-! ### patterns: scanning and splitting -/
def okc (c : Nat) : Bool := decide (c ∈ tl (Str.ofString "abcdefghijklmnopqrstuvwxyz0123456789.*?"))
theorem okc_44 : okc 44 = false := by decide +kernel
theorem okc_33 : okc 33 = false := by decide +kernel
def step (a c : Nat) : Bool := (decide (c = 33) && decide (a = 44)) || (decide (c = 44) && (decide (a ≠ 44) && decide (a ≠ 33))) || okc c
/-- all signs may follow each other, behind a -/
def runs : Nat → List Nat → Bool
  | _, [] => true
  | a, c :: r => step a c && runs c r
def lastOf : Nat → List Nat → Nat
  | a, [] => a
  | _, c :: r => lastOf c r
def globP (it : List Nat) : List Nat := if decide (it.take 1 = [33]) = true then it.drop 1 else it
def goodItem (it : List Nat) : Bool := decide (globP it ≠ []) && (globP it).all okc
/-- an item so far: what stands behind its ! is of glob signs -/
def part1 (acc : List Nat) : Bool := (globP acc).all okc
theorem runs_app (a : Nat) (l m : List Nat) : runs a (l ++ m) = (runs a l && runs (lastOf a l) m) := by
  induction l generalizing a with
  | nil => simp [runs, lastOf]
  | cons c r ih => show (step a c && runs c (r ++ m)) = ((step a c && runs c r) && runs (lastOf c r) m); rw [ih, Bool.and_assoc]
theorem last_app (a c : Nat) (l : List Nat) : lastOf a (l ++ [c]) = c := by
  induction l generalizing a with
  | nil => rfl
  | cons d r ih => exact ih d
theorem globP_app {acc : List Nat} {c : Nat} (h : acc ≠ []) : globP (acc ++ [c]) = globP acc ++ [c] := by
  cases acc with
  | nil => exact absurd rfl h
  | cons d r =>
    unfold globP
    show (if decide ([d] = [33]) = true then r ++ [c] else d :: (r ++ [c])) = (if decide ([d] = [33]) = true then r else d :: r) ++ [c]
    split <;> rfl
/-- the last sign ahead, as the scan sees it: the accumulated item behind a comma -/
theorem good_last {acc : List Nat} (h : part1 acc = true) : goodItem acc = (decide (lastOf 44 acc ≠ 44) && decide (lastOf 44 acc ≠ 33)) := by
  rcases List.eq_nil_or_concat acc with e | ⟨l, c, e⟩
  · subst e; decide
  · rw [List.concat_eq_append] at e
    subst e
    rw [last_app]
    unfold goodItem
    rw [show (globP (l ++ [c])).all okc = true from h, Bool.and_true]
    by_cases hl : l = []
    · subst hl
      by_cases e33 : c = 33
      · subst e33; decide
      · have g : globP ([] ++ [c]) = [c] := by
          unfold globP
          rw [if_neg (by simp [e33])]; rfl
        have oc : okc c = true := by
          have h' : (globP ([] ++ [c])).all okc = true := h
          rw [g] at h'
          simpa using h'
        have e44 : c ≠ 44 := fun e => by rw [e, okc_44] at oc; cases oc
        rw [g, decide_eq_true (show [c] ≠ [] by simp), decide_eq_true e44, decide_eq_true e33]; rfl
    · have g := globP_app (c := c) hl
      have h' : (globP (l ++ [c])).all okc = true := h
      rw [g, List.all_append] at h'
      have oc : okc c = true := by
        have := (Bool.and_eq_true_iff.mp h').2
        simpa using this
      have e44 : c ≠ 44 := fun e => by rw [e, okc_44] at oc; cases oc
      have e33 : c ≠ 33 := fun e => by rw [e, okc_33] at oc; cases oc
      rw [g, decide_eq_true (show globP l ++ [c] ≠ [] by simp), decide_eq_true e44, decide_eq_true e33]; rfl
theorem part_step {acc : List Nat} {c : Nat} (h : part1 acc = true) (hc : c ≠ 44) : part1 (acc ++ [c]) = step (lastOf 44 acc) c := by
  unfold step
  rw [decide_eq_false hc, Bool.false_and, Bool.or_false]
  by_cases hl : acc = []
  · subst hl
    by_cases e33 : c = 33
    · subst e33; decide
    · have g : globP ([] ++ [c]) = [c] := by
        unfold globP
        rw [if_neg (by simp [e33])]; rfl
      unfold part1
      rw [g, decide_eq_false e33, Bool.false_and, Bool.false_or]
      simp
  · unfold part1
    rw [globP_app hl, List.all_append, show (globP acc).all okc = true from h]
    have l44 : lastOf 44 acc ≠ 44 := by
      rcases List.eq_nil_or_concat acc with e | ⟨l, d, e⟩
      · exact absurd e hl
      · rw [List.concat_eq_append] at e
        subst e
        rw [last_app]
        intro e
        subst e
        by_cases hl2 : l = []
        · subst hl2
          revert h; decide +kernel
        · have h' : (globP (l ++ [44])).all okc = true := h
          rw [globP_app hl2, List.all_append] at h'
          have := (Bool.and_eq_true_iff.mp h').2
          simp [okc_44] at this
    rw [decide_eq_false l44, Bool.and_false, Bool.false_or]
    simp
theorem bad_part (l : List Nat) : ∀ acc : List Nat, part1 acc = false → (TL.spl [44] 0 acc l).all goodItem = false := by
  induction l with
  | nil =>
    intro acc h
    rw [TL.spl_nil]
    show (goodItem acc && true) = false
    unfold goodItem
    rw [show (globP acc).all okc = false from h, Bool.and_false]; rfl
  | cons c r ih =>
    intro acc h
    by_cases hc : c = 44
    · subst hc
      rw [TL.spl_hit (show TL.pre [44] (44 :: r) = true by show ([44] == [44]) = true; rfl)]
      show (goodItem acc && _) = false
      unfold goodItem
      rw [show (globP acc).all okc = false from h, Bool.and_false, Bool.false_and]
    · rw [TL.spl_miss (show TL.pre [44] (c :: r) = false by show ([c] == [44]) = false; simp [hc])]
      refine ih _ ?_
      have hl : acc ≠ [] := fun e => by rw [e] at h; revert h; decide
      unfold part1
      rw [globP_app hl, List.all_append, show (globP acc).all okc = false from h, Bool.false_and]
theorem spl_good (l : List Nat) : ∀ acc : List Nat, part1 acc = true → (TL.spl [44] 0 acc l).all goodItem = (runs (lastOf 44 acc) l && (decide (lastOf (lastOf 44 acc) l ≠ 44) && decide (lastOf (lastOf 44 acc) l ≠ 33))) := by
  induction l with
  | nil =>
    intro acc h
    rw [TL.spl_nil]
    show (goodItem acc && true) = _
    rw [Bool.and_true, good_last h]; rfl
  | cons c r ih =>
    intro acc h
    by_cases hc : c = 44
    · subst hc
      rw [TL.spl_hit (show TL.pre [44] (44 :: r) = true by show ([44] == [44]) = true; rfl)]
      show (goodItem acc && (TL.spl [44] 0 [] r).all goodItem) = ((step (lastOf 44 acc) 44 && runs 44 r) && _)
      rw [ih [] (by decide), good_last h]
      have : step (lastOf 44 acc) 44 = (decide (lastOf 44 acc ≠ 44) && decide (lastOf 44 acc ≠ 33)) := by
        unfold step
        rw [okc_44]; simp
      rw [this]
      show (_ && (runs 44 r && (decide (lastOf 44 r ≠ 44) && decide (lastOf 44 r ≠ 33)))) = _
      rw [show lastOf (lastOf 44 acc) (44 :: r) = lastOf 44 r from rfl]
      simp only [Bool.and_assoc]
    · rw [TL.spl_miss (show TL.pre [44] (c :: r) = false by show ([c] == [44]) = false; simp [hc])]
      by_cases hs : step (lastOf 44 acc) c = true
      · rw [ih (acc ++ [c]) (by rw [part_step h hc]; exact hs), last_app]
        show _ = ((step (lastOf 44 acc) c && runs c r) && _)
        rw [hs, Bool.true_and]; rfl
      · have hs' : step (lastOf 44 acc) c = false := Bool.eq_false_iff.mpr hs
        show _ = ((step (lastOf 44 acc) c && runs c r) && _)
        rw [hs', Bool.false_and, Bool.false_and]
        have np : part1 (acc ++ [c]) = false := by rw [part_step h hc]; exact hs'
        exact bad_part r _ np
theorem spl_count (l : List Nat) : ∀ acc : List Nat, (TL.spl [44] 0 acc l).length = l.count 44 + 1 := by
  induction l with
  | nil => intro acc; rw [TL.spl_nil]; rfl
  | cons c r ih =>
    intro acc
    by_cases hc : c = 44
    · subst hc
      rw [TL.spl_hit (show TL.pre [44] (44 :: r) = true by show ([44] == [44]) = true; rfl), List.count_cons_self]
      show (TL.spl [44] 0 [] r).length + 1 = _
      rw [ih]
    · rw [TL.spl_miss (show TL.pre [44] (c :: r) = false by show ([c] == [44]) = false; simp [hc]), ih, List.count_cons_of_ne hc]
/-- a pattern, as the law splits it -/
def isPat (l : List Nat) : Bool := decide (l.length ≤ 60) && (decide ((TL.spl [44] 0 [] l).length ≤ 8) && (TL.spl [44] 0 [] l).all goodItem)
def endOk (a : Nat) : Bool := decide (a ≠ 44) && decide (a ≠ 33)
theorem isPat_eq (l : List Nat) : isPat l = (decide (l.length ≤ 60) && (decide (l.count 44 ≤ 7) && (runs 44 l && endOk (lastOf 44 l)))) := by
  unfold isPat endOk
  rw [spl_good l [] (by decide), spl_count]
  rw [show decide (l.count 44 + 1 ≤ 8) = decide (l.count 44 ≤ 7) by rw [decide_eq_decide]; omega]
  rfl
/-- the beginning of some pattern, as the law asks it -/
def isBeg (l : List Nat) : Bool := isPat l || isPat (l ++ [97])
theorem isBeg_eq (l : List Nat) : isBeg l = (runs 44 l && (decide (l.count 44 ≤ 7) && (decide (l.length ≤ 59) || (decide (l.length ≤ 60) && endOk (lastOf 44 l))))) := by
  unfold isBeg
  rw [isPat_eq, isPat_eq, runs_app, last_app, List.length_append, List.count_append]
  rw [show runs (lastOf 44 l) [97] = true by show (step _ 97 && true) = true; unfold step; rw [show okc 97 = true by decide +kernel]; simp, show endOk 97 = true by decide]
  rw [show List.count 44 [97] = 0 by decide, Nat.add_zero, Bool.and_true, Bool.and_true]
  rw [show decide (l.length + [97].length ≤ 60) = decide (l.length ≤ 59) by rw [decide_eq_decide]; show l.length + 1 ≤ 60 ↔ _; omega]
  cases runs 44 l <;> cases decide (l.count 44 ≤ 7) <;> cases decide (l.length ≤ 59) <;> cases decide (l.length ≤ 60) <;> cases endOk (lastOf 44 l) <;> rfl
/-- a sign behind a, behind k commas, at the place n -/
def may (c a k n : Nat) : Bool := if c = 33 then decide (a = 44) && decide (n < 59) else if c = 44 then (decide (a ≠ 44) && decide (a ≠ 33)) && (decide (k < 7) && decide (n < 59)) else okc c && decide (n < 60)
theorem isBeg_snoc (l : List Nat) (c : Nat) : isBeg (l ++ [c]) = (isBeg l && may c (lastOf 44 l) (l.count 44) l.length) := by
  rw [isBeg_eq, isBeg_eq, runs_app, last_app, List.length_append, List.count_append]
  show ((runs 44 l && (step (lastOf 44 l) c && true)) && (decide (l.count 44 + List.count 44 [c] ≤ 7) && (decide (l.length + 1 ≤ 59) || (decide (l.length + 1 ≤ 60) && endOk c)))) = _
  unfold may step
  by_cases h33 : c = 33
  · subst h33
    rw [if_pos rfl, show List.count 44 [33] = 0 by decide, okc_33, show endOk 33 = false by decide, decide_eq_true (rfl : (33 : Nat) = 33), decide_eq_false (show ¬ (33 : Nat) = 44 by decide)]
    by_cases hn : l.length < 59
    · rw [decide_eq_true (show l.length + 1 ≤ 59 by omega), decide_eq_true (show l.length ≤ 59 by omega), decide_eq_true hn]
      cases runs 44 l <;> cases decide (lastOf 44 l = 44) <;> cases decide (l.count 44 ≤ 7) <;> simp
    · rw [decide_eq_false (show ¬ l.length + 1 ≤ 59 by omega), decide_eq_false hn]
      simp
  · rw [if_neg h33]
    by_cases h44 : c = 44
    · subst h44
      rw [if_pos rfl, show List.count 44 [44] = 1 by decide, okc_44, show endOk 44 = false by decide, decide_eq_true (rfl : (44 : Nat) = 44), decide_eq_false h33]
      rw [show decide (l.count 44 + 1 ≤ 7) = decide (l.count 44 < 7) by rw [decide_eq_decide]; omega]
      by_cases hn : l.length < 59
      · rw [decide_eq_true (show l.length + 1 ≤ 59 by omega), decide_eq_true (show l.length ≤ 59 by omega), decide_eq_true hn]
        by_cases hk : l.count 44 < 7
        · rw [decide_eq_true hk, decide_eq_true (show l.count 44 ≤ 7 by omega)]; simp
        · rw [decide_eq_false hk]; simp
      · rw [decide_eq_false (show ¬ l.length + 1 ≤ 59 by omega), decide_eq_false hn]
        simp
    · rw [if_neg h44, show List.count 44 [c] = 0 by rw [List.count_cons_of_ne h44]; rfl, decide_eq_false h33, decide_eq_false h44, Nat.add_zero]
      have : endOk c = true := by unfold endOk; rw [decide_eq_true h44, decide_eq_true h33]; rfl
      rw [this]
      by_cases hn : l.length < 60
      · rw [decide_eq_true (show l.length + 1 ≤ 60 by omega), decide_eq_true (show l.length ≤ 59 by omega), decide_eq_true hn]
        cases runs 44 l <;> cases okc c <;> cases decide (l.count 44 ≤ 7) <;> simp
      · rw [decide_eq_false (show ¬ l.length + 1 ≤ 59 by omega), decide_eq_false (show ¬ l.length + 1 ≤ 60 by omega), decide_eq_false hn]
        simp
theorem isPat_of_beg {l : List Nat} (h : isBeg l = true) : isPat l = endOk (lastOf 44 l) := by
  rw [isPat_eq]
  rw [isBeg_eq] at h
  simp only [Bool.and_eq_true, Bool.or_eq_true] at h
  obtain ⟨h1, h2, h3⟩ := h
  rw [h1, h2]
  have : l.length ≤ 60 := by rcases h3 with h | h
                             · have := of_decide_eq_true h; omega
                             · exact of_decide_eq_true h.1
  rw [decide_eq_true this]; rfl
theorem eqL {x y : Str} : V.str x = V.str y ↔ tl x = tl y := ⟨fun h => by injection h with h; rw [h], fun h => by rw [tl_ext h]⟩
theorem split_comma (x : Str) : Txt.split x (Str.ofString ",") = (TL.spl [44] 0 [] (tl x)).map S := split_S (a := tl x) (b := [44]) (by decide) (by decide)
def sp_isPat : Sp := fun vs H Q _ => ∃ (x : Str), vs = [.str x] ∧ (tl x).length ≤ 2000 ∧ ∀ H', Same H H' → Q (.bl (isPat (tl x))) H'
def sp_may_stand : Sp := fun vs H Q _ => ∃ (c a k n : Nat), vs = [.str (S [c]), .str (S [a]), .int (k : Int), .int (n : Int)] ∧ Q (.bl (may c a k n)) H
/-- where a text is wrong -/
def wrongAt (l : List Nat) (o : Option Nat) : Prop := match o with
  | some k => (∀ j, j < k → j < l.length → isBeg (l.take (j + 1)) = true) ∧ ((k < l.length ∧ isBeg (l.take (k + 1)) = false) ∨ (k = l.length ∧ isPat l = false))
  | none => (∀ j, j < l.length → isBeg (l.take (j + 1)) = true) ∧ isPat l = true
theorem wrongAt_one {l : List Nat} {o p : Option Nat} (x : wrongAt l o) (y : wrongAt l p) : o = p := by
  have key : ∀ (k m : Nat), wrongAt l (some k) → wrongAt l (some m) → ¬ k < m := fun k m x y h => by
    obtain ⟨_, x2⟩ := x
    obtain ⟨y1, y2⟩ := y
    have ml : m ≤ l.length := by rcases y2 with h | h <;> omega
    rcases x2 with x2 | x2
    · have := y1 k h x2.1
      rw [x2.2] at this; cases this
    · omega
  have mix : ∀ k : Nat, wrongAt l (some k) → wrongAt l none → False := fun k x y => by
    obtain ⟨_, x2⟩ := x
    obtain ⟨y1, y2⟩ := y
    rcases x2 with x2 | x2
    · have := y1 k x2.1
      rw [x2.2] at this; cases this
    · rw [x2.2] at y2; cases y2
  cases o with
  | none => cases p with
    | none => rfl
    | some m => exact (mix m y x).elim
  | some k => cases p with
    | none => exact (mix k x y).elim
    | some m =>
      have h1 := key k m x y
      have h2 := key m k y x
      rw [show k = m by omega]
def optV : Option Nat → V
  | none => .non
  | some k => .int (k : Int)
def sp_wrong_place : Sp := fun vs H Q _ => ∃ (x : Str), vs = [.str x] ∧ (tl x).length ≤ 2000 ∧ ∀ o H', wrongAt (tl x) o → Same H H' → Q (optV o) H'
def sgnI (it : List Nat) : Int := if decide (it.take 1 = [33]) = true then 0 else 1
def itemP (it : List Nat) : List V := [.int (sgnI it), .str (S (globP it))]
def itemD (it : List Nat) : D := .tup [.int (sgnI it), .str (S (globP it))]
def sp_sign_and_glob : Sp := fun vs H Q _ => ∃ (x : Str), vs = [.str x] ∧ (tl x).length ≤ 2000 ∧ ∀ (t : Addr), H t = none → Q (.ref t) (upd H t (.tup (itemP (tl x))))
def dueD (l : List Nat) : Option Nat → D
  | some k => .tup [.str (Str.ofString "bad"), .int (k : Int)]
  | none => .tup [.str (Str.ofString "read"), .tup ((TL.spl [44] 0 [] l).map itemD)]
def sp_due (K : PySem.W.Frag) : Sp := fun vs H Q _ => ∃ (x : Str), vs = [.str x] ∧ (tl x).length ≤ 1000 ∧ ∀ o v H', wrongAt (tl x) o → DV K H' (dueD (tl x) o) v → Same H H' → Q v H'
theorem DVs.items {K : PySem.W.Frag} {H : Hp} : ∀ {its : List (List Nat)} {ts : List Addr}, ts.length = its.length → (∀ (k : Nat) (t : Addr) (it : List Nat), ts[k]? = some t → its[k]? = some it → H t = some (.tup (itemP it))) → DVs K H (its.map itemD) (ts.map V.ref)
  | [], [], _, _ => by unfold DVs; rfl
  | [], _ :: _, h, _ => by simp at h
  | _ :: _, [], h, _ => by simp at h
  | it :: its, t :: ts, h, f => by
    refine ⟨.ref t, ts.map V.ref, rfl, ?_, DVs.items (by simpa using h) fun k t' it' h1 h2 => f (k + 1) t' it' (by simpa using h1) (by simpa using h2)⟩
    exact ⟨t, _, rfl, SqT.of (f 0 t it rfl rfl), _, _, rfl, by unfold DV; rfl, _, _, rfl, by unfold DV; rfl, rfl⟩
def sp_write_pattern (K : PySem.W.Frag) : Sp := fun vs H Q _ => ∃ (a : Addr) (ts : List Addr) (its : List (List Nat)), vs = [.ref a] ∧ SqT K H a (ts.map V.ref) ∧ ts.length = its.length ∧ its.length ≤ 100 ∧ (∀ it ∈ its, it.length ≤ 1000) ∧ (∀ (k : Nat) (t : Addr) (it : List Nat), ts[k]? = some t → its[k]? = some it → SqT K H t (itemP it)) ∧
  ∀ (y : Str) (H' : Hp), tl y = TL.joinL [44] its → Same H H' → Q (.str y) H'
theorem join_spl (l : List Nat) : ∀ acc : List Nat, TL.joinL [44] (TL.spl [44] 0 acc l) = acc ++ l := by
  induction l with
  | nil => intro acc; rw [TL.spl_nil, List.append_nil]; rfl
  | cons c r ih =>
    intro acc
    by_cases hc : c = 44
    · subst hc
      rw [TL.spl_hit (show TL.pre [44] (44 :: r) = true by show ([44] == [44]) = true; rfl)]
      have e := ih []
      have ne : TL.spl [44] 0 [] r ≠ [] := fun h => by
        have := spl_count r []
        rw [h] at this; cases this
      show TL.joinL [44] (acc :: TL.spl [44] 0 [] r) = _
      cases hs : TL.spl [44] 0 [] r with
      | nil => exact absurd hs ne
      | cons y ys =>
        show acc ++ ([44] ++ TL.joinL [44] (y :: ys)) = _
        rw [← hs, e]; rfl
    · rw [TL.spl_miss (show TL.pre [44] (c :: r) = false by show ([c] == [44]) = false; simp [hc]), ih, List.append_assoc]; rfl
theorem DVs.items_inv {K : PySem.W.Frag} {H : Hp} : ∀ {its : List (List Nat)} {vs : List V}, DVs K H (its.map itemD) vs → ∃ ts : List Addr, vs = ts.map V.ref ∧ ts.length = its.length ∧ ∀ (k : Nat) (t : Addr) (it : List Nat), ts[k]? = some t → its[k]? = some it → SqT K H t (itemP it)
  | [], vs, h => by unfold DVs at h; subst h; exact ⟨[], rfl, rfl, fun k t it h1 h2 => by simp at h1⟩
  | it :: its, vs, h => by
    obtain ⟨v, r, rfl, h1, h2⟩ := h
    obtain ⟨ts, rfl, hl, hk⟩ := DVs.items_inv h2
    unfold itemD DV at h1
    obtain ⟨a, xs, rfl, hS, h3⟩ := h1
    obtain ⟨v1, r1, rfl, e1, h4⟩ := h3
    obtain ⟨v2, r2, rfl, e2, h5⟩ := h4
    unfold DV at e1 e2
    unfold DVs at h5
    subst e1 e2 h5
    refine ⟨a :: ts, rfl, by rw [List.length_cons, hl, List.length_cons], fun k t it' g1 g2 => ?_⟩
    cases k with
    | zero =>
      have ea : a = t := Option.some.inj g1
      have ei : it = it' := Option.some.inj g2
      subst ea ei
      exact hS
    | succ k => exact hk k t it' (by simpa using g1) (by simpa using g2)
def sp_read_pattern (K : PySem.W.Frag) (C : Addr) : Sp := fun vs H Q E => ∃ (x : Str), vs = [.str x] ∧ (tl x).length ≤ 1000 ∧
  (∀ (u : Addr) (ts : List Addr) (H1 : Hp), wrongAt (tl x) none → Same H H1 → H1 u = some (.tup (ts.map V.ref)) → ts.length = (TL.spl [44] 0 [] (tl x)).length → (∀ (i : Nat) (t : Addr) (it : List Nat), ts[i]? = some t → (TL.spl [44] 0 [] (tl x))[i]? = some it → H1 t = some (.tup (itemP it))) → Q (.ref u) H1) ∧
  (∀ (k : Nat) (dd : Addr) (H1 : Hp), wrongAt (tl x) (some k) → Same H H1 → H1 dd = some (.xd [("at", .int (k : Int))]) → E (.ref C) (some dd) H1)
end Z
namespace Z
open PySem PySem.Spec PyProof.Rows L2 SX
/-! ### name = text[..]; text = text.replace(name, ''): the token of the name is known -/
theorem nsSet_det {M : Model} {Γ : PySem.Ctx} {E : Value → Pos → Shared → Prop} {p : Pos} {s : Shared} {a : Addr} {m : Str → Option Value} (hn : s.heap.Ns a m) (name : Str) (v : Value) :
    ∃ h', h'.Ns a (fun x => if x = name then some v else m x) ∧ ∀ Q, Sem.wp M Γ (nsSet a name v) Q E p s ↔ Q () p { s with heap := h', toks := s.toks + 1 } := by
  have key : ∃ h', ∀ Q, Sem.wp M Γ (nsSet a name v) Q E p s ↔ Q () p { s with heap := h', toks := s.toks + 1 } := by
    obtain ⟨o, es, ep, ho, hd, hk, hm⟩ := hn
    have hany : es.any (·.refKey) = false := by
      rw [Array.any_eq_false']
      intro e he
      obtain ⟨n, t, h⟩ := hk e he
      simp [DictEntry.refKey, h]
    apply Exists.intro
    intro Q
    simp only [nsSet, strHash, Sem.wp_bind', Sem.wp_cmd_ask, Sem.wp_pure', Sem.wp_cmd_mkText]
    rw [Sem.wp_loadPart_of M Γ E p { s with toks := s.toks + 1 } (o := o) _ ho]
    simp only [hd, aRefKeyMayBeTheName_eq, aRefKeyMayBeTheNameByArray, hany, Bool.and_false, Bool.false_eq_true, if_false, Sem.wp_cmd_updatePart]
    exact ⟨fun h => h.2, fun h => ⟨by rw [ho]; rfl, h⟩⟩
  obtain ⟨h', hq⟩ := key
  refine ⟨h', ?_, hq⟩
  have := (hq _).mp (Sem.wp_nsSet M Γ E p s hn name v (fun _ _ s' => ∃ h2 : Heap, h2.Ns a (fun x => if x = name then some v else m x) ∧ s' = { s with heap := h2, toks := s.toks + 1 }) (fun h2 a1 _ => ⟨h2, a1, rfl⟩))
  obtain ⟨h2, a1, e⟩ := this
  have e2 : h' = h2 := congrArg Shared.heap e
  rw [e2]; exact a1
theorem store_det {M : Model} {A : Around} {E : Value → Shared → Prop} {s : Shared} {env : Env} {name : Str} {m : Str → Option Value} {v : Value} {Q : Unit → Shared → Prop} (hl : env.kindOf name = some .local) (hn : s.heap.Ns env.locals m)
    (hp : (env.scope.kind == .class || (env.scope.kind == .module && env.locals != env.globals)) = false) (h : wpAny M A (storeName env name v) Q E s) :
    wpAny M A (storeName env name v) (fun u s' => Q u s' ∧ s'.heap.Ns env.locals (fun x => if x = name then some v else m x) ∧ s'.toks = s.toks + 1) E s := by
  rw [storeName_local hl hp] at h ⊢
  intro Γ p hΓ
  obtain ⟨h', a1, hq⟩ := nsSet_det (M := M) (Γ := Γ) (E := fun e _ s' => E e s') (p := p) hn name v
  have h1 := (hq _).mp (h Γ p hΓ)
  exact (hq _).mpr ⟨h1, a1, rfl⟩
section
variable {X : Cx}
def tRepS (l o : Nat) (tb : TE) (u : TS) : TS := fun D σ H => ∃ z : Str, σ[l]? = some (some (.str z)) ∧ tb σ H fun y H1 => ∃ (i : Int) (c : Nat), y = .int i ∧ 0 ≤ i ∧ i < 2 ^ 63 ∧ i < z.length ∧ z.cps[i.toNat]? = some c ∧ z.length ≤ 1000000 ∧
  u D ((σ.set o (some (.str ⟨#[c]⟩))).set l (some (.str (Txt.replace z ⟨#[c]⟩ (Str.ofString ""))))) H1
theorem psst_rep {l o j : Nat} {nl no : Str} {eb : Expr} {rest : List Stmt} {tb : TE} {u : TS} {p1 p2 p3 p4 p5 p6 p7 p8 c1 ap pos : Pos} (hN : X.N.Nodup) (hl : X.N[l]? = some nl) (ho : X.N[o]? = some no) (hlo : o ≠ l)
    (kl : X.env.scope.names.lookup nl = some .local) (ko : X.env.scope.names.lookup no = some .local) (hb : PE X eb tb) (hs : PlainIxT eb) (h2 : PSsT X rest u)
    (hs1 : swapsWith (.Subscript (.Name nl p2) eb p3) (some (.Name no p1)) p4.line X.env = pure false := by rfl)
    (hs2 : swapsWith (.Call (.Attribute (.Name nl p6) "replace" ap) [.Name no p7, .Constant (.str (Str.ofString "")) j c1] [] pos) (some (.Name nl p5)) p8.line X.env = pure false := by rfl)
    (hst : starEach [.Name no p7, .Constant (.str (Str.ofString "")) j c1] X.env = [(false, eval (.Name no p7) X.env), (false, eval (.Constant (.str (Str.ofString "")) j c1) X.env)] := by rfl)
    (hbase : attributeBase (.Name nl p6) "replace" X.env (eval (.Name nl p6) X.env) = eval (.Name nl p6) X.env := by rfl) (hline : (ap.endLine == pos.line) = true := by rfl)
    (hd : (nl == ("__debug__" : Str)) = false := by decide) (hc : (nl == ("__classdict__" : Str)) = false := by decide) (hd' : (no == ("__debug__" : Str)) = false := by decide) :
    PSsT X (.Assign [.Name no p1] (.Subscript (.Name nl p2) eb p3) p4 :: .Assign [.Name nl p5] (.Call (.Attribute (.Name nl p6) "replace" ap) [.Name no p7, .Constant (.str (Str.ofString "")) j c1] [] pos) p8 :: rest) (tRepS l o tb u) := by
  intro pins s σ H D h0 I h
  obtain ⟨z, hz, h⟩ := h
  refine wpAny_execs_cons (wpAny_Assign_Name (Subscript_ (raw_name hl (.inl kl) I hz (fun uz rz => ?_) hd hc)) hs1)
  obtain ⟨tz, rfl⟩ := rz
  refine wpAny_mono (PySem.wpAny_toks (hb.run pins s σ H _ I h)) (fun ub s2 q => ?_) (fun _ _ x => x.2)
  obtain ⟨hk, y, H1, I2, ry, i, c, rfl, i0, i63, il, hcc, hzl, q⟩ := q
  obtain ⟨ti, rfl⟩ := ry
  have e := PySem.StrLaws.seqIndex_nonneg i0 il
  have n0 : s2.toks ≠ 0 := by omega
  refine tail_any (typeIs_str s2 z tz) slot_str_getitem.lookup (getItem_str (c := c) (by
    have e1 : decide (i < -(2 ^ 63 : Int)) = false := decide_eq_false (by omega)
    have e2 : decide (i ≥ 2 ^ 63) = false := decide_eq_false (by omega)
    rw [e1, e2] <;> rfl) (by rw [e]; exact hcc) ?_) (hs _ _)
  have I2' := I2.tok (s2.toks + 1)
  obtain ⟨m, hn, _⟩ := id I2'.loc
  have hp : (X.env.scope.kind == .class || (X.env.scope.kind == .module && X.env.locals != X.env.globals)) = false := by rw [I2.ok.kind]; rfl
  have st := store_ok (M := model X.prog X.w) (A := X.A) (E := X.xe) (v := V.str ⟨#[c]⟩) (u := Value.str ⟨#[c]⟩ s2.toks) (Q := fun _ s' => Inv X pins (σ.set o (some (V.str ⟨#[c]⟩))) H1 s') I2' hN ho (.inl ko) ⟨_, rfl⟩ (fun s' I' => I') (.inr ko)
  refine wpAny_mono (store_det ko hn hp st) (fun _ s3 q3 => ?_) (fun _ _ x => x)
  obtain ⟨I3, hn3, ht3⟩ := q3
  have ht3' : s3.toks = s2.toks + 1 + 1 := ht3
  have hz3 : (σ.set o (some (V.str ⟨#[c]⟩)))[l]? = some (some (.str z)) := by rw [List.getElem?_set_ne hlo]; exact hz
  have B : wpAny (model X.prog X.w) X.A (exec (.Assign [.Name nl p5] (.Call (.Attribute (.Name nl p6) "replace" ap) [.Name no p7, .Constant (.str (Str.ofString "")) j c1] [] pos) p8) X.env) (fun f s4 => f = .next ∧ Inv X pins ((σ.set o (some (V.str ⟨#[c]⟩))).set l (some (.str (Txt.replace z ⟨#[c]⟩ (Str.ofString ""))))) H1 s4) X.xe s3 := by
    refine wpAny_Assign_Name (PySem.Call_method2 hbase hst hline (raw_name hl (.inl kl) I3 hz3 (fun uz2 rz2 => ?_) hd hc)) hs2
    obtain ⟨tz2, rfl⟩ := rz2
    refine ⟨"str", _, PySem.F.plainAttrs_str, PySem.F.slot_str_replace, PySem.F.type_str_replace, typeIs_str _ _ _, (fun _ e => nomatch e), Calls.callWith_builtin rfl (Calls.evalArgs_plain (Calls.spliced_cons ?_))⟩
    refine wpAny_Name (wpAny_loadName_local I3.ok.kind ko hn3 (if_pos rfl) ?_) hd'
    refine Calls.spliced_cons (Calls.Constant_str (Calls.spliced_nil ?_))
    have n1 : s3.toks ≠ 0 := by omega
    have n2 : s2.toks ≠ s3.toks := by omega
    refine PySem.SC.replace (u := s2.toks) (v := s3.toks) n0 n1 n2 ?_ ?_ fun t' k => ?_
    · rfl
    · show z.length + (z.length + 1) * 0 ≤ _; omega
    exact store_ok (v := V.str (Txt.replace z ⟨#[c]⟩ (Str.ofString ""))) (u := Value.str (Txt.replace z ⟨#[c]⟩ (Str.ofString "")) t') (I3.tok k) hN hl (.inl kl) ⟨_, rfl⟩ (fun s' I' => ⟨rfl, I'⟩) (.inr kl)
  refine wpAny_execs_cons (wpAny_mono (PySem.wpAny_toks B) (fun f s4 q4 => ?_) (fun _ _ x => x.2))
  obtain ⟨hk4, rfl, I4⟩ := q4
  exact h2 pins s4 _ H1 D (by omega) I4 q
end
end Z
namespace Z
open PySem L2 SX
/-! ### items that are joined, and split again -/
theorem spl_no {it : List Nat} : (44 ∉ it) → ∀ acc : List Nat, TL.spl [44] 0 acc it = [acc ++ it] := by
  induction it with
  | nil => intro _ acc; rw [TL.spl_nil, List.append_nil]
  | cons c r ih =>
    intro h acc
    have hc : c ≠ 44 := fun e => h (by rw [e]; exact List.mem_cons_self)
    rw [TL.spl_miss (show TL.pre [44] (c :: r) = false by show ([c] == [44]) = false; simp [hc]), ih (fun m => h (List.mem_cons_of_mem _ m)), List.append_assoc]; rfl
theorem spl_cut {it m : List Nat} : (44 ∉ it) → ∀ acc : List Nat, TL.spl [44] 0 acc (it ++ 44 :: m) = (acc ++ it) :: TL.spl [44] 0 [] m := by
  induction it with
  | nil =>
    intro _ acc
    rw [List.nil_append, TL.spl_hit (show TL.pre [44] (44 :: m) = true by show ([44] == [44]) = true; rfl), List.append_nil]; rfl
  | cons c r ih =>
    intro h acc
    have hc : c ≠ 44 := fun e => h (by rw [e]; exact List.mem_cons_self)
    show TL.spl [44] 0 acc (c :: (r ++ 44 :: m)) = _
    rw [TL.spl_miss (show TL.pre [44] (c :: (r ++ 44 :: m)) = false by show ([c] == [44]) = false; simp [hc]), ih (fun m => h (List.mem_cons_of_mem _ m)), List.append_assoc]; rfl
theorem spl_join : ∀ {its : List (List Nat)}, its ≠ [] → (∀ it ∈ its, 44 ∉ it) → TL.spl [44] 0 [] (TL.joinL [44] its) = its
  | [], h, _ => absurd rfl h
  | [x], _, h => by
    show TL.spl [44] 0 [] x = [x]
    rw [spl_no (h x (by simp))]; rfl
  | x :: y :: r, _, h => by
    show TL.spl [44] 0 [] (x ++ ([44] ++ TL.joinL [44] (y :: r))) = _
    rw [show x ++ ([44] ++ TL.joinL [44] (y :: r)) = x ++ 44 :: TL.joinL [44] (y :: r) from rfl, spl_cut (h x (by simp)), spl_join (by simp) (fun z m => h z (List.mem_cons_of_mem _ m))]; rfl
/-- a text whose items are right -/
def GP (l : List Nat) : Prop := (TL.spl [44] 0 [] l).all goodItem = true
def okG (l : List Nat) : Prop := l ≠ [] ∧ ∀ c ∈ l, okc c = true
theorem good_no {it : List Nat} (h : goodItem it = true) : 44 ∉ it := fun m => by
  unfold goodItem at h
  have h2 := List.all_eq_true.mp (Bool.and_eq_true_iff.mp h).2
  unfold globP at h2
  by_cases e : it.take 1 = [33]
  · rw [if_pos (decide_eq_true e)] at h2
    cases it with
    | nil => cases m
    | cons c r =>
      have : c = 33 := by simpa using e
      subst this
      rcases List.mem_cons.mp m with q | q
      · cases q
      · have := h2 44 q; rw [okc_44] at this; cases this
  · rw [if_neg (fun q => e (of_decide_eq_true q))] at h2
    have := h2 44 m; rw [okc_44] at this; cases this
theorem okG.no33 {g : List Nat} (h : okG g) : ¬ g.take 1 = [33] := fun e => by
  cases g with
  | nil => exact h.1 rfl
  | cons c r =>
    have : c = 33 := by simpa using e
    subst this
    have := h.2 33 (by simp); rw [okc_33] at this; cases this
theorem good_glob {g : List Nat} (h : okG g) : goodItem g = true ∧ goodItem (33 :: g) = true := by
  have ha : g.all okc = true := List.all_eq_true.mpr h.2
  constructor
  · unfold goodItem globP
    rw [if_neg (fun q => h.no33 (of_decide_eq_true q)), ha, decide_eq_true h.1]; rfl
  · have e : globP (33 :: g) = g := by unfold globP; rw [if_pos (decide_eq_true (by simp))]; rfl
    unfold goodItem
    rw [e, ha, decide_eq_true h.1]; rfl
theorem GP.join {its : List (List Nat)} (ne : its ≠ []) (h : ∀ it ∈ its, goodItem it = true) : GP (TL.joinL [44] its) := by
  unfold GP
  rw [spl_join ne fun it m => good_no (h it m)]
  exact List.all_eq_true.mpr h
theorem lastOf_app (m : List Nat) : ∀ (l : List Nat) (a : Nat), lastOf a (l ++ m) = lastOf (lastOf a l) m
  | [], _ => rfl
  | c :: r, _ => lastOf_app m r c
theorem runs_ok {m : List Nat} : ∀ a : Nat, (∀ c ∈ m, okc c = true) → runs a m = true := by
  induction m with
  | nil => intro a _; rfl
  | cons c r ih =>
    intro a h
    show (step a c && runs c r) = true
    rw [ih c (fun d hd => h d (List.mem_cons_of_mem _ hd))]
    unfold step
    rw [h c (by simp)]; simp
theorem last_ok {m : List Nat} : ∀ a : Nat, (∀ c ∈ m, okc c = true) → m ≠ [] → endOk (lastOf a m) = true := by
  induction m with
  | nil => intro a _ h; exact absurd rfl h
  | cons c r ih =>
    intro a h _
    show endOk (lastOf c r) = true
    by_cases e : r = []
    · subst e
      show endOk c = true
      have hc := h c (by simp)
      unfold endOk
      rw [decide_eq_true (show c ≠ 44 from fun e => by rw [e, okc_44] at hc; cases hc), decide_eq_true (show c ≠ 33 from fun e => by rw [e, okc_33] at hc; cases hc)]; rfl
    · exact ih c (fun d hd => h d (List.mem_cons_of_mem _ hd)) e
theorem GP_iff {l : List Nat} : GP l ↔ (runs 44 l && endOk (lastOf 44 l)) = true := by
  unfold GP
  rw [spl_good l [] (by decide)]; rfl
theorem GP.app {l m : List Nat} (h : GP l) (hm : ∀ c ∈ m, okc c = true) : GP (l ++ m) := by
  by_cases e : m = []
  · subst e; rw [List.append_nil]; exact h
  rw [GP_iff] at h ⊢
  obtain ⟨h1, h2⟩ := Bool.and_eq_true_iff.mp h
  rw [runs_app, lastOf_app, h1, runs_ok _ hm, last_ok _ hm e]; rfl
/-- the other sign -/
def turnI (it : List Nat) : List Nat := if isBar it = true then it.drop 1 else 33 :: it
def oppI (l : List Nat) : List (List Nat) := [42] :: (parts l).map turnI
def oppL (l : List Nat) : List Nat := TL.joinL [44] (oppI l)
theorem globOf_nb {x : List Nat} (h : isBar x = false) : globOf x = x := by unfold globOf; rw [if_neg (by rw [h]; exact Bool.false_ne_true)]
theorem turn_good {it : List Nat} (h : goodItem it = true) : goodItem (turnI it) = true ∧ globOf (turnI it) = globOf it ∧ isBar (turnI it) = !isBar it := by
  have hg : okG (globOf it) := by
    unfold goodItem at h
    obtain ⟨h1, h2⟩ := Bool.and_eq_true_iff.mp h
    exact ⟨of_decide_eq_true h1, List.all_eq_true.mp h2⟩
  unfold turnI
  by_cases e : isBar it = true
  · have eg : globOf it = it.drop 1 := by unfold globOf; rw [if_pos e]
    rw [if_pos e, ← eg]
    have nb : isBar (globOf it) = false := by unfold isBar; exact decide_eq_false hg.no33
    exact ⟨(good_glob hg).1, globOf_nb nb, by rw [nb, e]; rfl⟩
  · have e' : isBar it = false := by simpa using e
    have eg : globOf it = it := by unfold globOf; rw [if_neg e]
    rw [if_neg e]
    have hb : isBar (33 :: it) = true := by unfold isBar; exact decide_eq_true (by simp)
    rw [eg] at hg
    refine ⟨(good_glob hg).2, ?_, by rw [hb, e']; rfl⟩
    rw [eg]; unfold globOf; rw [if_pos hb]; rfl
theorem GP.good {l it : List Nat} (h : GP l) (m : it ∈ parts l) : goodItem it = true := List.all_eq_true.mp h it m
theorem opp_good {l : List Nat} (h : GP l) : ∀ it ∈ oppI l, goodItem it = true := fun it m => by
  rcases List.mem_cons.mp m with e | m
  · subst e; decide +kernel
  · obtain ⟨x, hx, rfl⟩ := List.mem_map.mp m
    exact (turn_good (h.good hx)).1
theorem opp_parts {l : List Nat} (h : GP l) : parts (oppL l) = oppI l := spl_join (by unfold oppI; simp) fun it m => good_no (opp_good h it m)
theorem isPat_opp {l : List Nat} (h : GP l) : isPat (oppL l) = (decide ((oppL l).length ≤ 60) && decide ((parts l).length ≤ 7)) := by
  unfold isPat
  have e : TL.spl [44] 0 [] (oppL l) = oppI l := opp_parts h
  rw [e, List.all_eq_true.mpr (opp_good h), Bool.and_true]
  rw [show decide ((oppI l).length ≤ 8) = decide ((parts l).length ≤ 7) by
    rw [decide_eq_decide]; unfold oppI; rw [List.length_cons, List.length_map]; omega]
theorem fit_star (b : List Nat) : fit [42] b := by
  have key : ∀ (b : List Nat) (M : Nat → Prop), M 1 → (b.foldl (fun M c => nxt [42] M c) M) 1 := by
    intro b
    induction b with
    | nil => intro M h; exact h
    | cons c r ih => intro M h; exact ih _ (.inl ⟨rfl, .inr h⟩)
  exact key b _ ⟨rfl, True.intro⟩
open Classical in
theorem lets_opp {l b : List Nat} (h : GP l) : letsL (oppI l) b = !letsL (parts l) b := by
  have key : ∀ (its : List (List Nat)) (v : Bool), (∀ it ∈ its, goodItem it = true) →
      (its.map turnI).foldl (fun ans it => if fit (globOf it) b then !isBar it else ans) (!v) = !(its.foldl (fun ans it => if fit (globOf it) b then !isBar it else ans) v) := by
    intro its
    induction its with
    | nil => intro v _; rfl
    | cons x r ih =>
      intro v hg
      obtain ⟨_, t2, t3⟩ := turn_good (hg x (by simp))
      rw [List.map_cons, List.foldl_cons, List.foldl_cons, t2, t3, ← ih _ (fun y hy => hg y (List.mem_cons_of_mem _ hy))]
      congr 1
      by_cases hf : fit (globOf x) b
      · rw [if_pos hf, if_pos hf]
      · rw [if_neg hf, if_neg hf]
  have := key (parts l) false fun it m => h.good m
  unfold letsL
  unfold oppI
  rw [List.foldl_cons]
  have g42 : globOf [42] = [42] := by decide +kernel
  rw [g42, if_pos (fit_star b), show (!isBar [42]) = !false by decide +kernel]
  exact this
theorem isBeg_take {l : List Nat} (h : isBeg l = true) (k : Nat) : isBeg (l.take k) = true := by
  have key : ∀ (m : Nat), m ≤ l.length → isBeg (l.take (l.length - m)) = true := by
    intro m
    induction m with
    | zero => intro _; rw [Nat.sub_zero, List.take_length]; exact h
    | succ m ih =>
      intro hm
      have h1 := ih (by omega)
      have e : l.length - m = l.length - (m + 1) + 1 := by omega
      have hi : l.length - (m + 1) < l.length := by omega
      rw [e, List.take_add_one, List.getElem?_eq_getElem hi] at h1
      have h2 : isBeg (l.take (l.length - (m + 1)) ++ [l[l.length - (m + 1)]]) = true := h1
      rw [isBeg_snoc] at h2
      exact (Bool.and_eq_true_iff.mp h2).1
  by_cases hk : k ≤ l.length
  · have := key (l.length - k) (by omega)
    rw [show l.length - (l.length - k) = k by omega] at this; exact this
  · rw [List.take_of_length_le (by omega)]; exact h
theorem pat_wrong {l : List Nat} {o : Option Nat} (w : wrongAt l o) : decide (optV o = V.non) = isPat l := by
  cases o with
  | none => rw [w.2]; rfl
  | some k =>
    cases e : isPat l with
    | false => exact decide_eq_false (fun h => by cases h)
    | true =>
      have hb : isBeg l = true := by unfold isBeg; rw [e]; rfl
      have := wrongAt_one w (p := none) ⟨fun j _ => isBeg_take hb _, e⟩
      cases this
def sp_is_pattern : Sp := fun vs H Q _ => ∃ (x : Str), vs = [.str x] ∧ (tl x).length ≤ 2000 ∧ ∀ H', Same H H' → Q (.bl (isPat (tl x))) H'
def oppD (l : List Nat) : D := if isPat (oppL l) = true then .tup [.str (Str.ofString "told"), .str (S (oppL l))] else .tup [.str (Str.ofString "large"), .str (Str.ofString "pattern")]
def sp_opp (K : PySem.W.Frag) : Sp := fun vs H Q _ => ∃ (x : Str), vs = [.str x] ∧ (tl x).length ≤ 200 ∧ GP (tl x) ∧ ∀ v H', DV K H' (oppD (tl x)) v → Same H H' → Q v H'
def sp_opposite (K : PySem.W.Frag) (C : Addr) : Sp := fun vs H Q E => ∃ (x : Str), vs = [.str x] ∧ (tl x).length ≤ 200 ∧ GP (tl x) ∧ (isPat (oppL (tl x)) = true → ∀ H', Same H H' → Q (.str (S (oppL (tl x)))) H') ∧
  (isPat (oppL (tl x)) = false → ∀ (dd : Addr) (H1 : Hp), Same H H1 → H1 dd = some (.xd [("part", .str (Str.ofString "pattern"))]) → E (.ref C) (some dd) H1)
def sp_write_patternL (K : PySem.W.Frag) : Sp := fun vs H Q _ => ∃ (a : Addr) (ts : List Addr) (its : List (List Nat)), vs = [.ref a] ∧ SqL K H a (ts.map V.ref) ∧ ts.length = its.length ∧ its.length ≤ 1000 ∧ (∀ it ∈ its, it.length ≤ 1000) ∧ (∀ (k : Nat) (t : Addr) (it : List Nat), ts[k]? = some t → its[k]? = some it → SqT K H t (itemP it)) ∧
  ∀ (y : Str) (H' : Hp), tl y = TL.joinL [44] its → Same H H' → Q (.str y) H'
def sp_sight (K : PySem.W.Frag) : Sp := fun vs H Q _ => ∃ (a b : Addr) (ps bs : List Str), vs = [.ref a, .ref b] ∧ SqT K H a (ps.map V.str) ∧ SqT K H b (bs.map V.str) ∧ (∀ p ∈ ps, (tl p).length ≤ 3000) ∧ ps.length ≤ 1000 ∧ bs.length ≤ 1000 ∧ (∀ b ∈ bs, Clean (tl b)) ∧
  ∀ (t : Addr) (H' : Hp), Same H H' → SqT K H' t ((ps.map fun p => if (bs.any fun b => letsL (parts (tl p)) (tl b)) = true then (1 : Int) else 0).map V.int) → Q (.ref t) H'
def sp_lets_someL (K : PySem.W.Frag) : Sp := fun vs H Q _ => ∃ (p : Str) (a : Addr) (bs : List Str), vs = [.str p, .ref a] ∧ SqL K H a (bs.map V.str) ∧ (tl p).length ≤ 3000 ∧ bs.length ≤ 1000 ∧ (∀ b ∈ bs, Clean (tl b)) ∧ ∀ H', Same H H' → Q (.bl (bs.any fun b => letsL (parts (tl p)) (tl b))) H'
def sp_pattern_right (K : PySem.W.Frag) : Sp := fun vs H Q _ => ∃ (p : Str) (a : Addr) (bs : List Str), vs = [.str p, .ref a] ∧ SqL K H a (bs.map V.str) ∧ (tl p).length ≤ 200 ∧ GP (tl p) ∧ bs.length ≤ 1000 ∧ (∀ b ∈ bs, Clean (tl b)) ∧ ∀ H', Same H H' → Q (.bl true) H'
/-! ### signs, boards, globs, patterns, as they are drawn -/
abbrev sgs (cs : List Nat) : List V := cs.map fun c => V.str (S [c])
def No42 (l : List Nat) : Prop := ∀ c ∈ l, c ≠ 42
theorem No42.app {a b : List Nat} (x : No42 a) (y : No42 b) : No42 (a ++ b) := fun c h => (List.mem_append.mp h).elim (x c) (y c)
def Sgns (cs : List Nat) : Prop := cs.length = 4 ∧ ∀ c ∈ cs, (97 ≤ c ∧ c ≤ 122) ∨ (48 ≤ c ∧ c ≤ 57)
theorem okc_low {c : Nat} (h : (97 ≤ c ∧ c ≤ 122) ∨ (48 ≤ c ∧ c ≤ 57)) : okc c = true := by
  have e : tl (Str.ofString "abcdefghijklmnopqrstuvwxyz0123456789.*?") = List.range' 97 26 ++ List.range' 48 10 ++ [46, 42, 63] := by decide +kernel
  unfold okc
  rw [e]
  refine decide_eq_true (List.mem_append_left _ (List.mem_append.mpr ?_))
  rw [List.mem_range'_1, List.mem_range'_1]
  omega
def Wds (us : List Str) : Prop := us ≠ [] ∧ us.length ≤ 9 ∧ ∀ x ∈ us, Nm (tl x) ∧ (tl x).length ≤ 8
/-- tuples stay -/
def TK (K : PySem.W.Frag) (H H' : Hp) : Prop := ∀ a xs, SqT K H a xs → SqT K H' a xs
theorem TK.same {K : PySem.W.Frag} {H H' : Hp} (h : Same H H') : TK K H H' := fun _ _ q => h.tup q
theorem TK.ext {K : PySem.W.Frag} {H H' : Hp} {s a : Addr} {c : Nat} (h : Ext s H H') (S : Src H s a c) : TK K H H' := fun _ _ q => h.seqT S.lst.choose_spec q
theorem TK.trans {K : PySem.W.Frag} {H H1 H2 : Hp} (x : TK K H H1) (y : TK K H1 H2) : TK K H H2 := fun a xs q => y a xs (x a xs q)
/-- signs of boards -/
def Bdc (l : List Nat) : Prop := ∀ c ∈ l, (97 ≤ c ∧ c ≤ 122) ∨ (48 ≤ c ∧ c ≤ 57) ∨ c = 46
theorem Low.bdc {l : List Nat} (h : Low l) : Bdc l := fun c m => (h c m).elim .inl fun q => .inr (.inl q)
theorem Bdc.clean {l : List Nat} (h : Bdc l) : Clean l := fun c m => by have := h c m; omega
theorem Bdc.okc {l : List Nat} (h : Bdc l) : ∀ c ∈ l, okc c = true := fun c m => by
  rcases h c m with q | q | q
  · exact okc_low (.inl q)
  · exact okc_low (.inr q)
  · subst q; decide +kernel
theorem Low.okc {l : List Nat} (h : Low l) : ∀ c ∈ l, Z.okc c = true := h.bdc.okc
theorem Nm.ne {l : List Nat} (h : Nm l) : l ≠ [] := fun e => by obtain ⟨⟨c, r, e2, _⟩, _⟩ := h; rw [e] at e2; cases e2
theorem joinL_mem {s : List Nat} : ∀ {ls : List (List Nat)} {c : Nat}, c ∈ TL.joinL s ls → c ∈ s ∨ ∃ l ∈ ls, c ∈ l
  | [], c, h => by cases h
  | [x], c, h => .inr ⟨x, by simp, h⟩
  | x :: y :: r, c, h => by
    have h' : c ∈ x ++ (s ++ TL.joinL s (y :: r)) := h
    rcases List.mem_append.mp h' with q | q
    · exact .inr ⟨x, by simp, q⟩
    · rcases List.mem_append.mp q with q | q
      · exact .inl q
      · rcases joinL_mem q with q | ⟨l, m, q⟩
        · exact .inl q
        · exact .inr ⟨l, List.mem_cons_of_mem _ m, q⟩
theorem joinL_ne {s : List Nat} {ls : List (List Nat)} (h : ls ≠ []) (hx : ∀ l ∈ ls, l ≠ []) : TL.joinL s ls ≠ [] := fun e => by
  match ls, h with
  | [x], _ => exact hx x (by simp) e
  | x :: y :: r, _ =>
    have e' : x ++ (s ++ TL.joinL s (y :: r)) = [] := e
    exact hx x (by simp) (List.append_eq_nil_iff.mp e').1
def sp8__law_new_name (K : PySem.W.Frag) : Sp := fun vs H Q _ => ∃ (s a u : Addr) (us : List Str) (c : Nat), vs = [.ref s, .ref u] ∧ SqL K H u (us.map V.str) ∧ u ≠ s ∧ us.length ≤ 9 ∧ Src H s a (c + 8) ∧
  ∀ (x : Str) (H' : Hp), Nm (tl x) → (tl x).length ≤ 8 → Ext s H H' → Src H' s a c → Q (.str x) H'
def sp8__law_names (K : PySem.W.Frag) : Sp := fun vs H Q _ => ∃ (s a : Addr) (m c : Nat), vs = [.ref s, .int m] ∧ m ≤ 9 ∧ Src H s a (c + 8 * m) ∧
  ∀ (u : Addr) (us : List Str) (H' : Hp), H u = none → H' u = some (.lst (us.map V.str)) → us.length = m → (∀ x ∈ us, Nm (tl x) ∧ (tl x).length ≤ 8) → Ext s H H' → Src H' s a c → Q (.ref u) H'
def sp2__law_words (K : PySem.W.Frag) : Sp := fun vs H Q _ => ∃ (s a : Addr) (c : Nat), vs = [.ref s] ∧ Src H s a (c + 100) ∧
  ∀ (u : Addr) (us : List Str) (H' : Hp), H u = none → H' u = some (.lst (us.map V.str)) → Wds us → Ext s H H' → Src H' s a c → Q (.ref u) H'
def sp2__law_board (K : PySem.W.Frag) : Sp := fun vs H Q _ => ∃ (s a u : Addr) (us : List Str) (c : Nat), vs = [.ref s, .ref u] ∧ SqL K H u (us.map V.str) ∧ u ≠ s ∧ Wds us ∧ Src H s a (c + 10) ∧
  ∀ (x : Str) (H' : Hp), Bdc (tl x) → tl x ≠ [] → (tl x).length ≤ 30 → Ext s H H' → Src H' s a c → Q (.str x) H'
def sp2__law_boards (K : PySem.W.Frag) : Sp := fun vs H Q _ => ∃ (s a u : Addr) (us : List Str) (m : Int) (c : Nat), vs = [.ref s, .ref u, .int m] ∧ SqL K H u (us.map V.str) ∧ u ≠ s ∧ Wds us ∧ 0 < m ∧ m ≤ 10 ∧ Src H s a (c + 200) ∧
  ∀ (t : Addr) (bs : List Str) (H' : Hp), H' t = some (.tup (bs.map V.str)) → bs.length ≤ 10 → (∀ x ∈ bs, Bdc (tl x) ∧ (tl x).length ≤ 30) → Ext s H H' → Src H' s a c → Q (.ref t) H'
def sp2__law_glob (K : PySem.W.Frag) : Sp := fun vs H Q _ => ∃ (s a u : Addr) (us : List Str) (c : Nat), vs = [.ref s, .ref u] ∧ SqL K H u (us.map V.str) ∧ u ≠ s ∧ Wds us ∧ Src H s a (c + 20) ∧
  ∀ (x : Str) (H' : Hp), okG (tl x) → (tl x).length ≤ 40 → Ext s H H' → Src H' s a c → Q (.str x) H'
def sp2__law_pattern (K : PySem.W.Frag) : Sp := fun vs H Q _ => ∃ (s a u : Addr) (us : List Str) (c : Nat), vs = [.ref s, .ref u] ∧ SqL K H u (us.map V.str) ∧ u ≠ s ∧ Wds us ∧ Src H s a (c + 200) ∧
  ∀ (x : Str) (H' : Hp), GP (tl x) → (tl x).length ≤ 130 → Ext s H H' → Src H' s a c → Q (.str x) H'
def sp__law_shuffled (K : PySem.W.Frag) : Sp := fun vs H Q _ => ∃ (s a r : Addr) (xs : List V) (c : Nat), vs = [.ref s, .ref r] ∧ SqL K H r xs ∧ r ≠ s ∧ xs.length ≤ 1000 ∧ Src H s a (c + xs.length) ∧
  ∀ (d : Addr) (ys : List V) (H' : Hp), H d = none → H' d = some (.lst ys) → ys.length = xs.length → (∀ y ∈ ys, y ∈ xs) → Ext s H H' → Src H' s a c → Q (.ref d) H'
def sp2__law_signs : Sp := fun vs H Q _ => ∃ (s a : Addr) (c : Nat), vs = [.ref s] ∧ Src H s a (c + 10) ∧
  ∀ (u : Addr) (cs : List Nat) (H' : Hp), H u = none → H' u = some (.lst (sgs cs)) → Sgns cs → Ext s H H' → Src H' s a c → Q (.ref u) H'
def sp2__law_free_glob (K : PySem.W.Frag) : Sp := fun vs H Q _ => ∃ (s a u : Addr) (cs : List Nat) (m : Int) (c : Nat), vs = [.ref s, .ref u, .int m] ∧ SqL K H u (sgs cs) ∧ u ≠ s ∧ Sgns cs ∧ 0 < m ∧ m ≤ 60 ∧ Src H s a (c + 100) ∧
  ∀ (g : Str) (H' : Hp), okG (tl g) → ((tl g).length : Int) ≤ m → Ext s H H' → Src H' s a c → Q (.str g) H'
def sp__law_put : Sp := fun vs H Q _ => ∃ (t : Str) (c : Nat), vs = [.str t, .str (S [c])] ∧ c ≠ 42 ∧ No42 (tl t) ∧ (tl t).length ≤ 9000 ∧ ∀ (y : Str) (H' : Hp), Same H H' → No42 (tl y) → (tl y).length ≤ (tl t).length + 1 → Q (.str y) H'
def sp__law_drawn (K : PySem.W.Frag) : Sp := fun vs H Q _ => ∃ (s a u w : Addr) (cs : List Nat) (us : List Str) (c : Nat), vs = [.ref s, .ref u, .ref w] ∧ SqL K H u (sgs cs) ∧ u ≠ s ∧ Sgns cs ∧ SqL K H w (us.map V.str) ∧ w ≠ s ∧ Wds us ∧ Src H s a (c + 2000) ∧
  ∀ (x : Str) (H' : Hp), GP (tl x) → (tl x).length ≤ 200 → Ext s H H' → Src H' s a c → Q (.str x) H'
def sp__law_board_for (K : PySem.W.Frag) : Sp := fun vs H Q _ => ∃ (s a u : Addr) (p : Str) (cs : List Nat) (c : Nat), vs = [.ref s, .str p, .ref u] ∧ (tl p).length ≤ 200 ∧ H u = some (.lst (sgs cs)) ∧ u ≠ s ∧ Sgns cs ∧ Src H s a (c + 2000) ∧
  ∀ (y : Str) (H' : Hp), No42 (tl y) → (tl y).length ≤ 500 → Ext s H H' → Src H' s a c → Q (.str y) H'
theorem strike_len (c : Nat) : ∀ {l : List Nat}, l.Nodup → l.length ≤ (l.filter (· != c)).length + 1
  | [], _ => by simp
  | x :: r, h => by
    have hh := List.nodup_cons.mp h
    by_cases e : x = c
    · subst e
      have : r.filter (· != x) = r := List.filter_eq_self.mpr fun y hy => by
        have : y ≠ x := fun e => hh.1 (e ▸ hy)
        simp [this]
      rw [List.filter_cons_of_neg (by simp), this, List.length_cons]; exact Nat.le_refl _
    · rw [List.filter_cons_of_pos (by simp [e]), List.length_cons, List.length_cons]
      have := strike_len c hh.2
      omega
theorem tl_strike (z : Str) (c : Nat) : tl (Txt.replace z ⟨#[c]⟩ (Str.ofString "")) = (tl z).filter (· != c) := PyProof.Rows.replace_strikes z c
theorem cut_mem (x : Str) (i j : Option Int) : ∀ c ∈ tl (cutS x i j), c ∈ tl x := fun c h => by
  have h' : c ∈ (List.drop _ (tl x)).take _ := h
  exact List.mem_of_mem_drop (List.mem_of_mem_take h')
/-- what is stripped at the end is a piece -/
theorem rstrip_sub (x y : Str) : (∀ c ∈ tl (Txt.rstripChars x y), c ∈ tl x) ∧ (tl (Txt.rstripChars x y)).length ≤ (tl x).length := by
  have e : ∃ i j, tl (Txt.rstripChars x y) = ((tl x).drop i).take (j - i) := by
    have h := PyProof.Rows.stripBy_eq y.cps.contains false true x
    apply Exists.intro; apply Exists.intro
    refine (congrArg tl h).trans ?_
    show (x.cps.extract _ _).toList = _
    rw [Array.toList_extract]
  obtain ⟨i, j, e⟩ := e
  rw [e]
  exact ⟨fun c m => List.mem_of_mem_drop (List.mem_of_mem_take m), by rw [List.length_take, List.length_drop]; omega⟩
/-- a walk over the signs of a text behind a token -/
theorem pit_str {X : Cx} {tg e : Expr} {te : TE} (he : PET X e te) : PIT X tg e (iStr te) := by
  intro pins s σ H R h0 I h
  refine thn (he pins s σ H _ h0 I h) fun v s1 hh => ?_
  obtain ⟨y, H1, I1, r1, x, rfl, q⟩ := hh
  obtain ⟨t, rfl⟩ := r1
  have J := fun (ty : String) (hty : ty = "str_ascii_iterator" ∨ ty = "str_iterator") => pi_one (tk := s1.toks) I1 (tg := tg) (R := R) ⟨.type ty, none, .fields #[.str x t, .int 0 0], #[]⟩ (turn_str _ x t ty hty) ⟨_, Heap.get?_push_size _ rfl, rfl, rfl⟩ q
  by_cases ha : x.cps.all (· < 128) = true
  · exact wpAny_pyIter_ascii ha (J _ (.inl rfl))
  · exact wpAny_pyIter_wide (by simpa using ha) (J _ (.inr rfl))
theorem strs_of {ws : List V} {bs : List Str} (h : ∀ y ∈ ws, y ∈ bs.map V.str) : ∃ cs : List Str, ws = cs.map V.str ∧ ∀ c ∈ cs, c ∈ bs := by
  induction ws with
  | nil => exact ⟨[], rfl, fun _ h => by cases h⟩
  | cons w ws ih =>
    obtain ⟨cs, e, k⟩ := ih fun y hy => h y (List.mem_cons_of_mem _ hy)
    obtain ⟨b, hb, rfl⟩ := List.mem_map.mp (h w (by simp))
    exact ⟨b :: cs, by rw [e]; rfl, fun c hc => by
      rcases List.mem_cons.mp hc with e | hc
      · rw [e]; exact hb
      · exact k c hc⟩
theorem joinL_sum : ∀ {ls : List (List Nat)}, ls ≠ [] → (TL.joinL [44] ls).length + 1 = (ls.map fun it => it.length + 1).sum
  | [], h => absurd rfl h
  | [x], _ => by show x.length + 1 = _; simp
  | x :: y :: r, _ => by
    have ih := joinL_sum (ls := y :: r) (by simp)
    show (x ++ ([44] ++ TL.joinL [44] (y :: r))).length + 1 = _
    rw [List.map_cons, List.sum_cons, ← ih, List.length_append, List.length_append]
    show x.length + (1 + _) + 1 = _
    omega
theorem turn_len (it : List Nat) : (turnI it).length ≤ it.length + 1 := by
  unfold turnI
  split
  · rw [List.length_drop]; omega
  · exact Nat.le_refl _
theorem turn_sum : ∀ ls : List (List Nat), ((ls.map turnI).map fun it => it.length + 1).sum ≤ (ls.map fun it => it.length + 1).sum + ls.length
  | [] => Nat.le_refl _
  | x :: r => by
    have := turn_sum r
    have := turn_len x
    rw [List.map_cons, List.map_cons, List.map_cons, List.sum_cons, List.sum_cons, List.length_cons]
    omega
theorem opp_len (l : List Nat) : (oppL l).length ≤ 2 * l.length + 3 := by
  have h1 := joinL_sum (ls := oppI l) (by unfold oppI; simp)
  have h2 := turn_sum (parts l)
  have h3 := parts_num l
  have ne : parts l ≠ [] := fun h => by
    have := spl_count l []
    have h' : TL.spl [44] 0 [] l = [] := h
    rw [h'] at this; cases this
  have h4 := joinL_sum ne
  have e : TL.joinL [44] (parts l) = l := join_spl l []
  rw [e] at h4
  have h5 : ((oppI l).map fun it => it.length + 1).sum = 2 + (((parts l).map turnI).map fun it => it.length + 1).sum := by
    unfold oppI; rw [List.map_cons, List.sum_cons]; rfl
  have h6 : (oppL l).length = (TL.joinL [44] (oppI l)).length := rfl
  omega
theorem joinL_snoc {y : List Nat} : ∀ {ls : List (List Nat)}, ls ≠ [] → TL.joinL [44] (ls ++ [y]) = TL.joinL [44] ls ++ 44 :: y
  | [], h => absurd rfl h
  | [x], _ => rfl
  | x :: z :: r, _ => by
    have ih := joinL_snoc (y := y) (ls := z :: r) (by simp)
    show x ++ ([44] ++ TL.joinL [44] (z :: r ++ [y])) = (x ++ ([44] ++ TL.joinL [44] (z :: r))) ++ 44 :: y
    rw [ih]; simp
theorem DL_opp (l : List Nat) : DL 3 (oppD l) := by
  unfold oppD
  split
  · refine ⟨by show 2 ≤ _; decide, fun x hx => ?_⟩
    rcases List.mem_cons.mp hx with e | hx
    · subst e; exact True.intro
    · rw [List.mem_singleton.mp hx]; exact True.intro
  · refine ⟨by show 2 ≤ _; decide, fun x hx => ?_⟩
    rcases List.mem_cons.mp hx with e | hx
    · subst e; exact True.intro
    · rw [List.mem_singleton.mp hx]; exact True.intro
theorem DV_pair {K : PySem.W.Frag} {H : Hp} {t : Addr} {x y : Str} (h : SqT K H t [V.str x, V.str y]) : DV K H (.tup [.str x, .str y]) (.ref t) :=
  ⟨t, _, rfl, h, _, _, rfl, by unfold DV; rfl, _, _, rfl, by unfold DV; rfl, rfl⟩
theorem DV_pair_inv {K : PySem.W.Frag} {H : Hp} {v : V} {x y : Str} (h : DV K H (.tup [.str x, .str y]) v) : ∃ t, v = .ref t ∧ SqT K H t [V.str x, V.str y] := by
  obtain ⟨t, vs, rfl, hS, h3⟩ := h
  obtain ⟨u1, r1, rfl, e1, h4⟩ := h3
  obtain ⟨u2, r2, rfl, e2, h5⟩ := h4
  unfold DV at e1 e2
  unfold DVs at h5
  subst e1 e2 h5
  exact ⟨t, rfl, hS⟩
end Z
namespace Z
open PySem PySem.W PySem.Calls PyProof.Rows L2
/-! ### sorted(tuples of texts and numbers), min and max of two texts -/
/-- a text where the shape says so, elsewhere a number -/
def Shp (shape : Nat → Bool) : Nat → List V → Prop
  | _, [] => True
  | i, .int _ :: r => shape i = false ∧ Shp shape (i + 1) r
  | i, .str _ :: r => shape i = true ∧ Shp shape (i + 1) r
  | _, _ :: _ => False
/-- what the sort asks of a tuple in the heap -/
def TupAt (h : Heap) (shape : Nat → Bool) (v : Value) : Prop := ∃ (a : Addr) (o : Obj) (us : List Value) (n : Nat) (as : List (Int ⊕ List Nat)), v = .ref a ∧ h.get? a = some o ∧ o.cls = .type "tuple" ∧ o.data = .seq us.toArray n ∧ tupItems shape 0 us = some as ∧
  ∃ f, us[0]? = some f ∧ (shape 0 = false → ∃ k t, f = .int k t) ∧ (shape 0 = true → ∃ x t, f = .str x t)
theorem TupAt.keep {h h' : Heap} {shape : Nat → Bool} {v : Value} (p : TupAt h shape v) (k : ∀ b o, h.get? b = some o → o.cls = .type "tuple" → h'.get? b = some o) : TupAt h' shape v := by
  obtain ⟨a, o, us, n, as, e, g, c, r⟩ := p
  exact ⟨a, o, us, n, as, e, k _ _ g c, c, r⟩
theorem shp_items {shape : Nat → Bool} : ∀ {ws : List V} {us : List Value} {i : Nat}, Shp shape i ws → Vals ws us → ∃ l, tupItems shape i us = some l
  | [], _, _, _, r => by cases r; exact ⟨[], by simp [tupItems]⟩
  | .int k :: ws, _, i, h, r => by
    cases r with
    | cons r1 r2 =>
      obtain ⟨t, rfl⟩ := r1
      obtain ⟨l, hl⟩ := shp_items h.2 r2
      exact ⟨.inl k :: l, by simp [tupItems, h.1, hl]⟩
  | .str x :: ws, _, i, h, r => by
    cases r with
    | cons r1 r2 =>
      obtain ⟨t, rfl⟩ := r1
      obtain ⟨l, hl⟩ := shp_items h.2 r2
      exact ⟨.inr x.cps.toList :: l, by simp [tupItems, h.1, hl]⟩
  | .non :: _, _, _, h, _ => by unfold Shp at h; exact h.elim
  | .bl _ :: _, _, _, h, _ => by unfold Shp at h; exact h.elim
  | .ref _ :: _, _, _, h, _ => by unfold Shp at h; exact h.elim
  | .ty _ :: _, _, _, h, _ => by unfold Shp at h; exact h.elim
  | .byt _ :: _, _, _, h, _ => by unfold Shp at h; exact h.elim
  | .flt _ :: _, _, _, h, _ => by unfold Shp at h; exact h.elim
theorem shp_first {shape : Nat → Bool} {ws : List V} {us : List Value} (h : Shp shape 0 ws) (ne : ws ≠ []) (r : Vals ws us) : ∃ f, us[0]? = some f ∧ (shape 0 = false → ∃ k t, f = .int k t) ∧ (shape 0 = true → ∃ x t, f = .str x t) := by
  cases r with
  | nil => exact absurd rfl ne
  | @cons w u ws us r1 r2 =>
    refine ⟨u, rfl, fun e => ?_, fun e => ?_⟩
    · cases w with
      | int k => obtain ⟨t, rfl⟩ := r1; exact ⟨k, t, rfl⟩
      | str x => have := h.1; rw [e] at this; cases this
      | _ => unfold Shp at h; exact h.elim
    · cases w with
      | str x => obtain ⟨t, rfl⟩ := r1; exact ⟨x, t, rfl⟩
      | int x => have := h.1; rw [e] at this; cases this
      | _ => unfold Shp at h; exact h.elim
section
variable {prog : Program} {w : World} {A : Around} {E : Value → Shared → Prop} {s : Shared}
theorem tups_of {h : Heap} {shape : Nat → Bool} : ∀ {vs : List Value}, (∀ v ∈ vs, TupAt h shape v) → ∃ fs, TupsOf h shape vs fs ∧ fs.length = vs.length
  | [], _ => ⟨[], .nil, rfl⟩
  | v :: vs, hp => by
    obtain ⟨fs, h1, h2⟩ := tups_of (vs := vs) fun y m => hp y (List.mem_cons_of_mem _ m)
    obtain ⟨a, o, us, n, as, e, g, c, d, _, f, hf, k1, k2⟩ := hp v (by simp)
    refine ⟨f :: fs, .cons ⟨a, o, us.toArray, n, e, g, c, d, ?_, k1, k2⟩ h1, by rw [List.length_cons, List.length_cons, h2]⟩
    simpa using hf
theorem tupkey {h : Heap} {shape : Nat → Bool} {v : Value} (p : TupAt h shape v) : ∃ as, (tupKind h shape).keyOf v = some as := by
  obtain ⟨a, o, us, n, as, rfl, g, c, d, i, _⟩ := p
  refine ⟨as, ?_⟩
  show tupKey h shape (.ref a) = some as
  unfold tupKey
  simp only [g, d]
  exact i
theorem sorted_tups {shape : Nat → Bool} {l : Addr} {vs : List Value} {Q : Value → Shared → Prop} (hl : s.heap.IsList l vs.toArray) (hz : vs.length ≤ sizeLine) (hp : ∀ v ∈ vs, TupAt s.heap shape v)
    (hq : ∀ out : List Value, out.Perm vs → Q (.ref (s.heap.objs.size + 1)) { s with heap := sortedAll s.heap vs out.toArray }) : wpAny (model prog w) A (call (.builtin "sorted") [.ref l]) Q E s := by
  refine Srt.sorted_any hl hz (fun two h1 a ha kp => ?_) hq
  intro h2 kp2
  have tup : ∀ v ∈ vs, TupAt h2 shape v := fun v m => ((hp v m).keep fun b o g _ => (kp b o g).2).keep fun b o g c => kp2 b o (fun z => by
    subst z
    have g' : h1.get? b = some o := g
    rw [ha] at g'
    cases g'
    exact absurd (Value.type.inj c) (by decide)) g
  obtain ⟨fs, t, fl⟩ := tups_of tup
  refine ⟨tuples' true, fun Q E q => tup_kind (shape := shape) (s := { s with heap := h2 }) (by omega) t q, fun p q mp mq => ?_⟩
  obtain ⟨as, ka⟩ := tupkey (tup _ mp)
  obtain ⟨bs, kb⟩ := tupkey (tup _ mq)
  exact ⟨_, tup_ltAt (s := { s with heap := h2 }) true _ _ _ _ as bs ka kb ⟨rfl, rfl⟩⟩
end
/-- sorted(xs), xs a list of tuples of one shape: a new list of the same tuples, in some order -/
def rSortedX (K : Frag) (shape : Nat → Bool) : List V → Hp → VK → Prop := fun vs H Q => ∃ (a : Addr) (ts : List Addr), vs = [V.ref a] ∧ SqL K H a (ts.map V.ref) ∧ (∀ t ∈ ts, ∃ ws, H t = some (.tup ws) ∧ Shp shape 0 ws ∧ ws ≠ []) ∧
  ∀ (ys : List Addr) (p : Addr), ys.Perm ts → H p = none → Q (.ref p) (upd H p (.lst (ys.map V.ref)))
theorem vals_refs : ∀ {ts : List Addr} {us : List Value}, Vals (ts.map V.ref) us → us = ts.map Value.ref
  | [], _, r => by cases r; rfl
  | t :: ts, _, r => by
    cases r with
    | cons r1 r2 => cases r1; rw [vals_refs r2]; rfl
theorem refs_vals : ∀ ts : List Addr, Vals (ts.map V.ref) (ts.map Value.ref)
  | [] => .nil
  | t :: ts => .cons rfl (refs_vals ts)
theorem perm_refs {ts : List Addr} {us : List Value} (h : us.Perm (ts.map Value.ref)) : ∃ ys : List Addr, us = ys.map Value.ref ∧ ys.Perm ts := by
  refine ⟨us.map fun u => match u with | .ref a => a | _ => 0, ?_, ?_⟩
  · rw [List.map_map]
    refine (List.map_id us).symm.trans (List.map_congr_left fun u m => ?_)
    obtain ⟨a, _, rfl⟩ := List.mem_map.mp (h.mem_iff.mp m)
    rfl
  · have := h.map fun u => match u with | Value.ref a => a | _ => 0
    rw [List.map_map] at this
    rwa [show ts.map ((fun u => match u with | Value.ref a => a | _ => 0) ∘ Value.ref) = ts from (List.map_congr_left fun _ _ => rfl).trans (List.map_id ts)] at this
section
variable {X : Cx}
theorem cr_sortedX {shape : Nat → Bool} : CallR X (.builtin "sorted") (rSortedX X.K shape) := by
  intro pins s σ H vs us Q I r h
  obtain ⟨a, ts, rfl, hs, ht, q⟩ := h
  obtain ⟨its, rv, hl, hz⟩ := I.list hs
  have e1 := vals_refs rv
  subst e1
  obtain ⟨u, rfl, ru⟩ := vals1 r
  obtain rfl : u = Value.ref a := ru
  rw [List.length_map] at hz
  refine sorted_tups (shape := shape) hl.isList (by rw [List.length_map]; exact hz) (fun v m => ?_) fun out po => ?_
  · obtain ⟨t, tm, rfl⟩ := List.mem_map.mp m
    obtain ⟨ws, hw, sh, ne⟩ := ht t tm
    have ok : ObjOk X.prog X.w H s.heap t (.tup ws) := I.hok t _ hw
    obtain ⟨_, xs, rx, o, g, c, n, d⟩ := ok
    obtain ⟨as, hi⟩ := shp_items sh rx
    exact ⟨t, o, xs, n, as, rfl, g, c, d, hi, shp_first sh ne rx⟩
  · obtain ⟨ys, rfl, py⟩ := perm_refs po
    have fr : H (s.heap.objs.size + 1) = none := I.hok.fresh (Nat.le_succ _)
    obtain ⟨n, hn⟩ := sortedAll_at s.heap (ts.map Value.ref) (ys.map Value.ref).toArray
    refine ⟨.ref _, upd H _ (.lst (ys.map V.ref)), I.laid (t' := s.toks) (fun b o g => sortedAll_old g) (Nat.le_succ _) ⟨?_, ys.map Value.ref, n, refs_vals ys, hn⟩, rfl, q ys _ py fr⟩
    rw [List.length_map, py.length_eq]; exact hz
end
section
variable {prog : Program} {w : World} {A : Around} {E : Value → Shared → Prop} {s : Shared}
theorem best1 (bt : Nat → Nat → Bool) : argBest bt 1 = 0 ∨ argBest bt 1 = 1 := by
  by_cases h : bt 1 (argBest bt 0) = true
  · exact .inr (if_pos h)
  · exact .inl (if_neg h)
/-- the larger one -/
theorem max_strs {x y : Str} {t u : Tok} {Q : Value → Shared → Prop} (calm : A.handled = none)
    (h : ∀ (k : Bool) (hp : Heap) (tk : Nat), (∀ b o, s.heap.get? b = some o → hp.get? b = some o) → Q (if k = true then .str y u else .str x t) { s with heap := hp, toks := tk }) : wpAny (model prog w) A (call (.builtin "max") [.str x t, .str y u]) Q E s := by
  have tp : (s.heap.push { cls := .type "tuple", data := .seq #[.str x t, .str y u] }).IsTuple s.heap.objs.size #[.str x t, .str y u] := ⟨_, Heap.get?_push_size _ rfl, rfl, 0, rfl⟩
  have z1 : (s.heap.push { cls := .type "tuple", data := .seq #[.str x t, .str y u] }).objs.size = s.heap.objs.size + 1 := Heap.size_push ..
  refine call_max_two (wpAny_pyIter_tuple tp ?_)
  refine ⟨_, [_, s.heap.objs.size], [_], _, _, _, fun i j => decide ((if j = 0 then x else y).cps.toList < (if i = 0 then x else y).cps.toList), rfl, Walks.tuple (A := A.in1) calm _ s.heap.objs.size (by rw [z1]; exact Nat.ne_of_lt (Nat.lt_succ_self _)) #[.str x t, .str y u], ⟨⟨_, Heap.get?_push_size _ rfl, rfl, rfl⟩, tp.push _⟩, fun b hb => ?_, by simp, fun i j vi vj s1 Q1 E1 gi gj q => ?_, fun v hp tk hv kp => ?_⟩
  · show b < ((s.heap.push _).push _).objs.size
    rw [Heap.size_push]
    simp only [List.mem_cons, List.not_mem_nil, or_false] at hb
    rcases hb with e | e <;> subst e
    · exact Nat.lt_succ_self _
    · rw [z1]; exact Nat.lt_succ_of_lt (Nat.lt_succ_self _)
  · have pick : ∀ {k : Nat} {v : Value}, (#[Value.str x t, Value.str y u])[k]? = some v → ∃ tt, v = .str (if k = 0 then x else y) tt := fun {k v} g => by
      match k, g with
      | 0, g => exact ⟨t, (Option.some.inj g).symm⟩
      | 1, g => exact ⟨u, (Option.some.inj g).symm⟩
      | k + 2, g => simp at g
    obtain ⟨ti, rfl⟩ := pick gi
    obtain ⟨tj, rfl⟩ := pick gj
    exact PySem.P.gt_str q
  · have old : ∀ b o, s.heap.get? b = some o → hp.get? b = some o := fun b o g => by
      refine kp b o (fun m => ?_) (Heap.get?_push_of_some _ (Heap.get?_push_of_some _ g))
      have lt := Heap.lt_size g
      rw [List.mem_singleton.mp m, z1] at lt
      exact absurd lt (Nat.not_lt_of_lt (Nat.lt_succ_self _))
    have cases2 : v = .str y u ∨ v = .str x t := by
      have hv' : (#[Value.str x t, Value.str y u])[argBest (fun i j => decide ((if j = 0 then x else y).cps.toList < (if i = 0 then x else y).cps.toList)) 1]? = some v := hv
      rcases best1 _ with e | e
      · rw [e] at hv'; exact .inr (Option.some.inj hv').symm
      · rw [e] at hv'; exact .inl (Option.some.inj hv').symm
    rcases cases2 with e | e
    · rw [e]; exact h true hp tk old
    · rw [e]; exact h false hp tk old
theorem min_strs {x y : Str} {t u : Tok} {Q : Value → Shared → Prop} (calm : A.handled = none)
    (h : ∀ (k : Bool) (hp : Heap) (tk : Nat), (∀ b o, s.heap.get? b = some o → hp.get? b = some o) → Q (if k = true then .str y u else .str x t) { s with heap := hp, toks := tk }) : wpAny (model prog w) A (call (.builtin "min") [.str x t, .str y u]) Q E s := by
  have tp : (s.heap.push { cls := .type "tuple", data := .seq #[.str x t, .str y u] }).IsTuple s.heap.objs.size #[.str x t, .str y u] := ⟨_, Heap.get?_push_size _ rfl, rfl, 0, rfl⟩
  have z1 : (s.heap.push { cls := .type "tuple", data := .seq #[.str x t, .str y u] }).objs.size = s.heap.objs.size + 1 := Heap.size_push ..
  refine call_min_two (wpAny_pyIter_tuple tp ?_)
  refine ⟨_, [_, s.heap.objs.size], [_], _, _, _, fun i j => decide ((if i = 0 then x else y).cps.toList < (if j = 0 then x else y).cps.toList), rfl, Walks.tuple (A := A.in1) calm _ s.heap.objs.size (by rw [z1]; exact Nat.ne_of_lt (Nat.lt_succ_self _)) #[.str x t, .str y u], ⟨⟨_, Heap.get?_push_size _ rfl, rfl, rfl⟩, tp.push _⟩, fun b hb => ?_, by simp, fun i j vi vj s1 Q1 E1 gi gj q => ?_, fun v hp tk hv kp => ?_⟩
  · show b < ((s.heap.push _).push _).objs.size
    rw [Heap.size_push]
    simp only [List.mem_cons, List.not_mem_nil, or_false] at hb
    rcases hb with e | e <;> subst e
    · exact Nat.lt_succ_self _
    · rw [z1]; exact Nat.lt_succ_of_lt (Nat.lt_succ_self _)
  · have pick : ∀ {k : Nat} {v : Value}, (#[Value.str x t, Value.str y u])[k]? = some v → ∃ tt, v = .str (if k = 0 then x else y) tt := fun {k v} g => by
      match k, g with
      | 0, g => exact ⟨t, (Option.some.inj g).symm⟩
      | 1, g => exact ⟨u, (Option.some.inj g).symm⟩
      | k + 2, g => simp at g
    obtain ⟨ti, rfl⟩ := pick gi
    obtain ⟨tj, rfl⟩ := pick gj
    exact PySem.P.lt_str q
  · have old : ∀ b o, s.heap.get? b = some o → hp.get? b = some o := fun b o g => by
      refine kp b o (fun m => ?_) (Heap.get?_push_of_some _ (Heap.get?_push_of_some _ g))
      have lt := Heap.lt_size g
      rw [List.mem_singleton.mp m, z1] at lt
      exact absurd lt (Nat.not_lt_of_lt (Nat.lt_succ_self _))
    have cases2 : v = .str y u ∨ v = .str x t := by
      have hv' : (#[Value.str x t, Value.str y u])[argBest (fun i j => decide ((if i = 0 then x else y).cps.toList < (if j = 0 then x else y).cps.toList)) 1]? = some v := hv
      rcases best1 _ with e | e
      · rw [e] at hv'; exact .inr (Option.some.inj hv').symm
      · rw [e] at hv'; exact .inl (Option.some.inj hv').symm
    rcases cases2 with e | e
    · rw [e]; exact h true hp tk old
    · rw [e]; exact h false hp tk old
end
section
variable {X : Cx}
/-- min, max of two texts: one of them -/
def rOne2 : List V → Hp → VK → Prop := fun xs H Q => ∃ x y : Str, xs = [.str x, .str y] ∧ Q (.str x) H ∧ Q (.str y) H
theorem call_maxS (hc : X.calm = true) : CallR X (.builtin "max") rOne2 := by
  intro pins s σ H xs us Q I r h
  obtain ⟨x, y, rfl, q1, q2⟩ := h
  obtain ⟨u, w', rfl, ⟨t, rfl⟩, ⟨t', rfl⟩⟩ := vals2 r
  refine max_strs (I.ok.hd hc) fun k hp tk old => ?_
  cases k with
  | true => exact ⟨.str y, H, I.kept old, ⟨t', rfl⟩, q2⟩
  | false => exact ⟨.str x, H, I.kept old, ⟨t, rfl⟩, q1⟩
theorem call_minS (hc : X.calm = true) : CallR X (.builtin "min") rOne2 := by
  intro pins s σ H xs us Q I r h
  obtain ⟨x, y, rfl, q1, q2⟩ := h
  obtain ⟨u, w', rfl, ⟨t, rfl⟩, ⟨t', rfl⟩⟩ := vals2 r
  refine min_strs (I.ok.hd hc) fun k hp tk old => ?_
  cases k with
  | true => exact ⟨.str y, H, I.kept old, ⟨t', rfl⟩, q2⟩
  | false => exact ⟨.str x, H, I.kept old, ⟨t, rfl⟩, q1⟩
end
end Z
namespace Z
open PySem PySem.Spec PyProof.Rows L2
theorem mulT1 (l : Addr) (its : Array Value) (n : Nat) (dd : Option Addr) (sl : Array (Option Value)) (u : Tok) : Meets (Builtin.«tuple.__mul__» ⟨[.ref l, .int 1 u], []⟩) (fun _ R s =>
    s.heap.get? l = some { cls := .type "tuple", dict := dd, data := .seq its n, slots := sl } ∧ R (.ok (.ret (.ref l))) s) := .of_wp fun prog w A R s h => by
  obtain ⟨hp, g, d, tk, os⟩ := s
  obtain ⟨at_, h⟩ := h
  have ix := AutoSeq1.idx_int
  have c1 : (its.isEmpty || (1 : Int) == 1) = true := by cases its.isEmpty <;> rfl
  wp_walk using wpAny_loadPart' at_
  repeat (first
    | (refine wpAny_ite_false (decide_eq_false (by decide)) ?_; wp_walk using wpAny_loadPart' at_)
    | (refine wpAny_ite_true (decide_eq_true (by first | decide | exact c1)) ?_; wp_walk using wpAny_loadPart' at_))
  exact ⟨_, rfl, h⟩
theorem mulT0 (l : Addr) (its : Array Value) (n : Nat) (dd : Option Addr) (sl : Array (Option Value)) (u : Tok) (ne : its.isEmpty = false) : Meets (Builtin.«tuple.__mul__» ⟨[.ref l, .int 0 u], []⟩) (fun _ R s =>
    s.heap.get? l = some { cls := .type "tuple", dict := dd, data := .seq its n, slots := sl } ∧ R (.ok (.ret (.ref s.heap.objs.size))) { s with heap := s.heap.push { cls := .type "tuple", data := .seq #[] }, toks := s.toks }) := .of_wp fun prog w A R s h => by
  obtain ⟨hp, g, d, tk, os⟩ := s
  obtain ⟨at_, h⟩ := h
  have ix := AutoSeq1.idx_int
  have c1 : (its.isEmpty || (0 : Int) == 1) = false := by rw [ne]; rfl
  wp_walk using wpAny_loadPart' at_
  repeat (first
    | (refine wpAny_ite_false (decide_eq_false (by first | decide | (rw [c1]; exact Bool.false_ne_true))) ?_; wp_walk using wpAny_loadPart' at_)
    | (refine wpAny_ite_true (decide_eq_true (by first | decide | rfl)) ?_; wp_walk using wpAny_loadPart' at_))
  exact ⟨_, rfl, h⟩
/-- t * k, of a tuple -/
def rMulT (K : PySem.W.Frag) : R2 := fun x y H Q => ∃ (l : Addr) (k : Nat) (xs : List V), x = .ref l ∧ y = .int (k : Int) ∧ SqT K H l xs ∧ xs ≠ [] ∧ k ≤ 1000 ∧ xs.length ≤ 1000 ∧ ∀ (p : Addr) (H' : Hp), Same H H' → SqT K H' p (List.replicate k xs).flatten → Q (.ref p) H'
section
variable {X : Cx}
theorem op_mulT : OpR X (binaryOp .Mult) (rMulT X.K) := by
  intro pins s σ H x y v u Q I rx ry h
  obtain ⟨l, k, xs, ex, ey, hT, ne, hk, hx, q⟩ := h
  by_cases h2 : 2 ≤ k
  · exact op_repT pins s σ H x y v u Q I rx ry ⟨l, _, xs, ex, ey, hT, ne, by omega, by omega, hx, fun p hp => q p _ (same_new hp) (SqT.of (by rw [upd_same]; rfl))⟩
  subst ex ey
  cases rx
  obtain ⟨t, rfl⟩ := ry
  obtain ⟨its, r, ⟨⟨cls, dd, data, sl⟩, at_, hc, n, hd⟩, hs⟩ := I.tuple hT
  simp only at hc hd
  subst hc hd
  have hi : its.toArray.isEmpty = false := by
    cases r with
    | nil => exact absurd rfl ne
    | cons _ _ => rfl
  have k01 : k = 0 ∨ k = 1 := by omega
  rcases k01 with e | e
  · subst e
    refine wpAny_binaryOp_repeat_ref (T := "tuple") (U := "int") (by decide) ⟨_, at_, rfl⟩ (fun s1 => typeIs_int s1 _ t) noFill_tuple_mul F.fills_int_mul F.slot_int_rmul repeat_tuple F.slot_int_index.lookup (call_meets F.slot_int_rmul (typeIs_int s _ t) F.entry_int_rmul (F.args_int_rmul_2 _ _) (int_rmul_tuple _ t l its.toArray n dd sl) ⟨at_, rfl, ⟨_, at_, rfl⟩, call_meets F.slot_tuple_mul ⟨_, at_, rfl⟩ F.entry_tuple_mul (F.args_tuple_mul_2 _ _) (mulT0 l its.toArray n dd sl t hi) ⟨at_, ?_⟩⟩)
    have fr : H s.heap.objs.size = none := I.hok.fresh (Nat.le_refl _)
    exact ⟨.ref _, upd H s.heap.objs.size (.tup []), I.laid (t' := s.toks) (fun b o g => Heap.get?_push_of_some _ g) (Nat.le_refl _) ⟨by show 0 ≤ sizeLine; decide, [], .nil, IsTup.new _ _⟩, rfl, q _ _ (same_new fr) (SqT.of upd_same)⟩
  · subst e
    refine wpAny_binaryOp_repeat_ref (T := "tuple") (U := "int") (by decide) ⟨_, at_, rfl⟩ (fun s1 => typeIs_int s1 _ t) noFill_tuple_mul F.fills_int_mul F.slot_int_rmul repeat_tuple F.slot_int_index.lookup (call_meets F.slot_int_rmul (typeIs_int s _ t) F.entry_int_rmul (F.args_int_rmul_2 _ _) (int_rmul_tuple _ t l its.toArray n dd sl) ⟨at_, rfl, ⟨_, at_, rfl⟩, call_meets F.slot_tuple_mul ⟨_, at_, rfl⟩ F.entry_tuple_mul (F.args_tuple_mul_2 _ _) (mulT1 l its.toArray n dd sl t) ⟨at_, ?_⟩⟩)
    exact ⟨.ref l, H, I, rfl, q l H (Same.refl _) (by show SqT X.K H l (xs ++ []); rw [List.append_nil]; exact hT)⟩
end
end Z
namespace Z
open PySem L2 SX
/-! ### data, by place -/
section
variable {K : PySem.W.Frag} {H : Hp}
theorem DV.any {ds : List D} {v : V} {i : Nat} {d : D} (h : DV K H (.tup ds) v) (e : ds[i]? = some d) : ∃ a us u, v = .ref a ∧ SqT K H a us ∧ us[i]? = some u ∧ DV K H d u := by
  obtain ⟨a, us, rfl, hS, hs⟩ := h
  obtain ⟨u, eu, du⟩ := hs.get e
  exact ⟨a, us, u, rfl, hS, eu, du⟩
theorem DV.sub {ds es : List D} {v : V} {i : Nat} (h : DV K H (.tup ds) v) (e : ds[i]? = some (.tup es)) : ∃ a us c ws, v = .ref a ∧ SqT K H a us ∧ us[i]? = some (V.ref c) ∧ SqT K H c ws ∧ DVs K H es ws := by
  obtain ⟨a, us, u, rfl, hS, eu, du⟩ := h.any e
  obtain ⟨c, ws, rfl, hc, hw⟩ := du
  exact ⟨a, us, c, ws, rfl, hS, eu, hc, hw⟩
theorem DV.leafS {ds : List D} {v : V} {i : Nat} {x : Str} (h : DV K H (.tup ds) v) (e : ds[i]? = some (.str x)) : ∃ a us, v = .ref a ∧ SqT K H a us ∧ us[i]? = some (V.str x) := by
  obtain ⟨a, us, u, rfl, hS, eu, du⟩ := h.any e
  unfold DV at du
  subst du
  exact ⟨a, us, rfl, hS, eu⟩
theorem DVs.map_get {α : Type} {f : α → D} : ∀ {l : List α} {us : List V} {i : Nat} {u : V}, DVs K H (l.map f) us → us[i]? = some u → ∃ x, l[i]? = some x ∧ DV K H (f x) u
  | [], _, i, u, h, e => by unfold DVs at h; subst h; simp at e
  | x :: l, us, i, u, h, e => by
    obtain ⟨v, r, rfl, q, t⟩ := h
    cases i with
    | zero =>
      have : v = u := Option.some.inj e
      subst this
      exact ⟨x, rfl, q⟩
    | succ i => exact DVs.map_get (i := i) t e
theorem DVs.map_len {α : Type} {f : α → D} {l : List α} {us : List V} (h : DVs K H (l.map f) us) : us.length = l.length := by rw [h.len, List.length_map]
/-- values that are data of some of these -/
theorem DVs.pick {α : Type} {f : α → D} {xs : List V} {l : List α} : ∀ {ys : List V}, DVs K H (l.map f) xs → (∀ y ∈ ys, y ∈ xs) → ∃ m : List α, DVs K H (m.map f) ys ∧ m.length = ys.length ∧ ∀ x ∈ m, x ∈ l
  | [], _, _ => ⟨[], by unfold List.map DVs; rfl, rfl, fun _ h => by cases h⟩
  | y :: ys, h, k => by
    obtain ⟨m, h1, h2, h3⟩ := DVs.pick h fun z hz => k z (List.mem_cons_of_mem _ hz)
    obtain ⟨i, hi⟩ := List.getElem?_of_mem (k y (by simp))
    obtain ⟨x, hx, dx⟩ := h.map_get hi
    refine ⟨x :: m, ?_, by rw [List.length_cons, List.length_cons, h2], fun z hz => ?_⟩
    · exact ⟨y, ys, rfl, dx, h1⟩
    · rcases List.mem_cons.mp hz with e | e
      · rw [e]; exact List.mem_of_getElem? hx
      · exact h3 z e
theorem DVs.snoc {α : Type} {f : α → D} {x : α} {u : V} : ∀ {l : List α} {us : List V}, DVs K H (l.map f) us → DV K H (f x) u → DVs K H ((l ++ [x]).map f) (us ++ [u])
  | [], _, h, d => by unfold List.map DVs at h; subst h; exact ⟨u, [], rfl, d, by unfold List.map DVs; rfl⟩
  | y :: l, us, h, d => by
    obtain ⟨v, r, rfl, q, t⟩ := h
    exact ⟨v, r ++ [u], rfl, q, DVs.snoc t d⟩
theorem DVs.tk {H' : Hp} (t : TK K H H') {ds : List D} {us : List V} (h : DVs K H ds us) : DVs K H' ds us := DVs.ext t h
theorem DV.tk {H' : Hp} (t : TK K H H') {d : D} {u : V} (h : DV K H d u) : DV K H' d u := DV.ext t h
end
theorem find_step {α : Type} {p : α → Bool} {l : List α} {i : Nat} {x : α} (h : (l.take i).find? p = none) (e : l[i]? = some x) (hx : p x = false) : (l.take (i + 1)).find? p = none := by
  rw [List.take_add_one, e, List.find?_append, h]
  show (none : Option α).or ([x].find? p) = none
  simp [hx]
theorem find_hit {α : Type} {p : α → Bool} {l : List α} {i : Nat} {x : α} (h : (l.take i).find? p = none) (e : l[i]? = some x) (hx : p x = true) : l.find? p = some x := by
  have el : l = l.take i ++ x :: l.drop (i + 1) := by
    obtain ⟨h1, h2⟩ := List.getElem?_eq_some_iff.mp e
    rw [← h2, List.getElem_cons_drop, List.take_append_drop]
  rw [el, List.find?_append, h]
  show (none : Option α).or ((x :: l.drop (i + 1)).find? p) = some x
  rw [List.find?_cons_of_pos hx]; rfl
/-! ### books -/
structure Si where
  n : Str
  o : Int
  m : Int
  r : Int
  p : Str
structure Fd where
  g : Str
  t : Str
  p : Str
  h : Int
  z : Int
structure Sw where
  p : Str
  a : Str
  y : D
structure Bk where
  w : Int
  x : Int
  y : Int
  si : List Si
  ln : List (Str × Str)
  fd : List Fd
  sw : List Sw
def siD (s : Si) : D := .tup [.str (Str.ofString "site"), .str s.n, .int s.o, .int s.m, .int s.r, .str s.p]
def lnD (l : Str × Str) : D := .tup [.str l.1, .str l.2]
def fdD (f : Fd) : D := .tup [.str (Str.ofString "feed"), .str f.g, .str f.t, .str f.p, .int f.h, .int f.z]
def swD (s : Sw) : D := .tup [.str (Str.ofString "steward"), .str s.p, .str s.a, s.y]
def bkD (b : Bk) : D := .tup [.str (Str.ofString "book"), .int b.w, .tup [.int b.x, .int b.y], .tup (b.si.map siD), .tup (b.ln.map lnD), .tup (b.fd.map fdD), .tup (b.sw.map swD), .tup []]
structure BkOk (b : Bk) : Prop where
  si : b.si.length ≤ 10
  ln : b.ln.length ≤ 30
  fd : b.fd.length ≤ 100
  sw : b.sw.length ≤ 10
  sp : ∀ s ∈ b.si, (tl s.p).length ≤ 3000
  wp : ∀ s ∈ b.sw, (tl s.p).length ≤ 3000
  sn : ∀ s ∈ b.si, Low (tl s.n) ∧ (tl s.n).length ≤ 8
  fn : ∀ f ∈ b.fd, Low (tl f.g) ∧ Low (tl f.t)
def siteOf (b : Bk) (n : Str) : Option Si := b.si.find? fun s => decide (s.n = n)
def feedOf (b : Bk) (g t : Str) : Option Fd := b.fd.find? fun f => decide (f.g = g) && decide (f.t = t)
noncomputable def stwOf (b : Bk) (d : List Nat) : Option Sw := b.sw.find? fun s => letsL (parts (tl s.p)) d
def polOf (b : Bk) (a : Str) : Option Sw := b.sw.find? fun s => decide (s.a = a)
def optD {α : Type} (f : α → D) : Option α → D
  | none => .non
  | some x => f x
def nearL (b : Bk) (n : Str) : List Str := ((b.ln.filter fun l => decide (l.1 = n)).map (·.2)) ++ ((b.ln.filter fun l => decide (l.2 = n)).map (·.1))
/-- the seals so far, and a board more -/
noncomputable def sealF (b : Bk) (acc : List Str) (d : Str) : List Str := match stwOf b (tl d) with
  | none => acc
  | some s => if s.a ∈ acc then acc else acc ++ [s.a]
noncomputable def sealsL (b : Bk) (bs : List Str) : List Str := bs.foldl (sealF b) []
def sp_site_of (K : PySem.W.Frag) : Sp := fun vs H Q _ => ∃ (b : Bk) (v : V) (n : Str), vs = [v, .str n] ∧ DV K H (bkD b) v ∧ ∀ u, DV K H (optD siD (siteOf b n)) u → Q u H
def sp_feed_of (K : PySem.W.Frag) : Sp := fun vs H Q _ => ∃ (b : Bk) (v : V) (g t : Str), vs = [v, .str g, .str t] ∧ DV K H (bkD b) v ∧ BkOk b ∧ Low (tl g) ∧ Low (tl t) ∧ ∀ u H', Same H H' → DV K H' (optD fdD (feedOf b g t)) u → Q u H'
def sp_neighbours (K : PySem.W.Frag) : Sp := fun vs H Q _ => ∃ (b : Bk) (v : V) (n : Str), vs = [v, .str n] ∧ DV K H (bkD b) v ∧ BkOk b ∧ ∀ (t : Addr) (ys : List Str) (H' : Hp), Same H H' → SqT K H' t (ys.map V.str) → ys.Perm (nearL b n) → PyProof.Rows.sortedS ys = true → Q (.ref t) H'
noncomputable def carriesB (b : Bk) (n : Str) (bs : List Str) : Bool := match siteOf b n with
  | none => false
  | some s => bs.any fun d => letsL (parts (tl s.p)) (tl d)
def sp_carries (K : PySem.W.Frag) : Sp := fun vs H Q _ => ∃ (b : Bk) (v : V) (n : Str) (a : Addr) (bs : List Str), vs = [v, .str n, .ref a] ∧ DV K H (bkD b) v ∧ BkOk b ∧ SqT K H a (bs.map V.str) ∧ bs.length ≤ 1000 ∧ (∀ d ∈ bs, Clean (tl d)) ∧ ∀ H', Same H H' → Q (.bl (carriesB b n bs)) H'
def swA (s : Sw) : D := .str s.a
def sp_steward_of (K : PySem.W.Frag) : Sp := fun vs H Q _ => ∃ (b : Bk) (v : V) (d : Str), vs = [v, .str d] ∧ DV K H (bkD b) v ∧ BkOk b ∧ Clean (tl d) ∧ ∀ u H', Same H H' → DV K H' (optD swA (stwOf b (tl d))) u → Q u H'
def sp_seals (K : PySem.W.Frag) : Sp := fun vs H Q _ => ∃ (b : Bk) (v : V) (a : Addr) (bs : List Str), vs = [v, .ref a] ∧ DV K H (bkD b) v ∧ BkOk b ∧ SqT K H a (bs.map V.str) ∧ bs.length ≤ 1000 ∧ (∀ d ∈ bs, Clean (tl d)) ∧ ∀ (t : Addr) H', Same H H' → SqT K H' t ((sealsL b bs).map V.str) → Q (.ref t) H'
def sp_policy_of (K : PySem.W.Frag) : Sp := fun vs H Q _ => ∃ (b : Bk) (v : V) (a : Str), vs = [v, .str a] ∧ DV K H (bkD b) v ∧ ∀ u, DV K H (optD Sw.y (polOf b a)) u → Q u H
/-! ### what the law draws -/
def sp3__law_pick (K : PySem.W.Frag) : Sp := fun vs H Q _ =>
  (∃ (s a r : Addr) (xs : List V) (c : Nat), vs = [.ref s, .ref r] ∧ SqL K H r xs ∧ r ≠ s ∧ xs ≠ [] ∧ xs.length ≤ 100000 ∧ Src H s a (c + 1) ∧ ∀ (v : V) (H' : Hp), v ∈ xs → Ext s H H' → Src H' s a c → Q v H') ∨
  (∃ (s a : Addr) (x : Str) (c : Nat), vs = [.ref s, .str x] ∧ tl x ≠ [] ∧ (tl x).length ≤ 100000 ∧ Src H s a (c + 1) ∧ ∀ (ch : Nat) (H' : Hp), ch ∈ tl x → Ext s H H' → Src H' s a c → Q (.str (S [ch])) H') ∨
  (∃ (s a r : Addr) (xs : List V) (c : Nat), vs = [.ref s, .ref r] ∧ SqT K H r xs ∧ xs ≠ [] ∧ xs.length ≤ 100000 ∧ Src H s a (c + 1) ∧ ∀ (v : V) (H' : Hp), v ∈ xs → Ext s H H' → Src H' s a c → Q v H')
def Nms (us : List Str) : Prop := us.Nodup ∧ ∀ x ∈ us, Nm (tl x) ∧ (tl x).length ≤ 8
def sp9__law_new_name (K : PySem.W.Frag) : Sp := fun vs H Q _ => ∃ (s a u : Addr) (us : List Str) (c : Nat), vs = [.ref s, .ref u] ∧ SqL K H u (us.map V.str) ∧ u ≠ s ∧ us.length ≤ 9 ∧ Src H s a (c + 8) ∧
  ∀ (x : Str) (H' : Hp), Nm (tl x) → (tl x).length ≤ 8 → x ∉ us → Ext s H H' → Src H' s a c → Q (.str x) H'
def sp9__law_names (K : PySem.W.Frag) : Sp := fun vs H Q _ => ∃ (s a : Addr) (m c : Nat), vs = [.ref s, .int m] ∧ m ≤ 9 ∧ Src H s a (c + 8 * m) ∧
  ∀ (u : Addr) (us : List Str) (H' : Hp), H u = none → H' u = some (.lst (us.map V.str)) → us.length = m → Nms us → Ext s H H' → Src H' s a c → Q (.ref u) H'
def sp_lines (K : PySem.W.Frag) : Sp := fun vs H Q _ => ∃ (s a u : Addr) (us : List Str) (c : Nat), vs = [.ref s, .ref u] ∧ SqL K H u (us.map V.str) ∧ u ≠ s ∧ 1 ≤ us.length ∧ us.length ≤ 9 ∧ (∀ x ∈ us, Low (tl x)) ∧ Src H s a (c + 100) ∧
  ∀ (L : Addr) (ws : List V) (ls : List (Str × Str)) (H' : Hp), H L = none → H' L = some (.lst ws) → DVs K H' (ls.map lnD) ws → ls.length ≤ 20 → (∀ l ∈ ls, Low (tl l.1) ∧ Low (tl l.2)) → Ext s H H' → Src H' s a c → Q (.ref L) H'
def sp_feeds (K : PySem.W.Frag) : Sp := fun vs H Q _ => ∃ (s a L w : Addr) (ws : List V) (ls : List (Str × Str)) (us : List Str) (k : Int) (c : Nat), vs = [.ref s, .ref L, .ref w, .int k] ∧ SqL K H L ws ∧ L ≠ s ∧ DVs K H (ls.map lnD) ws ∧ ls.length ≤ 20 ∧ (∀ l ∈ ls, Low (tl l.1) ∧ Low (tl l.2)) ∧ SqL K H w (us.map V.str) ∧ w ≠ s ∧ Wds us ∧ 0 < k ∧ k ≤ 100 ∧ Src H s a (c + 20000) ∧
  ∀ (u : V) (fs : List Fd) (H' : Hp), DV K H' (.tup (fs.map fdD)) u → fs.length ≤ 40 → (∀ f ∈ fs, Low (tl f.g) ∧ Low (tl f.t)) → Ext s H H' → Src H' s a c → Q u H'
def sp_sites (K : PySem.W.Frag) : Sp := fun vs H Q _ => ∃ (s a u w o : Addr) (us ws : List Str) (z : Int) (is : List Int) (c : Nat), vs = [.ref s, .ref u, .ref w, .int z, .ref o] ∧ SqL K H u (us.map V.str) ∧ u ≠ s ∧ us.length ≤ 9 ∧ SqL K H w (ws.map V.str) ∧ w ≠ s ∧ Wds ws ∧ H o = some (.lst (is.map V.int)) ∧ o ≠ s ∧ is.length = us.length ∧ Src H s a (c + 5000) ∧
  ∀ (v : V) (l : List Si) (H' : Hp), DV K H' (.tup (l.map siD)) v → l.map (·.n) = us → (∀ x ∈ l, (tl x.p).length ≤ 200) → Ext s H H' → Src H' s a c → Q v H'
def sp_book (K : PySem.W.Frag) : Sp := fun vs H Q _ => ∃ (s a w : Addr) (ws : List Str) (m : Nat) (c : Nat), vs = [.ref s, .int (m : Int), .ref w] ∧ 1 ≤ m ∧ m ≤ 9 ∧ SqL K H w (ws.map V.str) ∧ w ≠ s ∧ Wds ws ∧ Src H s a (c + 30000) ∧
  ∀ (v : V) (b : Bk) (H' : Hp), DV K H' (bkD b) v → BkOk b → b.sw = [] → b.si ≠ [] → (b.si.map (·.n)).Nodup → Ext s H H' → Src H' s a c → Q v H'
def sp_stewards (K : PySem.W.Frag) : Sp := fun vs H Q _ => ∃ (s a w : Addr) (v : V) (b : Bk) (ws : List Str) (c : Nat), vs = [.ref s, v, .ref w] ∧ DV K H (bkD b) v ∧ b.si ≠ [] ∧ BkOk b ∧ SqL K H w (ws.map V.str) ∧ w ≠ s ∧ Wds ws ∧ Src H s a (c + 5000) ∧
  ∀ (u : V) (l : List Sw) (H' : Hp), DV K H' (.tup (l.map swD)) u → l.length ≤ 3 → (∀ x ∈ l, (tl x.p).length ≤ 200 ∧ (tl x.a).length ≤ 20 ∧ DL 4 x.y) → (l.map (·.a)).Nodup → Ext s H H' → Src H' s a c → Q u H'
/-! ### sorted texts, told by what they are -/
open PyProof.Rows in
theorem eqv_pair (a b c d : Str) : PyData.eqv (.tuple [.str a, .str b]) (.tuple [.str c, .str d]) = (decide (a = c) && decide (b = d)) := by
  simp [PyData.eqv, PyData.eqvAll]
  by_cases h1 : a = c <;> by_cases h2 : b = d <;> simp [h1, h2]
theorem ok_low {x : Str} (h : Low (tl x)) : PyData.strOk x = true := by
  unfold PyData.strOk
  rw [← Array.all_toList, List.all_eq_true]
  intro c m
  have := h c m
  exact decide_eq_true (by omega)
theorem pair_shaped {x y : Str} (hx : Low (tl x)) (hy : Low (tl y)) : SeqAt.shaped (.tuple [.str x, .str y]) = true := by
  simp [SeqAt.shaped, PyData.canLay0, PyData.canLayAll0, PyData.depth, PyData.depthAll, ok_low hx, ok_low hy]
end Z
namespace Z
open PySem L2 SX
open PyProof.Rows PySem.Spec
theorem find_uniq {α : Type} {f : α → Str} : ∀ {l : List α} {i : Nat} {x : α}, (l.map f).Nodup → l[i]? = some x → l.find? (fun y => decide (f y = f x)) = some x
  | [], i, x, _, h => by simp at h
  | y :: r, i, x, nd, h => by
    rw [List.map_cons, List.nodup_cons] at nd
    cases i with
    | zero =>
      have : y = x := Option.some.inj h
      subst this
      rw [List.find?_cons_of_pos (by simp)]
    | succ i =>
      have hr : r[i]? = some x := h
      have ne : ¬ f y = f x := fun e => nd.1 (by rw [e]; exact List.mem_map_of_mem (List.mem_of_getElem? hr))
      rw [List.find?_cons_of_neg (by simpa using ne)]
      exact find_uniq nd.2 hr
theorem lt_anti : ∀ {a b : List Nat}, ltCps a b = false → ltCps b a = false → a = b
  | [], [], _, _ => rfl
  | [], _ :: _, h, _ => by simp [ltCps] at h
  | _ :: _, [], _, h => by simp [ltCps] at h
  | x :: a, y :: b, h, k => by
    simp only [ltCps, Bool.or_eq_false_iff, decide_eq_false_iff_not, Bool.and_eq_false_iff] at h k
    have e : x = y := by omega
    subst e
    have h2 := h.2.resolve_left (by simp)
    have k2 := k.2.resolve_left (by simp)
    rw [lt_anti h2 k2]
theorem lt_trans : ∀ {a b c : List Nat}, ltCps b a = false → ltCps c b = false → ltCps c a = false
  | [], _, [], _, _ => rfl
  | [], _, _ :: _, _, _ => by simp [ltCps]
  | _ :: _, [], _, h, _ => by simp [ltCps] at h
  | _ :: _, _ :: _, [], _, k => by simp [ltCps] at k
  | x :: a, y :: b, z :: c, h, k => by
    simp only [ltCps, Bool.or_eq_false_iff, decide_eq_false_iff_not, Bool.and_eq_false_iff] at h k ⊢
    refine ⟨by omega, ?_⟩
    by_cases e : z = x
    · have e1 : y = x := by omega
      have e2 : z = y := by omega
      subst e1
      subst e2
      exact .inr (lt_trans (h.2.resolve_left (by simp)) (k.2.resolve_left (by simp)))
    · exact .inl (by simpa using e)
theorem rising_pw : ∀ {l : List Str} {p : Str}, risingS p l = true → (∀ x ∈ l, ltCps x.cps.toList p.cps.toList = false) ∧ l.Pairwise (fun a b => ltCps b.cps.toList a.cps.toList = false)
  | [], _, _ => ⟨(fun _ h => by cases h), List.Pairwise.nil⟩
  | x :: r, p, h => by
    have h' : (!ltCps x.cps.toList p.cps.toList && risingS x r) = true := h
    obtain ⟨h1, h2⟩ := Bool.and_eq_true_iff.mp h'
    have h1' : ltCps x.cps.toList p.cps.toList = false := by simpa using h1
    obtain ⟨k1, k2⟩ := rising_pw h2
    refine ⟨fun y hy => ?_, List.pairwise_cons.mpr ⟨k1, k2⟩⟩
    rcases List.mem_cons.mp hy with e | e
    · rw [e]; exact h1'
    · exact lt_trans h1' (k1 y e)
theorem sorted_pw : ∀ {l : List Str}, sortedS l = true → l.Pairwise (fun a b => ltCps b.cps.toList a.cps.toList = false)
  | [], _ => List.Pairwise.nil
  | x :: r, h => List.pairwise_cons.mpr (rising_pw (show risingS x r = true from h))
theorem pw_uniq : ∀ {ys zs : List Str}, ys.Perm zs → ys.Pairwise (fun a b => ltCps b.cps.toList a.cps.toList = false) → zs.Pairwise (fun a b => ltCps b.cps.toList a.cps.toList = false) → ys = zs
  | [], zs, p, _, _ => p.nil_eq
  | y :: r, [], p, _, _ => absurd p.symm.nil_eq (by simp)
  | y :: r, z :: t, p, hy, hz => by
    obtain ⟨y1, y2⟩ := List.pairwise_cons.mp hy
    obtain ⟨z1, z2⟩ := List.pairwise_cons.mp hz
    have e : y = z := by
      have m1 : y ∈ z :: t := p.mem_iff.mp (by simp)
      have m2 : z ∈ y :: r := p.mem_iff.mpr (by simp)
      rcases List.mem_cons.mp m1 with e | e
      · exact e
      · rcases List.mem_cons.mp m2 with e2 | e2
        · exact e2.symm
        · exact tl_ext (lt_anti (z1 y e) (y1 z e2)) 
    subst e
    rw [pw_uniq ((List.perm_cons y).mp p) y2 z2]
theorem sorted_uniq {ys zs : List Str} (p : ys.Perm zs) (sy : sortedS ys = true) (sz : sortedS zs = true) : ys = zs := pw_uniq p (sorted_pw sy) (sorted_pw sz)
theorem seal_len (b : Bk) (acc : List Str) (d : Str) : (sealF b acc d).length ≤ acc.length + 1 := by
  unfold sealF
  split
  · omega
  · split
    · omega
    · rw [List.length_append]; exact Nat.le_refl _
theorem seals_len (b : Bk) : ∀ (bs acc : List Str), (bs.foldl (sealF b) acc).length ≤ acc.length + bs.length
  | [], _ => Nat.le_refl _
  | d :: r, acc => by
    have h1 := seals_len b r (sealF b acc d)
    have h2 := seal_len b acc d
    rw [List.foldl_cons, List.length_cons]; omega
end Z
namespace Z
open PySem L2 SX
/-! ### small helpers -/
theorem nodup_len : ∀ {l m : List Str}, l.Nodup → (∀ x ∈ l, x ∈ m) → l.length ≤ m.length
  | [], m, _, _ => Nat.zero_le _
  | x :: l, m, nd, h => by
    obtain ⟨n1, n2⟩ := List.nodup_cons.mp nd
    have hx := h x (by simp)
    have := nodup_len (l := l) (m := m.erase x) n2 fun y my => (List.mem_erase_of_ne (fun e => n1 (by rw [← e]; exact my))).mpr (h y (List.mem_cons_of_mem _ my))
    have e := List.length_erase_of_mem hx
    have p := List.length_pos_of_mem hx
    rw [List.length_cons]; omega
theorem sput {H H' : Hp} {a : Addr} {o : HO} (h : Same H H') (n : H a = none) : Same H (upd H' a o) := fun b u hb => by
  rw [upd_ne (ne_of_none hb n)]; exact h b u hb
theorem tk_upd {K : PySem.W.Frag} {H : Hp} {p : Addr} {u o : HO} (h : H p = some u) (n1 : ∀ xs, u ≠ .tup xs) (n2 : ∀ o w, u ≠ .frz o w) : TK K H (upd H p o) := fun a xs q => by
  rcases q with (q | ⟨o', q⟩) | q
  · exact .inl (.inl (by rw [upd_ne (fun e => by rw [e, h] at q; exact n1 _ (Option.some.inj q))]; exact q))
  · exact .inl (.inr ⟨o', by rw [upd_ne (fun e => by rw [e, h] at q; exact n2 _ _ (Option.some.inj q))]; exact q⟩)
  · exact .inr q
theorem map_get {α : Type} {f : α → V} {l : List α} {i : Nat} {x : V} (h : (l.map f)[i]? = some x) : ∃ y, l[i]? = some y ∧ x = f y := by
  rw [List.getElem?_map] at h
  cases e : l[i]? with
  | none => rw [e] at h; cases h
  | some y => rw [e] at h; exact ⟨y, rfl, (Option.some.inj h).symm⟩
theorem filt_step2 {α : Type} {p : α → Bool} {l : List α} {i : Nat} {x : α} (e : l[i]? = some x) : (l.take (i + 1)).filter p = (l.take i).filter p ++ (if p x = true then [x] else []) := by
  rw [List.take_add_one, e, List.filter_append]
  congr 1
  by_cases c : p x = true
  · rw [if_pos c]; exact List.filter_eq_self.mpr fun y hy => by rw [List.mem_singleton.mp hy]; exact c
  · rw [if_neg c]; exact List.filter_eq_nil_iff.mpr fun y hy => by rw [List.mem_singleton.mp hy]; exact c
theorem iG {c : Bool} {A B : Prop} (h : c = true) (a : A) : if c = true then A else B := by rw [if_pos h]; exact a
theorem iN {c : Bool} {A B : Prop} (h : c = false) (b : B) : if c = true then A else B := by rw [if_neg (by rw [h]; exact Bool.false_ne_true)]; exact b
theorem sorted_first {y : Str} {r : List Str} (h : (y :: r).Pairwise fun a b => PySem.Spec.ltCps b.cps.toList a.cps.toList = false) : ∀ z ∈ y :: r, ¬ tl z < tl y := fun z hz => by
  rcases List.mem_cons.mp hz with e | e
  · rw [e]; exact fun q => List.lt_irrefl _ q
  · have := (List.pairwise_cons.mp h).1 z e
    rw [PyProof.Rows.ltCps_eq] at this
    exact of_decide_eq_false this
def nms (b : Bk) : List Str := b.si.map (·.n)
theorem dls {K : PySem.W.Frag} {H : Hp} (x : Str) : DV K H (.str x) (.str x) := by unfold DV; rfl
theorem dli {K : PySem.W.Frag} {H : Hp} (x : Int) : DV K H (.int x) (.int x) := by unfold DV; rfl
theorem dln {K : PySem.W.Frag} {H : Hp} : DVs K H [] [] := by unfold DVs; rfl
theorem dlc {K : PySem.W.Frag} {H : Hp} {d : D} {ds : List D} {v : V} {vs : List V} (h : DV K H d v) (t : DVs K H ds vs) : DVs K H (d :: ds) (v :: vs) := ⟨v, vs, rfl, h, t⟩
theorem tk_put {K : PySem.W.Frag} {H : Hp} {M : Addr} {ys : List V} {o : HO} (h : H M = some (.lst ys)) : TK K H (upd H M o) := fun a xs q => Ext.seqT (s := M) (fun b o hb hh => by rw [upd_ne hb]; exact hh) h q
theorem tk_new {K : PySem.W.Frag} {H : Hp} {M : Addr} {o : HO} (h : H M = none) : TK K H (upd H M o) := TK.same (same_new h)
theorem small_le (n : Nat) (h : n ≤ 30000) : n ≤ sizeLine := Nat.le_trans h (by decide)
theorem small_lt (n : Nat) (h : n ≤ 30000) : n < sizeLine := Nat.lt_of_le_of_lt h (by decide)
theorem pw_get {α : Type} {r : α → α → Prop} : ∀ {l : List α} {i j : Nat} {a b : α}, l.Pairwise r → l[i]? = some a → l[j]? = some b → i < j → r a b
  | [], _, _, _, _, _, h, _, _ => by simp at h
  | x :: l, 0, j + 1, a, b, p, h, k, _ => by
    cases (show some _ = some _ from h)
    exact (List.pairwise_cons.mp p).1 b (List.mem_of_getElem? (by simpa using k))
  | x :: l, i + 1, j + 1, a, b, p, h, k, lt => pw_get (i := i) (j := j) (List.pairwise_cons.mp p).2 (by simpa using h) (by simpa using k) (by omega)
/-- the bookkeeping of one local list and the source -/
theorem ext_keep {s M : Addr} {H H1 : Hp} {o : HO} (n : H M = none) (x : Ext s H H1) : Ext s H (upd H1 M o) := fun b w hb hh => by
  rw [upd_ne (ne_of_none hh n)]; exact x b w hb hh
theorem DVs.of_all {K : PySem.W.Frag} {H : Hp} {α : Type} {f : α → D} {g : α → V} : ∀ {l : List α}, (∀ x ∈ l, DV K H (f x) (g x)) → DVs K H (l.map f) (l.map g)
  | [], _ => by unfold List.map DVs; rfl
  | x :: l, h => ⟨g x, l.map g, rfl, h x (by simp), DVs.of_all fun y m => h y (List.mem_cons_of_mem _ m)⟩
theorem DVs.all {K : PySem.W.Frag} {H : Hp} {α : Type} {f : α → D} {l : List α} {us : List V} (h : DVs K H (l.map f) us) {i : Nat} {x : α} (e : l[i]? = some x) : ∃ u, us[i]? = some u ∧ DV K H (f x) u :=
  h.get (by rw [List.getElem?_map, e]; rfl)
theorem ln_ok {ls : List (Str × Str)} (h : ∀ l ∈ ls, Low (tl l.1) ∧ Low (tl l.2)) : Okl (ls.map lnD) :=
  fines_ok (n := 1) (fines_map fun l m => fine_tup (fines_cons (fine_low fun c hc => by have := (h l m).1 c hc; omega) (fines_cons (fine_low fun c hc => by have := (h l m).2 c hc; omega) fines_nil)))
theorem pr_ok {x y : Str} (h : Low (tl x)) (k : Low (tl y)) : Okd (.tup [.str x, .str y]) :=
  fine_ok (n := 1) (fine_tup (fines_cons (fine_low fun c hc => by have := h c hc; omega) (fines_cons (fine_low fun c hc => by have := k c hc; omega) fines_nil)))
theorem alike_ln (b c : Str × Str) : PySem.W.alike (py (lnD b)) (py (lnD c)) = true := by simp [lnD, py, pys, PySem.W.alike, PySem.W.alikeAll]
theorem depth_ln (b : Str × Str) : (py (lnD b)).depth ≤ 60 := by simp [lnD, py, pys, PyData.depth, PyData.depthAll]
theorem lnD_inj {a b : Str × Str} (h : lnD a = lnD b) : a = b := by
  unfold lnD at h
  simp only [D.tup.injEq, List.cons.injEq, D.str.injEq, and_true] at h
  exact Prod.ext h.1 h.2
theorem erase_perm {α : Type} : ∀ (l : List α) (i : Nat) (h : i < l.length), (l[i] :: l.eraseIdx i).Perm l
  | x :: l, 0, _ => List.Perm.refl _
  | x :: l, i + 1, h => by
    have ih := erase_perm l i (by simpa using h)
    exact (List.Perm.swap x _ _).trans (ih.cons x)
theorem DVs.perm {K : PySem.W.Frag} {H : Hp} {α : Type} {f : α → D} {ys us : List V} (p : ys.Perm us) : ∀ {l : List α}, DVs K H (l.map f) us → ∃ m : List α, m.Perm l ∧ DVs K H (m.map f) ys := by
  induction p with
  | nil => intro l h; exact ⟨l, List.Perm.refl _, h⟩
  | cons x _ ih =>
    intro l h
    cases l with
    | nil => unfold List.map DVs at h; cases h
    | cons a l =>
      obtain ⟨v, r, e, q, t⟩ := h
      cases e
      obtain ⟨m, pm, d⟩ := ih t
      exact ⟨a :: m, pm.cons a, ⟨_, _, rfl, q, d⟩⟩
  | swap x y r0 =>
    intro l h
    match l, h with
    | [], h => unfold List.map DVs at h; cases h
    | [a], h =>
      obtain ⟨v, r, e, q, t⟩ := h
      cases e
      unfold List.map DVs at t; cases t
    | a :: b :: l, h =>
      obtain ⟨v, r, e, q, t⟩ := h
      cases e
      obtain ⟨v2, r2, e2, q2, t2⟩ := t
      cases e2
      exact ⟨b :: a :: l, List.Perm.swap a b l, ⟨_, _, rfl, q2, ⟨_, _, rfl, q, t2⟩⟩⟩
  | trans _ _ ih1 ih2 =>
    intro l h
    obtain ⟨m, pm, d⟩ := ih2 h
    obtain ⟨m2, pm2, d2⟩ := ih1 d
    exact ⟨m2, pm2.trans pm, d2⟩
theorem DVs.take {K : PySem.W.Frag} {H : Hp} {α : Type} {f : α → D} : ∀ {l : List α} {us : List V} (n : Nat), DVs K H (l.map f) us → DVs K H ((l.take n).map f) (us.take n)
  | _, _, 0, _ => by rw [List.take_zero, List.take_zero]; unfold List.map DVs; rfl
  | [], _, n + 1, h => by unfold List.map DVs at h; subst h; unfold List.take List.map DVs; rfl
  | x :: l, _, n + 1, h => by
    obtain ⟨v, r, rfl, q, t⟩ := h
    exact ⟨v, r.take n, rfl, q, DVs.take n t⟩
theorem DVs.drop {K : PySem.W.Frag} {H : Hp} {α : Type} {f : α → D} : ∀ {l : List α} {us : List V} (n : Nat), DVs K H (l.map f) us → DVs K H ((l.drop n).map f) (us.drop n)
  | _, _, 0, h => by rw [List.drop_zero, List.drop_zero]; exact h
  | [], _, n + 1, h => by unfold List.map DVs at h; subst h; unfold List.drop List.map DVs; rfl
  | x :: l, _, n + 1, h => by
    obtain ⟨v, r, rfl, q, t⟩ := h
    exact DVs.drop n t
end Z
namespace Z
open PySem L2 SX
/-! ### ways over links with bounds -/
abbrev Lk := List (Str × Str × Int)
def ed (L : Lk) (n : Nat) (x z : Str) : Prop := ∃ b : Int, (x, z, b) ∈ L ∧ (n : Int) + 1 ≤ b
theorem ed.anti {L : Lk} {n m : Nat} {x z : Str} (h : ed L n x z) (k : m ≤ n) : ed L m x z := by
  obtain ⟨b, m1, l⟩ := h
  exact ⟨b, m1, by omega⟩
inductive Way (L : Lk) (s : Str) : List Str → Str → Prop
  | one : Way L s [s] s
  | snoc {w : List Str} {x z : Str} : Way L s w x → ed L (w.length - 1) x z → Way L s (w ++ [z]) z
section
variable {L : Lk} {s x y z : Str} {w : List Str}
theorem Way.len (h : Way L s w y) : 1 ≤ w.length := by
  cases h with
  | one => exact Nat.le_refl _
  | snoc => rw [List.length_append]; exact Nat.le_add_left _ _
theorem Way.last (h : Way L s w y) : w.getLast? = some y := by
  cases h with
  | one => rfl
  | snoc => rw [List.getLast?_append]; rfl
theorem Way.inv (h : Way L s (w ++ [z]) y) (hw : w ≠ []) : y = z ∧ ∃ x, Way L s w x ∧ ed L (w.length - 1) x z := by
  generalize e : w ++ [z] = u at h
  cases h with
  | one =>
    have := congrArg List.length e
    rw [List.length_append] at this
    have : w.length = 0 := by simpa using this
    exact absurd (List.length_eq_zero_iff.mp this) hw
  | @snoc w' x' z' a b =>
    obtain ⟨e1, e2⟩ := List.append_inj' e rfl
    have : z = y := by simpa using e2
    subst e1 this
    exact ⟨rfl, _, a, b⟩
theorem Way.split (h : Way L s w y) (k : 2 ≤ w.length) : ∃ p x, w = p ++ [y] ∧ Way L s p x ∧ ed L (p.length - 1) x y := by
  cases h with
  | one => exact absurd k (by show ¬ 2 ≤ 1; decide)
  | snoc a b => exact ⟨_, _, rfl, a, b⟩
end
/-! ### the order of tuples of texts -/
def wlt : List Str → List Str → Bool
  | [], [] => false
  | [], _ :: _ => true
  | _ :: _, [] => false
  | a :: u, b :: v => if a = b then wlt u v else decide (tl a < tl b)
theorem wlt_self : ∀ u : List Str, wlt u u = false
  | [] => rfl
  | a :: u => by simp only [wlt, if_pos]; exact wlt_self u
theorem str_tri {a b : Str} (h : ¬ a = b) : decide (tl a < tl b) = !decide (tl b < tl a) := by
  by_cases c : tl a < tl b
  · have : ¬ tl b < tl a := fun d => List.lt_irrefl _ (List.lt_trans c d)
    simp [c, this]
  · have : tl b < tl a := by
      rcases List.le_iff_lt_or_eq.mp (List.not_lt.mp c) with d | d
      · exact d
      · exact absurd (tl_ext d.symm) h
    simp [c, this]
theorem wlt_tri : ∀ {u v : List Str}, ¬ u = v → wlt u v = !wlt v u
  | [], [], h => absurd rfl h
  | [], _ :: _, _ => rfl
  | _ :: _, [], _ => rfl
  | a :: u, b :: v, h => by
    by_cases e : a = b
    · subst e
      simp only [wlt, if_pos]
      exact wlt_tri fun e => h (by rw [e])
    · simp only [wlt]
      rw [if_neg e, if_neg fun e' => e e'.symm]
      exact str_tri e
theorem wlt_trans : ∀ {u v x : List Str}, wlt u v = true → wlt v x = true → wlt u x = true
  | [], [], _, h, _ => by cases h
  | [], _ :: _, [], _, k => by cases k
  | [], _ :: _, _ :: _, _, _ => rfl
  | _ :: _, [], _, h, _ => by cases h
  | _ :: _, _ :: _, [], _, k => by cases k
  | a :: u, b :: v, c :: x, h, k => by
    simp only [wlt] at h k ⊢
    by_cases e : a = b
    · subst e
      rw [if_pos rfl] at h
      by_cases e2 : a = c
      · rw [if_pos e2] at k ⊢; exact wlt_trans h k
      · rw [if_neg e2] at k ⊢; exact k
    · rw [if_neg e] at h
      have h' := of_decide_eq_true h
      by_cases e2 : b = c
      · subst e2
        rw [if_neg e]; exact h
      · rw [if_neg e2] at k
        have k' := of_decide_eq_true k
        rw [if_neg fun e3 => by rw [e3] at h'; exact List.lt_irrefl _ (List.lt_trans h' k')]
        exact decide_eq_true (List.lt_trans h' k')
theorem wle_trans {u v x : List Str} (h : wlt v u = false) (k : wlt x v = false) : wlt x u = false := by
  by_cases e1 : u = v
  · rw [e1]; exact k
  · by_cases e2 : v = x
    · rw [← e2]; exact h
    · have a : wlt u v = true := by rw [wlt_tri e1, h]; rfl
      have b : wlt v x = true := by rw [wlt_tri e2, k]; rfl
      have c := wlt_trans a b
      by_cases e3 : x = u
      · rw [e3]; exact wlt_self u
      · rw [wlt_tri e3, c]; rfl
theorem wlt_anti {u v : List Str} (h : wlt u v = false) (k : wlt v u = false) : u = v := by
  by_cases e : u = v
  · exact e
  · rw [wlt_tri e, k] at h; cases h
theorem wlt_snoc : ∀ {u v : List Str}, u.length = v.length → ∀ t : Str, wlt (u ++ [t]) (v ++ [t]) = wlt u v
  | [], [], _, t => by simp [wlt]
  | [], _ :: _, h, _ => by simp at h
  | _ :: _, [], h, _ => by simp at h
  | a :: u, b :: v, h, t => by
    simp only [List.cons_append, wlt]
    rw [wlt_snoc (by simpa using h) t]
def wD (w : List Str) : D := .tup (w.map D.str)
open PySem.W in
theorem wlt_data : ∀ u v : List Str, dataLt (py (wD u)) (py (wD v)) = wlt u v := by
  intro u v
  unfold wD
  rw [py, py, dataLt_tuple]
  induction u generalizing v with
  | nil =>
    cases v with
    | nil => rw [List.map_nil, pys]; exact PyProof.Rows.lex_irrefl _
    | cons b v => rw [List.map_cons, List.map_nil, pys, pys, toks_all_cons]; rw [keyToksAll]; rfl
  | cons a u ih =>
    cases v with
    | nil => rw [List.map_cons, List.map_nil, pys, pys, toks_all_cons]; rw [keyToksAll]; rfl
    | cons b v =>
      rw [List.map_cons, List.map_cons, pys, pys, dataLt_cons (by simp [py, alike]), ih v]
      have e : PyData.eqv (py (.str a)) (py (.str b)) = decide (a = b) := by simp [py, PyData.eqv]; rfl
      rw [e]
      simp only [wlt]
      by_cases c : a = b
      · rw [if_pos (decide_eq_true c), if_pos c]
      · rw [if_neg (by simpa using c), if_neg c, py, py, dataLt_str]
/-! ### the least ways -/
theorem way_mem {L : Lk} {s y : Str} {w : List Str} (h : Way L s w y) : ∀ x ∈ w, x ∈ s :: L.map (·.2.1) := by
  induction h with
  | one => intro x hx; rw [List.mem_singleton.mp hx]; simp
  | snoc _ e ih =>
    intro x hx
    rcases List.mem_append.mp hx with c | c
    · exact ih x c
    · rw [List.mem_singleton.mp c]
      obtain ⟨b, hb, _⟩ := e
      exact List.mem_cons_of_mem _ (List.mem_map_of_mem (f := (·.2.1)) hb)
/-- of finitely many texts there are finitely many rows of one length: one of them is the least -/
def rows (A : List Str) : Nat → List (List Str)
  | 0 => [[]]
  | n + 1 => (rows A n).flatMap fun w => A.map fun a => a :: w
theorem rows_all (A : List Str) : ∀ (n : Nat) (w : List Str), w.length = n → (∀ x ∈ w, x ∈ A) → w ∈ rows A n
  | 0, w, h, _ => by rw [List.length_eq_zero_iff.mp h]; simp [rows]
  | n + 1, [], h, _ => by simp at h
  | n + 1, a :: w, h, k => by
    simp only [rows, List.mem_flatMap, List.mem_map]
    exact ⟨w, rows_all A n w (by simpa using h) (fun x m => k x (List.mem_cons_of_mem _ m)), a, k a (by simp), rfl⟩
theorem least_in (P : List Str → Prop) : ∀ (l : List (List Str)), (∃ w ∈ l, P w) → ∃ m, P m ∧ m ∈ l ∧ ∀ u ∈ l, P u → wlt u m = false
  | [], h => by obtain ⟨_, m, _⟩ := h; cases m
  | w :: l, h => by
    by_cases c : ∃ u ∈ l, P u
    · obtain ⟨m, h1, h2, h3⟩ := least_in P l c
      by_cases d : P w ∧ wlt w m = true
      · refine ⟨w, d.1, by simp, fun u hu pu => ?_⟩
        rcases List.mem_cons.mp hu with e | e
        · rw [e]; exact wlt_self w
        · have mw : wlt m w = false := by
            by_cases e3 : m = w
            · rw [e3]; exact wlt_self w
            · rw [wlt_tri e3, d.2]; rfl
          exact wle_trans mw (h3 u e pu)
      · refine ⟨m, h1, List.mem_cons_of_mem _ h2, fun u hu pu => ?_⟩
        rcases List.mem_cons.mp hu with e | e
        · subst e
          cases e4 : wlt u m with
          | false => rfl
          | true => exact absurd ⟨pu, e4⟩ d
        · exact h3 u e pu
    · obtain ⟨u, hu, pu⟩ := h
      rcases List.mem_cons.mp hu with e | e
      · subst e
        refine ⟨u, pu, by simp, fun x hx px => ?_⟩
        rcases List.mem_cons.mp hx with e2 | e2
        · rw [e2]; exact wlt_self u
        · exact absurd ⟨x, e2, px⟩ c
      · exact absurd ⟨u, e, pu⟩ c
theorem least_fin (A : List Str) (n : Nat) (P : List Str → Prop) (v : List Str) (hv : P v) (hl : v.length = n) (hA : ∀ w, P w → ∀ x ∈ w, x ∈ A) : ∃ m, P m ∧ m.length = n ∧ ∀ u, P u → u.length = n → wlt u m = false := by
  obtain ⟨m, ⟨h1, h1'⟩, h2, h3⟩ := least_in (fun w => P w ∧ w.length = n) (rows A n) ⟨v, rows_all A n v hl (hA v hv), hv, hl⟩
  exact ⟨m, h1, h1', fun u pu ul => h3 u (rows_all A n u ul (hA u pu)) ⟨pu, ul⟩⟩
def Least (L : Lk) (s y : Str) (w : List Str) : Prop := Way L s w y ∧ (∀ w', Way L s w' y → w.length ≤ w'.length) ∧ ∀ w', Way L s w' y → w'.length = w.length → wlt w' w = false
theorem Least.uniq {L : Lk} {s y : Str} {w v : List Str} (h : Least L s y w) (k : Least L s y v) : w = v := by
  have e : w.length = v.length := Nat.le_antisymm (h.2.1 v k.1) (k.2.1 w h.1)
  exact wlt_anti (k.2.2 w h.1 e) (h.2.2 v k.1 e.symm)
theorem least_ex {L : Lk} {s y : Str} {w : List Str} (h : Way L s w y) : ∃ v, Least L s y v := by
  -- a shortest one
  have short : ∀ n : Nat, ∀ w, w.length ≤ n → Way L s w y → ∃ v, Way L s v y ∧ ∀ u, Way L s u y → v.length ≤ u.length := by
    intro n
    induction n with
    | zero => intro w hl hw; have := hw.len; omega
    | succ n ih =>
      intro w hl hw
      by_cases c : ∃ u, Way L s u y ∧ u.length ≤ n
      · obtain ⟨u, hu, ul⟩ := c
        exact ih u ul hu
      · refine ⟨w, hw, fun u hu => ?_⟩
        by_cases c2 : u.length ≤ n
        · exact absurd ⟨u, hu, c2⟩ c
        · omega
  obtain ⟨v, hv, hm⟩ := short w.length w (Nat.le_refl _) h
  -- of these the least one: the texts are among the ends of links
  obtain ⟨m, hm1, hm2, hm3⟩ := least_fin (s :: L.map (·.2.1)) v.length (fun w => Way L s w y) v hv rfl (fun w hw => way_mem hw)
  exact ⟨m, hm1, fun u hu => by rw [hm2]; exact hm u hu, fun u hu e => hm3 u hu (by omega)⟩
abbrev Ws := List (Str × List Str)
structure Lw (L : Lk) (s : Str) (us : List Str) (R : Ws) (k : Nat) : Prop where
  nd : (R.map (·.1)).Nodup
  us : ∀ x ∈ R, x.1 ∈ us
  ok : ∀ x ∈ R, Least L s x.1 x.2 ∧ x.2.length ≤ k + 1
  al : ∀ y w, Way L s w y → w.length ≤ k + 1 → ∃ w', (y, w') ∈ R
structure Lv1 (R : Ws) (k : Nat) (lev : List (List Str)) : Prop where
  to : ∀ w ∈ lev, ∃ y, (y, w) ∈ R ∧ w.length = k + 1
  of : ∀ x ∈ R, x.2.length = k + 1 → x.2 ∈ lev
  pw : lev.Pairwise fun a b => wlt b a = false
/-- p leads on to t -/
def edp (L : Lk) (p : List Str) (t : Str) : Prop := ∃ x, p.getLast? = some x ∧ ed L (p.length - 1) x t
structure On (L : Lk) (R : Ws) (lev : List (List Str)) (U : Ws) : Prop where
  nd : (U.map (·.1)).Nodup
  nr : ∀ x ∈ U, ∀ w, (x.1, w) ∉ R
  ok : ∀ x ∈ U, ∃ (i : Nat) (p : List Str), lev[i]? = some p ∧ x.2 = p ++ [x.1] ∧ edp L p x.1 ∧ ∀ (j : Nat) (p' : List Str), j < i → lev[j]? = some p' → ¬ edp L p' x.1
  al : ∀ p ∈ lev, ∀ t, edp L p t → (∃ w, (t, w) ∈ R) ∨ ∃ w, (t, w) ∈ U
def WaysOk (L : Lk) (s : Str) (R : Ws) : Prop := (R.map (·.1)).Nodup ∧ (∀ x ∈ R, Least L s x.1 x.2) ∧ ∀ y w, Way L s w y → ∃ w', (y, w') ∈ R
theorem Lw.start {L : Lk} {s : Str} {us : List Str} (hs : s ∈ us) : Lw L s us [(s, [s])] 0 := by
  refine ⟨by simp, fun x m => by rw [List.mem_singleton.mp m]; exact hs, fun x m => ?_, fun y w h l => ?_⟩
  · rw [List.mem_singleton.mp m]
    refine ⟨⟨.one, fun w' h => h.len, fun w' h e => ?_⟩, Nat.le_refl _⟩
    cases h with
    | one => exact wlt_self _
    | snoc a b =>
      have := a.len
      rw [List.length_append] at e
      simp only [List.length_singleton] at e
      omega
  · cases h with
    | one => exact ⟨_, List.mem_singleton.mpr rfl⟩
    | snoc a b =>
      have := a.len
      rw [List.length_append] at l
      simp only [List.length_singleton] at l
      omega
theorem Lv1.start {s : Str} : Lv1 [(s, [s])] 0 [[s]] :=
  ⟨fun w m => ⟨s, by rw [List.mem_singleton.mp m]; simp, by rw [List.mem_singleton.mp m]; rfl⟩, fun x m _ => by rw [List.mem_singleton.mp m]; simp, List.pairwise_singleton _ _⟩
section
variable {L : Lk} {s : Str} {us : List Str} {R U : Ws} {k : Nat} {lev : List (List Str)}
theorem Lw.next (h : Lw L s us R k) (v : Lv1 R k lev) (o : On L R lev U) (hu : ∀ l ∈ L, l.2.1 ∈ us) : Lw L s us (R ++ U) (k + 1) := by
  refine ⟨?_, fun x m => ?_, fun x m => ?_, fun y w hw l => ?_⟩
  · rw [List.map_append, List.nodup_append]
    refine ⟨h.nd, o.nd, fun a ha b hb e => ?_⟩
    obtain ⟨x, hx, rfl⟩ := List.mem_map.mp ha
    obtain ⟨z, hz, rfl⟩ := List.mem_map.mp hb
    exact o.nr z hz x.2 (by rw [← e]; exact hx)
  · rcases List.mem_append.mp m with c | c
    · exact h.us x c
    · obtain ⟨_, p, _, _, ⟨_, _, b, hb, _⟩, _⟩ := o.ok x c
      exact hu _ hb
  · rcases List.mem_append.mp m with c | c
    · exact ⟨(h.ok x c).1, by have := (h.ok x c).2; omega⟩
    · obtain ⟨i, p, hi, hx, ⟨y, hy, he⟩, hf⟩ := o.ok x c
      obtain ⟨y', hr, hl⟩ := v.to p (List.mem_of_getElem? hi)
      have lp := (h.ok _ hr).1
      have ey : y' = y := Option.some.inj (lp.1.last.symm.trans hy)
      subst ey
      have len : x.2.length = k + 2 := by rw [hx, List.length_append, hl]; rfl
      refine ⟨⟨by rw [hx]; exact .snoc lp.1 he, fun w' hw => ?_, fun w' hw e => ?_⟩, by omega⟩
      · by_cases c2 : w'.length ≤ k + 1
        · obtain ⟨w2, h2⟩ := h.al _ _ hw c2
          exact absurd h2 (o.nr x c w2)
        · omega
      · obtain ⟨p', x', rfl, hp', he'⟩ := hw.split (by omega)
        have lp' : p'.length = k + 1 := by rw [List.length_append] at e; simp only [List.length_singleton] at e; omega
        obtain ⟨q, hq⟩ := h.al _ _ hp' (by omega)
        have lq := (h.ok _ hq).1
        have l2 := (h.ok _ hq).2
        simp only at lq l2
        have ql := lq.1.len
        have eq : q.length = k + 1 := by
          by_cases c2 : q.length = k + 1
          · exact c2
          · obtain ⟨w2, h2⟩ := h.al x.1 (q ++ [x.1]) (.snoc lq.1 (he'.anti (by omega))) (by rw [List.length_append]; simp only [List.length_singleton]; omega)
            exact absurd h2 (o.nr x c w2)
        have mq := v.of _ hq eq
        obtain ⟨j, hj⟩ := List.getElem?_of_mem mq
        have eq2 : edp L q x.1 := ⟨x', lq.1.last, by rw [eq]; rw [lp'] at he'; exact he'⟩
        have ij : i ≤ j := by
          rcases Nat.lt_or_ge j i with c2 | c2
          · exact absurd eq2 (hf j q c2 hj)
          · exact c2
        have l3 : wlt q p = false := by
          rcases Nat.lt_or_eq_of_le ij with c2 | c2
          · exact pw_get (r := fun a b => wlt b a = false) v.pw hi hj c2
          · subst c2; rw [hi] at hj; rw [Option.some.inj hj]; exact wlt_self _
        have l4 : wlt p' q = false := lq.2.2 p' hp' (by omega)
        rw [hx, wlt_snoc (by omega)]
        exact wle_trans l3 l4
  · by_cases c : w.length ≤ k + 1
    · obtain ⟨w2, h2⟩ := h.al _ _ hw c
      exact ⟨w2, List.mem_append_left _ h2⟩
    · obtain ⟨p', x', rfl, hp', he'⟩ := hw.split (by omega)
      have lp' : p'.length = k + 1 := by rw [List.length_append] at l c; simp only [List.length_singleton] at l c; omega
      obtain ⟨q, hq⟩ := h.al _ _ hp' (by omega)
      have lq := (h.ok _ hq).1
      have l2 := (h.ok _ hq).2
      simp only at lq l2
      have ql := lq.1.len
      by_cases c2 : q.length = k + 1
      · have eq2 : edp L q y := ⟨x', lq.1.last, by rw [c2]; rw [lp'] at he'; exact he'⟩
        rcases o.al q (v.of _ hq c2) y eq2 with ⟨w2, h2⟩ | ⟨w2, h2⟩
        · exact ⟨w2, List.mem_append_left _ h2⟩
        · exact ⟨w2, List.mem_append_right _ h2⟩
      · obtain ⟨w2, h2⟩ := h.al y (q ++ [y]) (.snoc lq.1 (he'.anti (by omega))) (by rw [List.length_append]; simp only [List.length_singleton]; omega)
        exact ⟨w2, List.mem_append_left _ h2⟩
theorem Lw.lvl (h : Lw L s us R k) (o : On L R lev U) (v : Lv1 R k lev) {lev' : List (List Str)} (pm : lev'.Perm (U.map (·.2))) (pw : lev'.Pairwise fun a b => wlt b a = false) : Lv1 (R ++ U) (k + 1) lev' := by
  refine ⟨fun w m => ?_, fun x m e => ?_, pw⟩
  · obtain ⟨x, hx, rfl⟩ := List.mem_map.mp (pm.mem_iff.mp m)
    obtain ⟨i, p, hi, e, _⟩ := o.ok x hx
    obtain ⟨_, _, hl⟩ := v.to p (List.mem_of_getElem? hi)
    exact ⟨x.1, List.mem_append_right _ hx, by rw [e, List.length_append, hl]; rfl⟩
  · rcases List.mem_append.mp m with c | c
    · have := (h.ok x c).2; omega
    · exact pm.mem_iff.mpr (List.mem_map_of_mem (f := (·.2)) c)
theorem Lw.fin (h : Lw L s us R k) (v : Lv1 R k []) (hs : ∃ w, (s, w) ∈ R) : WaysOk L s R := by
  refine ⟨h.nd, fun x m => (h.ok x m).1, fun y w hw => ?_⟩
  induction hw with
  | one => exact hs
  | @snoc w x z a b ih =>
    obtain ⟨q, hq⟩ := ih
    have lq := (h.ok _ hq)
    simp only at lq
    have ql := lq.1.1.len
    have le := lq.1.2.1 w a
    have : q.length ≠ k + 1 := fun e => by have := v.of _ hq e; cases this
    exact h.al z (q ++ [z]) (.snoc lq.1.1 (b.anti (by omega))) (by rw [List.length_append]; simp only [List.length_singleton]; omega)
theorem Lw.len (h : Lw L s us R k) : R.length ≤ us.length := by
  have := nodup_len h.nd (m := us) fun x m => by
    obtain ⟨p, hp, rfl⟩ := List.mem_map.mp m
    exact h.us p hp
  rwa [List.length_map] at this
end
/-- what was found so far from a level -/
structure OnI (L : Lk) (R : Ws) (lev : List (List Str)) (U : Ws) (dn : List Str → Str → Prop) : Prop where
  nd : (U.map (·.1)).Nodup
  nr : ∀ x ∈ U, ∀ w, (x.1, w) ∉ R
  ok : ∀ x ∈ U, ∃ (i : Nat) (p : List Str), lev[i]? = some p ∧ x.2 = p ++ [x.1] ∧ edp L p x.1 ∧ ∀ (j : Nat) (p' : List Str), j < i → lev[j]? = some p' → ¬ edp L p' x.1
  al : ∀ p t, dn p t → (∃ w, (t, w) ∈ R) ∨ ∃ w, (t, w) ∈ U
section
variable {L : Lk} {R U : Ws} {lev : List (List Str)} {dn : List Str → Str → Prop}
theorem OnI.start (h : ∀ p t, ¬ dn p t) : OnI L R lev [] dn := ⟨List.nodup_nil, (fun _ m => by cases m), (fun _ m => by cases m), fun p t d => absurd d (h p t)⟩
theorem OnI.mono (h : OnI L R lev U dn) {dn' : List Str → Str → Prop} (m : ∀ p t, dn' p t → dn p t ∨ (∃ w, (t, w) ∈ R) ∨ ∃ w, (t, w) ∈ U) : OnI L R lev U dn' :=
  ⟨h.nd, h.nr, h.ok, fun p t d => (m p t d).elim (h.al p t) id⟩
theorem OnI.add (h : OnI L R lev U dn) {i : Nat} {p : List Str} {t : Str} (hi : lev[i]? = some p) (he : edp L p t) (hR : ∀ w, (t, w) ∉ R) (hU : ∀ w, (t, w) ∉ U) (hd : ∀ a, a ∈ lev.take i → edp L a t → dn a t) {dn' : List Str → Str → Prop} (m : ∀ a b, dn' a b → dn a b ∨ b = t) :
    OnI L R lev (U ++ [(t, p ++ [t])]) dn' := by
  refine ⟨?_, fun x hx => ?_, fun x hx => ?_, fun a b d => ?_⟩
  · rw [List.map_append, List.nodup_append]
    refine ⟨h.nd, by simp, fun a ha b hb e => ?_⟩
    have : b = t := by simpa using hb
    obtain ⟨x, hx, rfl⟩ := List.mem_map.mp ha
    exact hU x.2 (by rw [← this, ← e]; exact hx)
  · rcases List.mem_append.mp hx with c | c
    · exact h.nr x c
    · rw [List.mem_singleton.mp c]; exact hR
  · rcases List.mem_append.mp hx with c | c
    · exact h.ok x c
    · rw [List.mem_singleton.mp c]
      refine ⟨i, p, hi, rfl, he, fun j p' hj hp' hb => ?_⟩
      have il := (List.getElem?_eq_some_iff.mp hi).1
      have : p' ∈ lev.take i := List.mem_of_getElem? (i := j) (by rw [List.getElem?_take_of_lt hj]; exact hp')
      rcases h.al p' t (hd p' this hb) with ⟨w, q⟩ | ⟨w, q⟩
      · exact hR w q
      · exact hU w q
  · rcases m a b d with c | c
    · rcases h.al a b c with q | ⟨w, q⟩
      · exact .inl q
      · exact .inr ⟨w, List.mem_append_left _ q⟩
    · exact .inr ⟨p ++ [t], by rw [c]; simp⟩
theorem OnI.fin (h : OnI L R lev U fun a t => a ∈ lev ∧ edp L a t) : On L R lev U := ⟨h.nd, h.nr, h.ok, fun p hp t he => h.al p t ⟨hp, he⟩⟩
/-- each found name is the end of a link -/
theorem OnI.len (h : OnI L R lev U dn) : U.length ≤ L.length := by
  have := nodup_len h.nd (m := L.map (·.2.1)) fun x m => by
    obtain ⟨z, hz, rfl⟩ := List.mem_map.mp m
    obtain ⟨_, _, _, _, ⟨_, _, b, hb, _⟩, _⟩ := h.ok z hz
    exact List.mem_map_of_mem (f := (·.2.1)) hb
  rwa [List.length_map, List.length_map] at this
end
end Z
namespace Z
open PySem L2 SX
/-! ### zip of two tuples, the first one not longer -/
theorem lc_zipT {K : PySem.W.Frag} {a b : Addr} {xs ys : List V} {g : TG} {tt : TT} {te : TE} {vs : List Nat} {σ : L2.St} {H1 : Hp} {D : Addr} {Qd : Hp → Prop} (hn : xs.length ≤ ys.length) (Pv : Nat → Hp → Prop) (h0 : Pv 0 (upd H1 D (.lst []))) (hl : ∀ i H, i ≤ xs.length → Pv i H → SqT K H a xs ∧ SqT K H b ys)
    (hs : ∀ i x y T H, xs[i]? = some x → ys[i]? = some y → Pv i H → H T = none → g (.ref T) (wipe σ vs) (upd H T (.tup [x, y])) fun σ2 H2 => wipe σ2 vs = wipe σ vs ∧ tt σ2 H2 fun b H3 =>
      if b = true then te σ2 H3 fun y H4 => ∃ acc, H4 D = some (.lst acc) ∧ acc.length < sizeLine ∧ Pv (i + 1) (upd H4 D (.lst (acc ++ [y]))) else Pv (i + 1) H3) (hd : ∀ H, Pv xs.length H → Qd H) :
    ∃ W : Nat → Nat → Hp → Prop, (∃ m, W 0 m (upd H1 D (.lst []))) ∧ ∀ i m H, W i m H →
      ((RZ.ItzT K a b).stop i H ∧ Qd H) ∨ ((RZ.ItzT K a b).go i H ∧ ∃ Nx : Hp → Prop, (∀ H', Nx H' → ∃ m', m' < m ∧ W (i + 1) m' H') ∧ ∀ x H', (RZ.ItzT K a b).yld i H x H' → g x (wipe σ vs) H' fun σ2 H2 => wipe σ2 vs = wipe σ vs ∧ tt σ2 H2 fun b H3 =>
        if b = true then te σ2 H3 fun y H4 => ∃ acc, H4 D = some (.lst acc) ∧ acc.length < sizeLine ∧ Nx (upd H4 D (.lst (acc ++ [y]))) else Nx H3) := by
  refine ⟨fun i m H => m = xs.length - i ∧ i ≤ xs.length ∧ Pv i H, ⟨xs.length, by simp, Nat.zero_le _, h0⟩, ?_⟩
  rintro i m H ⟨rfl, hi, p⟩
  obtain ⟨qx, qy⟩ := hl i H hi p
  by_cases lt : i < xs.length
  · have hx := List.getElem?_eq_getElem lt
    have hy := List.getElem?_eq_getElem (show i < ys.length by omega)
    refine .inr ⟨⟨xs, ys, _, _, qx, qy, hx, hy⟩, Pv (i + 1), fun H' p' => ⟨xs.length - (i + 1), by omega, rfl, lt, p'⟩, fun v H' y => ?_⟩
    obtain ⟨T, x', y', rfl, hT, rfl, f1, f2⟩ := y
    exact hs i x' y' T H (f1 xs qx) (f2 ys qy) p hT
  · have e : i = xs.length := by omega
    subst e
    exact .inl ⟨⟨xs, ys, qx, qy, Or.inl (Nat.le_refl _)⟩, hd H p⟩
theorem for_zipU {K : PySem.W.Frag} {a b : Addr} {xs ys : List V} {g : TG} {tb : TS} {D : Ends} {σ : L2.St} {H : Hp} (hl : xs.length ≤ ys.length) (Pv : Nat → L2.St → Hp → Prop) (h0 : Pv 0 σ H) (hq : ∀ i σ H, Pv i σ H → SqT K H a xs ∧ SqT K H b ys)
    (hs : ∀ (i : Nat) (x y : V) (T : Addr) (σ : L2.St) (H : Hp), xs[i]? = some x → ys[i]? = some y → Pv i σ H → H T = none → g (.ref T) σ (upd H T (.tup [x, y])) fun σ2 H2 => tb { D with nx := Pv (i + 1), ct := Pv (i + 1), bk := D.nx } σ2 H2) (hd : ∀ σ H, Pv xs.length σ H → D.nx σ H) :
    ∃ W : Nat → Nat → L2.St → Hp → Prop, (∃ m, W 0 m σ H) ∧ ∀ i m σ H, W i m σ H →
      ((RZ.ItzT K a b).stop i H ∧ D.nx σ H) ∨ ((RZ.ItzT K a b).go i H ∧ ∃ N : L2.St → Hp → Prop, (∀ σ' H', N σ' H' → ∃ m', m' < m ∧ W (i + 1) m' σ' H') ∧ ∀ v H', (RZ.ItzT K a b).yld i H v H' → g v σ H' fun σ2 H2 => tb { D with nx := N, ct := N, bk := D.nx } σ2 H2) := by
  refine ⟨fun i m σ H => m = xs.length - i ∧ i ≤ xs.length ∧ Pv i σ H, ⟨xs.length, rfl, Nat.zero_le _, h0⟩, ?_⟩
  rintro i m σ H ⟨rfl, hi, p⟩
  obtain ⟨qx, qy⟩ := hq i σ H p
  by_cases hlt : i < xs.length
  · have hx : xs[i]? = some xs[i] := List.getElem?_eq_getElem hlt
    have hlt2 : i < ys.length := by omega
    have hy : ys[i]? = some ys[i] := List.getElem?_eq_getElem hlt2
    refine .inr ⟨⟨xs, ys, _, _, qx, qy, hx, hy⟩, Pv (i + 1), fun σ' H' p' => ⟨xs.length - (i + 1), by omega, rfl, hlt, p'⟩, fun v H' y => ?_⟩
    obtain ⟨T, x', y', rfl, hT, rfl, f1, f2⟩ := y
    exact hs i x' y' T σ H (f1 xs qx) (f2 ys qy) p hT
  · have e : i = xs.length := by omega
    subst e
    exact .inl ⟨⟨xs, ys, qx, qy, Or.inl (Nat.le_refl _)⟩, hd σ H p⟩
/-! ### books with feeds, kinds -/
structure NB (b : Bk) : Prop where
  ok : BkOk b
  nd : (nms b).Nodup
  ne : b.si ≠ []
  gt : (b.fd.map fun f => (f.g, f.t)).Nodup
  fe : ∀ f ∈ b.fd, f.g ∈ nms b ∧ f.t ∈ nms b
  fp : ∀ f ∈ b.fd, (tl f.p).length ≤ 3000
structure Ki where
  o : Str
  bs : List Str
  z : Int
def kiD (k : Ki) : D := .tup [.str (Str.ofString "kind"), .str k.o, .tup (k.bs.map D.str), .int k.z]
structure KiOk (b : Bk) (k : Ki) : Prop where
  bl : k.bs.length ≤ 1000
  bc : ∀ d ∈ k.bs, Clean (tl d)
  on : k.o ∈ nms b
noncomputable def letsP (p : Str) (bs : List Str) : Bool := bs.any fun b => letsL (parts (tl p)) (tl b)
noncomputable def carL (b : Bk) (bs : List Str) : List Str := (b.si.filter fun s => letsP s.p bs).map (·.n)
noncomputable def lkL (b : Bk) (bs : List Str) (z : Int) : Lk := (b.fd.filter fun f => letsP f.p bs && decide (z ≤ f.z) && decide (f.t ∈ carL b bs)).map fun f => (f.g, f.t, f.h)
def lkD (l : Str × Str × Int) : D := .tup [.str l.1, .str l.2.1, .int l.2.2]
noncomputable def bit (c : Bool) : Int := if c = true then 1 else 0
noncomputable def seenL (b : Bk) (bs : List Str) : List Int := (b.si.map fun s => bit (letsP s.p bs)) ++ b.fd.map fun f => bit (letsP f.p bs)
theorem car_sub {b : Bk} {bs : List Str} {x : Str} (h : x ∈ carL b bs) : x ∈ nms b := by
  unfold carL at h
  obtain ⟨s, hs, rfl⟩ := List.mem_map.mp h
  exact List.mem_map_of_mem (f := (·.n)) (List.mem_filter.mp hs).1
theorem lk_car {b : Bk} {bs : List Str} {z : Int} {l : Str × Str × Int} (h : l ∈ lkL b bs z) : l.2.1 ∈ carL b bs := by
  unfold lkL at h
  obtain ⟨f, hf, rfl⟩ := List.mem_map.mp h
  have := (List.mem_filter.mp hf).2
  simp only [Bool.and_eq_true, decide_eq_true_eq] at this
  exact this.2
theorem lk_len (b : Bk) (bs : List Str) (z : Int) : (lkL b bs z).length ≤ b.fd.length := by
  unfold lkL; rw [List.length_map]; exact List.length_filter_le _ _
/-- what a site's ways are: none where it does not carry -/
def WF (L : Lk) (s : Str) (us : List Str) (R : Ws) : Prop := (s ∈ us → WaysOk L s R) ∧ (s ∉ us → R = [])
/-! ### dicts of ways -/
abbrev Tr := List (Str × List Str × V)
def kvT (T : Tr) : List (Key × V) := T.map fun x => (Sum.inr x.1, x.2.2)
def rT (T : Tr) : Ws := T.map fun x => (x.1, x.2.1)
def OkT (K : PySem.W.Frag) (H : Hp) (T : Tr) : Prop := ∀ x ∈ T, DV K H (wD x.2.1) x.2.2
theorem OkT.tk {K : PySem.W.Frag} {H H' : Hp} {T : Tr} (h : OkT K H T) (t : TK K H H') : OkT K H' T := fun x m => (h x m).tk t
theorem rT_app (T U : Tr) : rT (T ++ U) = rT T ++ rT U := List.map_append
theorem kvT_len (T : Tr) : (kvT T).length = T.length := List.length_map _
theorem rT_names (T : Tr) : (rT T).map (·.1) = T.map (·.1) := by unfold rT; rw [List.map_map]; rfl
theorem kvT_none {T : Tr} {y : Str} (h : ∀ w, (y, w) ∉ rT T) : valV (kvT T) (Sum.inr y : Key) = none := by
  unfold valV kvT
  rw [Option.map_eq_none_iff, List.find?_eq_none]
  intro kv m e
  obtain ⟨p, hp, rfl⟩ := List.mem_map.mp m
  have : p.1 = y := Sum.inr.inj (of_decide_eq_true e)
  exact h p.2.1 (by rw [← this]; exact List.mem_map_of_mem (f := fun x : Str × List Str × V => (x.1, x.2.1)) hp)
theorem kvT_some {y : Str} {w : List Str} {v : V} : ∀ {T : Tr}, (T.map (·.1)).Nodup → (y, w, v) ∈ T → valV (kvT T) (Sum.inr y : Key) = some v
  | [], _, m => by cases m
  | p :: T, nd, m => by
    obtain ⟨n1, n2⟩ := List.nodup_cons.mp nd
    show valV ((Sum.inr p.1, p.2.2) :: kvT T) _ = _
    rcases List.mem_cons.mp m with e | e
    · subst e; exact valV_pos rfl
    · rw [valV_neg fun z => n1 (by
        have : p.1 = y := Sum.inr.inj z
        show p.1 ∈ _
        rw [this]; exact List.mem_map_of_mem (f := fun x : Str × List Str × V => x.1) e)]
      exact kvT_some n2 e
theorem kvT_is {y : Str} {w : List Str} {v : V} : ∀ {T : Tr}, (y, w, v) ∈ T → (valV (kvT T) (Sum.inr y : Key)).isSome = true
  | [], m => by cases m
  | p :: T, m => by
    show (valV ((Sum.inr p.1, p.2.2) :: kvT T) _).isSome = _
    by_cases e : p.1 = y
    · rw [valV_pos (by show Sum.inr p.1 = _; rw [e])]; rfl
    · rw [valV_neg fun z => e (Sum.inr.inj z)]
      rcases List.mem_cons.mp m with c | c
      · subst c; exact absurd rfl e
      · exact kvT_is c
theorem dvs_strs {K : PySem.W.Frag} {H : Hp} : ∀ {w : List Str} {us : List V}, DVs K H (w.map D.str) us → us = w.map V.str
  | [], _, h => by unfold List.map DVs at h; exact h
  | x :: w, _, h => by
    obtain ⟨v, r, rfl, q, t⟩ := h
    unfold DV at q
    rw [q, dvs_strs t]; rfl
theorem kvT_ex {T : Tr} {y : Str} {w : List Str} (h : (y, w) ∈ rT T) : ∃ v, (y, w, v) ∈ T := by
  obtain ⟨p, hp, e⟩ := List.mem_map.mp h
  obtain ⟨e1, e2⟩ := Prod.mk.inj e
  exact ⟨p.2.2, by rw [← e1, ← e2]; exact hp⟩
theorem kvT_put {T : Tr} {y : Str} {w : List Str} {v : V} (h : ∀ w, (y, w) ∉ rT T) : putK (kvT T) (Sum.inr y : Key) v = kvT (T ++ [(y, w, v)]) := by
  rw [putK_new _ (kvT_none h)]
  unfold kvT
  rw [List.map_append]; rfl
theorem kvT_merge : ∀ {U T : Tr}, ((T ++ U).map (·.1)).Nodup → mergeK (kvT T) (kvT U) = kvT (T ++ U)
  | [], T, _ => by rw [List.append_nil]; rfl
  | u :: U, T, nd => by
    have e : T ++ u :: U = (T ++ [u]) ++ U := by simp
    rw [e] at nd
    have no : ∀ w, (u.1, w) ∉ rT T := fun w m => by
      obtain ⟨v, hv⟩ := kvT_ex m
      rw [List.map_append, List.map_append] at nd
      have := (List.nodup_append.mp (List.nodup_append.mp nd).1).2.2 u.1 (by have := List.mem_map_of_mem (f := fun x : Str × List Str × V => x.1) hv; exact this) u.1 (by simp)
      exact this rfl
    show mergeK (putK (kvT T) (Sum.inr u.1) u.2.2) (kvT U) = _
    rw [kvT_put (w := u.2.1) no, kvT_merge (U := U) nd, e]
theorem kvT_dvs {K : PySem.W.Frag} {H : Hp} {T : Tr} (h : OkT K H T) : DVs K H (T.map fun x => wD x.2.1) ((kvT T).map (·.2)) := by
  unfold kvT
  rw [List.map_map]
  exact DVs.of_all h
/-! ### promises -/
def sp_patts (K : PySem.W.Frag) : Sp := fun vs H Q _ => ∃ (b : Bk) (v : V), vs = [v] ∧ DV K H (bkD b) v ∧ BkOk b ∧ ∀ (t : Addr) (H' : Hp), Same H H' → SqT K H' t ((b.si.map (·.p) ++ b.fd.map (·.p)).map V.str) → Q (.ref t) H'
def sp_bsight (K : PySem.W.Frag) : Sp := fun vs H Q _ => ∃ (b : Bk) (v : V) (a : Addr) (bs : List Str), vs = [v, .ref a] ∧ DV K H (bkD b) v ∧ NB b ∧ SqT K H a (bs.map V.str) ∧ bs.length ≤ 1000 ∧ (∀ d ∈ bs, Clean (tl d)) ∧ ∀ (t : Addr) (H' : Hp), Same H H' → SqT K H' t ((seenL b bs).map V.int) → Q (.ref t) H'
def sp_carriers (K : PySem.W.Frag) : Sp := fun vs H Q _ => ∃ (b : Bk) (v : V) (t : Addr) (bs : List Str), vs = [v, .ref t] ∧ DV K H (bkD b) v ∧ NB b ∧ SqT K H t ((seenL b bs).map V.int) ∧ ∀ (p : Addr) (H' : Hp), H p = none → Same H H' → H' p = some (.lst ((carL b bs).map V.str)) → Q (.ref p) H'
def sp_links (K : PySem.W.Frag) : Sp := fun vs H Q _ => ∃ (b : Bk) (v : V) (t : Addr) (bs : List Str) (z : Int), vs = [v, .ref t, .int z] ∧ DV K H (bkD b) v ∧ NB b ∧ SqT K H t ((seenL b bs).map V.int) ∧ ∀ (u : V) (H' : Hp), Same H H' → DV K H' (.tup ((lkL b bs z).map lkD)) u → Q u H'
def sp_ways_on (K : PySem.W.Frag) : Sp := fun vs H Q _ => ∃ (l r : Addr) (k : V) (us : List V) (lev : List (List Str)) (L : Lk) (T : Tr), vs = [.ref l, k, .ref r] ∧ H l = some (.lst us) ∧ DVs K H (lev.map wD) us ∧ DV K H (.tup (L.map lkD)) k ∧ H r = some (.dK (kvT T)) ∧ L.length ≤ 100 ∧ (∀ w ∈ lev, w ≠ [] ∧ w.length ≤ 100) ∧
  ∀ (q : Addr) (U : Tr) (H' : Hp), H q = none → Same H H' → H' q = some (.dK (kvT U)) → OkT K H' U → On L (rT T) lev (rT U) → Q (.ref q) H'
def sp_ways_from (K : PySem.W.Frag) : Sp := fun vs H Q _ => ∃ (o : Str) (n : Addr) (k : V) (us : List Str) (L : Lk), vs = [.str o, .ref n, k] ∧ H n = some (.lst (us.map V.str)) ∧ us.length ≤ 20 ∧ DV K H (.tup (L.map lkD)) k ∧ L.length ≤ 100 ∧ (∀ l ∈ L, l.2.1 ∈ us) ∧
  ∀ (q : Addr) (T : Tr) (H' : Hp), H q = none → Same H H' → H' q = some (.dK (kvT T)) → OkT K H' T → WF L o us (rT T) → (T.map (·.1)).Nodup → (∀ x ∈ T, x.1 ∈ us) → Q (.ref q) H'
def sp_ways_of (K : PySem.W.Frag) : Sp := fun vs H Q _ => ∃ (b : Bk) (v u : V) (k : Ki), vs = [v, u] ∧ DV K H (bkD b) v ∧ NB b ∧ DV K H (kiD k) u ∧ KiOk b k ∧
  ∀ (q : Addr) (T : Tr) (H' : Hp), H q = none → Same H H' → H' q = some (.dK (kvT T)) → OkT K H' T → WF (lkL b k.bs k.z) k.o (carL b k.bs) (rT T) → (T.map (·.1)).Nodup → (∀ x ∈ T, x.1 ∈ carL b k.bs) → Q (.ref q) H'
theorem alike_ws : ∀ u v : List Str, PySem.W.alikeAll (pys (u.map D.str)) (pys (v.map D.str)) = true
  | [], [] => by simp [pys, PySem.W.alikeAll]
  | [], _ :: _ => by simp [pys, PySem.W.alikeAll]
  | _ :: _, [] => by simp [pys, PySem.W.alikeAll]
  | a :: u, b :: v => by
    rw [List.map_cons, List.map_cons, pys, pys, PySem.W.alikeAll, alike_ws u v]
    simp [py, PySem.W.alike]
theorem alike_w (u v : List Str) : PySem.W.alike (py (wD u)) (py (wD v)) = true := by
  unfold wD
  rw [py, py, PySem.W.alike]
  exact alike_ws u v
theorem depth_ws : ∀ u : List Str, PyData.depthAll (pys (u.map D.str)) = 0
  | [] => by simp [pys, PyData.depthAll]
  | a :: u => by
    rw [List.map_cons, pys, PyData.depthAll, depth_ws u]
    simp [py, PyData.depth]
theorem depth_w (u : List Str) : (py (wD u)).depth ≤ 60 := by
  unfold wD
  rw [py, PyData.depth, depth_ws]; omega
theorem so_way {L : Lk} {R : Ws} {lev : List (List Str)} {U : Tr} (on : On L R lev (rT U)) : PySem.W.Sortable (U.map fun x => py (wD x.2.1)) := .inl fun d hd => by
  obtain ⟨x, hx, rfl⟩ := List.mem_map.mp hd
  obtain ⟨i, p, _, e, _⟩ := on.ok (x.1, x.2.1) (List.mem_map_of_mem (f := fun x : Str × List Str × V => (x.1, x.2.1)) hx)
  simp only at e
  rw [e]
  unfold wD
  cases p with
  | nil => exact ⟨_, _, by rw [List.nil_append, List.map_cons, py, pys]⟩
  | cons a p => exact ⟨_, _, by rw [List.cons_append, List.map_cons, py, pys]⟩
/-- a least way has no more sites than there are -/
theorem way_len_us {L : Lk} {s y : Str} {us : List Str} {w : List Str} (hs : s ∈ us) (hu : ∀ l ∈ L, l.2.1 ∈ us) (h : Least L s y w) : w.length ≤ us.length := by
  suffices k : ∀ (n : Nat) (w : List Str) (y : Str), w.length = n → Least L s y w → ∃ l : List Str, l.length = n ∧ l.Nodup ∧ ∀ x ∈ l, x ∈ us ∧ ∃ v, v.length ≤ n ∧ Least L s x v by
    obtain ⟨l, h1, h2, h3⟩ := k w.length w y rfl h
    have := nodup_len h2 fun x m => (h3 x m).1
    omega
  intro n
  induction n using Nat.strongRecOn with
  | ind n ih =>
    intro w y hn h
    by_cases c : 2 ≤ w.length
    · obtain ⟨p, x, e, hp, he⟩ := h.1.split c
      have lp : p.length + 1 = n := by rw [← hn, e, List.length_append]; rfl
      obtain ⟨q, hq⟩ := least_ex hp
      have ql : q.length = p.length := by
        have a := hq.2.1 p hp
        have ql1 := hq.1.len
        have b := h.2.1 (q ++ [y]) (.snoc hq.1 (he.anti (by omega)))
        rw [List.length_append, List.length_singleton] at b
        omega
      obtain ⟨l, h1, h2, h3⟩ := ih q.length (by omega) q x rfl hq
      refine ⟨y :: l, by rw [List.length_cons, h1]; omega, List.nodup_cons.mpr ⟨fun m => ?_, h2⟩, fun z hz => ?_⟩
      · obtain ⟨_, v, hv, lv⟩ := h3 y m
        have := h.2.1 v lv.1
        omega
      · rcases List.mem_cons.mp hz with e2 | e2
        · rw [e2]
          obtain ⟨b, hb, _⟩ := he
          exact ⟨hu _ hb, w, by omega, h⟩
        · obtain ⟨a, v, hv, lv⟩ := h3 z e2
          exact ⟨a, v, by omega, lv⟩
    · have := h.1.len
      have e1 : n = 1 := by omega
      subst e1
      cases h.1 with
      | one => exact ⟨[s], rfl, by simp, fun x hx => by rw [List.mem_singleton.mp hx]; exact ⟨hs, _, by omega, h⟩⟩
      | snoc a b => have := a.len; rw [List.length_append, List.length_singleton] at hn; omega
/-! ### hops -/
abbrev Hs := List (Str × Nat)
def HopsOk (L : Lk) (s : Str) (us : List Str) (F : Hs) : Prop := (F.map (·.1)).Nodup ∧ (s ∈ us → (∀ x ∈ F, ∃ w, Least L s x.1 w ∧ w.length = x.2 + 1) ∧ ∀ y w, Way L s w y → ∃ d, (y, d) ∈ F) ∧ (s ∉ us → F = [])
theorem HopsOk.mem {L : Lk} {s : Str} {us : List Str} {F G : Hs} (h : HopsOk L s us F) (k : HopsOk L s us G) : ∀ x, x ∈ F → x ∈ G := fun x hx => by
  by_cases c : s ∈ us
  · obtain ⟨w, hw, e⟩ := (h.2.1 c).1 x hx
    obtain ⟨d, hd⟩ := (k.2.1 c).2 x.1 w hw.1
    obtain ⟨v, hv, e2⟩ := (k.2.1 c).1 _ hd
    have := hw.uniq hv
    subst this
    have : d = x.2 := by simp only at e2; omega
    rw [this] at hd; exact hd
  · rw [h.2.2 c] at hx; cases hx
theorem hops_of_ways {L : Lk} {s : Str} {us : List Str} {R : Ws} (nd : (R.map (·.1)).Nodup) (h : WF L s us R) : HopsOk L s us (R.map fun x => (x.1, x.2.length - 1)) := by
  refine ⟨by rw [List.map_map]; exact nd, fun c => ⟨fun x hx => ?_, fun y w hw => ?_⟩, fun c => by rw [h.2 c]; rfl⟩
  · obtain ⟨z, hz, rfl⟩ := List.mem_map.mp hx
    have l := (h.1 c).2.1 z hz
    exact ⟨z.2, l, by have := l.1.len; show _ = _ - 1 + 1; omega⟩
  · obtain ⟨w', hw'⟩ := (h.1 c).2.2 y w hw
    exact ⟨_, List.mem_map_of_mem (f := fun x : Str × List Str => (x.1, x.2.length - 1)) hw'⟩
def prN (x : Str × Nat) : D := .tup [.str x.1, .int (x.2 : Nat)]
def hD : Option Nat → D
  | none => .non
  | some d => .int (d : Nat)
def lookF (F : Hs) (y : Str) : Option Nat := (F.find? fun x => decide (x.1 = y)).map (·.2)
theorem lookF_some {y : Str} {d : Nat} : ∀ {F : Hs}, (F.map (·.1)).Nodup → (y, d) ∈ F → lookF F y = some d
  | [], _, m => by cases m
  | p :: F, nd, m => by
    obtain ⟨n1, n2⟩ := List.nodup_cons.mp nd
    unfold lookF
    by_cases e : p.1 = y
    · rw [List.find?_cons_of_pos (by simpa using e)]
      rcases List.mem_cons.mp m with c | c
      · subst c; rfl
      · exact absurd (by show p.1 ∈ _; rw [e]; exact List.mem_map_of_mem (f := (·.1)) c) n1
    · rw [List.find?_cons_of_neg (by simpa using e)]
      rcases List.mem_cons.mp m with c | c
      · subst c; exact absurd rfl e
      · exact lookF_some n2 c
theorem lookF_none {F : Hs} {y : Str} (h : ∀ d, (y, d) ∉ F) : lookF F y = none := by
  unfold lookF
  rw [Option.map_eq_none_iff, List.find?_eq_none]
  intro x hx e
  exact h x.2 (by rw [← of_decide_eq_true e]; exact hx)
theorem HopsOk.look {L : Lk} {s : Str} {us : List Str} {F G : Hs} (h : HopsOk L s us F) (k : HopsOk L s us G) (y : Str) : lookF F y = lookF G y := by
  by_cases c : ∃ d, (y, d) ∈ F
  · obtain ⟨d, hd⟩ := c
    rw [lookF_some h.1 hd, lookF_some k.1 (h.mem k _ hd)]
  · rw [lookF_none fun d hd => c ⟨d, hd⟩, lookF_none fun d hd => c ⟨d, k.mem h _ hd⟩]
theorem pw_eq {α : Type} {r : α → α → Prop} (an : ∀ a b, r a b → r b a → a = b) : ∀ {l m : List α}, l.Perm m → l.Pairwise r → m.Pairwise r → l = m
  | [], m, p, _, _ => p.nil_eq
  | y :: l, [], p, _, _ => absurd p.symm.nil_eq (by simp)
  | y :: l, z :: m, p, hy, hz => by
    obtain ⟨y1, y2⟩ := List.pairwise_cons.mp hy
    obtain ⟨z1, z2⟩ := List.pairwise_cons.mp hz
    have e : y = z := by
      rcases List.mem_cons.mp (p.mem_iff.mp (List.mem_cons_self (a := y))) with e | e
      · exact e
      · rcases List.mem_cons.mp (p.mem_iff.mpr (List.mem_cons_self (a := z))) with e2 | e2
        · exact e2.symm
        · exact an _ _ (y1 z e2) (z1 y e)
    subst e
    rw [pw_eq an ((List.perm_cons y).mp p) y2 z2]
theorem alike_prN (a b : Str × Nat) : PySem.W.alike (py (prN a)) (py (prN b)) = true := by simp [prN, py, pys, PySem.W.alike, PySem.W.alikeAll]
theorem depth_prN (b : Str × Nat) : (py (prN b)).depth ≤ 60 := by simp [prN, py, pys, PyData.depth, PyData.depthAll]
theorem prN_inj {a b : Str × Nat} (h : prN a = prN b) : a = b := by
  unfold prN at h
  simp only [D.tup.injEq, List.cons.injEq, D.str.injEq, D.int.injEq, and_true, Int.natCast_inj] at h
  exact Prod.ext h.1 h.2
open PySem.W in
theorem prN_le (a b : Str × Nat) : dle prN a b = true ↔ tl a.1 < tl b.1 ∨ (a.1 = b.1 ∧ a.2 ≤ b.2) := by
  show (!dataLt (py (prN b)) (py (prN a))) = true ↔ _
  unfold prN
  rw [py, py]
  simp only [pys]
  rw [dataLt_pair (by simp [py, alike]) (by simp [py, alike])]
  have e1 : PyData.eqv (py (.str b.1)) (py (.str a.1)) = decide (b.1 = a.1) := by simp [py, PyData.eqv]; rfl
  have e2 : PyData.eqv (py (.int (b.2 : Nat))) (py (.int (a.2 : Nat))) = decide (b.2 = a.2) := by
    rw [Bool.eq_iff_iff]
    simp only [py, PyData.eqv, beq_iff_eq, decide_eq_true_eq]
    omega
  rw [e1, e2]
  by_cases c : b.1 = a.1
  · rw [if_pos (decide_eq_true c), py, py, dataLt_int]
    have nl : ¬ tl a.1 < tl b.1 := fun h => by rw [c] at h; exact List.lt_irrefl _ h
    by_cases c2 : b.2 = a.2
    · rw [if_pos (decide_eq_true c2)]; simp [c, c2]
    · rw [if_neg (by simpa using c2)]
      simp only [Bool.not_eq_true', decide_eq_false_iff_not]
      constructor
      · intro h; exact .inr ⟨c.symm, by omega⟩
      · rintro (h | ⟨_, h⟩)
        · exact absurd h nl
        · omega
  · rw [if_neg (by simpa using c), py, py, dataLt_str]
    simp only [Bool.not_eq_true', decide_eq_false_iff_not]
    constructor
    · intro h
      rcases List.le_iff_lt_or_eq.mp (List.not_lt.mp h) with d | d
      · exact .inl d
      · exact absurd (tl_ext d).symm c
    · rintro (h | ⟨h, _⟩)
      · exact fun k => List.lt_irrefl _ (List.lt_trans h k)
      · exact absurd h.symm c
theorem prN_anti (a b : Str × Nat) (h : dle prN a b = true) (k : dle prN b a = true) : a = b := by
  rcases (prN_le a b).mp h with h | ⟨h1, h2⟩ <;> rcases (prN_le b a).mp k with k | ⟨k1, k2⟩
  · exact absurd (List.lt_trans h k) (List.lt_irrefl _)
  · rw [k1] at h; exact absurd h (List.lt_irrefl _)
  · rw [h1] at k; exact absurd k (List.lt_irrefl _)
  · exact Prod.ext h1 (by omega)
theorem nd_fst {F : Hs} (h : (F.map (·.1)).Nodup) : F.Nodup := by
  induction F with
  | nil => exact List.nodup_nil
  | cons p F ih =>
    obtain ⟨n1, n2⟩ := List.nodup_cons.mp h
    exact List.nodup_cons.mpr ⟨fun m => n1 (List.mem_map_of_mem (f := (·.1)) m), ih n2⟩
theorem HopsOk.sorted {L : Lk} {s : Str} {us : List Str} {F G : Hs} (h : HopsOk L s us F) (k : HopsOk L s us G) : F.mergeSort (dle prN) = G.mergeSort (dle prN) := by
  have p : F.Perm G := (List.perm_ext_iff_of_nodup (nd_fst h.1) (nd_fst k.1)).mpr fun x => ⟨h.mem k x, k.mem h x⟩
  exact pw_eq (r := fun a b => dle prN a b = true) prN_anti ((sort_perm prN F).trans (p.trans (sort_perm prN G).symm)) (sort_pw prN F) (sort_pw prN G)
/-- the same from the sorted names -/
theorem sorted_names {F : Hs} (nd : (F.map (·.1)).Nodup) {ks : List Str} (pk : ks.Perm (F.map (·.1))) (pw : ks.Pairwise fun a b => ¬ tl b < tl a) : ks.map (fun y => (y, (lookF F y).getD 0)) = F.mergeSort (dle prN) := by
  have e : (F.map (·.1)).map (fun y => (y, (lookF F y).getD 0)) = F := by
    rw [List.map_map]
    refine (List.map_congr_left fun x m => ?_).trans (List.map_id F)
    show (x.1, (lookF F x.1).getD 0) = x
    rw [lookF_some nd (show (x.1, x.2) ∈ F from m)]; rfl
  have p1 : (ks.map (fun y => (y, (lookF F y).getD 0))).Perm F := by
    have := pk.map fun y => (y, (lookF F y).getD 0)
    rwa [e] at this
  refine pw_eq (r := fun a b => dle prN a b = true) prN_anti (p1.trans (sort_perm prN F).symm) ?_ (sort_pw prN F)
  rw [List.pairwise_map]
  refine pw.imp fun {a b} h => (prN_le _ _).mpr ?_
  rcases List.le_iff_lt_or_eq.mp (List.not_lt.mp h) with d | d
  · exact .inl d
  · have : a = b := tl_ext d
    subst this
    exact .inr ⟨rfl, Nat.le_refl _⟩
def sp_reach_by (K : PySem.W.Frag) : Sp := fun vs H Q _ => ∃ (p : Addr) (T : Tr), vs = [.ref p] ∧ H p = some (.dK (kvT T)) ∧ OkT K H T ∧ (∀ x ∈ T, x.2.1.length ≤ 100 ∧ 1 ≤ x.2.1.length) ∧ T.length ≤ 1000 ∧
  ∀ (u : V) (H' : Hp), Same H H' → DV K H' (.tup (((T.map fun x => (x.1, x.2.1.length - 1)).mergeSort (dle prN)).map prN)) u → Q u H'
def sp_reach (K : PySem.W.Frag) : Sp := fun vs H Q _ => ∃ (b : Bk) (v u : V) (k : Ki), vs = [v, u] ∧ DV K H (bkD b) v ∧ NB b ∧ DV K H (kiD k) u ∧ KiOk b k ∧
  ∀ (x : V) (F : Hs) (H' : Hp), Same H H' → HopsOk (lkL b k.bs k.z) k.o (carL b k.bs) F → DV K H' (.tup ((F.mergeSort (dle prN)).map prN)) x → Q x H'
def sp_hops_of (K : PySem.W.Frag) : Sp := fun vs H Q _ => ∃ (b : Bk) (v u : V) (k : Ki), vs = [v, u] ∧ DV K H (bkD b) v ∧ NB b ∧ DV K H (kiD k) u ∧ KiOk b k ∧
  ∀ (x : V) (F : Hs) (H' : Hp), Same H H' → HopsOk (lkL b k.bs k.z) k.o (carL b k.bs) F → DV K H' (.tup (b.si.map fun s => hD (lookF F s.n))) x → Q x H'
/-! ### a lock, taken and given back -/
theorem unlock_same {H H' : Hp} {p : Addr} {od : PySem.Obj} {u : HO} (h : H p = some u) (m : Same (upd H p (.frz od u)) H') : Same H (upd H' p u) := fun b o hb => by
  by_cases e : b = p
  · subst e; rw [h] at hb; rw [upd_same]; exact hb
  · rw [upd_ne e]; exact m _ _ (by rw [upd_ne e]; exact hb)
end Z
namespace Z
open PySem L2 SX
/-! ### all simple ways, level by level -/
def goL (w : List Str) (l : Str × Str × Int) : Bool := decide (w.getLast? = some l.1) && decide (l.2.1 ∉ w) && decide ((w.length : Int) ≤ l.2.2)
def stepW (L : Lk) (N : List (List Str)) : List (List Str) := N.flatMap fun w => (L.filter (goL w)).map fun l => w ++ [l.2.1]
def lvN (L : Lk) (N0 : List (List Str)) : Nat → List (List Str)
  | 0 => N0
  | k + 1 => stepW L (lvN L N0 k)
def upTo (L : Lk) (N0 : List (List Str)) : Nat → List (List Str)
  | 0 => []
  | k + 1 => upTo L N0 k ++ lvN L N0 k
def Sway (L : Lk) (s : Str) (w : List Str) : Prop := (∃ y, Way L s w y) ∧ w.Nodup
theorem lvN_iff {L : Lk} {s : Str} : ∀ (k : Nat) (w : List Str), w ∈ lvN L [[s]] k ↔ w.length = k + 1 ∧ Sway L s w
  | 0, w => by
    show w ∈ [[s]] ↔ _
    rw [List.mem_singleton]
    constructor
    · rintro rfl; exact ⟨rfl, ⟨s, .one⟩, by simp⟩
    · rintro ⟨l, ⟨y, h⟩, _⟩
      cases h with
      | one => rfl
      | snoc a b => have := a.len; rw [List.length_append, List.length_singleton] at l; omega
  | k + 1, w => by
    show w ∈ stepW L (lvN L [[s]] k) ↔ _
    unfold stepW
    rw [List.mem_flatMap]
    constructor
    · rintro ⟨p, hp, hw⟩
      obtain ⟨l, hl, rfl⟩ := List.mem_map.mp hw
      obtain ⟨l1, ⟨y, hy⟩, nd⟩ := (lvN_iff k p).mp hp
      obtain ⟨m, g⟩ := List.mem_filter.mp hl
      unfold goL at g
      simp only [Bool.and_eq_true, decide_eq_true_eq] at g
      obtain ⟨⟨g1, g2⟩, g3⟩ := g
      have : y = l.1 := by rw [hy.last] at g1; exact Option.some.inj g1
      subst this
      refine ⟨by rw [List.length_append, l1]; rfl, ⟨l.2.1, .snoc hy ⟨l.2.2, m, by omega⟩⟩, ?_⟩
      rw [List.nodup_append]
      exact ⟨nd, by simp, fun a ha b hb e => g2 (by rw [← List.mem_singleton.mp hb, ← e]; exact ha)⟩
    · rintro ⟨l, ⟨y, h⟩, nd⟩
      obtain ⟨p, x, rfl, hp, b, hb, hl⟩ := h.split (by omega)
      rw [List.length_append, List.length_singleton] at l
      rw [List.nodup_append] at nd
      refine ⟨p, (lvN_iff k p).mpr ⟨by omega, ⟨x, hp⟩, nd.1⟩, List.mem_map.mpr ⟨(x, y, b), List.mem_filter.mpr ⟨hb, ?_⟩, rfl⟩⟩
      unfold goL
      simp only [Bool.and_eq_true, decide_eq_true_eq]
      have := hp.len
      exact ⟨⟨hp.last, fun m => nd.2.2 y m y (by simp) rfl⟩, by omega⟩
theorem upTo_iff {L : Lk} {s : Str} : ∀ (n : Nat) (w : List Str), w ∈ upTo L [[s]] n ↔ w.length ≤ n ∧ Sway L s w
  | 0, w => by
    show w ∈ [] ↔ _
    constructor
    · intro h; cases h
    · rintro ⟨l, ⟨y, h⟩, _⟩; have := h.len; omega
  | n + 1, w => by
    show w ∈ upTo L [[s]] n ++ lvN L [[s]] n ↔ _
    rw [List.mem_append, upTo_iff n w, lvN_iff n w]
    constructor
    · rintro (⟨a, b⟩ | ⟨a, b⟩)
      · exact ⟨by omega, b⟩
      · exact ⟨by omega, b⟩
    · rintro ⟨a, b⟩
      by_cases c : w.length ≤ n
      · exact .inl ⟨c, b⟩
      · exact .inr ⟨by omega, b⟩
theorem stepW_nil (L : Lk) : stepW L [] = [] := rfl
theorem lvN_nil (L : Lk) : ∀ k, lvN L [] k = []
  | 0 => rfl
  | k + 1 => by show stepW L (lvN L [] k) = []; rw [lvN_nil L k]; rfl
theorem upTo_nil (L : Lk) : ∀ k, upTo L [] k = []
  | 0 => rfl
  | k + 1 => by show upTo L [] k ++ lvN L [] k = []; rw [upTo_nil L k, lvN_nil L k]; rfl
/-- the ends differ: as many as there are other names -/
theorem go_few {L : Lk} {us : List Str} (nd : (L.map fun l => (l.1, l.2.1)).Nodup) (hu : ∀ l ∈ L, l.2.1 ∈ us) {w : List Str} (hw : ∀ x ∈ w, x ∈ us) (ne : w ≠ []) (un : us.length ≤ 8) : (L.filter (goL w)).length ≤ 7 := by
  obtain ⟨w0, z, ez⟩ : ∃ w0 z, w = w0 ++ [z] := ⟨w.dropLast, w.getLast ne, (List.dropLast_concat_getLast ne).symm⟩
  have last : w.getLast? = some z := by rw [ez, List.getLast?_append]; rfl
  have gz : ∀ l ∈ L.filter (goL w), l.1 = z ∧ l.2.1 ∉ w := fun l hl => by
    have g := (List.mem_filter.mp hl).2
    unfold goL at g
    simp only [Bool.and_eq_true, decide_eq_true_eq] at g
    rw [last] at g
    exact ⟨(Option.some.inj g.1.1).symm, g.1.2⟩
  have nd2 : ((L.filter (goL w)).map fun l => (l.1, l.2.1)).Nodup := nd.sublist (List.filter_sublist.map _)
  have nd3 : ((L.filter (goL w)).map (·.2.1)).Nodup := by
    have : ∀ (M : Lk), (∀ l ∈ M, l.1 = z) → (M.map fun l => (l.1, l.2.1)).Nodup → (M.map (·.2.1)).Nodup := by
      intro M
      induction M with
      | nil => intro _ _; exact List.nodup_nil
      | cons m M ih =>
        intro hz h
        obtain ⟨n1, n2⟩ := List.nodup_cons.mp h
        refine List.nodup_cons.mpr ⟨fun k => n1 ?_, ih (fun l hl => hz l (List.mem_cons_of_mem _ hl)) n2⟩
        obtain ⟨l, hl, e⟩ := List.mem_map.mp k
        refine List.mem_map.mpr ⟨l, hl, ?_⟩
        show (l.1, l.2.1) = (m.1, m.2.1)
        rw [e, hz l (List.mem_cons_of_mem _ hl), hz m (by simp)]
    exact this _ (fun l hl => (gz l hl).1) nd2
  have zw : z ∈ w := by rw [ez]; simp
  have := nodup_len (l := z :: (L.filter (goL w)).map (·.2.1)) (m := us) (List.nodup_cons.mpr ⟨fun m => by
    obtain ⟨l, hl, e⟩ := List.mem_map.mp m
    exact (gz l hl).2 (e ▸ zw), nd3⟩) fun x hx => by
      rcases List.mem_cons.mp hx with e | e
      · rw [e]; exact hw z zw
      · obtain ⟨l, hl, e⟩ := List.mem_map.mp e
        rw [← e]; exact hu l (List.mem_filter.mp hl).1
  rw [List.length_cons, List.length_map] at this
  omega
theorem flat_few {α β : Type} {f : α → List β} {c : Nat} : ∀ {l : List α}, (∀ x ∈ l, (f x).length ≤ c) → (l.flatMap f).length ≤ l.length * c
  | [], _ => by simp
  | x :: l, h => by
    rw [List.flatMap_cons, List.length_append, List.length_cons, Nat.add_mul, Nat.one_mul]
    have h1 := h x (by simp)
    have h2 := flat_few (l := l) fun y m => h y (List.mem_cons_of_mem _ m)
    omega
theorem lv_mem {L : Lk} {s : Str} {us : List Str} (hs : s ∈ us) (hu : ∀ l ∈ L, l.2.1 ∈ us) {k : Nat} {w : List Str} (h : w ∈ lvN L [[s]] k) : (∀ x ∈ w, x ∈ us) ∧ w ≠ [] ∧ w.length = k + 1 := by
  obtain ⟨l, ⟨y, hy⟩, _⟩ := (lvN_iff k w).mp h
  refine ⟨fun x hx => ?_, fun e => by rw [e] at l; simp at l, l⟩
  rcases List.mem_cons.mp (way_mem hy x hx) with e | e
  · rw [e]; exact hs
  · obtain ⟨z, hz, e⟩ := List.mem_map.mp e
    rw [← e]; exact hu z hz
theorem lv_few {L : Lk} {s : Str} {us : List Str} (hs : s ∈ us) (hu : ∀ l ∈ L, l.2.1 ∈ us) (nd : (L.map fun l => (l.1, l.2.1)).Nodup) (un : us.length ≤ 8) : ∀ k, (lvN L [[s]] k).length ≤ 7 ^ k
  | 0 => Nat.le_refl _
  | k + 1 => by
    have h1 := lv_few hs hu nd un k
    have h2 : (stepW L (lvN L [[s]] k)).length ≤ (lvN L [[s]] k).length * 7 := flat_few fun w hw => by
      rw [List.length_map]
      obtain ⟨a, b, _⟩ := lv_mem hs hu hw
      exact go_few nd hu a b un
    show (stepW L (lvN L [[s]] k)).length ≤ 7 ^ (k + 1)
    rw [Nat.pow_succ]
    omega
theorem up_few {L : Lk} {s : Str} {us : List Str} (hs : s ∈ us) (hu : ∀ l ∈ L, l.2.1 ∈ us) (nd : (L.map fun l => (l.1, l.2.1)).Nodup) (un : us.length ≤ 8) : ∀ k, (upTo L [[s]] k).length ≤ 7 ^ k
  | 0 => Nat.zero_le _
  | k + 1 => by
    have h1 := up_few hs hu nd un k
    have h2 := lv_few hs hu nd un k
    show (upTo L [[s]] k ++ lvN L [[s]] k).length ≤ 7 ^ (k + 1)
    rw [List.length_append, Nat.pow_succ]
    omega
theorem pow7 {k : Nat} (h : k ≤ 8) : 7 ^ k < sizeLine := Nat.lt_of_le_of_lt (Nat.pow_le_pow_right (by decide) h) (by decide)
/-- the ends lie outside of the way -/
theorem go_few2 {L : Lk} {us : List Str} (nd : (L.map fun l => (l.1, l.2.1)).Nodup) (hu : ∀ l ∈ L, l.2.1 ∈ us) {w : List Str} (hw : ∀ x ∈ w, x ∈ us) (wn : w.Nodup) (ne : w ≠ []) : (L.filter (goL w)).length + w.length ≤ us.length := by
  obtain ⟨w0, z, ez⟩ : ∃ w0 z, w = w0 ++ [z] := ⟨w.dropLast, w.getLast ne, (List.dropLast_concat_getLast ne).symm⟩
  have last : w.getLast? = some z := by rw [ez, List.getLast?_append]; rfl
  have gz : ∀ l ∈ L.filter (goL w), l.1 = z ∧ l.2.1 ∉ w := fun l hl => by
    have g := (List.mem_filter.mp hl).2
    unfold goL at g
    simp only [Bool.and_eq_true, decide_eq_true_eq] at g
    rw [last] at g
    exact ⟨(Option.some.inj g.1.1).symm, g.1.2⟩
  have nd2 : ((L.filter (goL w)).map fun l => (l.1, l.2.1)).Nodup := nd.sublist (List.filter_sublist.map _)
  have nd3 : ((L.filter (goL w)).map (·.2.1)).Nodup := by
    have e : (L.filter (goL w)).map (fun l => (l.1, l.2.1)) = ((L.filter (goL w)).map (·.2.1)).map fun y => (z, y) := by
      rw [List.map_map]
      refine List.map_congr_left fun l hl => ?_
      show (l.1, l.2.1) = (z, l.2.1)
      rw [(gz l hl).1]
    rw [e] at nd2
    exact (List.pairwise_map.mp nd2).imp fun h c => h (by rw [c])
  have := nodup_len (l := w ++ (L.filter (goL w)).map (·.2.1)) (m := us) (List.nodup_append.mpr ⟨wn, nd3, fun x hx y hy e => by
    obtain ⟨l, hl, e2⟩ := List.mem_map.mp hy
    exact (gz l hl).2 (by rw [e2, ← e]; exact hx)⟩) fun x hx => by
      rcases List.mem_append.mp hx with e | e
      · exact hw x e
      · obtain ⟨l, hl, e⟩ := List.mem_map.mp e
        rw [← e]; exact hu l (List.mem_filter.mp hl).1
  rw [List.length_append, List.length_map] at this
  omega
def ffn : Nat → Nat
  | 0 => 1
  | k + 1 => ffn k * (7 - k)
def sfn : Nat → Nat
  | 0 => 0
  | k + 1 => sfn k + ffn k
theorem lv_few2 {L : Lk} {s : Str} {us : List Str} (hs : s ∈ us) (hu : ∀ l ∈ L, l.2.1 ∈ us) (nd : (L.map fun l => (l.1, l.2.1)).Nodup) (un : us.length ≤ 8) : ∀ k, (lvN L [[s]] k).length ≤ ffn k
  | 0 => Nat.le_refl _
  | k + 1 => by
    have h1 := lv_few2 hs hu nd un k
    have h2 : (stepW L (lvN L [[s]] k)).length ≤ (lvN L [[s]] k).length * (7 - k) := flat_few fun w hw => by
      rw [List.length_map]
      obtain ⟨a, b, c⟩ := lv_mem hs hu hw
      have := go_few2 nd hu a ((lvN_iff k w).mp hw).2.2 b
      omega
    exact Nat.le_trans h2 (Nat.mul_le_mul_right _ h1)
theorem up_few2 {L : Lk} {s : Str} {us : List Str} (hs : s ∈ us) (hu : ∀ l ∈ L, l.2.1 ∈ us) (nd : (L.map fun l => (l.1, l.2.1)).Nodup) (un : us.length ≤ 8) : ∀ k, (upTo L [[s]] k).length ≤ sfn k
  | 0 => Nat.zero_le _
  | k + 1 => by
    have h1 := up_few2 hs hu nd un k
    have h2 := lv_few2 hs hu nd un k
    show (upTo L [[s]] k ++ lvN L [[s]] k).length ≤ sfn k + ffn k
    rw [List.length_append]
    omega
/-- a shortest way is simple -/
theorem minw_nodup {L : Lk} {s y : Str} {w : List Str} (h1 : Way L s w y) (h2 : ∀ u, Way L s u y → w.length ≤ u.length) : w.Nodup := by
  suffices k : ∀ (n : Nat) (w : List Str) (y : Str), w.length = n → Way L s w y → (∀ u, Way L s u y → w.length ≤ u.length) → w.Nodup ∧ ∀ x ∈ w, ∃ v, Way L s v x ∧ v.length ≤ n from (k w.length w y rfl h1 h2).1
  intro n
  induction n using Nat.strongRecOn with
  | ind n ih =>
    intro w y hn hw hm
    by_cases c : 2 ≤ w.length
    · obtain ⟨p, x, e, hp, he⟩ := hw.split c
      have lp : p.length + 1 = n := by rw [← hn, e, List.length_append]; rfl
      have pm : ∀ u, Way L s u x → p.length ≤ u.length := fun u hu => by
        by_cases d : p.length ≤ u.length
        · exact d
        · have := hm (u ++ [y]) (.snoc hu (he.anti (by omega)))
          rw [List.length_append, List.length_singleton] at this
          omega
      obtain ⟨nd, al⟩ := ih p.length (by omega) p x rfl hp pm
      refine ⟨?_, fun z hz => ?_⟩
      · rw [e, List.nodup_append]
        refine ⟨nd, by simp, fun a ha b hb e2 => ?_⟩
        obtain ⟨v, hv, vl⟩ := al a ha
        have eb := List.mem_singleton.mp hb
        have := hm v (by rw [← eb, ← e2]; exact hv)
        omega
      · rw [e] at hz
        rcases List.mem_append.mp hz with d | d
        · obtain ⟨v, hv, vl⟩ := al z d
          exact ⟨v, hv, by omega⟩
        · rw [List.mem_singleton.mp d]; exact ⟨w, hw, by omega⟩
    · have := hw.len
      cases hw with
      | one => exact ⟨by simp, fun x hx => by rw [List.mem_singleton.mp hx]; exact ⟨[s], .one, by rw [← hn]; exact Nat.le_refl _⟩⟩
      | snoc a b => have := a.len; rw [List.length_append, List.length_singleton] at c; omega
/-- a least way is simple -/
theorem Least.nodup {L : Lk} {s y : Str} {w : List Str} (h : Least L s y w) : w.Nodup := minw_nodup h.1 h.2.1
/-- the list of all simple ways, the shorter ones ahead -/
structure AllW (L : Lk) (s : Str) (us : List Str) (W : List (List Str)) : Prop where
  iff : s ∈ us → ∀ w, w ∈ W ↔ Sway L s w
  non : s ∉ us → W = []
  srt : W.Pairwise fun a b => a.length ≤ b.length
  few : W.length ≤ 7 ^ 8
  few2 : W.length ≤ 20000
theorem lvN_len {L : Lk} {s : Str} {k : Nat} {w : List Str} (h : w ∈ lvN L [[s]] k) : w.length = k + 1 := ((lvN_iff k w).mp h).1
theorem up_srt {L : Lk} {s : Str} : ∀ k, (upTo L [[s]] k).Pairwise fun a b => a.length ≤ b.length
  | 0 => List.Pairwise.nil
  | k + 1 => by
    show (upTo L [[s]] k ++ lvN L [[s]] k).Pairwise _
    rw [List.pairwise_append]
    refine ⟨up_srt k, ?_, fun a ha b hb => ?_⟩
    · refine List.pairwise_of_forall_mem_list fun a ha b hb => ?_
      rw [lvN_len ha, lvN_len hb]; exact Nat.le_refl _
    · have := ((upTo_iff k a).mp ha).1
      rw [lvN_len hb]; omega
theorem allW_up {L : Lk} {s : Str} {us : List Str} (hs : s ∈ us) (hu : ∀ l ∈ L, l.2.1 ∈ us) (nd : (L.map fun l => (l.1, l.2.1)).Nodup) {n : Nat} (un : us.length ≤ n) (n8 : n ≤ 8) : AllW L s us (upTo L [[s]] n) := by
  refine ⟨fun _ w => ?_, fun h => absurd hs h, up_srt n, Nat.le_trans (up_few hs hu nd (by omega) n) (Nat.pow_le_pow_right (by decide) n8), Nat.le_trans (up_few2 hs hu nd (by omega) n) ((by decide : ∀ m, m < 9 → sfn m ≤ 20000) n (by omega))⟩
  rw [upTo_iff n w]
  refine ⟨fun h => h.2, fun h => ⟨?_, h⟩⟩
  obtain ⟨⟨y, hy⟩, nd⟩ := h
  have := nodup_len nd (m := us) fun x hx => by
    rcases List.mem_cons.mp (way_mem hy x hx) with e | e
    · rw [e]; exact hs
    · obtain ⟨z, hz, e⟩ := List.mem_map.mp e
      rw [← e]; exact hu z hz
  omega
/-! ### what the law draws -/
theorem ordP {x y : Str} (h : x ≠ y) : (minP x y = x ∧ maxP x y = y ∧ tl x < tl y) ∨ (minP x y = y ∧ maxP x y = x ∧ tl y < tl x) := by
  unfold minP maxP
  by_cases c : tl x < tl y
  · have c2 : ¬ tl y < tl x := fun d => List.lt_irrefl _ (List.lt_trans c d)
    rw [if_neg (by simpa using c2), if_pos (decide_eq_true c)]
    exact .inl ⟨rfl, rfl, c⟩
  · have c2 : tl y < tl x := by
      rcases List.le_iff_lt_or_eq.mp (List.not_lt.mp c) with d | d
      · exact d
      · exact absurd (tl_ext d.symm) h
    rw [if_pos (decide_eq_true c2), if_neg (by simpa using c)]
    exact .inr ⟨rfl, rfl, c2⟩
def LnOk (us : List Str) (ls : List (Str × Str)) : Prop := (∀ l ∈ ls, l.1 ∈ us ∧ l.2 ∈ us ∧ tl l.1 < tl l.2) ∧ ls.Nodup
def sp20_shuffled (K : PySem.W.Frag) : Sp := fun vs H Q _ => ∃ (s a r : Addr) (xs : List V) (c : Nat), vs = [.ref s, .ref r] ∧ SqL K H r xs ∧ r ≠ s ∧ xs.length ≤ 1000 ∧ Src H s a (c + xs.length) ∧
  ∀ (d : Addr) (ys : List V) (H' : Hp), H d = none → H' d = some (.lst ys) → ys.Perm xs → Ext s H H' → Src H' s a c → Q (.ref d) H'
def sp20_lines (K : PySem.W.Frag) : Sp := fun vs H Q _ => ∃ (s a u : Addr) (us : List Str) (c : Nat), vs = [.ref s, .ref u] ∧ SqL K H u (us.map V.str) ∧ u ≠ s ∧ 1 ≤ us.length ∧ us.length ≤ 9 ∧ Nms us ∧ Src H s a (c + 100) ∧
  ∀ (L : Addr) (ws : List V) (ls : List (Str × Str)) (H' : Hp), H L = none → H' L = some (.lst ws) → DVs K H' (ls.map lnD) ws → ls.length ≤ 20 → LnOk us ls → Ext s H H' → Src H' s a c → Q (.ref L) H'
def sp20_all_lines (K : PySem.W.Frag) : Sp := fun vs H Q _ => ∃ (u : Addr) (us : List Str), vs = [.ref u] ∧ SqL K H u (us.map V.str) ∧ us.length ≤ 9 ∧ Nms us ∧
  ∀ (L : Addr) (ws : List V) (ls : List (Str × Str)) (H' : Hp), H L = none → H' L = some (.lst ws) → DVs K H' (ls.map lnD) ws → ls.length ≤ us.length * us.length → LnOk us ls → Same H H' → Q (.ref L) H'
def sp20_net (K : PySem.W.Frag) : Sp := fun vs H Q _ => ∃ (s a w : Addr) (ws : List Str) (m : Nat) (c : Nat), vs = [.ref s, .int (m : Int), .ref w] ∧ 1 ≤ m ∧ m ≤ 8 ∧ SqL K H w (ws.map V.str) ∧ w ≠ s ∧ Wds ws ∧ Src H s a (c + 30000) ∧
  ∀ (v : V) (b : Bk) (H' : Hp), DV K H' (bkD b) v → NB b → b.si.length = m → b.fd.length ≤ 60 → Ext s H H' → Src H' s a c → Q v H'
def sp20_kind (K : PySem.W.Frag) : Sp := fun vs H Q _ => ∃ (s a w : Addr) (b : Bk) (v : V) (ws : List Str) (c : Nat), vs = [.ref s, v, .ref w] ∧ DV K H (bkD b) v ∧ NB b ∧ SqL K H w (ws.map V.str) ∧ w ≠ s ∧ Wds ws ∧ Src H s a (c + 1000) ∧
  ∀ (u : V) (k : Ki) (H' : Hp), DV K H' (kiD k) u → KiOk b k → Ext s H H' → Src H' s a c → Q u H'
def sp20_ways (K : PySem.W.Frag) : Sp := fun vs H Q _ => ∃ (b : Bk) (v u : V) (k : Ki), vs = [v, u] ∧ DV K H (bkD b) v ∧ NB b ∧ b.si.length ≤ 8 ∧ DV K H (kiD k) u ∧ KiOk b k ∧
  ∀ (M : Addr) (us : List V) (W : List (List Str)) (H' : Hp), H M = none → Same H H' → H' M = some (.lst us) → DVs K H' (W.map wD) us → AllW (lkL b k.bs k.z) k.o (carL b k.bs) W → Q (.ref M) H'
def sp20_fewest (K : PySem.W.Frag) : Sp := fun vs H Q _ => ∃ (M : Addr) (us : List V) (W : List (List Str)) (L : Lk) (s : Str) (cs : List Str), vs = [.ref M] ∧ H M = some (.lst us) ∧ DVs K H (W.map wD) us ∧ AllW L s cs W ∧ cs.length ≤ 20 ∧ (∀ l ∈ L, l.2.1 ∈ cs) ∧
  ∀ (p : Addr) (F : Hs) (H' : Hp), H p = none → Same H H' → H' p = some (.dK (F.map fun x => (Sum.inr x.1, V.int (x.2 : Nat)))) → HopsOk L s cs F → Q (.ref p) H'
def sp20_told (K : PySem.W.Frag) : Sp := fun vs H Q _ => ∃ (r : Addr) (b : Bk) (v u : V) (k : Ki) (p : Addr) (F : Hs), vs = [.ref r] ∧ SqT K H r [v, u, .ref p] ∧ DV K H (bkD b) v ∧ NB b ∧ DV K H (kiD k) u ∧ KiOk b k ∧ H p = some (.dK (F.map fun x => (Sum.inr x.1, V.int (x.2 : Nat)))) ∧ HopsOk (lkL b k.bs k.z) k.o (carL b k.bs) F ∧
  ∀ H', Same H H' → Q (.bl true) H'
end Z
namespace Z
open PySem L2 SX
noncomputable def cB (p : Prop) : Bool := @decide p (Classical.propDecidable p)
theorem cB_t {p : Prop} (h : p) : cB p = true := by unfold cB; exact @decide_eq_true p (Classical.propDecidable p) h
theorem cB_f {p : Prop} (h : ¬ p) : cB p = false := by unfold cB; exact @decide_eq_false p (Classical.propDecidable p) h
theorem cB_iff {p : Prop} : cB p = true ↔ p := ⟨fun h => by
  by_cases c : p
  · exact c
  · rw [cB_f c] at h; exact absurd h Bool.false_ne_true, cB_t⟩
theorem cB_eq {p q : Prop} (h : p ↔ q) : cB p = cB q := by rw [propext h]
theorem dec_cB {p : Prop} {i : Decidable p} : @decide p i = cB p := by
  by_cases c : p
  · rw [cB_t c]; exact decide_eq_true c
  · rw [cB_f c]; exact decide_eq_false c
end Z
namespace Z
open PySem
/-! ### dict(zip(x, y)), x and y rows of any kind -/
section
variable {prog : Program} {w : World} {A : Around} {E : Value → Shared → Prop} {s : Shared} {z TI TO i1 i2 T : Addr} {fp1 fp2 : List Addr} {n1 n2 i : Nat} {P1 P2 : Nat → Value → Prop} {St1 St2 : Nat → Heap → Prop} {f : Bool} {oT : Obj}
/-- the next pair, while the last one is still held -/
theorem zipH_item {Q : Value → Shared → Prop} (S : ZipSep2 z TI TO i1 i2 fp1 fp2) (D1 : Draws prog w A i1 fp1 n1 P1 St1) (D2 : Draws prog w A i2 fp2 n2 P2 St2) (hz : IsZipHeld s.heap z TI TO T f) (hT : s.heap.get? T = some oT) (hTI : IsTupOf2 s.heap TI (.ref i1) (.ref i2)) (st1 : St1 i s.heap) (st2 : St2 i s.heap) (lt1 : i < n1) (lt2 : i < n2)
    (hQ : ∀ x1 x2 h' tk, P1 i x1 → P2 i x2 → IsZipHeld h' z TI TO T true → St1 (i + 1) h' → St2 (i + 1) h' → IsTupOf2 h' s.heap.objs.size x1 x2 → h'.objs.size = s.heap.objs.size + 1 → (∀ c o, c ≠ z → c ≠ i1 → c ≠ i2 → s.heap.get? c = some o → h'.get? c = some o) → Q (.ref s.heap.objs.size) { s with heap := h', toks := tk }) :
    wpAny (model prog w) A (Builtin.«zip.__next__» ⟨[.ref z], []⟩) (fun fin s' => ∃ v, fin = .done (.ret v) ∧ Q v s') E s := by
  obtain ⟨hp, gn, dr, t0, os⟩ := s
  show wpAny _ _ (field (.ref z) 2 >>= _) _ _ _; refine wpAny_bind (wpAny_field hz rfl (x := .bool false) rfl ?_)
  show wpAny _ _ (field (.ref z) 3 >>= _) _ _ _; refine wpAny_bind (wpAny_field hz rfl (x := .ref TI) rfl (wpAny_bind (wpAny_seqItems hTI rfl ?_)))
  show wpAny _ _ (Builtin.SmallTypes.ownedTupleIsFree (.ref z) >>= _) _ _ _
  refine wpAny_bind (wpAny_tupleHeld_zip hz hT fun g1 hz1 sb1 => ?_)
  simp only [Bool.false_eq_true, if_false]
  refine wpAny_bind ?_
  rw [← Array.forIn_toList]; simp only [List.forIn_cons, List.forIn_nil]
  refine wpAny_bind (wpAny_bind (wpAny_holding ?_))
  show wpAny _ _ (Builtin.SmallTypes.nextOf (.ref i1) >>= _) _ _ _
  refine wpAny_bind (D1.item i _ _ _ lt1 (D1.over st1 sb1 S.zf1) fun x1 g2 t2 p1 st1' sb2 => wpAny_pure (wpAny_pure (wpAny_bind (wpAny_bind (wpAny_holding ?_)))))
  show wpAny _ _ (Builtin.SmallTypes.nextOf (.ref i2) >>= _) _ _ _
  refine wpAny_bind (D2.item i _ _ _ lt2 (D2.over (D2.over st2 sb1 S.zf2) sb2 S.sep1_2) fun x2 g3 t3 p2 st2' sb3 => wpAny_pure (wpAny_pure (wpAny_pure ?_)))
  show wpAny _ _ (newTuple [x1, x2] >>= _) _ _ _
  refine wpAny_bind (wpAny_newTuple (wpAny_pure ⟨_, rfl, ?_⟩))
  have sz : g3.objs.size = hp.objs.size := by rw [sb3.1, sb2.1, sb1.1]
  have hz3 : IsZipHeld g3 z TI TO T true := sb3.extBut _ _ S.zi2 (sb2.extBut _ _ S.zi1 hz1)
  have old : ∀ c o, c ≠ z → c ≠ i1 → c ≠ i2 → hp.get? c = some o → g3.get? c = some o := fun c o k1 k2 k3 e => sb3.extBut _ _ k3 (sb2.extBut _ _ k2 (sb1.extBut _ _ k1 e))
  have st1'' : St1 (i + 1) g3 := D1.over st1' sb3 S.sep2_1
  show Q (.ref g3.objs.size) _
  have new : IsTupOf2 (g3.push { cls := .type "tuple", data := .seq #[x1, x2] }) g3.objs.size x1 x2 := Heap.get?_push_size _ rfl
  have sz4 : (g3.push { cls := .type "tuple", data := .seq #[x1, x2] }).objs.size = g3.objs.size + 1 := Heap.size_push ..
  rw [sz] at new sz4 ⊢
  exact hQ x1 x2 _ t3 p1 p2 (Heap.get?_push_of_some _ hz3) (D1.frame _ _ _ st1'' fun b _ o e => Heap.get?_push_of_some _ e) (D2.frame _ _ _ st2' fun b _ o e => Heap.get?_push_of_some _ e) new sz4 fun c o k1 k2 k3 e => Heap.get?_push_of_some _ (old c o k1 k2 k3 e)
/-- the end, while the last one is still held; both have run out together -/
theorem zipH_end {Q : Fin → Shared → Prop} (S : ZipSep2 z TI TO i1 i2 fp1 fp2) (D1 : Draws prog w A i1 fp1 n1 P1 St1) (hz : IsZipHeld s.heap z TI TO T f) (hT : s.heap.get? T = some oT) (hTI : IsTupOf2 s.heap TI (.ref i1) (.ref i2)) (st1 : St1 n1 s.heap)
    (hE : ∀ h' e, (∀ c o, c ≠ z → c ≠ i1 → s.heap.get? c = some o → h'.get? c = some o) → (∃ o, h'.get? e = some o ∧ o.cls = .type "StopIteration") → E (.ref e) { s with heap := h' }) :
    wpAny (model prog w) A (Builtin.«zip.__next__» ⟨[.ref z], []⟩) Q E s := by
  show wpAny _ _ (field (.ref z) 2 >>= _) _ _ _; refine wpAny_bind (wpAny_field hz rfl (x := .bool false) rfl ?_)
  show wpAny _ _ (field (.ref z) 3 >>= _) _ _ _; refine wpAny_bind (wpAny_field hz rfl (x := .ref TI) rfl (wpAny_bind (wpAny_seqItems hTI rfl ?_)))
  show wpAny _ _ (Builtin.SmallTypes.ownedTupleIsFree (.ref z) >>= _) _ _ _
  refine wpAny_bind (wpAny_tupleHeld_zip hz hT fun g1 hz1 sb1 => ?_)
  simp only [Bool.false_eq_true, if_false]
  refine wpAny_bind ?_
  rw [← Array.forIn_toList]; simp only [List.forIn_cons, List.forIn_nil]
  refine wpAny_bind (wpAny_bind (wpAny_holding ?_))
  show wpAny _ _ (Builtin.SmallTypes.nextOf (.ref i1) >>= _) _ _ _
  exact wpAny_bind (D1.done _ _ _ (D1.over st1 sb1 S.zf1) fun g2 e x2 he => hE g2 e (fun c o k1 k2 q => x2 _ _ k2 (sb1.extBut _ _ k1 q)) he)
theorem nextH_item {Q : Option Value → Shared → Prop} (S : ZipSep2 z TI TO i1 i2 fp1 fp2) (D1 : Draws prog w A.in1 i1 fp1 n1 P1 St1) (D2 : Draws prog w A.in1 i2 fp2 n2 P2 St2) (hz : IsZipHeld s.heap z TI TO T f) (hT : s.heap.get? T = some oT) (hTI : IsTupOf2 s.heap TI (.ref i1) (.ref i2)) (st1 : St1 i s.heap) (st2 : St2 i s.heap) (lt1 : i < n1) (lt2 : i < n2)
    (hQ : ∀ x1 x2 h' tk, P1 i x1 → P2 i x2 → IsZipHeld h' z TI TO T true → St1 (i + 1) h' → St2 (i + 1) h' → IsTupOf2 h' s.heap.objs.size x1 x2 → h'.objs.size = s.heap.objs.size + 1 → (∀ c o, c ≠ z → c ≠ i1 → c ≠ i2 → s.heap.get? c = some o → h'.get? c = some o) → Q (some (.ref s.heap.objs.size)) { s with heap := h', toks := tk }) :
    wpAny (model prog w) A (pyNext (.ref z)) Q E s := by
  have ty : s.TypeIs (.ref z) "zip" := ⟨_, hz, rfl⟩
  unfold pyNext
  refine wpAny_bind (wpAny_attempt (wpAny_callSpecial?_slot (name := Str.ofString "__next__") ty F.slot_zip_next (wpAny_call_entry F.slot_zip_next ty F.entry_zip_next ?_ (F.args_zip_next_1 _))))
  exact zipH_item S D1 D2 hz hT hTI st1 st2 lt1 lt2 fun x1 x2 h' tk a1 a2 a3 a4 a5 a6 a7 a8 => wpAny_pure (hQ x1 x2 h' tk a1 a2 a3 a4 a5 a6 a7 a8)
theorem nextH_end {Q : Option Value → Shared → Prop} (S : ZipSep2 z TI TO i1 i2 fp1 fp2) (D1 : Draws prog w A.in1 i1 fp1 n1 P1 St1) (hz : IsZipHeld s.heap z TI TO T f) (hT : s.heap.get? T = some oT) (hTI : IsTupOf2 s.heap TI (.ref i1) (.ref i2)) (st1 : St1 n1 s.heap)
    (hQ : ∀ h', (∀ c o, c ≠ z → c ≠ i1 → s.heap.get? c = some o → h'.get? c = some o) → Q none { s with heap := h' }) : wpAny (model prog w) A (pyNext (.ref z)) Q E s := by
  have ty : s.TypeIs (.ref z) "zip" := ⟨_, hz, rfl⟩
  unfold pyNext
  refine wpAny_bind (wpAny_attempt (wpAny_callSpecial?_slot (name := Str.ofString "__next__") ty F.slot_zip_next (wpAny_call_entry F.slot_zip_next ty F.entry_zip_next ?_ (F.args_zip_next_1 _))))
  refine zipH_end S D1 hz hT hTI st1 fun h' e hk he => ?_
  obtain ⟨o, ho, hc⟩ := he
  exact wpAny_bind (wpAny_isInstance (T := "StopIteration") (b := true) ⟨o, ho, hc⟩ isSubtype_stop (wpAny_pure (hQ _ hk)))
end
section
variable {prog : Program} {w : World} {z TI TO i1 i2 l1 l2 : Addr} {xs ys : Array Value}
abbrev LtSt (i1 l1 : Addr) (xs : Array Value) (i : Nat) (h : Heap) : Prop := h.IsListIter i1 l1 i ∧ h.IsList l1 xs
abbrev TtSt (i2 l2 : Addr) (ys : Array Value) (i : Nat) (h : Heap) : Prop := h.IsTupleIter i2 l2 i ∧ h.IsTuple l2 ys
theorem LtSt.mov {i1 l1 : Addr} {xs : Array Value} {i : Nat} {h h' : Heap} (st : LtSt i1 l1 xs i h) (k1 : ∀ o, h.get? i1 = some o → h'.get? i1 = some o) (k2 : ∀ o, h.get? l1 = some o → h'.get? l1 = some o) : LtSt i1 l1 xs i h' := ⟨st.1.at k1, st.2.at k2⟩
theorem TtSt.mov {i1 l1 : Addr} {xs : Array Value} {i : Nat} {h h' : Heap} (st : TtSt i1 l1 xs i h) (k1 : ∀ o, h.get? i1 = some o → h'.get? i1 = some o) (k2 : ∀ o, h.get? l1 = some o → h'.get? l1 = some o) : TtSt i1 l1 xs i h' := ⟨st.1.at k1, st.2.at k2⟩
/-- a list beside a tuple, of one length, as the pairs of a dict -/
theorem pairs_listTup (S : ZipSep2 z TI TO i1 i2 [i1, l1] [i2, l2]) (hl1 : l1 ≠ i1) (hl2 : l2 ≠ i2) (e : xs.size = ys.size) (T1 : TI ≠ l1) (T2 : TI ≠ l2) (sl1 : l1 ≠ i2) (sl2 : l2 ≠ i1) :
    PairArg prog w "zip" z [z, TI, TO, i1, i2, l1, l2] [z, TO, i1, i2] xs.size (fun i k v => xs[i]? = some k ∧ ys[i]? = some v)
      (fun h => IsZip h z TI TO .none ∧ IsTupOf2 h TI (.ref i1) (.ref i2) ∧ (∃ a b, IsTupOf2 h TO a b) ∧ LtSt i1 l1 xs 0 h ∧ TtSt i2 l2 ys 0 h) where
  type := fun s ok => ⟨_, ok.1, rfl⟩
  notDict := by decide
  keep := fun h h' ⟨q1, q2, ⟨a, b, q3⟩, q4, q5⟩ hk => ⟨hk _ _ q1, hk _ _ q2, ⟨a, b, hk _ _ q3⟩, q4.mov (hk _) (hk _), q5.mov (hk _) (hk _)⟩
  there := fun h ⟨q1, q2, ⟨a, c, q3⟩, ⟨⟨o1, q4, _⟩, ⟨o2, q5, _⟩⟩, ⟨⟨o3, q6, _⟩, ⟨o4, q7, _⟩⟩⟩ b hb => by
    simp only [List.mem_cons, List.not_mem_nil, or_false] at hb
    rcases hb with c | c | c | c | c | c | c
    · exact ⟨_, c ▸ q1⟩
    · exact ⟨_, c ▸ q2⟩
    · exact ⟨_, c ▸ q3⟩
    · exact ⟨_, c ▸ q4⟩
    · exact ⟨_, c ▸ q6⟩
    · exact ⟨_, c ▸ q5⟩
    · exact ⟨_, c ▸ q7⟩
  sub := fun b hb => by
    simp only [List.mem_cons, List.not_mem_nil, or_false] at hb ⊢
    rcases hb with c | c | c | c
    · exact .inl c
    · exact .inr (.inr (.inl c))
    · exact .inr (.inr (.inr (.inl c)))
    · exact .inr (.inr (.inr (.inr (.inl c))))
  noKeys := fun A s Q E hA ok h => getAttrOr_miss_zip ok.1 rfl rfl rfl zip_no_keys (by decide +kernel) hA h
  iter := fun A s d Q E hA ok hd off h => by
    obtain ⟨q1, q2, ⟨a, b, q3⟩, q4, q5⟩ := ok
    simp only [List.mem_cons, List.not_mem_nil, or_false, not_or] at off
    obtain ⟨dz, dI, dO, d1, d2, e1, e2⟩ := off
    have hA1 : A.in1.handled = none := by simp [hA]
    have D1 := Draws.list (prog := prog) (w := w) hA1 i1 l1 hl1 xs
    have D2 := Draws.tuple (prog := prog) (w := w) hA1 i2 l2 hl2 ys
    refine wpAny_pyIter_zip q1 (h z [z, TO, i1, i2] (fun i g => IsTupOf2 g TI (.ref i1) (.ref i2) ∧ LtSt i1 l1 xs i g ∧ TtSt i2 l2 ys i g ∧ ((IsZip g z TI TO .none ∧ ∃ a b, IsTupOf2 g TO a b) ∨ ∃ T f oT, IsZipHeld g z TI TO T f ∧ g.get? T = some oT ∧ T ≠ z ∧ T ≠ i1 ∧ T ≠ i2 ∧ T ≠ d)) s.heap s.toks ?_ ⟨q2, q4, q5, .inl ⟨q1, a, b, q3⟩⟩ (fun _ _ x => x) fun b hb => .inl hb)
    exact {
      off := fun m => by
        simp only [List.mem_cons, List.not_mem_nil, or_false] at m
        rcases m with c | c | c | c
        · exact dz c
        · exact dO c
        · exact d1 c
        · exact d2 c
      frame := fun i g g' ⟨r2, r4, r5, rz⟩ hk => by
        refine ⟨hk _ _ (Ne.symm dI) r2, r4.mov (fun o => hk _ o (Ne.symm d1)) (fun o => hk _ o (Ne.symm e1)), r5.mov (fun o => hk _ o (Ne.symm d2)) (fun o => hk _ o (Ne.symm e2)), ?_⟩
        rcases rz with ⟨rz, a, b, ro⟩ | ⟨T, f, oT, rz, rT, t1, t2, t3, t4⟩
        · exact .inl ⟨hk _ _ (Ne.symm dz) rz, a, b, hk _ _ (Ne.symm dO) ro⟩
        · exact .inr ⟨T, f, oT, hk _ _ (Ne.symm dz) rz, hk _ _ t4 rT, t1, t2, t3, t4⟩
      item := fun i s₁ Q₁ E₁ hi ⟨r2, r4, r5, rz⟩ hds hQ => by
        have far : ∀ {c o}, s₁.heap.get? c = some o → s₁.heap.objs.size ≠ c := fun x => Nat.ne_of_gt (Heap.lt_size x)
        have f1 : s₁.heap.objs.size ≠ i1 := let ⟨_, x, _⟩ := r4.1; far x
        have f2 : s₁.heap.objs.size ≠ i2 := let ⟨_, x, _⟩ := r5.1; far x
        rcases rz with ⟨rz, a, b, ro⟩ | ⟨T, f, oT, rz, rT, t1, t2, t3, t4⟩
        · refine wpAny_pyNext_zipD2_item S D1 D2 rz r2 ro r4 r5 hi (by omega) fun x1 x2 h' tk p1 p2 a1 a2 a3 a4 a5 a6 hk => ?_
          exact hQ s₁.heap.objs.size _ _ h' tk ⟨p1, p2⟩ (.inl ⟨_, a5, rfl, _, rfl⟩) ⟨hk _ _ S.TIz S.TITO S.TIi1 S.TIi2 r2, a3, a4, .inr ⟨s₁.heap.objs.size, false, _, a1, a5, far rz, f1, f2, Nat.ne_of_gt hds⟩⟩
            fun c o hc x => hk c o (fun y => hc (by simp [y])) (fun y => hc (by simp [y])) (fun y => hc (by simp [y])) (fun y => hc (by simp [y])) x
        · refine nextH_item S D1 D2 rz rT r2 r4 r5 hi (by omega) fun x1 x2 h' tk p1 p2 a1 a3 a4 a5 a6 hk => ?_
          exact hQ s₁.heap.objs.size _ _ h' tk ⟨p1, p2⟩ (.inl ⟨_, a5, rfl, _, rfl⟩) ⟨hk _ _ S.TIz S.TIi1 S.TIi2 r2, a3, a4, .inr ⟨T, true, oT, a1, hk _ _ t1 t2 t3 rT, t1, t2, t3, t4⟩⟩
            fun c o hc x => hk c o (fun y => hc (by simp [y])) (fun y => hc (by simp [y])) (fun y => hc (by simp [y])) x
      done := fun s₁ Q₁ E₁ ⟨r2, r4, r5, rz⟩ hQ => by
        rcases rz with ⟨rz, a, b, ro⟩ | ⟨T, f, oT, rz, rT, t1, t2, t3, t4⟩
        · exact wpAny_pyNext_zipD2_end S D1 D2 rz r2 ro r4 r5 (Nat.le_refl _) (by omega) (.inl rfl) fun h' tk hk => hQ h' tk fun c o hc x => hk c o (fun y => hc (by simp [y])) (fun y => hc (by simp [y])) (fun y => hc (by simp [y])) (fun y => hc (by simp [y])) x
        · exact nextH_end S D1 rz rT r2 r4 fun h' hk => hQ h' s₁.toks fun c o hc x => hk c o (fun y => hc (by simp [y])) (fun y => hc (by simp [y])) x }
end
end Z
namespace Z
open PySem PySem.Spec PyProof.Rows L2
/-- dict(zip(names, values)), the names in a list, the values in a tuple of the same length -/
def tDictZ (K : PySem.W.Frag) (ta : TA) : TE := fun σ H Q => ta σ H fun vs H1 => ∃ (l t : Addr) (ks : List Str) (ys : List V), vs = [.ref l, .ref t] ∧ SqL K H1 l (ks.map V.str) ∧ SqT K H1 t ys ∧ ks.length = ys.length ∧
  ∀ p, H1 p = none → Q (.ref p) (upd H1 p (.dK (mergeK [] ((ks.zip ys).map fun z => ((Sum.inr z.1 : Key), z.2)))))
theorem kvs_zip : ∀ {ks : List Str} {ys : List V} {us vs : List Value}, Vals (ks.map V.str) us → Vals ys vs → ks.length = ys.length → ∃ prs : List (Key × Value), KV ((ks.zip ys).map fun z => ((Sum.inr z.1 : Key), z.2)) prs ∧ prs.length = us.length ∧ ∀ (i : Nat) (a v : Value), us[i]? = some a → vs[i]? = some v → ∃ x t, a = .str x t ∧ prs[i]? = some (Sum.inr x, v)
  | [], [], _, _, .nil, .nil, _ => ⟨[], .nil, rfl, fun i a v h => by simp at h⟩
  | k :: ks, y :: ys, _, _, .cons ra ta, .cons rv tv, e => by
    obtain ⟨prs, h1, h2, h3⟩ := kvs_zip ta tv (by simpa using e)
    obtain ⟨t, rfl⟩ := ra
    refine ⟨(Sum.inr k, _) :: prs, .cons ⟨rfl, rv⟩ h1, by rw [List.length_cons, List.length_cons, h2], fun i a v ha hv => ?_⟩
    cases i with
    | zero =>
      cases (show some _ = some _ from ha); cases (show some _ = some _ from hv)
      exact ⟨k, t, rfl, rfl⟩
    | succ i => exact h3 i a v (by simpa using ha) (by simpa using hv)
section
variable {X : Cx}
theorem pe_dictZ {a b : Expr} {ta : TA} {p p2 q pos : Pos} (hc : X.calm = true) (hg : Gl X "dict") (hm : X.mg "dict" = none) (hg2 : Gl X "zip") (hm2 : X.mg "zip" = none) (ha : PA X [a, b] ta)
    (hs : starEach [a, b] X.env = (false, eval a X.env) :: starEach [b] X.env := by rfl) (hpl : (backTo q (starEach [b] X.env)).any (·.1) = false := by rfl) : PE X (.Call (.Name "dict" p) [.Call (.Name "zip" p2) [a, b] [] q] [] pos) (tDictZ X.K ta) := by
  refine ⟨fun pins s σ H Q I h => Call_ (ld_blt I hg hm (show bootBuiltins "dict" = some (.type "dict") by decide +kernel) (callWith_type1 (args_cons ?_ rfl) rfl rfl))⟩
  refine Call_ (ld_blt I hg2 hm2 (show bootBuiltins "zip" = some (.type "zip") by decide +kernel) (callWith_type1 (thn (ha.run q pins s σ H _ I h) fun us s1 ⟨vs, H1, I1, r1, q1⟩ => ?_) hs hpl))
  obtain ⟨l, t, ks, ys, rfl, hl, ht, e, q1⟩ := q1
  obtain ⟨u1, u2, rfl, ru1, ru2⟩ := vals2 r1
  obtain rfl : u1 = Value.ref l := ru1
  obtain rfl : u2 = Value.ref t := ru2
  obtain ⟨its, rv, pl, z1⟩ := I1.list hl
  obtain ⟨its2, rv2, pt, z2⟩ := I1.tuple ht
  have lt1 := pl.lt
  obtain ⟨o2, ho2, _⟩ := id pt
  have lt2 := Heap.lt_size ho2
  obtain ⟨prs, kv, kl, kp⟩ := kvs_zip rv rv2 e
  have n1 : its.length = ks.length := by rw [← rv.length, List.length_map]
  have n2 : its2.length = ys.length := rv2.length.symm
  refine zip_begins2 (begins_list l its.toArray) (begins_tuple t its2.toArray) pl.isList pt fun h' hz hTI hTO g1 g2 hsz hk => args_nil ?_
  have S := zip_sep2 (N := s1.heap.objs.size) (fp1 := [l]) (fp2 := [t]) (fun b hb => by rw [List.mem_singleton.mp hb]; exact lt1) (fun b hb => by rw [List.mem_singleton.mp hb]; exact lt2)
  refine PySem.call_dict_pairs (knd := mixKind X.prog X.w) (kvs := prs) (pairs_listTup S (Nat.ne_of_lt lt1) (Nat.ne_of_lt (Nat.lt_succ_of_lt lt2)) (by rw [List.size_toArray, List.size_toArray, n1, n2, e]) (Nat.ne_of_gt (Nat.lt_add_right 2 lt1)) (Nat.ne_of_gt (Nat.lt_add_right 2 lt2)) (Nat.ne_of_lt (Nat.lt_succ_of_lt lt1)) (Nat.ne_of_lt lt2)) (I1.ok.hd hc)
    ⟨hz, hTI, ⟨_, _, hTO⟩, ⟨⟨_, g1, rfl, rfl⟩, pl.isList.at fun o x => hk _ o x⟩, ⟨⟨_, g2, rfl, rfl⟩, (show s1.heap.IsTuple t its2.toArray from pt).at fun o x => hk _ o x⟩⟩ ⟨by rw [kl, List.size_toArray], fun i key v hr => ?_⟩ (by rw [List.size_toArray, n1, e]; exact z2) fun h2 tk hd old => ?_
  · obtain ⟨x, tt, rfl, hx⟩ := kp i key v (by simpa using hr.1) (by simpa using hr.2)
    exact ⟨_, hx, kV_is (P := X.prog) (w := X.w) ⟨tt, rfl⟩⟩
  · have up : s1.heap.objs.size ≤ h'.objs.size := by rw [hsz]; exact Nat.le_add_right _ _
    have big : (h'.objs.size == sysModules) = false := beq_eq_false_iff_ne.mpr (Nat.ne_of_gt (Nat.lt_of_lt_of_le I1.big up))
    have few : (mergeK [] ((ks.zip ys).map fun z => ((Sum.inr z.1 : Key), z.2))).length ≤ sizeLine := by
      refine Nat.le_trans (length_mergeK _ []) ?_
      rw [List.length_nil, Nat.zero_add, List.length_map, List.length_zip, e, Nat.min_self]; exact z2
    have keep2 : ∀ c o, s1.heap.get? c = some o → h2.get? c = some o := fun c o x => old c o (fun m => by
      have := Heap.lt_size x
      simp only [List.mem_cons, List.not_mem_nil, or_false] at m
      rcases m with c1 | c1 | c1 | c1
      · rw [c1] at this; exact absurd this (Nat.not_lt_of_le (Nat.le_add_right _ _))
      · rw [c1] at this; exact absurd this (Nat.not_lt_of_le (Nat.le_add_right _ _))
      · rw [c1] at this; exact absurd this (Nat.lt_irrefl _)
      · rw [c1] at this; exact absurd this (Nat.not_lt_of_le (Nat.le_add_right _ _))) (hk c o x)
    exact ⟨.ref h'.objs.size, upd H1 h'.objs.size (.dK (mergeK [] ((ks.zip ys).map fun z => ((Sum.inr z.1 : Key), z.2)))), I1.laid (t' := tk) keep2 up (show ObjOk X.prog X.w _ _ _ (.dK _) from ⟨few, big, merged [] prs, KV.merge kv .nil, hd⟩), rfl, q1 _ (I1.hok.fresh up)⟩
end
end Z
namespace Z
open PySem L2 SX
/-! ### labels -/
abbrev Lb := Option Int
def lbV : Lb → V
  | none => .non
  | some i => .int i
def lbD : Lb → D
  | none => .non
  | some i => .int i
theorem lb_dv {K : PySem.W.Frag} {H : Hp} : ∀ x : Lb, DV K H (lbD x) (lbV x)
  | none => by unfold lbD lbV; unfold DV; rfl
  | some i => by unfold lbD lbV; unfold DV; rfl
theorem lb_flat : ∀ x : Lb, flatV (lbV x) = true
  | none => rfl
  | some _ => rfl
/-- of None or a number -/
theorem lb_none (x : Lb) : decide (lbV x = V.non) = x.isNone := by
  cases x with
  | none => rfl
  | some i => rfl
def labAt (ns : List Str) (lab : List Lb) (y : Str) : Lb := ((ns.zip lab).find? fun z => decide (z.1 = y)).bind (·.2)
theorem labAt_get {y : Str} {x : Lb} : ∀ {ns : List Str} {lab : List Lb} {j : Nat}, ns.Nodup → ns[j]? = some y → lab[j]? = some x → labAt ns lab y = x
  | [], _, _, _, h, _ => by simp at h
  | _ :: _, [], _, _, _, h => by simp at h
  | n :: ns, b :: lab, 0, _, h1, h2 => by
    cases (show some _ = some _ from h1); cases (show some _ = some _ from h2)
    unfold labAt
    rw [List.zip_cons_cons, List.find?_cons_of_pos (by simp)]; rfl
  | n :: ns, b :: lab, j + 1, nd, h1, h2 => by
    obtain ⟨n1, n2⟩ := List.nodup_cons.mp nd
    have h1' : ns[j]? = some y := by simpa using h1
    unfold labAt
    rw [List.zip_cons_cons, List.find?_cons_of_neg (by simp only [decide_eq_true_eq]; exact fun e => n1 (by rw [e]; exact List.mem_of_getElem? h1'))]
    exact labAt_get n2 h1' (by simpa using h2)
theorem lab_ex {ns : List Str} {lab : List Lb} {y : Str} (e : lab.length = ns.length) (h : y ∈ ns) : ∃ (j : Nat) (x : Lb), ns[j]? = some y ∧ lab[j]? = some x := by
  obtain ⟨j, hj⟩ := List.getElem?_of_mem h
  have := (List.getElem?_eq_some_iff.mp hj).1
  exact ⟨j, lab[j], hj, List.getElem?_eq_getElem (by omega)⟩
/-- a dict of names and values -/
def kvN (ns : List Str) (ys : List V) : List (Key × V) := (ns.zip ys).map fun z => ((Sum.inr z.1 : Key), z.2)
theorem kvN_val {y : Str} {v : V} : ∀ {ns : List Str} {ys : List V} {j : Nat}, ns.Nodup → ns[j]? = some y → ys[j]? = some v → valV (kvN ns ys) (Sum.inr y : Key) = some v
  | [], _, _, _, h, _ => by simp at h
  | _ :: _, [], _, _, _, h => by simp at h
  | n :: ns, b :: ys, 0, _, h1, h2 => by
    cases (show some _ = some _ from h1); cases (show some _ = some _ from h2)
    exact valV_pos rfl
  | n :: ns, b :: ys, j + 1, nd, h1, h2 => by
    obtain ⟨n1, n2⟩ := List.nodup_cons.mp nd
    have h1' : ns[j]? = some y := by simpa using h1
    show valV ((Sum.inr n, b) :: kvN ns ys) _ = _
    rw [valV_neg fun e => n1 (by rw [Sum.inr.inj e]; exact List.mem_of_getElem? h1')]
    exact kvN_val n2 h1' (by simpa using h2)
theorem merge_new : ∀ {more kvs : List (Key × V)}, ((kvs ++ more).map (·.1)).Nodup → mergeK kvs more = kvs ++ more
  | [], kvs, _ => by rw [List.append_nil]; rfl
  | p :: more, kvs, nd => by
    have e : kvs ++ p :: more = (kvs ++ [p]) ++ more := by simp
    rw [e] at nd
    show mergeK (putK kvs p.1 p.2) more = _
    have no : valV kvs p.1 = none := by
      unfold valV
      rw [Option.map_eq_none_iff, List.find?_eq_none]
      intro x hx c
      rw [List.map_append, List.map_append] at nd
      exact (List.nodup_append.mp (List.nodup_append.mp nd).1).2.2 x.1 (List.mem_map_of_mem (f := (·.1)) hx) p.1 (by simp) (of_decide_eq_true c)
    rw [putK_new _ no, merge_new (more := more) nd, e]
theorem zip_sub : ∀ (ns : List Str) (ys : List V), ((ns.zip ys).map (·.1)).Sublist ns
  | [], _ => List.Sublist.slnil
  | _ :: _, [] => List.nil_sublist _
  | n :: ns, y :: ys => (zip_sub ns ys).cons_cons n
theorem kvN_merge {ns : List Str} {ys : List V} (nd : ns.Nodup) : mergeK [] (kvN ns ys) = kvN ns ys := by
  refine merge_new (kvs := []) ?_
  rw [List.nil_append]
  have : (kvN ns ys).map (·.1) = ((ns.zip ys).map (·.1)).map (Sum.inr : Str → Key) := by unfold kvN; rw [List.map_map, List.map_map]; rfl
  rw [this]
  refine List.pairwise_map.mpr ((?_ : ((ns.zip ys).map (·.1)).Nodup).imp fun h e => h (Sum.inr.inj e))
  exact nd.sublist (zip_sub ns ys)
def keepB (x : Lb) (h : Int) (y : Lb) : Bool := match x with
  | none => true
  | some i => decide (h < i + 1) || match y with
    | none => false
    | some j => decide (j ≤ i + 1)
/-- what right labels are -/
structure JL (b : Bk) (k : Ki) (lab : List Lb) : Prop where
  ln : lab.length = b.si.length
  nn : ∀ x ∈ lab, ∀ i, x = some i → 0 ≤ i
  og : k.o ∈ carL b k.bs → labAt (nms b) lab k.o = some 0
  lk : ∀ l ∈ lkL b k.bs k.z, keepB (labAt (nms b) lab l.1) l.2.2 (labAt (nms b) lab l.2.1) = true
/-- the labels of hops -/
def hLab (b : Bk) (F : Hs) : List Lb := (nms b).map fun y => (lookF F y).map fun d : Nat => (d : Int)
theorem hLab_at {b : Bk} {F : Hs} (nd : (nms b).Nodup) {y : Str} (h : y ∈ nms b) : labAt (nms b) (hLab b F) y = (lookF F y).map fun d : Nat => (d : Int) := by
  obtain ⟨j, hj⟩ := List.getElem?_of_mem h
  exact labAt_get nd hj (by unfold hLab; rw [List.getElem?_map, hj]; rfl)
theorem lookF_mem {y : Str} {d : Nat} {F : Hs} (h : lookF F y = some d) : (y, d) ∈ F := by
  unfold lookF at h
  cases e : F.find? fun x => decide (x.1 = y) with
  | none => rw [e] at h; cases h
  | some x =>
    rw [e] at h
    have h1 := List.find?_some e
    have h2 := List.mem_of_find?_eq_some e
    have e1 : x.1 = y := of_decide_eq_true h1
    have e2 : x.2 = d := Option.some.inj h
    rw [← e1, ← e2]; exact h2
theorem lk_of {b : Bk} (nb : NB b) {bs : List Str} {z : Int} {l : Str × Str × Int} (h : l ∈ lkL b bs z) : l.1 ∈ nms b ∧ l.2.1 ∈ nms b := by
  unfold lkL at h
  obtain ⟨f, hf, rfl⟩ := List.mem_map.mp h
  exact nb.fe f (List.mem_filter.mp hf).1
theorem hLab_len (b : Bk) (F : Hs) : (hLab b F).length = b.si.length := by unfold hLab nms; rw [List.length_map, List.length_map]
theorem hLab_nn {b : Bk} {F : Hs} : ∀ x ∈ hLab b F, ∀ i, x = some i → 0 ≤ i := fun x hx i e => by
  unfold hLab at hx
  obtain ⟨y, _, rfl⟩ := List.mem_map.mp hx
  cases c : lookF F y with
  | none => rw [c] at e; cases e
  | some d =>
    rw [c] at e
    rw [← Option.some.inj e]; exact Int.natCast_nonneg _
/-- hops that keep the links are right labels -/
theorem jl_of {b : Bk} {k : Ki} {F : Hs} (nb : NB b) (kon : k.o ∈ nms b) (nd : (F.map (·.1)).Nodup) (o1 : k.o ∈ carL b k.bs → (k.o, 0) ∈ F) (lk : ∀ l ∈ lkL b k.bs k.z, ∀ d, (l.1, d) ∈ F → (d : Int) + 1 ≤ l.2.2 → ∃ e, (l.2.1, e) ∈ F ∧ e ≤ d + 1) : JL b k (hLab b F) := by
  refine ⟨hLab_len b F, hLab_nn, fun c => ?_, fun l hl => ?_⟩
  · rw [hLab_at nb.nd kon, lookF_some nd (o1 c)]; rfl
  · obtain ⟨m1, m2⟩ := lk_of nb hl
    rw [hLab_at nb.nd m1, hLab_at nb.nd m2]
    cases c : lookF F l.1 with
    | none => rfl
    | some d =>
      have hd := lookF_mem c
      show (decide (l.2.2 < (d : Int) + 1) || _) = true
      by_cases c2 : l.2.2 < (d : Int) + 1
      · rw [decide_eq_true c2]; rfl
      · obtain ⟨e, he, le⟩ := lk l hl d hd (by omega)
        rw [lookF_some nd he]
        rw [Bool.or_eq_true]
        refine .inr (decide_eq_true ?_)
        show (e : Int) ≤ (d : Int) + 1
        omega
theorem jl_hops {b : Bk} {k : Ki} {F : Hs} (nb : NB b) (kon : k.o ∈ nms b) (h : HopsOk (lkL b k.bs k.z) k.o (carL b k.bs) F) : JL b k (hLab b F) := by
  refine jl_of nb kon h.1 (fun c => ?_) fun l hl d hd le => ?_
  · obtain ⟨d, hd⟩ := (h.2.1 c).2 k.o [k.o] .one
    obtain ⟨w, hw, e⟩ := (h.2.1 c).1 _ hd
    have := hw.2.1 [k.o] .one
    simp only [List.length_singleton] at this e
    have e0 : d = 0 := by omega
    rw [e0] at hd; exact hd
  · have c : k.o ∈ carL b k.bs := by
      by_cases c : k.o ∈ carL b k.bs
      · exact c
      · rw [h.2.2 c] at hd; cases hd
    obtain ⟨w, hw, e⟩ := (h.2.1 c).1 _ hd
    simp only at hw e
    have way : Way (lkL b k.bs k.z) k.o (w ++ [l.2.1]) l.2.1 := .snoc hw.1 ⟨l.2.2, hl, by omega⟩
    obtain ⟨e2, he2⟩ := (h.2.1 c).2 _ _ way
    obtain ⟨v, hv, ev⟩ := (h.2.1 c).1 _ he2
    have := hv.2.1 _ way
    rw [List.length_append, List.length_singleton] at this
    simp only at ev
    exact ⟨e2, he2, by omega⟩
/-- right labels are not above the least hops -/
theorem jl_low {b : Bk} {k : Ki} {lab : List Lb} (h : JL b k lab) (c : k.o ∈ carL b k.bs) {w : List Str} {y : Str} (hw : Way (lkL b k.bs k.z) k.o w y) : ∃ i, labAt (nms b) lab y = some i ∧ i + 1 ≤ w.length := by
  induction hw with
  | one => exact ⟨0, h.og c, by show (0 : Int) + 1 ≤ 1; decide⟩
  | @snoc w x z a e ih =>
    obtain ⟨i, h1, h2⟩ := ih
    obtain ⟨hb, hm, hl⟩ := e
    have kp := h.lk _ hm
    simp only at kp
    rw [h1] at kp
    have len := a.len
    unfold keepB at kp
    simp only at kp
    rw [decide_eq_false (by omega), Bool.false_or] at kp
    cases e : labAt (nms b) lab z with
    | none => rw [e] at kp; cases kp
    | some j =>
      rw [e] at kp
      have := of_decide_eq_true kp
      exact ⟨j, rfl, by rw [List.length_append]; simp; omega⟩
theorem jl_hop {b : Bk} {k : Ki} {lab : List Lb} {F : Hs} (h : JL b k lab) (ho : HopsOk (lkL b k.bs k.z) k.o (carL b k.bs) F) {y : Str} {d : Nat} (hd : (y, d) ∈ F) : ∃ i, labAt (nms b) lab y = some i ∧ i ≤ d := by
  have c : k.o ∈ carL b k.bs := by
    by_cases c : k.o ∈ carL b k.bs
    · exact c
    · rw [ho.2.2 c] at hd; cases hd
  obtain ⟨w, hw, e⟩ := (ho.2.1 c).1 _ hd
  obtain ⟨i, h1, h2⟩ := jl_low h c hw.1
  simp only at e
  exact ⟨i, h1, by omega⟩
/-! ### the law's own least hops -/
structure LH (L : Lk) (o : Str) (cs ns : List Str) (s j : Nat) (F : Hs) : Prop where
  nd : (F.map (·.1)).Nodup
  us : ∀ x ∈ F, x.1 ∈ ns
  le : ∀ x ∈ F, x.2 ≤ s
  o1 : o ∈ cs → (o, 0) ∈ F
  o2 : o ∉ cs → F = []
  c1 : ∀ l ∈ L, ∀ d, (l.1, d) ∈ F → d + 1 < s → (d : Int) + 1 ≤ l.2.2 → ∃ e, (l.2.1, e) ∈ F ∧ e ≤ d + 1
  c2 : ∀ l ∈ L.take j, ∀ d, (l.1, d) ∈ F → d + 1 = s → (d : Int) + 1 ≤ l.2.2 → ∃ e, (l.2.1, e) ∈ F ∧ e ≤ d + 1
  ch : ∀ x ∈ F, ∀ d, x.2 = d + 1 → ∃ y ∈ F, y.2 = d
theorem LH.start1 {L : Lk} {o : Str} {cs ns : List Str} (c : o ∈ cs) (on : o ∈ ns) : LH L o cs ns 0 L.length [(o, 0)] := by
  refine ⟨by simp, fun x hx => by rw [List.mem_singleton.mp hx]; exact on, fun x hx => by rw [List.mem_singleton.mp hx]; exact Nat.le_refl _, fun _ => by simp, fun h => absurd c h, fun _ _ _ _ h => absurd h (Nat.not_lt_zero _), fun _ _ _ _ h => absurd h (by omega), fun x hx d e => ?_⟩
  rw [List.mem_singleton.mp hx] at e
  cases e
theorem LH.start0 {L : Lk} {o : Str} {cs ns : List Str} (c : o ∉ cs) : LH L o cs ns 0 L.length [] :=
  ⟨List.nodup_nil, (fun _ h => by cases h), (fun _ h => by cases h), fun h => absurd h c, fun _ => rfl, (fun _ _ _ h => by cases h), (fun _ _ _ h => by cases h), (fun _ h => by cases h)⟩
theorem LH.next {L : Lk} {o : Str} {cs ns : List Str} {s : Nat} {F : Hs} (h : LH L o cs ns s L.length F) : LH L o cs ns (s + 1) 0 F :=
  ⟨h.nd, h.us, fun x hx => Nat.le_succ_of_le (h.le x hx), h.o1, h.o2, fun l hl d hd lt lb => by
    by_cases e : d + 1 < s
    · exact h.c1 l hl d hd e lb
    · exact h.c2 l (by rw [List.take_length]; exact hl) d hd (by omega) lb, (fun l hl => by rw [List.take_zero] at hl; cases hl), h.ch⟩
theorem LH.skip {L : Lk} {o : Str} {cs ns : List Str} {s j : Nat} {F : Hs} (h : LH L o cs ns s j F) {l : Str × Str × Int} (hl : L[j]? = some l) (k : ∀ d, (l.1, d) ∈ F → d + 1 = s → (d : Int) + 1 ≤ l.2.2 → ∃ e, (l.2.1, e) ∈ F) : LH L o cs ns s (j + 1) F := by
  refine ⟨h.nd, h.us, h.le, h.o1, h.o2, h.c1, fun m hm d hd e lb => ?_, h.ch⟩
  rw [List.take_add_one, hl] at hm
  rcases List.mem_append.mp hm with c | c
  · exact h.c2 m c d hd e lb
  · have em : m = l := List.mem_singleton.mp c
    subst em
    obtain ⟨x, hx⟩ := k d hd e lb
    exact ⟨x, hx, by have := h.le _ hx; simp only at this; omega⟩
theorem LH.put {L : Lk} {o : Str} {cs ns : List Str} {s j : Nat} {F : Hs} (h : LH L o cs ns s j F) {l : Str × Str × Int} (hl : L[j]? = some l) (tn : l.2.1 ∈ ns) {d : Nat} (hd : (l.1, d) ∈ F) (ed : d + 1 = s) (no : ∀ e, (l.2.1, e) ∉ F) : LH L o cs ns s (j + 1) (F ++ [(l.2.1, s)]) := by
  have old : ∀ {y e}, (y, e) ∈ F ++ [(l.2.1, s)] → e + 1 ≤ s → (y, e) ∈ F := fun {y e} m lt => by
    rcases List.mem_append.mp m with c | c
    · exact c
    · have := (Prod.mk.inj (List.mem_singleton.mp c)).2; omega
  have up : ∀ {y e}, (y, e) ∈ F → (y, e) ∈ F ++ [(l.2.1, s)] := fun m => List.mem_append_left _ m
  refine ⟨?_, fun x hx => ?_, fun x hx => ?_, fun c => up (h.o1 c), fun c => ?_, fun m hm e he lt lb => ?_, fun m hm e he eq lb => ?_, fun x hx e eq => ?_⟩
  · rw [List.map_append, List.nodup_append]
    refine ⟨h.nd, by simp, fun a ha b hb e => ?_⟩
    obtain ⟨x, hx, rfl⟩ := List.mem_map.mp ha
    have eb : b = l.2.1 := by simpa using hb
    exact no x.2 (by rw [← eb, ← e]; exact hx)
  · rcases List.mem_append.mp hx with c | c
    · exact h.us x c
    · rw [List.mem_singleton.mp c]; exact tn
  · rcases List.mem_append.mp hx with c | c
    · exact h.le x c
    · rw [List.mem_singleton.mp c]; exact Nat.le_refl _
  · rw [h.o2 c] at hd; cases hd
  · obtain ⟨x, hx, le⟩ := h.c1 m hm e (old he (by omega)) lt lb
    exact ⟨x, up hx, le⟩
  · rw [List.take_add_one, hl] at hm
    rcases List.mem_append.mp hm with c | c
    · obtain ⟨x, hx, le⟩ := h.c2 m c e (old he (by omega)) eq lb
      exact ⟨x, up hx, le⟩
    · have em : m = l := List.mem_singleton.mp c
      subst em
      exact ⟨s, by simp, by omega⟩
  · rcases List.mem_append.mp hx with c | c
    · obtain ⟨y, hy, e2⟩ := h.ch x c e eq
      exact ⟨y, List.mem_append_left _ hy, e2⟩
    · rw [List.mem_singleton.mp c] at eq
      simp only at eq
      exact ⟨_, up hd, by simp only; omega⟩
/-- as deep a hop, as many entries -/
theorem LH.deep {L : Lk} {o : Str} {cs ns : List Str} {s j : Nat} {F : Hs} (h : LH L o cs ns s j F) : ∀ (d : Nat), (∃ x ∈ F, x.2 = d) → ∃ G : Hs, (∀ x ∈ G, x ∈ F ∧ x.2 ≤ d) ∧ (G.map (·.2)).Nodup ∧ G.length = d + 1
  | 0, ⟨x, hx, e⟩ => ⟨[x], fun y hy => by rw [List.mem_singleton.mp hy]; exact ⟨hx, by omega⟩, by simp, rfl⟩
  | d + 1, ⟨x, hx, e⟩ => by
    obtain ⟨G, g1, g2, g3⟩ := h.deep d (h.ch x hx d e)
    refine ⟨x :: G, fun y hy => ?_, ?_, by rw [List.length_cons, g3]⟩
    · rcases List.mem_cons.mp hy with c | c
      · rw [c]; exact ⟨hx, by omega⟩
      · exact ⟨(g1 y c).1, by have := (g1 y c).2; omega⟩
    · rw [List.map_cons, List.nodup_cons]
      refine ⟨fun m => ?_, g2⟩
      obtain ⟨y, hy, e2⟩ := List.mem_map.mp m
      have := (g1 y hy).2
      omega
theorem nodup_full {ns : List Str} {l : List Str} (nd : l.Nodup) (sub : ∀ x ∈ l, x ∈ ns) (le : ns.length ≤ l.length) : ∀ y ∈ ns, y ∈ l := fun y hy => by
  by_cases c : y ∈ l
  · exact c
  · have := nodup_len (l := y :: l) (m := ns) (List.nodup_cons.mpr ⟨c, nd⟩) fun x hx => by
      rcases List.mem_cons.mp hx with e | e
      · rw [e]; exact hy
      · exact sub x e
    rw [List.length_cons] at this
    omega
theorem LH.fin {L : Lk} {o : Str} {cs ns : List Str} {n : Nat} {F : Hs} (h : LH L o cs ns n L.length F) (hn : ns.length = n + 1) (tn : ∀ l ∈ L, l.2.1 ∈ ns) : ∀ l ∈ L, ∀ d, (l.1, d) ∈ F → (d : Int) + 1 ≤ l.2.2 → ∃ e, (l.2.1, e) ∈ F ∧ e ≤ d + 1 := fun l hl d hd lb => by
  by_cases c1 : d + 1 < n
  · exact h.c1 l hl d hd c1 lb
  · by_cases c2 : d + 1 = n
    · exact h.c2 l (by rw [List.take_length]; exact hl) d hd c2 lb
    · have le := h.le _ hd
      simp only at le
      obtain ⟨G, g1, g2, g3⟩ := h.deep d ⟨_, hd, rfl⟩
      have nf : (F.map (·.1)).length ≥ ns.length := by
        have sub : ∀ x ∈ G, x ∈ F := fun x hx => (g1 x hx).1
        have ndG : G.Nodup := nd_snd g2
        have := nodup_sub_len ndG sub
        rw [List.length_map]; omega
      have all := nodup_full h.nd (fun x hx => by obtain ⟨y, hy, rfl⟩ := List.mem_map.mp hx; exact h.us y hy) nf
      obtain ⟨⟨y, e⟩, hy, rfl⟩ := List.mem_map.mp (all _ (tn l hl))
      exact ⟨e, hy, by have := h.le _ hy; simp only at this; omega⟩
where
  nd_snd : ∀ {G : Hs}, (G.map (·.2)).Nodup → G.Nodup
    | [], _ => List.nodup_nil
    | p :: G, h => by
      obtain ⟨n1, n2⟩ := List.nodup_cons.mp h
      exact List.nodup_cons.mpr ⟨fun m => n1 (List.mem_map_of_mem (f := (·.2)) m), nd_snd n2⟩
  nodup_sub_len : ∀ {G F : Hs}, G.Nodup → (∀ x ∈ G, x ∈ F) → G.length ≤ F.length
    | [], F, _, _ => Nat.zero_le _
    | p :: G, F, h, s => by
      obtain ⟨n1, n2⟩ := List.nodup_cons.mp h
      have hp := s p (by simp)
      have := nodup_sub_len (F := F.erase p) n2 fun y my => (List.mem_erase_of_ne (fun e => n1 (by rw [← e]; exact my))).mpr (s y (List.mem_cons_of_mem _ my))
      have e := List.length_erase_of_mem hp
      have q := List.length_pos_of_mem hp
      rw [List.length_cons]; omega
abbrev kvF (F : Hs) : List (Key × V) := F.map fun x => ((Sum.inr x.1 : Key), V.int (x.2 : Nat))
theorem kvF_val (y : Str) : ∀ F : Hs, valV (kvF F) (Sum.inr y : Key) = (lookF F y).map fun d => V.int (d : Nat)
  | [] => rfl
  | p :: F => by
    show valV ((Sum.inr p.1, V.int (p.2 : Nat)) :: kvF F) _ = _
    unfold lookF
    by_cases e : p.1 = y
    · rw [valV_pos (by show Sum.inr p.1 = _; rw [e]), List.find?_cons_of_pos (by simpa using e)]; rfl
    · rw [valV_neg fun z => e (Sum.inr.inj z), List.find?_cons_of_neg (by simpa using e)]
      exact kvF_val y F
theorem lookF_non {y : Str} {F : Hs} (h : lookF F y = none) : ∀ d, (y, d) ∉ F := fun d m => by
  unfold lookF at h
  rw [Option.map_eq_none_iff, List.find?_eq_none] at h
  exact h _ m (decide_eq_true rfl)
theorem lbs_flat (lab : List Lb) : (lab.map lbV).all flatV = true := List.all_eq_true.mpr fun x h => by
  obtain ⟨y, _, rfl⟩ := List.mem_map.mp h; exact lb_flat y
theorem lb_ne0 (x : Lb) : (!decide (lbV x = V.int 0)) = true ↔ x ≠ some 0 := by
  cases x with
  | none => simp [lbV]
  | some i => simp [lbV]
theorem lb_scal (x : Lb) (i : Int) : scal (lbV x) (.int i) = true := by cases x <;> rfl
theorem lets_len {b : Bk} {bs : List Str} {i : Nat} : ((b.si.take i).filter fun s => letsP s.p bs).length ≤ i := by
  have := List.length_filter_le (fun s : Si => letsP s.p bs) (b.si.take i)
  rw [List.length_take] at this
  omega
theorem inV_bls (c : Bool) (bs : List Bool) : inV (V.bl c) (bs.map V.bl) = bs.any fun d => d == c := by
  unfold inV
  rw [List.any_map]
  rfl
theorem bls_flat (bs : List Bool) : (bs.map V.bl).all flatV = true := List.all_eq_true.mpr fun x h => by
  obtain ⟨y, _, rfl⟩ := List.mem_map.mp h; rfl
theorem idx_at {ns : List Str} {y : Str} (nd : ns.Nodup) (h : y ∈ ns) : ∃ j : Nat, ns[j]? = some y ∧ ∀ (m : Nat) (z : V), m < j → (ns.map V.str)[m]? = some z → eqV z (.str y) = false := by
  obtain ⟨j, hj⟩ := List.getElem?_of_mem h
  refine ⟨j, hj, fun m z lt hm => ?_⟩
  obtain ⟨x, hx, rfl⟩ := map_get hm
  have ne : x ≠ y := fun e => by
    rw [e] at hx
    have := (List.getElem?_inj (List.getElem?_eq_some_iff.mp hx).1 nd).mp (hx.trans hj.symm)
    omega
  show (x == y) = false
  exact beq_eq_false_iff_ne.mpr ne
/-! ### promises -/
def sp22_keeps : Sp := fun vs H Q _ => ∃ (x y : Lb) (h : Int), vs = [lbV x, .int h, lbV y] ∧ Q (.bl (keepB x h y)) H
noncomputable def jlB (b : Bk) (k : Ki) (lab : List Lb) : Bool := cB (JL b k lab)
def sp22_judge (K : PySem.W.Frag) : Sp := fun vs H Q _ => ∃ (b : Bk) (v u : V) (k : Ki) (t : Addr) (lab : List Lb), vs = [v, u, .ref t] ∧ DV K H (bkD b) v ∧ NB b ∧ DV K H (kiD k) u ∧ KiOk b k ∧ SqT K H t (lab.map lbV) ∧ lab.length ≤ 1000 ∧ ∀ H', Same H H' → Q (.bl (jlB b k lab)) H'
/-- who carries it, and the feeds that are wide enough -/
def WideAt (K : PySem.W.Frag) (H : Hp) (b : Bk) (k : Ki) (t G : Addr) : Prop := ∃ (us : List V) (fs : List Fd), SqT K H t [.bl (decide (k.o ∈ carL b k.bs)), .ref G] ∧ SqL K H G us ∧ DVs K H (fs.map fdD) us ∧ lkL b k.bs k.z = fs.map (fun f => (f.g, f.t, f.h)) ∧ fs.length ≤ 100
def sp22_wide (K : PySem.W.Frag) : Sp := fun vs H Q _ => ∃ (b : Bk) (v u : V) (k : Ki), vs = [v, u] ∧ DV K H (bkD b) v ∧ NB b ∧ DV K H (kiD k) u ∧ KiOk b k ∧ ∀ (t G : Addr) (H' : Hp), H G = none → Same H H' → WideAt K H' b k t G → Q (.ref t) H'
def sp22_right (K : PySem.W.Frag) : Sp := fun vs H Q _ => ∃ (b : Bk) (v u : V) (k : Ki) (w G t : Addr) (lab : List Lb), vs = [v, u, .ref w, .ref t] ∧ DV K H (bkD b) v ∧ NB b ∧ DV K H (kiD k) u ∧ KiOk b k ∧ WideAt K H b k w G ∧ SqT K H t (lab.map lbV) ∧ lab.length ≤ 1000 ∧ ∀ H', Same H H' → Q (.bl (jlB b k lab)) H'
def sp22_least (K : PySem.W.Frag) : Sp := fun vs H Q _ => ∃ (b : Bk) (v u : V) (k : Ki) (w G : Addr), vs = [v, u, .ref w] ∧ DV K H (bkD b) v ∧ NB b ∧ DV K H (kiD k) u ∧ KiOk b k ∧ WideAt K H b k w G ∧ ∀ (t : Addr) (lab : List Lb) (H' : Hp), Same H H' → SqT K H' t (lab.map lbV) → JL b k lab → Q (.ref t) H'
def sp22_bent (K : PySem.W.Frag) : Sp := fun vs H Q _ => ∃ (s a t : Addr) (lab : List Lb) (c : Nat), vs = [.ref s, .ref t] ∧ SqT K H t (lab.map lbV) ∧ 1 ≤ lab.length ∧ lab.length ≤ 100 ∧ Src H s a (c + 10) ∧
  ∀ (r : Addr) (lab' : List Lb) (H' : Hp), SqT K H' r (lab'.map lbV) → lab'.length = lab.length → Ext s H H' → Src H' s a c → Q (.ref r) H'
def lbsD (l : List Lb) : D := .tup (l.map lbD)
theorem lbs_dv {K : PySem.W.Frag} {H : Hp} : ∀ l : List Lb, DVs K H (l.map lbD) (l.map lbV)
  | [] => by unfold List.map DVs; rfl
  | x :: l => ⟨_, _, rfl, lb_dv x, lbs_dv l⟩
theorem dvs_lbs {K : PySem.W.Frag} {H : Hp} : ∀ {l : List Lb} {us : List V}, DVs K H (l.map lbD) us → us = l.map lbV
  | [], _, h => by unfold List.map DVs at h; exact h
  | none :: l, _, h => by
    obtain ⟨v, r, rfl, q, t⟩ := h
    unfold lbD DV at q
    rw [q, dvs_lbs t]; rfl
  | some i :: l, _, h => by
    obtain ⟨v, r, rfl, q, t⟩ := h
    unfold lbD DV at q
    rw [q, dvs_lbs t]; rfl
def sp22_all (K : PySem.W.Frag) : Sp := fun vs H Q _ => ∃ (s a t : Addr) (b : Bk) (v : V) (lab : List Lb) (c : Nat), vs = [.ref s, v, .ref t] ∧ DV K H (bkD b) v ∧ NB b ∧ SqT K H t (lab.map lbV) ∧ lab.length = b.si.length ∧ Src H s a (c + 500) ∧
  ∀ (r : Addr) (ys : List V) (T : List (List Lb)) (H' : Hp), SqL K H' r ys → DVs K H' (T.map lbsD) ys → (∀ l ∈ T, l.length ≤ 100) → T.length ≤ 100 → r ≠ s → Ext s H H' → Src H' s a c → Q (.ref r) H'
def sp22_above (K : PySem.W.Frag) : Sp := fun vs H Q _ => ∃ (t u : Addr) (la lb : List Lb), vs = [.ref t, .ref u] ∧ SqT K H t (la.map lbV) ∧ SqT K H u (lb.map lbV) ∧ la.length = lb.length ∧ la.length ≤ 1000 ∧ (∀ (j : Nat) (d : Int), lb[j]? = some (some d) → ∃ i, la[j]? = some (some i) ∧ i ≤ d) ∧ Q (.bl false) H
end Z
namespace Z
open PySem L2
section
variable {P : Program} {w : World} {K : PySem.W.Frag} {mg : Str → Option Value} {base : Heap}
theorem ok__law_mix (D : Df K mg "_law_mix" s__law_mix ["seed", "turn"]) (T : Tx mg) : Cal P w K mg base "_law_mix" ["seed", "turn"] 1 sp__law_mix := by
  obtain ⟨f, fd, F, gf, bf⟩ := D
  refine ⟨f, fd, F.ok sc__law_mix (fun vs H Q E h => ?_) (fun cdv A outer s H vs Q E hr h => ?_), gf, F.kp, bf⟩
  · obtain ⟨x, y, rfl, _⟩ := h; rfl
  · obtain ⟨x, y, rfl, x0, x1, y0, y1, q⟩ := h
    refine ⟨_, (pss_cons (ps_set (i := 2) sc__law_mix.nd rfl (Or.inl rfl) (pe_op op_mod (pe_callTy call_int1 (by rfl) T.n_int (by decide +kernel) (pa_cons (pe_op op_add (pe_op op_add (pe_op op_mul (pv 0) pe_int) (pe_op op_mul (pv 1) pe_int)) pe_int) pa_nil)) pe_int))
      (pss_cons (ps_set (i := 2) sc__law_mix.nd rfl (Or.inl rfl) (pe_op op_mod (pe_callTy call_int1 (by rfl) T.n_int (by decide +kernel) (pa_cons (pe_op op_add (pe_op op_add (pe_op op_mul (pv 2) (pv 2)) (pe_op op_mul (pv 1) pe_int)) pe_int) pa_nil)) pe_int))
      (pss_cons (ps_set (i := 2) sc__law_mix.nd rfl (Or.inl rfl) (pe_op op_mod (pe_callTy call_int1 (by rfl) T.n_int (by decide +kernel) (pa_cons (pe_op op_add (pe_op op_add (pe_op op_mul (pv 2) pe_int) (pe_op op_mul (pe_op op_mul (pv 1) (pv 1)) pe_int)) pe_int) pa_nil)) pe_int))
      (pss_one (ps_ret (pv 2)))))), ?_⟩

    refine ⟨_, rfl, _, _, rfl, rfl, .inr (by decide), _, rfl, _, _, rfl, rfl, .inr (by decide), _, _, rfl, rfl, _, _, rfl, rfl, .inl ⟨_, rfl, _, _, rfl, rfl, (by show (0 : Int) < _; decide), ?_⟩⟩
    refine ⟨_, rfl, _, rfl, _, _, rfl, rfl, .inl ⟨by omega, by omega⟩, _, rfl, _, _, rfl, rfl, .inr (by decide), _, _, rfl, rfl, _, _, rfl, rfl, .inl ⟨_, rfl, _, _, rfl, rfl, (by show (0 : Int) < _; decide), ?_⟩⟩
    refine ⟨_, rfl, _, _, rfl, rfl, .inr (by decide), _, rfl, _, rfl, _, _, rfl, rfl, .inl ⟨by omega, by omega⟩, _, _, rfl, rfl, .inr (by decide), _, _, rfl, rfl, _, _, rfl, rfl, .inl ⟨_, rfl, _, _, rfl, rfl, (by show (0 : Int) < _; decide), ?_⟩⟩
    exact ⟨_, rfl, q _ (Int.emod_nonneg _ (by decide)) (by omega)⟩
end
end Z
namespace Z
open PySem L2
section
variable {P : Program} {w : World} {K : PySem.W.Frag} {mg : Str → Option Value} {base : Heap}
theorem ok__law_source (D : Df K mg "_law_source" s__law_source ["script"]) (T : Tx mg) (C__law_mix : Cal P w K mg base "_law_mix" ["seed", "turn"] 1 sp__law_mix) : Cal P w K mg base "_law_source" ["script"] 2 (sp__law_source K) := by
  obtain ⟨f__law_mix, fd__law_mix, G__law_mix, g__law_mix, k__law_mix, b__law_mix⟩ := C__law_mix
  obtain ⟨f, fd, F, gf, bf⟩ := D
  refine ⟨f, fd, F.ok sc__law_source (fun vs H Q E h => ?_) (fun cdv A outer s H vs Q E hr h => ?_), gf, F.kp, bf⟩
  · obtain ⟨a, ns, rfl, _⟩ := h; rfl
  · obtain ⟨a, ns, rfl, hS, hlen, q⟩ := h
    refine ⟨_, (pss_cons (ps_set (i := 1) sc__law_source.nd rfl (Or.inl rfl) pe_int)
      (pss_cons (ps_for PassesOwn.never rfl (pi_range1 (by rfl) T.n_range (pa_cons (pe_callB call_len_seq (by rfl) T.n_len PySem.boot_len (pa_cons (pv 0) pa_nil)) pa_nil)) (pg_name (i := 2) sc__law_source.nd rfl (Or.inl rfl))
      (pss_one (ps_set (i := 1) sc__law_source.nd rfl (Or.inl rfl) (pe_call G__law_mix (hr.mono (by decide)) (by rfl) g__law_mix k__law_mix b__law_mix .nil pass0 (pa_cons (pe_op op_add (pv 1) (pe_op op_mod (pe_callTy call_int1 (by rfl) T.n_int (by decide +kernel) (pa_cons (pe_ix ix_list (pv 0) (pv 2) (fun _ _ => rfl)) pa_nil)) pe_int)) (pa_cons (pv 2) pa_nil))))))
      (pss_one (ps_ret (pe_lst (pa_cons (pe_callTy call_list_of (by rfl) T.n_list (by decide +kernel) (pa_cons (pv 0) pa_nil)) (pa_cons pe_int (pa_cons pe_int (pa_cons (pv 1) (pa_cons pe_int pa_nil)))))))))), ?_⟩
    refine ⟨_, rfl, a, _, rfl, .inl hS, _, rfl, by rw [List.length_map]; omega, by rw [List.length_map]; omega, ?_⟩
    refine for_range (lo := 0) (n := (((ns.map V.int).length : Int)).toNat) (fun i σ H' => ∃ (e : Int) (v : Option V), σ = [some (.ref a), some (.int e), v] ∧ H' = H ∧ 0 ≤ e ∧ e < 2147483647) ⟨17, none, rfl, rfl, by decide, by decide⟩ ?_ ?_
    · rintro i σ H' hi ⟨e, v, rfl, rfl, e0, e1⟩
      rw [List.length_map] at hi
      have hi' : i < ns.length := by omega
      refine ⟨_, rfl, _, rfl, _, rfl, a, _, _, .int ns[i], rfl, rfl, hS, ?_, .inl ⟨_, rfl, _, _, rfl, rfl, (by show (0 : Int) < _; decide), _, _, rfl, rfl, _, rfl, ?_⟩⟩
      · rw [Int.zero_add]
        exact atI_nat (by rw [List.getElem?_map, List.getElem?_eq_getElem hi']; rfl)
      · refine ⟨_, _, rfl, ?_, ?_, ?_, ?_, fun v v0 v1 => ?_⟩
        · have := Int.emod_nonneg ns[i] (by decide : (2147483647 : Int) ≠ 0); omega
        · have := Int.emod_lt_of_pos ns[i] (by decide : (0 : Int) < 2147483647); omega
        · omega
        · omega
        · exact ⟨v, _, rfl, rfl, v0, v1⟩
    · rintro σ H' ⟨e, v, rfl, rfl, e0, e1⟩
      refine ⟨_, rfl, a, _, rfl, .inl hS, fun l hl => ?_⟩
      refine ⟨_, rfl, by show 5 ≤ sizeLine; decide, fun s hs => ?_⟩
      have hsl : s ≠ l := fun z => by rw [z, upd_same] at hs; cases hs
      have hs0 : H' s = none := by rw [upd_ne hsl] at hs; exact hs
      refine q s l _ hs0 ((same_new hl).trans (same_new hs)) ⟨ns, 0, 0, e, 0, upd_same, by rw [upd_ne hsl.symm, upd_same], hsl.symm, hlen, by decide, by decide, by decide, e0, e1, by decide, by decide⟩
end
end Z
namespace Z
open PySem L2
section
variable {P : Program} {w : World} {K : PySem.W.Frag} {mg : Str → Option Value} {base : Heap}
theorem ok__law_draw (D : Df K mg "_law_draw" s__law_draw ["source", "many"]) (T : Tx mg) (C__law_mix : Cal P w K mg base "_law_mix" ["seed", "turn"] 1 sp__law_mix) : Cal P w K mg base "_law_draw" ["source", "many"] 2 sp__law_draw := by
  obtain ⟨f__law_mix, fd__law_mix, G__law_mix, g__law_mix, k__law_mix, b__law_mix⟩ := C__law_mix
  obtain ⟨f, fd, F, gf, bf⟩ := D
  refine ⟨f, fd, F.ok sc__law_draw (fun vs H Q E h => ?_) (fun cdv A outer s H vs Q E hr h => ?_), gf, F.kp, bf⟩
  · obtain ⟨s, a, m, c, rfl, _⟩ := h; rfl
  · obtain ⟨s, a, m, c, rfl, m0, m1, hS, q⟩ := h
    refine ⟨_, (C8.pss_cut (ps_if (PW.pt (pw_and (pt_cmpR op_eq (pe_ix ix_list (pv 0) pe_int (fun _ _ => rfl)) pe_int (nomark _)) (pw_and (pt_cmpR op_lt (pe_ix ix_list (pv 0) pe_int (fun _ _ => rfl)) (pe_callB call_len_seq (by rfl) T.n_len PySem.boot_len (pa_cons (pe_ix ix_list (pv 0) pe_int (fun _ _ => rfl)) pa_nil)) (nomark _)) (pw_and1 (pt_cmpR op_eq (pe_op op_mod (pe_callTy call_int1 (by rfl) T.n_int (by decide +kernel) (pa_cons (pe_ix ix_list (pv 0) pe_int (fun _ _ => rfl)) pa_nil)) pe_int) pe_int (nomark _))))))
      (pss_cons (ps_set (i := 2) sc__law_draw.nd rfl (Or.inl rfl) (pe_ix ix_list (pe_ix ix_list (pv 0) pe_int (fun _ _ => rfl)) (pe_ix ix_list (pv 0) pe_int (fun _ _ => rfl)) (fun _ _ => rfl)))
        (pss_cons (ps_asg (pe_op op_add (pe_ix ix_list (pv 0) pe_int (fun _ _ => rfl)) pe_int) (pg_sub (pv 0) pe_int set_list))
        (pss_one (ps_if (pt_cmpR op_ge (pe_callB call_abs (by rfl) T.n_abs (by decide +kernel) (pa_cons (pv 2) pa_nil)) (pe_op op_pow pe_int pe_int) (nomark _))
        (pss_one (ps_asg (pe_op op_and (pe_callB call_abs (by rfl) T.n_abs (by decide +kernel) (pa_cons (pv 2) pa_nil)) (pe_op op_sub (pe_op op_shl pe_int pe_int) pe_int)) (pg_sub (pv 0) pe_int set_list)))
        (pss_one (ps_asg (pe_call G__law_mix (hr.mono (by decide)) (by rfl) g__law_mix k__law_mix b__law_mix .nil pass0 (pa_cons (pe_op op_add (pe_ix ix_list (pv 0) pe_int (fun _ _ => rfl)) (pe_op op_mod (pe_callTy call_int1 (by rfl) T.n_int (by decide +kernel) (pa_cons (pv 2) pa_nil)) pe_int)) (pa_cons (pe_ix ix_list (pv 0) pe_int (fun _ _ => rfl)) pa_nil))) (pg_sub (pv 0) pe_int set_list)))))))
      pss_nil)
      (pss_cons (ps_if (pt_cmpR op_gt (pe_ix ix_list (pv 0) pe_int (fun _ _ => rfl)) pe_int (nomark _))
      (pss_cons (ps_set (i := 3) sc__law_draw.nd rfl (Or.inl rfl) (pe_op op_mod (pe_callTy call_int1 (by rfl) T.n_int (by decide +kernel) (pa_cons (pe_ix ix_list (pv 0) pe_int (fun _ _ => rfl)) pa_nil)) (pv 1)))
        (pss_cons (ps_asg (pe_op op_fdivN (pe_callTy call_int1 (by rfl) T.n_int (by decide +kernel) (pa_cons (pe_ix ix_list (pv 0) pe_int (fun _ _ => rfl)) pa_nil)) (pv 1)) (pg_sub (pv 0) pe_int set_list))
        (pss_one (ps_ret (pv 3)))))
      pss_nil)
      (pss_cons (ps_asg (pe_op op_add (pe_ix ix_list (pv 0) pe_int (fun _ _ => rfl)) pe_int) (pg_sub (pv 0) pe_int set_list))
      (pss_one (ps_ret (pe_op op_mod (pe_callTy call_int1 (by rfl) T.n_int (by decide +kernel) (pa_cons (pe_op op_fdiv (pe_call G__law_mix (hr.mono (by decide)) (by rfl) g__law_mix k__law_mix b__law_mix .nil pass0 (pa_cons (pe_ix ix_list (pv 0) pe_int (fun _ _ => rfl)) (pa_cons (pe_ix ix_list (pv 0) pe_int (fun _ _ => rfl)) pa_nil))) pe_int) pa_nil)) (pv 1))))))), ?_⟩
    refine ⟨fun σ' H' => (∃ v2 v3, σ' = [some (.ref s), some (.int m), v2, v3]) ∧ Src H' s a (c + 1) ∧ Ext s H H', ?_, ?_⟩
    · obtain ⟨ns, i, b, e, t, h1, h2, as, h4, h5, h6, h7, h8, h9, h10, h11⟩ := id hS
      have hL : SqL K H s [.ref a, .int i, .int b, .int e, .int t] := SqL.of h1
      refine ⟨_, rfl, _, _, _, _, rfl, rfl, hL, rfl, rfl, _, rfl, ite2 (fun c1 => ?_) (fun c1 => iteF ⟨⟨_, _, rfl⟩, hS, Ext.refl _ _⟩)⟩
      refine ⟨_, rfl, _, _, _, _, rfl, rfl, hL, rfl, _, rfl, _, _, _, _, rfl, rfl, hL, rfl, a, _, rfl, .inl (SqL.of h2), _, _, rfl, rfl, _, rfl, ite2 (fun c2 => ?_) (fun c2 => iteF ⟨⟨_, _, rfl⟩, hS, Ext.refl _ _⟩)⟩
      refine ⟨_, rfl, _, _, _, _, rfl, rfl, hL, rfl, .inl ⟨_, rfl, _, _, rfl, rfl, (by show (0 : Int) < 6; decide), rfl, _, rfl, ite2 (fun c3 => ?_) (fun c3 => ⟨⟨_, _, rfl⟩, hS, Ext.refl _ _⟩)⟩⟩
      have hi : i < ns.length := by
        have := of_decide_eq_true c2
        rw [List.length_map] at this
        exact this
      have hi' : i.toNat < ns.length := by omega
      -- cell = source[0][source[1]]
      refine ⟨_, rfl, _, _, _, _, rfl, rfl, hL, rfl, _, rfl, _, _, _, _, rfl, rfl, hL, rfl, a, _, _, .int ns[i.toNat], rfl, rfl, SqL.of h2, at_of (j := i.toNat) (by omega) (by rw [List.getElem?_map, List.getElem?_eq_getElem hi']; rfl), ?_⟩
      -- source[1] = source[1] + 1
      refine ⟨_, rfl, _, _, _, _, rfl, rfl, hL, rfl, _, _, rfl, rfl, _, rfl, _, _, _, 1, rfl, rfl, h1, rfl, ?_⟩
      refine ⟨_, rfl, _, rfl, _, _, rfl, rfl, ⟨by decide, by decide, by decide⟩, _, _, rfl, rfl, _, rfl, ite2 (fun c4 => ?_) (fun c4 => ?_)⟩
      · refine ⟨_, rfl, _, rfl, _, _, rfl, rfl, ⟨by decide, by decide, by decide⟩, _, _, rfl, rfl, _, _, rfl, rfl, _, rfl, _, _, _, 2, rfl, rfl, upd_same, rfl, ?_⟩
        refine ⟨⟨_, _, rfl⟩, ?_, ?_⟩
        · refine ⟨ns, i + 1, _, e, t, upd_same, by rw [upd_ne as, upd_ne as]; exact h2, as, h4, by omega, by omega, ?_, h8, h9, h10, h11⟩
          exact and_nn (by split <;> omega) _
        · exact Ext.put.trans Ext.put
      · refine ⟨_, rfl, _, _, _, _, rfl, rfl, SqL.of upd_same, rfl, _, rfl, .inl ⟨_, rfl, _, _, rfl, rfl, (by show (0 : Int) < 2147483647; decide), _, _, rfl, rfl, _, rfl, _, _, _, _, rfl, rfl, SqL.of upd_same, rfl, _, _, rfl, ?_, ?_, ?_, ?_, fun v v0 v1 => ?_⟩⟩
        · have := Int.emod_nonneg ns[i.toNat] (by decide : (2147483647 : Int) ≠ 0); omega
        · have := Int.emod_lt_of_pos ns[i.toNat] (by decide : (0 : Int) < 2147483647); omega
        · omega
        · omega
        · refine ⟨_, rfl, _, _, _, 3, rfl, rfl, upd_same, rfl, ⟨_, _, rfl⟩, ?_, Ext.put.trans Ext.put⟩
          exact ⟨ns, i + 1, b, v, t, upd_same, by rw [upd_ne as, upd_ne as]; exact h2, as, h4, by omega, by omega, h7, v0, v1, h10, h11⟩
    · rintro σ' H' ⟨⟨v2, v3, rfl⟩, hS', hx⟩
      obtain ⟨ns, i, b, e, t, h1, h2, as, h4, h5, h6, h7, h8, h9, h10, h11⟩ := id hS'
      have hL : SqL K H' s [.ref a, .int i, .int b, .int e, .int t] := SqL.of h1
      refine ⟨_, rfl, _, _, _, _, rfl, rfl, hL, rfl, _, _, rfl, rfl, _, rfl, ite2 (fun c1 => ?_) (fun c1 => ?_)⟩
      · refine ⟨_, rfl, _, _, _, _, rfl, rfl, hL, rfl, .inl ⟨_, rfl, _, rfl, _, _, rfl, rfl, m0, ?_⟩⟩
        refine ⟨_, rfl, _, _, _, _, rfl, rfl, hL, rfl, .inl ⟨_, rfl, _, rfl, _, _, rfl, rfl, ⟨by omega, by omega⟩, _, rfl, _, _, _, 2, rfl, rfl, h1, rfl, ?_⟩⟩
        refine ⟨_, rfl, q _ _ (Int.emod_nonneg _ (by omega)) (Int.emod_lt_of_pos _ m0) (hx.trans Ext.put) ?_⟩
        refine ⟨ns, i, _, e, t, upd_same, by rw [upd_ne as]; exact h2, as, h4, h5, h6, ?_, h8, h9, h10, by omega⟩
        exact Int.fdiv_nonneg h7 (by omega)
      · refine ⟨_, rfl, _, _, _, _, rfl, rfl, hL, rfl, _, _, rfl, rfl, _, rfl, _, _, _, 4, rfl, rfl, h1, rfl, ?_⟩
        refine ⟨_, rfl, _, _, _, _, rfl, rfl, SqL.of upd_same, rfl, _, rfl, _, _, _, _, rfl, rfl, SqL.of upd_same, rfl, _, _, rfl, h8, by omega, by omega, by omega, fun v v0 v1 => ?_⟩
        refine ⟨_, _, rfl, rfl, ⟨by decide, by decide⟩, .inl ⟨_, rfl, _, rfl, _, _, rfl, rfl, m0, ?_⟩⟩
        refine q _ _ (Int.emod_nonneg _ (by omega)) (Int.emod_lt_of_pos _ m0) (hx.trans Ext.put) ?_
        exact ⟨ns, i, b, e, t + 1, upd_same, by rw [upd_ne as]; exact h2, as, h4, h5, h6, h7, h8, h9, by omega, by omega⟩
end
end Z
namespace Z
open PySem L2
section
variable {P : Program} {w : World} {K : PySem.W.Frag} {mg : Str → Option Value} {base : Heap}
theorem ok__law_is_int (D : Df K mg "_law_is_int" s__law_is_int ["value"]) (T : Tx mg)  : Cal P w K mg base "_law_is_int" ["value"] 1 (sp__law_is_int K) := by
  obtain ⟨f, fd, F, gf, bf⟩ := D
  refine ⟨f, fd, F.ok sc__law_is_int (fun vs H Q E h => ?_) (fun cdv A outer s H vs Q E hr h => ?_), gf, F.kp, bf⟩
  · obtain ⟨i, rfl, _⟩ := h; rfl
  · obtain ⟨i, rfl, q⟩ := h
    refine ⟨_, (pss_one (ps_ret (pe_and (pe_callB call_isi (by rfl) T.n_isinstance (by decide +kernel) (pa_cons (pv 0) (pa_cons (pe_bltn (v := .ty "int") (by rfl) T.n_int (by decide +kernel) rfl) pa_nil))) (pe_one (pe_not (pe_callB call_isi (by rfl) T.n_isinstance (by decide +kernel) (pa_cons (pv 0) (pa_cons (pe_bltn (v := .ty "bool") (by rfl) T.n_bool (by decide +kernel) rfl) pa_nil)))))))), ?_⟩
    refine ⟨_, rfl, _, _, _, _, true, rfl, .ty _, .base (.int i), kit_ty (by decide +kernel), _, rfl, ?_⟩
    refine iteT ⟨_, rfl, _, _, _, _, false, rfl, .ty _, .base (.int i), kit_ty (by decide +kernel), _, rfl, q⟩

theorem ok__law_same (D : Df K mg "_law_same" s__law_same ["actual", "due"]) (T : Tx mg) (C__law_is_int : Cal P w K mg base "_law_is_int" ["value"] 1 (sp__law_is_int K)) : ∀ n, Cal P w K mg base "_law_same" ["actual", "due"] (n + 1) (sp__law_same K n)
  | 0 => by
    obtain ⟨f, fd, F, gf, bf⟩ := D
    exact ⟨f, fd, ⟨fun vs H Q E h => by obtain ⟨_, _, _, _, _, _, h, _⟩ := h; exact h.elim, fun A outer s H args us vs Q E _ _ _ _ h => by obtain ⟨_, _, _, _, _, _, h, _⟩ := h; exact h.elim⟩, gf, F.kp, bf⟩
  | n + 1 => by
    obtain ⟨f__law_same, fd__law_same, G__law_same, g__law_same, k__law_same, b__law_same⟩ := ok__law_same D T C__law_is_int n
    obtain ⟨f__law_is_int, fd__law_is_int, G__law_is_int, g__law_is_int, k__law_is_int, b__law_is_int⟩ := C__law_is_int
    obtain ⟨f, fd, F, gf, bf⟩ := D
    refine ⟨f, fd, F.ok sc__law_same (fun vs H Q E h => ?_) (fun cdv A outer s H vs Q E hr h => ?_), gf, F.kp, bf⟩
    · obtain ⟨d, v, u, rfl, _⟩ := h; rfl
    · obtain ⟨d, v, u, rfl, hv, hu, hd, q⟩ := h
      refine ⟨_, (pss_cons (ps_if (pt_val (pe_callB call_isi (by rfl) T.n_isinstance (by decide +kernel) (pa_cons (pv 1) (pa_cons (pe_bltn (v := .ty "tuple") (by rfl) T.n_tuple (by decide +kernel) rfl) pa_nil))))
      (pss_cons (ps_if (PW.pt (pw_or (pt_not (pt_val (pe_callB call_isi (by rfl) T.n_isinstance (by decide +kernel) (pa_cons (pv 0) (pa_cons (pe_bltn (v := .ty "tuple") (by rfl) T.n_tuple (by decide +kernel) rfl) pa_nil))))) (pw_or1 (pt_cmpR op_ne (pe_callB call_len_seq (by rfl) T.n_len PySem.boot_len (pa_cons (pv 0) pa_nil)) (pe_callB call_len_seq (by rfl) T.n_len PySem.boot_len (pa_cons (pv 1) pa_nil)) (nomark _)))))
        (pss_one (ps_ret pe_bl))
        pss_nil)
        (pss_cons (ps_for PassesOwn.never rfl (pi_range1 (by rfl) T.n_range (pa_cons (pe_callB call_len_seq (by rfl) T.n_len PySem.boot_len (pa_cons (pv 1) pa_nil)) pa_nil)) (pg_name (i := 2) sc__law_same.nd rfl (Or.inl rfl))
        (pss_one (ps_if (pt_not (pt_val (pe_call G__law_same hr (by rfl) g__law_same k__law_same b__law_same .nil pass0 (pa_cons (pe_ix ix_tup (pv 0) (pv 2) (fun _ _ => rfl)) (pa_cons (pe_ix ix_tup (pv 1) (pv 2) (fun _ _ => rfl)) pa_nil)))))
          (pss_one (ps_ret pe_bl))
          pss_nil)))
        (pss_one (ps_ret pe_bl))))
      pss_nil)
      (pss_cons (ps_if (pt_cmpR op_isN (pv 1) pe_non (nomark _))
      (pss_one (ps_ret (pe_cmpR op_isN (pv 0) pe_non (nomark _))))
      pss_nil)
      (pss_cons (ps_if (pt_val (pe_callB call_isi (by rfl) T.n_isinstance (by decide +kernel) (pa_cons (pv 1) (pa_cons (pe_bltn (v := .ty "bool") (by rfl) T.n_bool (by decide +kernel) rfl) pa_nil))))
      (pss_one (ps_ret (pe_and (pe_callB call_isi (by rfl) T.n_isinstance (by decide +kernel) (pa_cons (pv 0) (pa_cons (pe_bltn (v := .ty "bool") (by rfl) T.n_bool (by decide +kernel) rfl) pa_nil))) (pe_one (pe_cmpR op_eq (pv 0) (pv 1) (nomark _))))))
      pss_nil)
      (pss_cons (ps_if (pt_val (pe_callB call_isi (by rfl) T.n_isinstance (by decide +kernel) (pa_cons (pv 1) (pa_cons (pe_bltn (v := .ty "int") (by rfl) T.n_int (by decide +kernel) rfl) pa_nil))))
      (pss_one (ps_ret (pe_and (pe_call G__law_is_int (hr.mono (by omega)) (by rfl) g__law_is_int k__law_is_int b__law_is_int .nil pass0 (pa_cons (pv 0) pa_nil)) (pe_one (pe_cmpR op_eq (pv 0) (pv 1) (nomark _))))))
      pss_nil)
      (pss_one (ps_ret (pe_and (pe_callB call_isi (by rfl) T.n_isinstance (by decide +kernel) (pa_cons (pv 0) (pa_cons (pe_bltn (v := .ty "str") (by rfl) T.n_str (by decide +kernel) rfl) pa_nil))) (pe_one (pe_cmpR op_eq (pv 0) (pv 1) (nomark _)))))))))), ?_⟩
      cases d with
      | non =>
        unfold DV at hv hu; subst hv hu
        refine ⟨_, rfl, _, _, _, _, false, rfl, .ty _, .base .non, kit_ty (by decide +kernel), _, rfl, iteF ?_⟩
        exact ⟨_, rfl, rfl, _, rfl, iteT ⟨_, rfl, rfl, q⟩⟩
      | bl b =>
        unfold DV at hv hu; subst hv hu
        refine ⟨_, rfl, _, _, _, _, false, rfl, .ty _, .base (.bl b), kit_ty (by decide +kernel), _, rfl, iteF ?_⟩
        refine ⟨_, rfl, rfl, _, rfl, iteF ?_⟩
        refine ⟨_, rfl, _, _, _, _, true, rfl, .ty _, .base (.bl b), kit_ty (by decide +kernel), _, rfl, iteT ?_⟩
        refine ⟨_, rfl, _, _, _, _, true, rfl, .ty _, .base (.bl b), kit_ty (by decide +kernel), _, rfl, iteT ?_⟩
        refine ⟨_, rfl, _, rfl, rfl, ?_⟩
        rw [decide_eq_true rfl]; exact q
      | int b =>
        unfold DV at hv hu; subst hv hu
        refine ⟨_, rfl, _, _, _, _, false, rfl, .ty _, .base (.int b), kit_ty (by decide +kernel), _, rfl, iteF ?_⟩
        refine ⟨_, rfl, rfl, _, rfl, iteF ?_⟩
        refine ⟨_, rfl, _, _, _, _, false, rfl, .ty _, .base (.int b), kit_ty (by decide +kernel), _, rfl, iteF ?_⟩
        refine ⟨_, rfl, _, _, _, _, true, rfl, .ty _, .base (.int b), kit_ty (by decide +kernel), _, rfl, iteT ?_⟩
        refine ⟨_, rfl, _, rfl, _, rfl, iteT ?_⟩
        refine ⟨_, rfl, _, rfl, rfl, ?_⟩
        rw [decide_eq_true rfl]; exact q
      | str b =>
        unfold DV at hv hu; subst hv hu
        refine ⟨_, rfl, _, _, _, _, false, rfl, .ty _, .base (.str b), kit_ty (by decide +kernel), _, rfl, iteF ?_⟩
        refine ⟨_, rfl, rfl, _, rfl, iteF ?_⟩
        refine ⟨_, rfl, _, _, _, _, false, rfl, .ty _, .base (.str b), kit_ty (by decide +kernel), _, rfl, iteF ?_⟩
        refine ⟨_, rfl, _, _, _, _, false, rfl, .ty _, .base (.str b), kit_ty (by decide +kernel), _, rfl, iteF ?_⟩
        refine ⟨_, rfl, _, _, _, _, true, rfl, .ty _, .base (.str b), kit_ty (by decide +kernel), _, rfl, iteT ?_⟩
        refine ⟨_, rfl, _, rfl, rfl, ?_⟩
        rw [decide_eq_true rfl]; exact q
      | tup ds =>
        unfold DV at hv hu
        obtain ⟨a, vs, rfl, ha, hvs⟩ := hv
        obtain ⟨b, us, rfl, hb, hus⟩ := hu
        have hl := hvs.len
        have hm := hus.len
        refine ⟨_, rfl, _, _, _, _, true, rfl, .ty _, TyX.ofT hb, kit_ty (by decide +kernel), _, rfl, iteT ?_⟩
        refine ⟨_, rfl, _, _, _, _, true, rfl, .ty _, TyX.ofT ha, kit_ty (by decide +kernel), _, rfl, iteF ?_⟩
        refine ⟨_, rfl, a, _, rfl, .inr ha, _, rfl, b, _, rfl, .inr hb, rfl, _, rfl, iteNS (by rw [hl, hm]) ?_⟩
        refine ⟨_, rfl, b, _, rfl, .inr hb, _, rfl, by omega, by have := hd.1; omega, ?_⟩
        refine for_range (lo := 0) (n := ((us.length : Int)).toNat) (fun i σ H' => ∃ (x : Option V), σ = [some (.ref a), some (.ref b), x] ∧ H' = H) ⟨none, rfl, rfl⟩ ?_ ?_
        · rintro i σ H' hi ⟨x, rfl, rfl⟩
          have hi' : i < us.length := by omega
          have hi2 : i < ds.length := by omega
          obtain ⟨v1, e1, q1⟩ := hvs.get (List.getElem?_eq_getElem hi2)
          obtain ⟨v2, e2, q2⟩ := hus.get (List.getElem?_eq_getElem hi2)
          refine ⟨_, rfl, _, rfl, a, _, _, v1, rfl, rfl, ha, at_of (j := i) (by omega) e1, _, rfl, _, rfl, b, _, _, v2, rfl, rfl, hb, at_of (j := i) (by omega) e2, ?_⟩
          refine ⟨ds[i], v1, v2, rfl, q1, q2, hd.2 _ (List.getElem_mem hi2), _, rfl, iteF ?_⟩
          exact ⟨_, rfl, rfl⟩
        · rintro σ H' ⟨x, rfl, rfl⟩
          exact q
end
end Z
namespace Z
open PySem L2 SX
theorem nodup_le : ∀ {l us : List (List Nat)}, l.Nodup → (∀ x ∈ l, x ∈ us) → l.length ≤ us.length
  | [], us, _, _ => Nat.zero_le _
  | x :: l, us, h, k => by
    have hh := List.nodup_cons.mp h
    have m := k x (by simp)
    have := nodup_le (us := us.erase x) hh.2 fun y hy => (List.mem_erase_of_ne (fun e : y = x => hh.1 (by rw [e] at hy; exact hy))).mpr (k y (List.mem_cons_of_mem _ hy))
    rw [List.length_erase_of_mem m] at this
    have p := List.length_pos_of_mem m
    rw [List.length_cons]; omega
def sfxL (j : Nat) : List Nat := if j = 0 then [] else [48 + j]
theorem sfx_nodup : ((List.range 10).map sfxL).Nodup := by decide +kernel
theorem tried_nodup (p : List Nat) {m : Nat} (h : m ≤ 10) : ((List.range m).map fun j => p ++ sfxL j).Nodup := by
  have h1 : ((List.range m).map sfxL).Nodup := by
    have e : List.range m = (List.range 10).take m := by rw [List.take_range, Nat.min_eq_left h]
    rw [e, List.map_take]
    exact sfx_nodup.sublist (List.take_sublist _ _)
  rw [List.nodup_iff_pairwise_ne, List.pairwise_map] at h1 ⊢
  exact h1.imp fun ne e => ne (List.append_cancel_left e)
section
variable {P : Program} {w : World} {K : PySem.W.Frag} {mg : Str → Option Value} {base : Heap}
theorem ok__law_pick (D : Df K mg "_law_pick" s__law_pick ["source", "row"]) (T : Tx mg)  (C__law_draw : Cal P w K mg base "_law_draw" ["source", "many"] 2 sp__law_draw) : Cal P w K mg base "_law_pick" ["source", "row"] 3 (sp3__law_pick K) := by
  obtain ⟨f__law_draw, fd__law_draw, G__law_draw, g__law_draw, k__law_draw, b__law_draw⟩ := C__law_draw
  obtain ⟨f, fd, F, gf, bf⟩ := D
  refine ⟨f, fd, F.ok sc__law_pick (fun vs H Q E h => ?_) (fun cdv A outer s₀ H vs Q E hr h => ?_), gf, F.kp, bf⟩
  · rcases h with ⟨s, a, r, xs, c, rfl, _⟩ | ⟨s, a, x, c, rfl, _⟩ | ⟨s, a, r, xs, c, rfl, _⟩ <;> rfl
  · refine ⟨_, (pss_one (ps_ret (pe_ix ix_seq (pv 1) (pe_call G__law_draw (hr.mono (by decide)) (by rfl) g__law_draw k__law_draw b__law_draw .nil pass0 (pa_cons (pv 0) (pa_cons (pe_callB call_len (by rfl) T.n_len PySem.boot_len (pa_cons (pv 1) pa_nil)) pa_nil))) (fun _ _ => rfl)))), ?_⟩
    rcases h with ⟨s, a, r, xs, c, rfl, hR, rs, ne, hl, hS, q⟩ | ⟨s, a, x, c, rfl, ne, hl, hS, q⟩ | ⟨s, a, r, xs, c, rfl, hR, ne, hl, hS, q⟩
    · have n0 : 0 < xs.length := List.length_pos_iff.mpr ne
      refine ⟨_, rfl, _, rfl, _, rfl, _, _, rfl, .inl ⟨xs, hR, rfl⟩, s, a, (xs.length : Int), c, rfl, by omega, by omega, hS, fun v H' v0 v1 hE hS' => ?_⟩
      have hv : v.toNat < xs.length := by omega
      exact .inl ⟨r, xs, v, xs[v.toNat], rfl, rfl, hE.seqL rs hR, atI_pos v0 (List.getElem?_eq_getElem hv), q _ _ (List.getElem_mem hv) hE hS'⟩
    · have n0 : 0 < (tl x).length := List.length_pos_iff.mpr ne
      have hx := tl_len x
      refine ⟨_, rfl, _, rfl, _, rfl, _, x.length, rfl, ⟨by rw [hx]; exact Nat.le_trans hl (by decide), rfl⟩, s, a, (x.length : Int), c, rfl, by omega, by omega, hS, fun v H' v0 v1 hE hS' => ?_⟩
      have hv : v.toNat < (tl x).length := by omega
      exact .inr (.inr ⟨x, v, (tl x)[v.toNat], rfl, rfl, by rw [hx]; exact Nat.le_trans hl (by decide), atI_pos v0 (List.getElem?_eq_getElem hv), q _ _ (List.getElem_mem hv) hE hS'⟩)
    · have n0 : 0 < xs.length := List.length_pos_iff.mpr ne
      refine ⟨_, rfl, _, rfl, _, rfl, _, _, rfl, .inr ⟨xs, hR, rfl⟩, s, a, (xs.length : Int), c, rfl, by omega, by omega, hS, fun v H' v0 v1 hE hS' => ?_⟩
      have hv : v.toNat < xs.length := by omega
      exact .inr (.inl ⟨r, xs, v, xs[v.toNat], rfl, rfl, TK.ext hE hS _ _ hR, atI_pos v0 (List.getElem?_eq_getElem hv), q _ _ (List.getElem_mem hv) hE hS'⟩)
end
section
variable {P : Program} {w : World} {K : PySem.W.Frag} {mg : Str → Option Value} {base : Heap}
theorem ok__law_new_name (D : Df K mg "_law_new_name" s__law_new_name ["source", "used"]) (T : Tx mg)  (C__law_draw : Cal P w K mg base "_law_draw" ["source", "many"] 2 sp__law_draw) : Cal P w K mg base "_law_new_name" ["source", "used"] 3 (sp9__law_new_name K) := by
  obtain ⟨f__law_draw, fd__law_draw, G__law_draw, g__law_draw, k__law_draw, b__law_draw⟩ := C__law_draw
  obtain ⟨f, fd, F, gf, bf⟩ := D
  refine ⟨f, fd, F.ok sc__law_new_name (fun vs H Q E h => ?_) (fun cdv A outer s₀ H vs Q E hr h => ?_), gf, F.kp, bf⟩
  · obtain ⟨s, a, u, us, c, rfl, _⟩ := h; rfl
  · obtain ⟨s, a, u, us, c, rfl, hU, hus, hul, hS, q⟩ := h
    refine ⟨_, (pss_cons (ps_set (i := 2) sc__law_new_name.nd rfl (Or.inl rfl) pe_str)
      (pss_cons (ps_set (i := 3) sc__law_new_name.nd rfl (Or.inl rfl) (pe_op op_add pe_int (pe_call G__law_draw (hr.mono (by decide)) (by rfl) g__law_draw k__law_draw b__law_draw .nil pass0 (pa_cons (pv 0) (pa_cons pe_int pa_nil)))))
      (pss_cons (ps_set (i := 4) sc__law_new_name.nd rfl (Or.inl rfl) (pe_item_str (pv 2) (pe_call G__law_draw (hr.mono (by decide)) (by rfl) g__law_draw k__law_draw b__law_draw .nil pass0 (pa_cons (pv 0) (pa_cons pe_int pa_nil))) (fun _ _ => rfl)))
      (pss_cons (ps_for PassesOwn.never rfl (pi_range1 (by rfl) T.n_range (pa_cons (pe_op op_sub (pv 3) pe_int) pa_nil)) (pg_name (i := 5) sc__law_new_name.nd rfl (Or.inl rfl))
      (pss_one (ps_set (i := 4) sc__law_new_name.nd rfl (Or.inl rfl) (pe_op op_add_str (pv 4) (pe_item_str (pe_op op_add_str (pv 2) pe_str) (pe_call G__law_draw (hr.mono (by decide)) (by rfl) g__law_draw k__law_draw b__law_draw .nil pass0 (pa_cons (pv 0) (pa_cons pe_int pa_nil))) (fun _ _ => rfl))))))
      (pss_cons (ps_for PassesOwn.never rfl (pi_range1 (by rfl) T.n_range (pa_cons (pe_op op_add (pe_callB call_len_seq (by rfl) T.n_len PySem.boot_len (pa_cons (pv 1) pa_nil)) pe_int) pa_nil)) (pg_name (i := 5) sc__law_new_name.nd rfl (Or.inl rfl))
      (pss_cons (ps_set (i := 6) sc__law_new_name.nd rfl (Or.inl rfl) (pe_op op_add_str (pv 4) (pe_ix ix_list (pe_lst (pa_cons pe_str (pa_cons (pe_callTy call_str_int (by rfl) T.n_str (by decide +kernel) (pa_cons (pv 5) pa_nil)) pa_nil))) (pe_callTy call_int1 (by rfl) T.n_int (by decide +kernel) (pa_cons (pe_cmpR op_gt (pv 5) pe_int (nomark _)) pa_nil)) (fun _ _ => rfl))))
        (pss_one (ps_if (pt_cmpR op_notIn_seq (pv 6) (pv 1) (by rfl))
        (pss_one (ps_ret (pv 6)))
        pss_nil))))
      (pss_one (ps_ret (pv 4)))))))), ?_⟩
    refine ⟨_, rfl, s, a, _, c + 7, rfl, by decide, by decide, hS, fun v1 H1 v10 v11 x1 S1 => ?_⟩
    refine ⟨_, _, rfl, rfl, ?_⟩
    refine ⟨_, rfl, _, rfl, s, a, _, c + 6, rfl, by decide, by decide, S1, fun v2 H2 v20 v21 x2 S2 => ?_⟩
    obtain ⟨ch, e1, _, e3⟩ := at_str (x := Str.ofString "abcdefghijklmnopqrstuvwxyz") v20 v21
    refine ⟨_, _, ch, rfl, rfl, v20, by omega, v21, e1, ?_⟩
    have hch : 97 ≤ ch ∧ ch ≤ 122 := alpha_mem e3
    refine ⟨_, rfl, _, _, rfl, rfl, _, rfl, by omega, by omega, ?_⟩
    refine for_range (lo := 0) (n := (1 + v1 - 1).toNat) (fun i σ H' => ∃ (x : Str) (v : Option V), σ = [some (.ref s), some (.ref u), some (.str "abcdefghijklmnopqrstuvwxyz"), some (.int (1 + v1)), some (.str x), v, none] ∧ Nm (tl x) ∧ (tl x).length = i + 1 ∧ Ext s H H' ∧ Src H' s a (c + (5 - i))) ?_ ?_ ?_
    · exact ⟨S [ch], none, rfl, ⟨⟨ch, [], rfl, hch⟩, fun y hy => by rw [List.mem_singleton.mp hy]; exact .inl hch⟩, rfl, x1.trans x2, S2.mono (by omega)⟩
    · rintro i σ H' hi ⟨x, v, rfl, hN, hl, hE, hS'⟩
      refine ⟨_, rfl, _, rfl, _, _, rfl, rfl, by decide +kernel, ?_⟩
      refine ⟨_, rfl, s, a, _, c + (5 - (i + 1)), rfl, by decide, by decide, hS'.mono (by omega), fun v3 H3 v30 v31 x3 S3 => ?_⟩
      obtain ⟨d, e1, _, e3⟩ := at_str (x := Str.ofString "abcdefghijklmnopqrstuvwxyz" ++ Str.ofString "0123456789") v30 v31
      refine ⟨_, _, d, rfl, rfl, v30, by omega, v31, e1, _, _, rfl, rfl, ?_, ?_⟩
      · rw [tl_len, hl]; exact Nat.le_trans (show i + 1 + 1 ≤ 10 by omega) (by decide)
      · exact ⟨_, _, rfl, by rw [tl_app]; exact hN.app (fun y hy => by rw [List.mem_singleton.mp hy]; exact low_mem e3), by rw [tl_app, List.length_append, hl]; rfl, hE.trans x3, S3⟩
    · rintro σ H3 ⟨x, v, rfl, hN, hl, hE, hS'⟩
      have hU3 : SqL K H3 u (us.map V.str) := hE.seqL hus hU
      refine ⟨_, rfl, u, _, rfl, .inl hU3, _, _, rfl, rfl, _, rfl, by rw [List.length_map]; omega, by rw [List.length_map]; omega, ?_⟩
      refine for_range (lo := 0) (n := ((((us.map V.str).length : Int)) + 1).toNat) (fun i σ H' => ∃ (v t : Option V), σ = [some (.ref s), some (.ref u), some (.str "abcdefghijklmnopqrstuvwxyz"), some (.int (1 + v1)), some (.str x), v, t] ∧ Same H3 H' ∧ ∀ j, j < i → tl x ++ sfxL j ∈ us.map tl) ⟨_, _, rfl, Same.refl _, fun j hj => by omega⟩ ?_ ?_
      · rintro i σ H' hi ⟨v', t', rfl, hM, hall⟩
        rw [List.length_map] at hi
        obtain ⟨y, hy, hyl, hya⟩ : ∃ y : Str, atI [V.str (Str.ofString ""), V.str (Str.ofString (toString (0 + (i : Int))))] (if decide ((0 : Int) < 0 + (i : Int)) = true then 1 else 0) = some (.str y) ∧ tl y = sfxL i ∧ Low (tl y) := by
          by_cases h0 : i = 0
          · subst h0
            exact ⟨Str.ofString "", rfl, rfl, Low.nil⟩
          · rw [if_pos (decide_eq_true (by omega))]
            refine ⟨_, rfl, ?_, ?_⟩
            · rw [Int.zero_add, num_S, tl_S, TL.numL_lt (by omega)]
              unfold sfxL; rw [if_neg h0]
            · rw [Int.zero_add, num_S, tl_S]
              exact low_num i
        have yl : (tl y).length ≤ 1 := by rw [hyl]; unfold sfxL; split <;> simp
        refine ⟨_, rfl, _, rfl, _, rfl, log_small (by omega), by show 2 ≤ sizeLine; decide, fun p hp => ?_⟩
        refine ⟨_, rfl, _, _, rfl, rfl, .inr ⟨_, rfl, p, _, _, _, rfl, rfl, SqL.of upd_same, hy, _, _, rfl, rfl, ?_, ?_⟩⟩
        · rw [tl_len, tl_len]; exact Nat.le_trans (show _ ≤ 70 by omega) (by decide)
        have hM' : Same H3 (upd H' p (HO.lst [V.str (Str.ofString ""), V.str (Str.ofString (toString (0 + (i : Int))))])) := hM.trans (same_new hp)
        have ein := inV_strs (x ++ y) us
        refine ⟨_, rfl, _, rfl, u, _, rfl, .inl (hM'.seq hU3), rfl, flat_strs us, _, rfl, ite2 (fun cc => ?_) (fun cc => ⟨_, _, rfl, hM', fun j hj => ?_⟩)⟩
        · refine ⟨_, rfl, q _ _ (by rw [tl_app]; exact hN.app hya) (by rw [tl_app, List.length_append]; omega) (fun m => ?_) (hE.trans (Ext.of hM')) ((hS'.ext hM').mono (by omega))⟩
          have cc' : (!inV (V.str (x ++ y)) (us.map V.str)) = true := cc
          rw [ein, decide_eq_true m] at cc'
          cases cc'
        · by_cases e : j < i
          · exact hall j e
          · have : j = i := by omega
            subst this
            have cc' : ¬ (!inV (V.str (x ++ y)) (us.map V.str)) = true := cc
            rw [ein] at cc'
            have m : x ++ y ∈ us := by simpa using cc'
            have := List.mem_map_of_mem (f := tl) m
            rw [tl_app, hyl] at this
            exact this
      · rintro σ H' ⟨v', t', rfl, hM, hall⟩
        rw [List.length_map] at hall
        have h1 := nodup_le (us := us.map tl) (tried_nodup (tl x) (m := us.length + 1) (by omega)) fun z hz => by
          obtain ⟨j, hj, rfl⟩ := List.mem_map.mp hz
          exact hall j (by have := List.mem_range.mp hj; omega)
        rw [List.length_map, List.length_map, List.length_range] at h1
        omega
end
section
variable {P : Program} {w : World} {K : PySem.W.Frag} {mg : Str → Option Value} {base : Heap}
theorem ok__law_names (D : Df K mg "_law_names" s__law_names ["source", "many"]) (T : Tx mg)  (C__law_new_name : Cal P w K mg base "_law_new_name" ["source", "used"] 3 (sp9__law_new_name K)) : Cal P w K mg base "_law_names" ["source", "many"] 4 (sp9__law_names K) := by
  obtain ⟨f__law_new_name, fd__law_new_name, G__law_new_name, g__law_new_name, k__law_new_name, b__law_new_name⟩ := C__law_new_name
  obtain ⟨f, fd, F, gf, bf⟩ := D
  refine ⟨f, fd, F.ok sc__law_names (fun vs H Q E h => ?_) (fun cdv A outer s₀ H vs Q E hr h => ?_), gf, F.kp, bf⟩
  · obtain ⟨s, a, m, c, rfl, _⟩ := h; rfl
  · obtain ⟨s, a, m, c, rfl, hm, hS, q⟩ := h
    refine ⟨_, (pss_cons (ps_set (i := 2) sc__law_names.nd rfl (Or.inl rfl) (pe_lst pa_nil))
      (pss_cons (ps_for PassesOwn.never rfl (pi_range1 (by rfl) T.n_range (pa_cons (pv 1) pa_nil)) (pg_name (i := 3) sc__law_names.nd rfl (Or.inl rfl))
      (pss_one (ps_expr (pe_bm PySem.F.plainAttrs_list PySem.F.slot_list_append PySem.F.type_list_append mt_append (pv 2) (pa_cons (pe_call G__law_new_name (hr.mono (by decide)) (by rfl) g__law_new_name k__law_new_name b__law_new_name .nil pass0 (pa_cons (pv 0) (pa_cons (pv 2) pa_nil))) pa_nil)))))
      (pss_one (ps_ret (pv 2))))), ?_⟩
    refine ⟨Nat.zero_le _, fun u hu => ?_⟩
    have us : u ≠ s := hS.ne hu
    have ua : u ≠ a := hS.nea hu
    refine ⟨_, rfl, _, rfl, by omega, by omega, ?_⟩
    refine for_range (lo := 0) (n := ((m : Int)).toNat) (fun i σ H' => ∃ (xs : List Str) (v : Option V), σ = [some (.ref s), some (.int m), some (.ref u), v] ∧ H' u = some (.lst (xs.map V.str)) ∧ xs.length = i ∧ Nms xs ∧ Ext s H H' ∧ Src H' s a (c + 8 * (m - i))) ?_ ?_ ?_
    · exact ⟨[], none, rfl, upd_same, rfl, ⟨List.nodup_nil, (fun _ h => by cases h)⟩, Ext.new hu, (hS.new hu).mono (by omega)⟩
    · rintro i σ H' hi ⟨xs, v, rfl, hx, hl, hA, hE, hS'⟩
      refine ⟨_, rfl, .inl ⟨rfl, _, SqL.of hx⟩, _, rfl, _, rfl, s, a, u, xs, c + 8 * (m - (i + 1)), rfl, SqL.of hx, us, by omega, by rw [show c + 8 * (m - (i + 1)) + 8 = c + 8 * (m - i) by omega]; exact hS', fun x H2 hN hl2 hnew hE2 hS2 => ?_⟩
      refine ⟨u, _, _, rfl, rfl, hE2 _ _ us hx, ?_, ?_⟩
      · rw [List.length_map]; exact small1000 (by omega)
      · refine ⟨xs ++ [x], _, rfl, by rw [upd_same, List.map_append]; rfl, by rw [List.length_append]; simp [hl], ⟨?_, fun y hy => ?_⟩, ?_, hS2.put us ua⟩
        · rw [List.nodup_append]
          exact ⟨hA.1, by simp, fun a ha b hb e => by rw [List.mem_singleton.mp hb] at e; exact hnew (e ▸ ha)⟩
        · rcases List.mem_append.mp hy with h | h
          · exact hA.2 y h
          · rw [List.mem_singleton.mp h]; exact ⟨hN, hl2⟩
        · intro b o hb hH
          rw [upd_ne (ne_of_none hH hu)]; exact hE2 _ _ hb (hE _ _ hb hH)
    · rintro σ H' ⟨xs, v, rfl, hx, hl, hA, hE, hS'⟩
      exact ⟨_, rfl, q u xs H' hu hx (by omega) hA hE (hS'.mono (by omega))⟩
end

end Z
namespace Z
open PySem L2 SX
section
variable {P : Program} {w : World} {K : PySem.W.Frag} {mg : Str → Option Value} {base : Heap}
theorem ok__law_once_in (D : Df K mg "_law_once_in" s__law_once_in ["source", "many"]) (T : Tx mg) (C__law_draw : Cal P w K mg base "_law_draw" ["source", "many"] 2 sp__law_draw) : Cal P w K mg base "_law_once_in" ["source", "many"] 3 sp__law_once_in := by
  obtain ⟨f__law_draw, fd__law_draw, G__law_draw, g__law_draw, k__law_draw, b__law_draw⟩ := C__law_draw
  obtain ⟨f, fd, F, gf, bf⟩ := D
  refine ⟨f, fd, F.ok sc__law_once_in (fun vs H Q E h => ?_) (fun cdv A outer s H vs Q E hr h => ?_), gf, F.kp, bf⟩
  · obtain ⟨s, a, m, c, rfl, _⟩ := h; rfl
  · obtain ⟨s, a, m, c, rfl, m0, m1, hS, q⟩ := h
    refine ⟨_, (pss_one (ps_ret (pe_cmpR op_eq (pe_call G__law_draw (hr.mono (by decide)) (by rfl) g__law_draw k__law_draw b__law_draw .nil pass0 (pa_cons (pv 0) (pa_cons (pv 1) pa_nil))) (pe_op op_fdiv (pv 1) pe_int) (nomark _)))), ?_⟩
    refine ⟨_, rfl, _, rfl, s, a, _, c, rfl, m0, m1, hS, fun v H' v0 v1 hE hS' => ?_⟩
    exact ⟨_, rfl, _, _, rfl, rfl, ⟨by decide, by decide⟩, rfl, q _ _ hE hS'⟩
end
end Z
namespace Z
open PySem L2 SX
section
variable {P : Program} {w : World} {K : PySem.W.Frag} {mg : Str → Option Value} {base : Heap}
theorem ok_add_place (D : Df K mg "add_place" s_add_place ["glob", "places", "place"]) (T : Tx mg)  : Cal P w K mg base "add_place" ["glob", "places", "place"] 1 sp_add_place := by
  obtain ⟨f, fd, F, gf, bf⟩ := D
  refine ⟨f, fd, F.ok sc_add_place (fun vs H Q E h => ?_) (fun cdv A outer s₀ H vs Q E hr h => ?_), gf, F.kp, bf⟩
  · obtain ⟨g, p, x, L, m, A, rfl, _⟩ := h; rfl
  · obtain ⟨g, p, x, L, m, A, rfl, hL, hU, hm, hx, hb, gl, q⟩ := h
    refine ⟨_, (pss_cons (ps_if (PW.pt (pw_and (pt_truth (pv 1) (by intro _; rfl)) (pw_and1 (pt_cmpR op_ge (pe_ix ix_list (pv 1) (pe_un un_neg pe_int) (fun _ _ => rfl)) (pv 2) (nomark _)))))
      (pss_one ps_retN)
      pss_nil)
      (pss_cons (ps_expr (pe_bm PySem.F.plainAttrs_list PySem.F.slot_list_append PySem.F.type_list_append mt_append (pv 1) (pa_cons (pv 2) pa_nil)))
      (pss_one (ps_while PassesOwn.never (PW.pt (pw_and (pt_cmpR op_lt (pv 2) (pe_callB call_lenS (by rfl) T.n_len PySem.boot_len (pa_cons (pv 0) pa_nil)) (nomark _)) (pw_and1 (pt_cmpR op_eq (pe_item_str (pv 0) (pv 2) (fun _ _ => rfl)) pe_str (nomark _)))))
      (pss_cons (ps_aug (i := 2) sc_add_place.nd rfl (Or.inl rfl) pe_int ip_add)
        (pss_one (ps_expr (pe_bm PySem.F.plainAttrs_list PySem.F.slot_list_append PySem.F.type_list_append mt_append (pv 1) (pa_cons (pv 2) pa_nil))))))))), ?_⟩
    have lg := tl_len g
    have small : ∀ n : Nat, n ≤ 30000 → n < sizeLine := fun n h => Nat.lt_of_le_of_lt h (by decide)
    have Ll : L.length ≤ (tl g).length + 1 := Asd.len (M := fun y => y ∈ L) ⟨hU.asc, fun _ => Iff.rfl⟩ hb
    refine ⟨_, rfl, !(nts L).isEmpty, .inl ⟨_, SqL.of hL, rfl⟩, ?_⟩
    -- what is put in
    have go : ∀ (hl : ∀ y ∈ L, y < x), tSeq (tDrop (tBM K "list" rAppend (tVar 1) (tCons (tVar 2) tNil))) (tWhile (tAnd (tTest (tOp (rI0 fun i j => V.bl (decide (i < j))) (tVar 2) (tCB (fun xs H Q => ∃ x : Str, xs = [.str x] ∧ x.length ≤ sizeLine ∧ Q (.int x.length) H) (tCons (tVar 0) tNil)))) (tTest (tOp rEq (tOp (fun x y H Q => ∃ z i c, x = .str z ∧ y = .int i ∧ 0 ≤ i ∧ i < 2 ^ 63 ∧ i < z.length ∧ z.cps[i.toNat]? = some c ∧ Q (.str ⟨#[c]⟩) H) (tVar 0) (tVar 2)) (tC (.str (Str.ofString "*")))))) (tSeq (tAug 2 (tC (.int 1)) (ipI fun i j => i + j)) (tDrop (tBM K "list" rAppend (tVar 1) (tCons (tVar 2) tNil))))) { nx := fun _ H' => Q .non H', rt := Q } [some (.str g), some (.ref p), some (.int (x : Int))] H := by
      intro hl
      refine ⟨_, rfl, .inl ⟨rfl, _, SqL.of hL⟩, _, rfl, p, _, _, rfl, rfl, hL, ?_, ?_⟩
      · rw [List.length_map]; exact small _ (by omega)
      refine ⟨fun n σ H' => ∃ k, σ = [some (.str g), some (.ref p), some (.int ((x + k : Nat) : Int))] ∧ H' p = some (.lst (nts (L ++ List.range' x (k + 1)))) ∧ (∀ b, b ≠ p → H' b = H b) ∧ (∀ j, j < k → (tl g)[x + j]? = some 42) ∧ x + k ≤ (tl g).length ∧ n = (tl g).length - (x + k), ⟨_, 0, rfl, ?_, fun b hb => upd_ne hb, fun j hj => by omega, by omega, rfl⟩, ?_⟩
      · rw [upd_same]; show some (HO.lst (nts L ++ nts [x])) = _; unfold nts; rw [← List.map_append]; rfl
      rintro n σ H' ⟨k, rfl, hp, hH, hs, hk, rfl⟩
      have stop : (tl g)[x + k]? ≠ some 42 → Q .non H' := fun ns => by
        refine q _ H' hp hH (hU.more hl ⟨hs, ns⟩) fun y hy => ?_
        rcases List.mem_append.mp hy with h | h
        · exact hb y h
        · have := (run_mem.mp h).2; omega
      refine ⟨_, rfl, _, rfl, g, rfl, Nat.le_of_lt (small _ (by omega)), _, _, rfl, rfl, _, rfl, ite2 (fun c1 => ?_) (fun c1 => iteF (stop fun e => ?_))⟩
      · have c1 : x + k < (tl g).length := by have := of_decide_eq_true c1; omega
        obtain ⟨d, g1, g2, g3⟩ := at_str (x := g) (i := ((x + k : Nat) : Int)) (by omega) (by omega)
        rw [Int.toNat_natCast] at g2
        refine ⟨_, rfl, _, rfl, g, _, d, rfl, rfl, by omega, by omega, by omega, g1, rfl, _, rfl, ite2 (fun c2 => ?_) (fun c2 => stop fun e => ?_)⟩
        · have ed : d = 42 := (List.cons.inj (congrArg tl (V.str.inj (of_decide_eq_true c2)))).1
          subst ed
          refine ⟨fun σ2 H2 => ∃ m', m' < (tl g).length - (x + k) ∧ ∃ k, σ2 = [some (.str g), some (.ref p), some (.int ((x + k : Nat) : Int))] ∧ H2 p = some (.lst (nts (L ++ List.range' x (k + 1)))) ∧ (∀ b, b ≠ p → H2 b = H b) ∧ (∀ j, j < k → (tl g)[x + j]? = some 42) ∧ x + k ≤ (tl g).length ∧ m' = (tl g).length - (x + k), fun σ2 H2 h => h, ?_⟩
          refine ⟨_, rfl, _, _, rfl, rfl, ?_⟩
          refine ⟨_, rfl, .inl ⟨rfl, _, SqL.of hp⟩, _, rfl, p, _, _, rfl, rfl, hp, ?_, ?_⟩
          · rw [List.length_map, List.length_append, List.length_range']; exact small _ (by omega)
          refine ⟨_, ?_, k + 1, rfl, ?_, fun b hb => by rw [upd_ne hb]; exact hH b hb, fun j hj => ?_, by omega, rfl⟩
          · omega
          · rw [upd_same]
            show some (HO.lst (nts (L ++ List.range' x (k + 1)) ++ nts [x + k + 1])) = _
            unfold nts
            rw [← List.map_append, List.append_assoc]
            congr 4
            rw [List.range'_concat (n := k + 1), Nat.one_mul, Nat.add_assoc]
          · by_cases e : j = k
            · subst e; exact g2
            · exact hs j (by omega)
        · rw [g2] at e
          have : d = 42 := Option.some.inj e
          subst this
          exact c2 (decide_eq_true rfl)
      · have := (List.getElem?_eq_some_iff.mp e).1
        exact c1 (decide_eq_true (by omega))
    by_cases hE : L = []
    · subst hE
      exact iteF (go fun _ h => by cases h)
    · rw [show (!(nts L).isEmpty) = true by unfold nts; cases L with | nil => exact absurd rfl hE | cons _ _ => rfl]
      refine iteT ?_
      obtain ⟨r, z, e⟩ : ∃ r z, L = r ++ [z] := ⟨L.dropLast, L.getLast hE, (List.dropLast_concat_getLast hE).symm⟩
      have hz : atI (nts L) (-1) = some (.int (z : Int)) := by rw [e]; unfold nts; rw [List.map_append]; exact atI_last _ _
      have zm : z ∈ L := by rw [e]; simp
      have zmax : ∀ y ∈ L, y ≤ z := fun y hy => by
        have ha := hU.asc
        rw [e] at hy ha
        rcases List.mem_append.mp hy with h | h
        · have := (List.pairwise_append.mp ha).2.2 y h z (by simp); omega
        · rw [List.mem_singleton.mp h]; exact Nat.le_refl _
      refine ⟨_, rfl, 1, rfl, p, _, _, _, rfl, rfl, SqL.of hL, hz, _, rfl, _, _, rfl, rfl, _, rfl, ite2 (fun c1 => ?_) (fun c1 => go fun y hy => ?_)⟩
      · have : x ≤ z := by have := of_decide_eq_true c1; omega
        exact q L H hL (fun _ _ => rfl) (hU.stay hm zm this) hb
      · have := zmax y hy
        simp at c1; omega
end
section
variable {P : Program} {w : World} {K : PySem.W.Frag} {mg : Str → Option Value} {base : Heap}
theorem ok_follows (D : Df K mg "follows" s_follows ["glob", "standing", "character"]) (T : Tx mg) (C_add_place : Cal P w K mg base "add_place" ["glob", "places", "place"] 1 sp_add_place) : Cal P w K mg base "follows" ["glob", "standing", "character"] 2 (sp_follows K) := by
  obtain ⟨f_add_place, fd_add_place, G_add_place, g_add_place, k_add_place, b_add_place⟩ := C_add_place
  obtain ⟨f, fd, F, gf, bf⟩ := D
  refine ⟨f, fd, F.ok sc_follows (fun vs H Q E h => ?_) (fun cdv A outer s₀ H vs Q E hr h => ?_), gf, F.kp, bf⟩
  · obtain ⟨g, a, c, ps, M, rfl, _⟩ := h; rfl
  · obtain ⟨g, a, c, ps, M, rfl, hA, hP, hC, hW, hc, gl, q⟩ := h
    refine ⟨_, (pss_cons (ps_set (i := 3) sc_follows.nd rfl (Or.inl rfl) (pe_lst pa_nil))
      (pss_cons (ps_for PassesOwn.never rfl (pi_tup (pv 1)) (pg_name (i := 4) sc_follows.nd rfl (Or.inl rfl))
      (C8.pss_cut (ps_if (PW.pt (pw_and (pt_cmpR op_gt (pv 4) pe_int (nomark _)) (pw_and1 (pt_cmpR op_eq (pe_item_str (pv 0) (pe_op op_sub (pv 4) pe_int) (fun _ _ => rfl)) pe_str (nomark _)))))
        (pss_one (ps_expr (pe_call G_add_place (hr.mono (by decide)) (by rfl) g_add_place k_add_place b_add_place .nil pass0 (pa_cons (pv 0) (pa_cons (pv 3) (pa_cons (pv 4) pa_nil))))))
        pss_nil)
        (pss_one (ps_if (PW.pt (pw_and (pt_cmpR op_lt (pv 4) (pe_callB call_lenS (by rfl) T.n_len PySem.boot_len (pa_cons (pv 0) pa_nil)) (nomark _)) (pw_and1 (pt_cmpR op_in_seq (pe_item_str (pv 0) (pv 4) (fun _ _ => rfl)) (pe_tup (pa_cons pe_str (pa_cons (pv 2) pa_nil))) (by rfl)))))
        (pss_one (ps_expr (pe_call G_add_place (hr.mono (by decide)) (by rfl) g_add_place k_add_place b_add_place .nil pass0 (pa_cons (pv 0) (pa_cons (pv 3) (pa_cons (pe_op op_add (pv 4) pe_int) pa_nil))))))
        pss_nil))))
      (pss_one (ps_ret (pe_callTy call_tuple_of (by rfl) T.n_tuple (by decide +kernel) (pa_cons (pv 3) pa_nil)))))), ?_⟩
    have lg := tl_len g
    have pl := hP.len hW
    have small : ∀ n : Nat, n ≤ 30000 → n < sizeLine := fun n h => Nat.lt_of_le_of_lt h (by decide)
    refine ⟨Nat.zero_le _, fun L hL => ?_⟩
    refine ⟨_, rfl, a, rfl, ⟨_, (same_new hL).tup hA⟩, ?_⟩
    refine for_tup (K := K) (a := a) (xs := nts ps) (fun i σ H' => ∃ (qs : List Nat) (m : Nat) (v : Option V), σ = [some (.str g), some (.ref a), some (.str (S [c])), some (.ref L), v] ∧ H' L = some (.lst (nts qs)) ∧ Same H H' ∧ Up (tl g) qs m (puts (tl g) c (fun y => y ∈ ps.take i)) ∧ (∀ y ∈ qs, y ≤ (tl g).length) ∧ (∀ y, y ∈ ps.drop i → m ≤ y)) ?_ ?_ ?_ ?_
    · exact ⟨[], 0, _, rfl, upd_same, same_new hL, (Up.nil _).congr fun y => ⟨fun h => h.elim, fun h => by
        rcases h with ⟨h, _⟩ | ⟨i, _, h, _⟩ <;> (rw [List.take_zero] at h; cases h)⟩, (fun _ h => by cases h), fun _ _ => Nat.zero_le _⟩
    · rintro i σ H' _ ⟨_, _, _, _, _, hS, _⟩
      exact hS.tup hA
    · rintro i y σ H' hi ⟨qs, m, v, rfl, hQ, hS, hU, hB, hm⟩
      rw [List.getElem?_map] at hi
      obtain ⟨x, hx, rfl⟩ := Option.map_eq_some_iff.mp hi
      have xm := List.mem_of_getElem? hx
      have xM := (hP.2 x).mp xm
      have xw := hW x xM
      have ed : ps.drop i = x :: ps.drop (i + 1) := by
        obtain ⟨h1, h2⟩ := List.getElem?_eq_some_iff.mp hx
        rw [← h2, List.getElem_cons_drop]
      have et : ps.take (i + 1) = ps.take i ++ [x] := by rw [List.take_add_one, hx]; rfl
      have mx : m ≤ x := hm x (by rw [ed]; simp)
      have later : ∀ z, z ∈ ps.drop (i + 1) → x < z := fun z hz => by
        have := hP.1.sublist (List.drop_sublist i ps)
        rw [ed] at this
        exact (List.pairwise_cons.mp this).1 z hz
      -- the place behind a star
      refine ⟨fun σ2 H2 => ∃ (qs2 : List Nat) (m2 : Nat), σ2 = [some (.str g), some (.ref a), some (.str (S [c])), some (.ref L), some (.int (x : Int))] ∧ H2 L = some (.lst (nts qs2)) ∧ Same H H2 ∧ Up (tl g) qs2 m2 (fun z => puts (tl g) c (fun y => y ∈ ps.take i) z ∨ (z = x ∧ ∃ j, x = j + 1 ∧ (tl g)[j]? = some 42)) ∧ (∀ y ∈ qs2, y ≤ (tl g).length) ∧ m2 ≤ x, ?_, ?_⟩
      · have no : (¬ ∃ j, x = j + 1 ∧ (tl g)[j]? = some 42) → ∃ (qs2 : List Nat) (m2 : Nat), ([some (V.str g), some (V.ref a), some (V.str (S [c])), some (V.ref L), some (V.int (x : Int))] : St) = [some (.str g), some (.ref a), some (.str (S [c])), some (.ref L), some (.int (x : Int))] ∧ H' L = some (.lst (nts qs2)) ∧ Same H H' ∧ Up (tl g) qs2 m2 (fun z => puts (tl g) c (fun y => y ∈ ps.take i) z ∨ (z = x ∧ ∃ j, x = j + 1 ∧ (tl g)[j]? = some 42)) ∧ (∀ y ∈ qs2, y ≤ (tl g).length) ∧ m2 ≤ x := fun h =>
          ⟨qs, m, rfl, hQ, hS, hU.congr fun y => ⟨.inl, fun z => z.elim id fun w => absurd w.2 h⟩, hB, mx⟩
        refine ⟨_, rfl, _, _, rfl, rfl, _, rfl, ite2 (fun c1 => ?_) (fun c1 => iteF (no fun ⟨j, e, _⟩ => c1 (decide_eq_true (by omega))))⟩
        have x1 : 0 < x := by have := of_decide_eq_true c1; omega
        obtain ⟨d, g1, g2, g3⟩ := at_str (x := g) (i := (x : Int) - 1) (by omega) (by omega)
        rw [show ((x : Int) - 1).toNat = x - 1 by omega] at g2
        refine ⟨_, rfl, _, rfl, _, _, rfl, rfl, g, _, d, rfl, rfl, by omega, by omega, by omega, g1, rfl, _, rfl, ite2 (fun c2 => ?_) (fun c2 => no fun ⟨j, e, h⟩ => ?_)⟩
        · have e42 : d = 42 := (List.cons.inj (congrArg tl (V.str.inj (of_decide_eq_true c2)))).1
          subst e42
          refine ⟨_, rfl, _, rfl, _, rfl, g, L, x, qs, m, _, rfl, hQ, hU, mx, xw, hB, gl, fun qs' H2 h1 h2 h3 h4 => ?_⟩
          refine ⟨qs', x, rfl, h1, fun b o hb => ?_, h3.congr fun y => ⟨fun z => z.elim .inl fun e => .inr ⟨e, x - 1, by omega, g2⟩, fun z => z.elim .inl fun w => .inr w.1⟩, h4, Nat.le_refl _⟩
          rw [h2 b (ne_of_none hb hL)]; exact hS _ _ hb
        · rw [show x - 1 = j by omega] at g2
          rw [g2] at h
          have : d = 42 := Option.some.inj h
          subst this
          exact c2 (decide_eq_true rfl)
      · rintro σ2 H2 ⟨qs2, m2, rfl, hQ2, hS2, hU2, hB2, hm2⟩
        have ends : ∀ (qs3 : List Nat) (m3 : Nat) (H3 : Hp) (Z : Prop), H3 L = some (.lst (nts qs3)) → Same H H3 → Up (tl g) qs3 m3 (fun z => (puts (tl g) c (fun y => y ∈ ps.take i) z ∨ (z = x ∧ ∃ j, x = j + 1 ∧ (tl g)[j]? = some 42)) ∨ (z = x + 1 ∧ ((tl g)[x]? = some 63 ∨ (tl g)[x]? = some c))) → (∀ y ∈ qs3, y ≤ (tl g).length) → m3 ≤ x + 1 →
            ∃ (qs : List Nat) (m : Nat) (v : Option V), ([some (V.str g), some (V.ref a), some (V.str (S [c])), some (V.ref L), some (V.int (x : Int))] : St) = [some (.str g), some (.ref a), some (.str (S [c])), some (.ref L), v] ∧ H3 L = some (.lst (nts qs)) ∧ Same H H3 ∧ Up (tl g) qs m (puts (tl g) c (fun y => y ∈ ps.take (i + 1))) ∧ (∀ y ∈ qs, y ≤ (tl g).length) ∧ (∀ y, y ∈ ps.drop (i + 1) → m ≤ y) := fun qs3 m3 H3 _ h1 h2 h3 h4 h5 => by
          refine ⟨qs3, m3, _, rfl, h1, h2, h3.congr fun z => ?_, h4, fun y hy => by have := later y hy; omega⟩
          unfold puts
          rw [et]
          simp only [List.mem_append, List.mem_singleton]
          constructor
          · rintro (((⟨h, k⟩ | ⟨j, e, h, k⟩) | ⟨e, k⟩) | ⟨e, k⟩)
            · exact .inl ⟨.inl h, k⟩
            · exact .inr ⟨j, e, .inl h, k⟩
            · exact .inl ⟨.inr e, by rw [e]; exact k⟩
            · exact .inr ⟨x, e, .inr rfl, k⟩
          · rintro (⟨h | e, k⟩ | ⟨j, e, h | e2, k⟩)
            · exact .inl (.inl (.inl ⟨h, k⟩))
            · exact .inl (.inr ⟨e, by rw [e] at k; exact k⟩)
            · exact .inl (.inl (.inr ⟨j, e, h, k⟩))
            · subst e2; exact .inr ⟨e, k⟩
        have no : (¬ ((tl g)[x]? = some 63 ∨ (tl g)[x]? = some c)) → _ := fun h => ends qs2 m2 H2 True hQ2 hS2 (hU2.congr fun z => ⟨.inl, fun w => w.elim id fun q => absurd q.2 h⟩) hB2 (by omega)
        have noT : ∀ (t : Addr) (us : List V), H2 t = none → (¬ ((tl g)[x]? = some 63 ∨ (tl g)[x]? = some c)) → _ := fun t us ht h => ends qs2 m2 (upd H2 t (.tup us)) True ((same_new ht) _ _ hQ2) (hS2.trans (same_new ht)) (hU2.congr fun z => ⟨.inl, fun w => w.elim id fun q => absurd q.2 h⟩) hB2 (by omega)
        refine ⟨_, rfl, _, rfl, g, rfl, Nat.le_of_lt (small _ (by omega)), _, _, rfl, rfl, _, rfl, ite2 (fun c1 => ?_) (fun c1 => iteF (no fun e => ?_))⟩
        · have xl : x < (tl g).length := by have := of_decide_eq_true c1; omega
          obtain ⟨d, g1, g2, g3⟩ := at_str (x := g) (i := (x : Int)) (by omega) (by omega)
          rw [Int.toNat_natCast] at g2
          refine ⟨_, rfl, _, rfl, g, _, d, rfl, rfl, by omega, by omega, by omega, g1, ?_⟩
          refine ⟨_, rfl, by show 2 ≤ sizeLine; decide, fun t ht => ?_⟩
          refine ⟨t, [Str.ofString "?", S [c]].map V.str, rfl, .inr (SqT.of upd_same), rfl, flat_strs _, _, rfl, ?_⟩
          have eb : (if false = true then !inV (V.str (S [d])) ([Str.ofString "?", S [c]].map V.str) else inV (V.str (S [d])) ([Str.ofString "?", S [c]].map V.str)) = decide (S [d] ∈ [Str.ofString "?", S [c]]) := inV_strs _ _
          by_cases hin : S [d] ∈ [Str.ofString "?", S [c]]
          · have hmt : (tl g)[x]? = some 63 ∨ (tl g)[x]? = some c := by
              rw [g2]
              rcases List.mem_cons.mp hin with e | e
              · exact .inl (congrArg some (List.cons.inj (congrArg tl e)).1)
              · exact .inr (congrArg some (List.cons.inj (congrArg tl (List.mem_singleton.mp e))).1)
            refine ite2 (fun _ => ?_) (fun h => (h (eb.trans (decide_eq_true hin))).elim)
            refine ⟨_, rfl, _, rfl, _, rfl, _, _, rfl, rfl, g, L, x + 1, qs2, m2, _, rfl, (same_new ht) _ _ hQ2, hU2, by omega, by omega, hB2, gl, fun qs' H3 h1 h2 h3 h4 => ?_⟩
            refine ends qs' (x + 1) H3 True h1 (fun b o hb => ?_) (h3.congr fun z => ⟨fun w => w.elim .inl fun e => .inr ⟨e, hmt⟩, fun w => w.elim .inl fun q => .inr q.1⟩) h4 (Nat.le_refl _)
            rw [h2 b (ne_of_none hb hL)]; exact (hS2.trans (same_new ht)) _ _ hb
          · refine ite2 (fun h => (hin (of_decide_eq_true (eb.symm.trans h))).elim) (fun _ => noT t _ ht fun e => hin ?_)
            rw [g2] at e
            rcases e with e | e
            · have : d = 63 := Option.some.inj e
              subst this; exact List.mem_cons_self
            · have : d = c := Option.some.inj e
              subst this; exact List.mem_cons_of_mem _ (List.mem_singleton.mpr rfl)
        · have : x < (tl g).length := by rcases e with e | e <;> exact (List.getElem?_eq_some_iff.mp e).1
          exact c1 (decide_eq_true (by omega))
    · rintro σ H' ⟨qs, m, v, rfl, hQ, hS, hU, hB, hm⟩
      rw [List.length_map, List.take_length] at hU
      refine ⟨_, rfl, L, _, rfl, .inl ⟨SqL.of hQ, fun t ht => ?_⟩⟩
      exact q t qs _ (hS.trans (same_new ht)) upd_same (puts_next hc hC (hU.congr fun y => by
        unfold puts
        simp only [hP.2]))
end
section
variable {P : Program} {w : World} {K : PySem.W.Frag} {mg : Str → Option Value} {base : Heap}
theorem ok_standing (D : Df K mg "standing" s_standing ["glob", "beginning"]) (T : Tx mg) (C_add_place : Cal P w K mg base "add_place" ["glob", "places", "place"] 1 sp_add_place) (C_follows : Cal P w K mg base "follows" ["glob", "standing", "character"] 2 (sp_follows K)) : Cal P w K mg base "standing" ["glob", "beginning"] 3 (sp_standing K) := by
  obtain ⟨f_add_place, fd_add_place, G_add_place, g_add_place, k_add_place, b_add_place⟩ := C_add_place
  obtain ⟨f_follows, fd_follows, G_follows, g_follows, k_follows, b_follows⟩ := C_follows
  obtain ⟨f, fd, F, gf, bf⟩ := D
  refine ⟨f, fd, F.ok sc_standing (fun vs H Q E h => ?_) (fun cdv A outer s₀ H vs Q E hr h => ?_), gf, F.kp, bf⟩
  · obtain ⟨g, b, rfl, _⟩ := h; rfl
  · obtain ⟨g, b, rfl, hb, gl, q⟩ := h
    refine ⟨_, (pss_cons (ps_set (i := 2) sc_standing.nd rfl (Or.inl rfl) (pe_lst pa_nil))
      (pss_cons (ps_expr (pe_call G_add_place (hr.mono (by decide)) (by rfl) g_add_place k_add_place b_add_place .nil pass0 (pa_cons (pv 0) (pa_cons (pv 2) (pa_cons pe_int pa_nil)))))
      (pss_cons (ps_set (i := 3) sc_standing.nd rfl (Or.inl rfl) (pe_callTy call_tuple_of (by rfl) T.n_tuple (by decide +kernel) (pa_cons (pv 2) pa_nil)))
      (pss_cons (ps_for PassesOwn.never rfl (pi_str (pv 1)) (pg_name (i := 4) sc_standing.nd rfl (Or.inl rfl))
      (pss_one (ps_set (i := 3) sc_standing.nd rfl (Or.inl rfl) (pe_call G_follows (hr.mono (by decide)) (by rfl) g_follows k_follows b_follows .nil pass0 (pa_cons (pv 0) (pa_cons (pv 3) (pa_cons (pv 4) pa_nil)))))))
      (pss_one (ps_ret (pv 3))))))), ?_⟩
    refine ⟨Nat.zero_le _, fun L hL => ?_⟩
    refine ⟨_, rfl, _, rfl, g, L, 0, [], 0, _, rfl, upd_same, Up.nil _, Nat.le_refl _, Nat.zero_le _, (fun _ h => by cases h), gl, fun L' H1 h1 h2 h3 h4 => ?_⟩
    have s1 : Same H H1 := fun bb o hh => by rw [h2 bb (ne_of_none hh hL), upd_ne (ne_of_none hh hL)]; exact hh
    have a0 := start_asd (h3.congr fun y => ⟨fun h => h.elim (fun z => z.elim) id, .inr⟩)
    refine ⟨_, rfl, L, _, rfl, .inl ⟨SqL.of h1, fun t ht => ?_⟩⟩
    refine ⟨_, rfl, _, rfl, ?_⟩
    refine for_str (l := tl b) (fun i σ H' => ∃ (t : Addr) (ps : List Nat) (v : Option V), σ = [some (.str g), some (.str b), some (.ref L), some (.ref t), v] ∧ H' t = some (.tup (nts ps)) ∧ Same H H' ∧ Asd ps (stand (tl g) ((tl b).take i))) ⟨t, L', _, rfl, upd_same, s1.trans (same_new ht), a0⟩ ?_ ?_
    · rintro i c σ H' hi ⟨t', ps, v, rfl, hT, hS, hP⟩
      have cb := hb c (List.mem_of_getElem? hi)
      have e : (tl b).take (i + 1) = (tl b).take i ++ [c] := by rw [List.take_add_one, hi]; rfl
      obtain ⟨cl, wi⟩ := stand_ok (tl g) ((tl b).take i)
      refine ⟨_, rfl, _, rfl, _, rfl, g, t', c, ps, _, rfl, SqT.of hT, hP, cl, wi, cb, gl, fun q' qs H2 m2 e2 a2 => ?_⟩
      exact ⟨q', qs, _, rfl, e2, hS.trans m2, by rw [e, stand_snoc]; exact a2⟩
    · rintro σ H' ⟨t', ps, v, rfl, hT, hS, hP⟩
      rw [List.take_length] at hP
      exact ⟨_, rfl, q t' ps H' hS hT hP⟩
end
section
variable {P : Program} {w : World} {K : PySem.W.Frag} {mg : Str → Option Value} {base : Heap}
theorem ok_fits (D : Df K mg "fits" s_fits ["glob", "board"]) (T : Tx mg) (C_standing : Cal P w K mg base "standing" ["glob", "beginning"] 3 (sp_standing K)) : Cal P w K mg base "fits" ["glob", "board"] 4 (sp_fits K) := by
  obtain ⟨f_standing, fd_standing, G_standing, g_standing, k_standing, b_standing⟩ := C_standing
  obtain ⟨f, fd, F, gf, bf⟩ := D
  refine ⟨f, fd, F.ok sc_fits (fun vs H Q E h => ?_) (fun cdv A outer s₀ H vs Q E hr h => ?_), gf, F.kp, bf⟩
  · obtain ⟨g, b, rfl, _⟩ := h; rfl
  · obtain ⟨g, b, rfl, hb, gl, q⟩ := h
    refine ⟨_, (pss_one (ps_ret (pe_cmpR op_in_seq (pe_callB call_lenS (by rfl) T.n_len PySem.boot_len (pa_cons (pv 0) pa_nil)) (pe_call G_standing (hr.mono (by decide)) (by rfl) g_standing k_standing b_standing .nil pass0 (pa_cons (pv 0) (pa_cons (pv 1) pa_nil))) (by rfl)))), ?_⟩
    have lg := tl_len g
    refine ⟨_, rfl, g, rfl, Nat.le_trans (show g.length ≤ 10000 by omega) (by decide), ?_⟩
    refine ⟨_, rfl, _, rfl, g, b, rfl, hb, gl, fun t ps H1 m1 e1 a1 => ?_⟩
    refine ⟨t, _, rfl, .inr (SqT.of e1), rfl, flat_nts ps, ?_⟩
    have eb : (if false = true then !inV (V.int (g.length : Int)) (nts ps) else inV (V.int (g.length : Int)) (nts ps)) = decide (g.length ∈ ps) := inV_nts _ _
    have e2 : decide (g.length ∈ ps) = @decide (stand (tl g) (tl b) (tl g).length) (Classical.propDecidable _) := by
      rw [Bool.eq_iff_iff]
      simp only [decide_eq_true_iff]
      rw [lg]; exact a1.2 _
    rw [eb, e2]
    exact q H1 m1
end

end Z
namespace Z
open PySem L2 SX
section
variable {P : Program} {w : World} {K : PySem.W.Frag} {mg : Str → Option Value} {base : Heap}
theorem ok_items_of (D : Df K mg "items_of" s_items_of ["pattern"]) (T : Tx mg)  : Cal P w K mg base "items_of" ["pattern"] 1 (sp_items_of K) := by
  obtain ⟨f, fd, F, gf, bf⟩ := D
  refine ⟨f, fd, F.ok sc_items_of (fun vs H Q E h => ?_) (fun cdv A outer s₀ H vs Q E hr h => ?_), gf, F.kp, bf⟩
  · obtain ⟨p, rfl, _⟩ := h; rfl
  · obtain ⟨p, rfl, pl, q⟩ := h
    refine ⟨_, (pss_one (ps_ret (pe_callTy call_tuple_of (by rfl) T.n_tuple (by decide +kernel) (pa_cons (pe_lc (own := [("item", 1)]) (g := gName 1) (tt := tYes) rfl sc_items_of.nd (pi_list (pe_split (pv 0) pe_str)) (blkOk_by (own := [("item", 1)]) (N := N_items_of) (sc := defScope s_items_of) (by decide +kernel)) (fun _ _ _ _ _ => pg_name (i := 1) sc_items_of.nd rfl (Or.inl rfl)) (fun _ _ _ _ _ => pts_nil) (fun _ _ _ _ _ => (pe_ifExp (pt_val (pe_m1 PySem.F.slot_str_startswith PySem.F.type_str_startswith mt_startswith (pv 1) pe_str)) (pe_tup (pa_cons pe_int (pa_cons (pe_slice sl_str (pv 1) (po_some pe_int) po_none) pa_nil))) (pe_tup (pa_cons pe_int (pa_cons (pv 1) pa_nil)))))) pa_nil)))), ?_⟩
    have lp := tl_len p
    have small : ∀ n : Nat, n ≤ 30000 → n < sizeLine := fun n h => Nat.lt_of_le_of_lt h (by decide)
    refine ⟨_, rfl, ⟨_, rfl⟩, p, Str.ofString ",", rfl, rfl, rfl, Nat.le_of_lt (small _ (by omega)), fun B hB => ?_⟩
    rw [split_bar]
    have pn := parts_num (tl p)
    have hB1 : (upd H B (HO.lst (((parts (tl p)).map S).map V.str))) B = some (.lst (((parts (tl p)).map S).map V.str)) := upd_same
    refine ⟨B, rfl, ⟨_, SqL.of hB1⟩, fun D hD => ?_⟩
    refine lc_list (K := K) (a := B) (xs := ((parts (tl p)).map S).map V.str) (fun i H' => ∃ ts : List Addr, H' D = some (.lst (ts.map V.ref)) ∧ ts.length = i ∧ Same (upd H B (HO.lst (((parts (tl p)).map S).map V.str))) H' ∧ (∀ (j : Nat) (t : Addr) (it : List Nat), ts[j]? = some t → (parts (tl p))[j]? = some it → H' t = some (.tup (itemV it)))) ⟨[], upd_same, rfl, same_new hD, fun j t it h => by simp at h⟩ (fun i H' _ h => by obtain ⟨_, _, _, h, _⟩ := h; exact SqL.of (h _ _ hB1)) ?_ ?_
    · rintro i x H' hi ⟨ts, h1, h2, h3, h4⟩
      rw [List.getElem?_map, List.getElem?_map] at hi
      obtain ⟨y, hy, rfl⟩ := Option.map_eq_some_iff.mp hi
      obtain ⟨it, hit, rfl⟩ := Option.map_eq_some_iff.mp hy
      have il := parts_len (List.mem_of_getElem? hit)
      have ilt : i < (parts (tl p)).length := (List.getElem?_eq_some_iff.mp hit).1
      have fin : ∀ (t : Addr), H' t = none → ∃ acc, (upd H' t (HO.tup (itemV it))) D = some (.lst acc) ∧ acc.length < sizeLine ∧ ∃ ts : List Addr, (upd (upd H' t (HO.tup (itemV it))) D (HO.lst (acc ++ [V.ref t]))) D = some (.lst (ts.map V.ref)) ∧ ts.length = i + 1 ∧ Same (upd H B (HO.lst (((parts (tl p)).map S).map V.str))) (upd (upd H' t (HO.tup (itemV it))) D (HO.lst (acc ++ [V.ref t]))) ∧ (∀ (j : Nat) (t' : Addr) (it' : List Nat), ts[j]? = some t' → (parts (tl p))[j]? = some it' → (upd (upd H' t (HO.tup (itemV it))) D (HO.lst (acc ++ [V.ref t]))) t' = some (.tup (itemV it'))) := fun t ht => by
        have tD : t ≠ D := (ne_of_none h1 ht).symm
        refine ⟨ts.map V.ref, (same_new ht) _ _ h1, by rw [List.length_map]; exact small _ (by omega), ts ++ [t], by rw [upd_same, List.map_append]; rfl, by rw [List.length_append]; simp [h2], fun b o hb => ?_, fun j t' it' hj hj2 => ?_⟩
        · rw [upd_ne (ne_of_none hb hD)]; exact (h3.trans (same_new ht)) _ _ hb
        · by_cases e : j < ts.length
          · rw [List.getElem?_append_left e] at hj
            have h5 := h4 j t' it' hj hj2
            have : t' ≠ D := fun q => by rw [q, h1] at h5; cases h5
            rw [upd_ne this]; exact (same_new ht) _ _ h5
          · rw [List.getElem?_append_right (by omega)] at hj
            have ej : j - ts.length = 0 := by
              have := (List.getElem?_eq_some_iff.mp hj).1
              simp at this; omega
            rw [ej] at hj
            have : t = t' := by simpa using hj
            subst this
            have : j = i := by omega
            subst this
            rw [hit] at hj2
            cases hj2
            rw [upd_ne tD, upd_same]
      refine ⟨rfl, _, rfl, ⟨_, rfl⟩, _, _, rfl, rfl, _, rfl, ?_⟩
      rw [bar_starts]
      refine ite2 (fun cc => ?_) (fun cc => ?_)
      · refine ⟨_, rfl, 1, rfl, S it, rfl, Nat.le_of_lt (small _ (by show (S it).length ≤ _; rw [S_len]; omega)), by show 2 ≤ sizeLine; decide, fun t ht => ?_⟩
        have e : [V.int 0, V.str (cutS (S it) (some 1) none)] = itemV it := by
          unfold itemV globOf
          have cc' : isBar it = true := cc
          rw [if_pos cc', if_pos cc']
          have : cutS (S it) (some 1) none = S (it.drop 1) := tl_ext (cutS_from (by decide))
          rw [this]
        rw [e]
        exact fin t ht
      · refine ⟨_, rfl, by show 2 ≤ sizeLine; decide, fun t ht => ?_⟩
        have e : [V.int 1, V.str (S it)] = itemV it := by
          unfold itemV globOf
          have cc' : ¬ isBar it = true := cc
          rw [if_neg cc', if_neg cc']
        rw [e]
        exact fin t ht
    · rintro H' ⟨ts, h1, h2, h3, h4⟩
      rw [List.length_map, List.length_map] at h2
      refine ⟨D, _, rfl, .inl ⟨SqL.of h1, fun u hu => ?_⟩⟩
      exact q u ts _ (((same_new hB).trans h3).trans (same_new hu)) upd_same h2 fun i t it a b => (same_new hu) _ _ (h4 i t it a b)
end
section
variable {P : Program} {w : World} {K : PySem.W.Frag} {mg : Str → Option Value} {base : Heap}
theorem ok_lets (D : Df K mg "lets" s_lets ["pattern", "board"]) (T : Tx mg) (C_fits : Cal P w K mg base "fits" ["glob", "board"] 4 (sp_fits K)) (C_items_of : Cal P w K mg base "items_of" ["pattern"] 1 (sp_items_of K)) : Cal P w K mg base "lets" ["pattern", "board"] 5 (sp_lets K) := by
  obtain ⟨f_fits, fd_fits, G_fits, g_fits, k_fits, b_fits⟩ := C_fits
  obtain ⟨f_items_of, fd_items_of, G_items_of, g_items_of, k_items_of, b_items_of⟩ := C_items_of
  obtain ⟨f, fd, F, gf, bf⟩ := D
  refine ⟨f, fd, F.ok sc_lets (fun vs H Q E h => ?_) (fun cdv A outer s₀ H vs Q E hr h => ?_), gf, F.kp, bf⟩
  · obtain ⟨p, b, rfl, _⟩ := h; rfl
  · obtain ⟨p, b, rfl, pl, hb, q⟩ := h
    refine ⟨_, (pss_cons (ps_for PassesOwn.never rfl (RT.pi_revA (by rfl) T.n_reversed (pe_call G_items_of (hr.mono (by decide)) (by rfl) g_items_of k_items_of b_items_of .nil pass0 (pa_cons (pv 0) pa_nil))) (pg_tup rfl (pgs_cons (pg_name (i := 2) sc_lets.nd rfl (Or.inl rfl)) (pgs_cons (pg_name (i := 3) sc_lets.nd rfl (Or.inl rfl)) pgs_nil)))
      (pss_one (ps_if (pt_val (pe_call G_fits (hr.mono (by decide)) (by rfl) g_fits k_fits b_fits .nil pass0 (pa_cons (pv 3) (pa_cons (pv 1) pa_nil))))
        (pss_one (ps_ret (pe_cmpR op_eq (pv 2) pe_int (nomark _))))
        pss_nil)))
      (pss_one (ps_ret pe_bl))), ?_⟩
    refine ⟨_, rfl, p, rfl, pl, fun u ts H1 m1 e1 l1 g1 => ?_⟩
    refine ⟨u, _, rfl, .inr ⟨SqT.of e1, ?_⟩⟩
    have ln : (ts.map V.ref).length = (parts (tl p)).length := by rw [List.length_map]; exact l1
    refine RT.for_ItvT (K := K) (a := u) (xs := ts.map V.ref) (fun i σ H' => (∃ v2 v3 : Option V, σ = [some (.str p), some (.str b), v2, v3]) ∧ Same H1 H' ∧ ∀ (j : Nat) (y : List Nat), (parts (tl p)).length ≤ j + i → (parts (tl p))[j]? = some y → ¬ fit (globOf y) (tl b)) ⟨⟨_, _, rfl⟩, Same.refl _, fun j y h1 h2 => by have := (List.getElem?_eq_some_iff.mp h2).1; omega⟩ (fun i σ H' h => SqT.of (h.2.1 _ _ e1)) ?_ ?_
    · rintro i x σ H' hi hx ⟨⟨v2, v3, rfl⟩, hS, hN⟩
      rw [ln] at hi hx
      rw [List.getElem?_map] at hx
      obtain ⟨t, ht, rfl⟩ := Option.map_eq_some_iff.mp hx
      obtain ⟨it, hit⟩ : ∃ it, (parts (tl p))[(parts (tl p)).length - 1 - i]? = some it := ⟨_, List.getElem?_eq_getElem (show (parts (tl p)).length - 1 - i < (parts (tl p)).length by omega)⟩
      have il := parts_len (List.mem_of_getElem? hit)
      have gl := globOf_len it
      have hT := hS _ _ (g1 _ t it ht hit)
      refine ⟨t, _, rfl, SqT.of hT, rfl, _, _, rfl, _, _, rfl, rfl, ?_⟩
      refine ⟨_, rfl, _, rfl, S (globOf it), b, rfl, hb, by show (globOf it).length ≤ _; omega, fun H2 m2 => ?_⟩
      refine ⟨_, rfl, ite2 (fun cc => ?_) (fun cc => ⟨⟨_, _, rfl⟩, hS.trans m2, fun j y h1 h2 => ?_⟩)⟩
      · have hf : fit (globOf it) (tl b) := @of_decide_eq_true _ (Classical.propDecidable _) cc
        refine ⟨_, rfl, rfl, ?_⟩
        have e := lets_last hit hf fun j y h1 h2 => hN j y (by omega) h2
        have e2 : decide (V.int (if isBar it = true then 0 else 1) = V.int 1) = letsL (parts (tl p)) (tl b) := by
          rw [e]; cases isBar it <;> rfl
        show Q (.bl (decide (V.int (if isBar it = true then 0 else 1) = V.int 1))) H2
        rw [e2]
        exact q H2 (m1.trans (hS.trans m2))
      · by_cases e : j = (parts (tl p)).length - 1 - i
        · subst e
          rw [hit] at h2; cases h2
          exact fun hf => cc (@decide_eq_true _ (Classical.propDecidable _) hf)
        · exact hN j y (by omega) h2
    · rintro σ H' ⟨⟨v2, v3, rfl⟩, hS, hN⟩
      rw [ln] at hN
      have := q H' (m1.trans hS)
      rw [lets_none fun j y h => hN j y (by omega) h] at this
      exact this
end
section
variable {P : Program} {w : World} {K : PySem.W.Frag} {mg : Str → Option Value} {base : Heap}
theorem ok_lets_one (D : Df K mg "lets_one" s_lets_one ["pattern", "boards"]) (T : Tx mg) (C_lets : Cal P w K mg base "lets" ["pattern", "board"] 5 (sp_lets K)) : Cal P w K mg base "lets_one" ["pattern", "boards"] 6 (sp_lets_one K) := by
  obtain ⟨f_lets, fd_lets, G_lets, g_lets, k_lets, b_lets⟩ := C_lets
  obtain ⟨f, fd, F, gf, bf⟩ := D
  refine ⟨f, fd, F.ok sc_lets_one (fun vs H Q E h => ?_) (fun cdv A outer s₀ H vs Q E hr h => ?_), gf, F.kp, bf⟩
  · obtain ⟨p, a, bs, rfl, _⟩ := h; rfl
  · obtain ⟨p, a, bs, rfl, hA, pl, bl, hb, q⟩ := h
    refine ⟨_, (pss_one (ps_ret (pe_callB (cr_any rfl) (by rfl) T.n_any (by decide +kernel) (pa_cons (pe_lc (own := [("board", 2)]) (g := gName 2) (tt := tYes) rfl sc_lets_one.nd (pi_tup (pv 1)) (blkOk_by (own := [("board", 2)]) (N := N_lets_one) (sc := defScope s_lets_one) (by decide +kernel)) (fun _ _ _ _ _ => pg_name (i := 2) sc_lets_one.nd rfl (Or.inl rfl)) (fun _ _ _ _ _ => pts_nil) (fun _ _ _ _ _ => (pe_call G_lets (hr.mono (by decide)) (by rfl) g_lets k_lets b_lets .nil pass0 (pa_cons (pv 0) (pa_cons (pv 2) pa_nil))))) pa_nil)))), ?_⟩
    have small : ∀ n : Nat, n ≤ 30000 → n < sizeLine := fun n h => Nat.lt_of_le_of_lt h (by decide)
    refine ⟨_, rfl, a, rfl, ⟨_, hA⟩, fun D hD => ?_⟩
    refine lc_tup (K := K) (a := a) (xs := bs.map V.str) (fun i H' => H' D = some (.lst (((bs.take i).map fun b => letsL (parts (tl p)) (tl b)).map V.bl)) ∧ Same H H') ⟨upd_same, same_new hD⟩ (fun i H' _ h => h.2.tup hA) ?_ ?_
    · rintro i x H' hi ⟨h1, h2⟩
      rw [List.getElem?_map] at hi
      obtain ⟨b, hbi, rfl⟩ := Option.map_eq_some_iff.mp hi
      have et : bs.take (i + 1) = bs.take i ++ [b] := by rw [List.take_add_one, hbi]; rfl
      have := (List.getElem?_eq_some_iff.mp hbi).1
      refine ⟨rfl, _, rfl, _, rfl, p, b, rfl, pl, hb b (List.mem_of_getElem? hbi), fun H2 m2 => ?_⟩
      refine ⟨_, m2 _ _ h1, by rw [List.length_map, List.length_map, List.length_take]; exact small _ (by omega), by rw [upd_same, et, List.map_append, List.map_append]; rfl, fun bb o hh => ?_⟩
      rw [upd_ne (ne_of_none hh hD)]; exact (h2.trans m2) _ _ hh
    · rintro H' ⟨h1, h2⟩
      rw [List.length_map, List.take_length] at h1
      refine ⟨D, _, rfl, SqL.of h1, ?_⟩
      rw [List.any_map]
      exact q H' h2
end

end Z
namespace Z
open PySem L2 SX
section
variable {P : Program} {w : World} {K : PySem.W.Frag} {mg : Str → Option Value} {base : Heap}
theorem ok_sight (D : Df K mg "sight" s_sight ["patterns", "boards"]) (T : Tx mg)  (C_lets_one : Cal P w K mg base "lets_one" ["pattern", "boards"] 6 (sp_lets_one K)) : Cal P w K mg base "sight" ["patterns", "boards"] 7 (sp_sight K) := by
  obtain ⟨f_lets_one, fd_lets_one, G_lets_one, g_lets_one, k_lets_one, b_lets_one⟩ := C_lets_one
  obtain ⟨f, fd, F, gf, bf⟩ := D
  refine ⟨f, fd, F.ok sc_sight (fun vs H Q E h => ?_) (fun cdv A outer s₀ H vs Q E hr h => ?_), gf, F.kp, bf⟩
  · obtain ⟨a, b, ps, bs, rfl, _⟩ := h; rfl
  · obtain ⟨a, b, ps, bs, rfl, hA, hB, pl, pn, bn, bc, q⟩ := h
    refine ⟨_, (pss_one (ps_ret (pe_callTy call_tuple_of (by rfl) T.n_tuple (by decide +kernel) (pa_cons (pe_lc (own := [("pattern", 2)]) (g := gName 2) (tt := tYes) rfl sc_sight.nd (pi_tup (pv 0)) (blkOk_by (own := [("pattern", 2)]) (N := N_sight) (sc := defScope s_sight) (by decide +kernel)) (fun _ _ _ _ _ => pg_name (i := 2) sc_sight.nd rfl (Or.inl rfl)) (fun _ _ _ _ _ => pts_nil) (fun _ _ _ _ _ => (pe_ifExp (pt_val (pe_call G_lets_one (hr.mono (by decide)) (by rfl) g_lets_one k_lets_one b_lets_one .nil pass0 (pa_cons (pv 2) (pa_cons (pv 1) pa_nil)))) pe_int pe_int))) pa_nil)))), ?_⟩
    have small : ∀ n : Nat, n ≤ 30000 → n < sizeLine := fun n h => Nat.lt_of_le_of_lt h (by decide)
    refine ⟨_, rfl, a, rfl, ⟨_, hA⟩, fun D hD => ?_⟩
    refine lc_tup (K := K) (a := a) (xs := ps.map V.str) (fun i H' => H' D = some (.lst (((ps.take i).map fun p => if (bs.any fun b => letsL (parts (tl p)) (tl b)) = true then (1 : Int) else 0).map V.int)) ∧ Same H H') ⟨upd_same, same_new hD⟩ (fun i H' _ h => h.2.tup hA) ?_ ?_
    · rintro i x H' hi ⟨h1, h2⟩
      rw [List.getElem?_map] at hi
      obtain ⟨p, hpi, rfl⟩ := Option.map_eq_some_iff.mp hi
      have et : ps.take (i + 1) = ps.take i ++ [p] := by rw [List.take_add_one, hpi]; rfl
      have ib := (List.getElem?_eq_some_iff.mp hpi).1
      refine ⟨rfl, _, rfl, _, rfl, p, b, bs, rfl, h2.tup hB, pl p (List.mem_of_getElem? hpi), bn, bc, fun H2 m2 => ?_⟩
      have fin : ∀ z : Int, z = (if (bs.any fun b => letsL (parts (tl p)) (tl b)) = true then (1 : Int) else 0) → ∃ acc, H2 D = some (.lst acc) ∧ acc.length < sizeLine ∧ (upd H2 D (.lst (acc ++ [V.int z]))) D = some (.lst (((ps.take (i + 1)).map fun p => if (bs.any fun b => letsL (parts (tl p)) (tl b)) = true then (1 : Int) else 0).map V.int)) ∧ Same H (upd H2 D (.lst (acc ++ [V.int z]))) := fun z hz => by
        refine ⟨_, m2 _ _ h1, by rw [List.length_map, List.length_map, List.length_take]; exact small _ (by omega), by rw [upd_same, et, List.map_append, List.map_append, hz]; rfl, fun bb o hh => ?_⟩
        rw [upd_ne (ne_of_none hh hD)]; exact (h2.trans m2) _ _ hh
      refine ⟨_, rfl, ite2 (fun cc => fin 1 (by rw [if_pos cc])) (fun cc => fin 0 (by rw [if_neg cc]))⟩
    · rintro H' ⟨h1, h2⟩
      rw [List.length_map, List.take_length] at h1
      refine ⟨D, _, rfl, .inl ⟨SqL.of h1, fun l hl => ?_⟩⟩
      exact q l _ (h2.trans (same_new hl)) (SqT.of upd_same)
end

end Z
namespace Z
open PySem L2 SX
section
variable {P : Program} {w : World} {K : PySem.W.Frag} {mg : Str → Option Value} {base : Heap}
theorem ok__law_fits (D : Df K mg "_law_fits" s__law_fits ["glob", "board"]) (T : Tx mg)  : Cal P w K mg base "_law_fits" ["glob", "board"] 1 (sp__law_fits K) := by
  obtain ⟨f, fd, F, gf, bf⟩ := D
  refine ⟨f, fd, F.ok sc__law_fits (fun vs H Q E h => ?_) (fun cdv A outer s₀ H vs Q E hr h => ?_), gf, F.kp, bf⟩
  · obtain ⟨g, b, rfl, _⟩ := h; rfl
  · obtain ⟨g, b, rfl, hb, gl, q⟩ := h
    refine ⟨_, (pss_cons (ps_set (i := 2) sc__law_fits.nd rfl (Or.inl rfl) (pe_op L2.op_cat (pe_lst (pa_cons pe_bl pa_nil)) (pe_op L2.op_rep (pe_lst (pa_cons pe_bl pa_nil)) (pe_callB call_lenS (by rfl) T.n_len PySem.boot_len (pa_cons (pv 0) pa_nil)))))
      (pss_cons (ps_for PassesOwn.never rfl (pi_range1 (by rfl) T.n_range (pa_cons (pe_callB call_lenS (by rfl) T.n_len PySem.boot_len (pa_cons (pv 0) pa_nil)) pa_nil)) (pg_name (i := 3) sc__law_fits.nd rfl (Or.inl rfl))
      (pss_one (ps_if (PW.pt (pw_and (pt_truth (pe_ix ix_list (pv 2) (pv 3) (fun _ _ => rfl)) (by intro _; rfl)) (pw_and1 (pt_cmpR op_eq (pe_item_str (pv 0) (pv 3) (fun _ _ => rfl)) pe_str (nomark _)))))
        (pss_one (ps_asg pe_bl (pg_sub (pv 2) (pe_op op_add (pv 3) pe_int) set_list)))
        pss_nil)))
      (pss_cons (ps_for PassesOwn.never rfl (pi_str (pv 1)) (pg_name (i := 4) sc__law_fits.nd rfl (Or.inl rfl))
      (pss_cons (ps_set (i := 5) sc__law_fits.nd rfl (Or.inl rfl) (pe_op L2.op_rep (pe_lst (pa_cons pe_bl pa_nil)) (pe_op op_add (pe_callB call_lenS (by rfl) T.n_len PySem.boot_len (pa_cons (pv 0) pa_nil)) pe_int)))
        (pss_cons (ps_for PassesOwn.never rfl (pi_range1 (by rfl) T.n_range (pa_cons (pe_callB call_lenS (by rfl) T.n_len PySem.boot_len (pa_cons (pv 0) pa_nil)) pa_nil)) (pg_name (i := 3) sc__law_fits.nd rfl (Or.inl rfl))
        (C8.pss_cut (ps_if (PW.pt (pw_and (pt_truth (pe_ix ix_list (pv 2) (pv 3) (fun _ _ => rfl)) (by intro _; rfl)) (pw_and1 (pt_cmpR op_eq (pe_item_str (pv 0) (pv 3) (fun _ _ => rfl)) pe_str (nomark _)))))
          (pss_one (ps_asg pe_bl (pg_sub (pv 5) (pv 3) set_list)))
          pss_nil)
          (pss_one (ps_if (PW.pt (pw_and (pt_truth (pe_ix ix_list (pv 2) (pv 3) (fun _ _ => rfl)) (by intro _; rfl)) (pw_and1 (pt_cmpR op_in_seq (pe_item_str (pv 0) (pv 3) (fun _ _ => rfl)) (pe_tup (pa_cons pe_str (pa_cons (pv 4) pa_nil))) (by rfl)))))
          (pss_one (ps_asg pe_bl (pg_sub (pv 5) (pe_op op_add (pv 3) pe_int) set_list)))
          pss_nil))))
        (pss_cons (ps_for PassesOwn.never rfl (pi_range1 (by rfl) T.n_range (pa_cons (pe_callB call_lenS (by rfl) T.n_len PySem.boot_len (pa_cons (pv 0) pa_nil)) pa_nil)) (pg_name (i := 3) sc__law_fits.nd rfl (Or.inl rfl))
        (pss_one (ps_if (PW.pt (pw_and (pt_truth (pe_ix ix_list (pv 5) (pv 3) (fun _ _ => rfl)) (by intro _; rfl)) (pw_and1 (pt_cmpR op_eq (pe_item_str (pv 0) (pv 3) (fun _ _ => rfl)) pe_str (nomark _)))))
          (pss_one (ps_asg pe_bl (pg_sub (pv 5) (pe_op op_add (pv 3) pe_int) set_list)))
          pss_nil)))
        (pss_one (ps_set (i := 2) sc__law_fits.nd rfl (Or.inl rfl) (pv 5)))))))
      (pss_one (ps_ret (pe_ix ix_list (pv 2) (pe_callB call_lenS (by rfl) T.n_len PySem.boot_len (pa_cons (pv 0) pa_nil)) (fun _ _ => rfl))))))), ?_⟩
    have lg := tl_len g
    have small : ∀ n : Nat, n ≤ 30000 → n < sizeLine := fun n h => Nat.lt_of_le_of_lt h (by decide)
    refine ⟨by show 1 ≤ sizeLine; decide, fun p1 h1 => ⟨by show 1 ≤ sizeLine; decide, fun p2 h2 => ?_⟩⟩
    refine ⟨_, rfl, g, rfl, Nat.le_of_lt (small _ (by omega)), p2, _, [V.bl false], rfl, rfl, upd_same, by omega, by omega, ?_, fun p3 h3 => ?_⟩
    · show 1 * _ ≤ _; rw [Nat.one_mul]; exact Nat.le_of_lt (small _ (by omega))
    have hp1 : upd (upd (upd H p1 (HO.lst [V.bl true])) p2 (HO.lst [V.bl false])) p3 (HO.lst (List.replicate ((g.length : Int)).toNat [V.bl false]).flatten) p1 = some (.lst [V.bl true]) := (same_new h3) _ _ ((same_new h2) _ _ upd_same)
    refine ⟨p1, p3, _, _, rfl, rfl, hp1, upd_same, ?_, fun L hL => ?_⟩
    · rw [flatten_one, List.length_map, List.length_replicate]; exact Nat.le_of_lt (small _ (show 1 + _ ≤ _ by omega))
    have s4 := ((same_new h1).trans (same_new h2)).trans ((same_new h3).trans (same_new (o := HO.lst ([V.bl true] ++ (List.replicate ((g.length : Int)).toNat [V.bl false]).flatten)) hL))
    have hL4 : upd (upd (upd (upd H p1 (HO.lst [V.bl true])) p2 (HO.lst [V.bl false])) p3 (HO.lst (List.replicate ((g.length : Int)).toNat [V.bl false]).flatten)) L (HO.lst ([V.bl true] ++ (List.replicate ((g.length : Int)).toNat [V.bl false]).flatten)) L = some (.lst ((true :: List.replicate (tl g).length false).map V.bl)) := by
      rw [upd_same, flatten_one, show ((g.length : Int)).toNat = (tl g).length by omega]; rfl
    have B0 : Bs (true :: List.replicate (tl g).length false) (tl g).length (fun y => st0 (tl g) y ∧ y ≤ 0) := by
      refine ⟨by rw [List.length_cons, List.length_replicate], fun y => ?_⟩
      cases y with
      | zero => exact ⟨fun _ => ⟨True.intro, Nat.le_refl _⟩, fun _ => rfl⟩
      | succ y =>
        rw [List.getElem?_cons_succ, List.getElem?_replicate]
        constructor
        · intro h; split at h <;> cases h
        · intro h; have := h.2; omega
    generalize (upd (upd (upd (upd H p1 (HO.lst [V.bl true])) p2 (HO.lst [V.bl false])) p3 (HO.lst (List.replicate ((g.length : Int)).toNat [V.bl false]).flatten)) L (HO.lst ([V.bl true] ++ (List.replicate ((g.length : Int)).toNat [V.bl false]).flatten))) = H4 at hL4 s4 ⊢
    have HL : H L = none := by
      have := hL
      refine Same.free ?_ this
      exact ((same_new h1).trans (same_new h2)).trans (same_new h3)
    refine ⟨_, rfl, g, rfl, Nat.le_of_lt (small _ (by omega)), _, rfl, by omega, by omega, ?_⟩
    refine for_range (lo := 0) (n := ((g.length : Int)).toNat) (fun i σ H' => ∃ (bs : List Bool) (v3 : Option V), σ = [some (.str g), some (.str b), some (.ref L), v3, none, none] ∧ H' L = some (.lst (bs.map V.bl)) ∧ Same H H' ∧ Bs bs (tl g).length (fun y => st0 (tl g) y ∧ y ≤ i)) ⟨_, _, rfl, hL4, s4, B0⟩ ?_ ?_
    · rintro i σ H' hi ⟨bs, v3, rfl, hl, hS, hB⟩
      have hi' : i < (tl g).length := by omega
      obtain ⟨bi, e1, e2⟩ := hB.get (k := i) (by omega)
      have no : ¬ (st0 (tl g) i ∧ (tl g)[i]? = some 42) → ∃ (bs : List Bool) (v3 : Option V), ([some (V.str g), some (V.str b), some (V.ref L), some (V.int (0 + (i : Int))), none, none] : St) = [some (.str g), some (.str b), some (.ref L), v3, none, none] ∧ H' L = some (.lst (bs.map V.bl)) ∧ Same H H' ∧ Bs bs (tl g).length (fun y => st0 (tl g) y ∧ y ≤ i + 1) := fun h => ⟨bs, _, rfl, hl, hS, hB.congr fun y => ⟨fun z => ⟨z.1, by omega⟩, fun z => ⟨z.1, by
        by_cases e : y = i + 1
        · subst e; exact absurd ⟨z.1.2, z.1.1⟩ h
        · omega⟩⟩⟩
      refine ⟨_, rfl, _, rfl, L, _, _, _, rfl, rfl, SqL.of hl, atI_bl (k := i) (by omega) e1, bi, rfl, ite2 (fun c1 => ?_) (fun c1 => iteF (no fun h => c1 (e2.mpr ⟨h.1, Nat.le_refl _⟩)))⟩
      obtain ⟨d, g1, g2, g3⟩ := at_str (x := g) (i := 0 + (i : Int)) (by omega) (by omega)
      rw [show (0 + (i : Int)).toNat = i by omega] at g2
      refine ⟨_, rfl, _, rfl, g, _, d, rfl, rfl, by omega, by omega, by omega, g1, rfl, _, rfl, ite2 (fun c2 => ?_) (fun c2 => no fun h => ?_)⟩
      · have e42 : d = 42 := (List.cons.inj (congrArg tl (V.str.inj (of_decide_eq_true c2)))).1
        subst e42
        refine ⟨_, rfl, _, rfl, _, _, rfl, rfl, L, _, _, i + 1, rfl, rfl, hl, ixN_pos (by omega) (by rw [List.length_map]; have := hB.1; omega), ?_⟩
        refine ⟨bs.set (i + 1) true, _, rfl, by rw [upd_same, map_set_bl], fun bb o hh => by rw [upd_ne (ne_of_none hh HL)]; exact hS _ _ hh, (hB.set (k := i + 1) (by omega)).congr fun y => ⟨fun z => z.elim (fun w => ⟨w.1, by omega⟩) fun e => ?_, fun z => ?_⟩⟩
        · subst e; exact ⟨⟨g2, (e2.mp c1).1⟩, Nat.le_refl _⟩
        · by_cases e : y = i + 1
          · exact .inr e
          · exact .inl ⟨z.1, by omega⟩
      · rw [g2] at h
        have : d = 42 := Option.some.inj h.2
        subst this
        exact c2 (decide_eq_true rfl)
    rintro σ H5 ⟨bs0, v3, rfl, hl0, hS0, hB0⟩
    -- the signs
    refine ⟨_, rfl, b, rfl, ?_⟩
    refine for_str (l := tl b) (fun j σ H' => ∃ (L : Addr) (bs : List Bool) (M : Nat → Prop) (v3 v4 v5 : Option V), σ = [some (.str g), some (.str b), some (.ref L), v3, v4, v5] ∧ H' L = some (.lst (bs.map V.bl)) ∧ Same H H' ∧ Bs bs (tl g).length M ∧ Lax (tl g) (stand (tl g) ((tl b).take j)) M) ⟨L, bs0, _, _, _, _, rfl, hl0, hS0, hB0.congr (N := st0 (tl g)) fun y => ⟨fun z => z.1, fun z => ⟨z, by have := st0_within (tl g) y z; omega⟩⟩, lax_start _⟩ ?_ ?_
    · rintro j c σ H' hj ⟨L, bs, M, v3, v4, v5, rfl, hl, hS, hB, hLx⟩
      have hc := hb c (List.mem_of_getElem? hj)
      have et : (tl b).take (j + 1) = (tl b).take j ++ [c] := by rw [List.take_add_one, hj]; rfl
      obtain ⟨cl, wi⟩ := stand_ok (tl g) ((tl b).take j)
      have hLx' := lax_next hc cl hLx
      rw [← stand_snoc, ← et] at hLx'
      have Mw : within (tl g) M := fun y m => by
        rcases (hLx y).mp m with n | ⟨e, _⟩
        · exact wi y n
        · have := (List.getElem?_eq_some_iff.mp e).1; omega
      refine ⟨by show 1 ≤ sizeLine; decide, fun p6 h6 => ?_⟩
      refine ⟨_, rfl, g, rfl, Nat.le_of_lt (small _ (by omega)), _, _, rfl, rfl, p6, _, [V.bl false], rfl, rfl, upd_same, by omega, by omega, ?_, fun A hA => ?_⟩
      · show 1 * _ ≤ _; rw [Nat.one_mul]; exact Nat.le_of_lt (small _ (by omega))
      have eA : upd (upd H' p6 (HO.lst [V.bl false])) A (HO.lst (List.replicate ((g.length : Int) + 1).toNat [V.bl false]).flatten) A = some (.lst ((List.replicate ((tl g).length + 1) false).map V.bl)) := by
        rw [upd_same, flatten_one, show ((g.length : Int) + 1).toNat = (tl g).length + 1 by omega]
      have sA : Same H' (upd (upd H' p6 (HO.lst [V.bl false])) A (HO.lst (List.replicate ((g.length : Int) + 1).toNat [V.bl false]).flatten)) := (same_new h6).trans (same_new hA)
      have HA' : H' A = none := Same.free (same_new h6) hA
      have LA : L ≠ A := ne_of_none hl HA'
      have HA : H A = none := Same.free hS HA'
      generalize (upd (upd H' p6 (HO.lst [V.bl false])) A (HO.lst (List.replicate ((g.length : Int) + 1).toNat [V.bl false]).flatten)) = H7 at eA sA ⊢
      refine ⟨_, rfl, g, rfl, Nat.le_of_lt (small _ (by omega)), _, rfl, by omega, by omega, ?_⟩
      refine for_range (lo := 0) (n := ((g.length : Int)).toNat) (fun i σ H8 => ∃ (as : List Bool) (v3 : Option V), σ = [some (.str g), some (.str b), some (.ref L), v3, some (.str (S [c])), some (.ref A)] ∧ H8 A = some (.lst (as.map V.bl)) ∧ H8 L = some (.lst (bs.map V.bl)) ∧ Same H H8 ∧ Bs as (tl g).length (fun y => (M y ∧ (tl g)[y]? = some 42 ∧ y < i) ∨ ∃ k, k < i ∧ y = k + 1 ∧ M k ∧ ((tl g)[k]? = some 63 ∨ (tl g)[k]? = some c))) ⟨_, _, rfl, eA, sA _ _ hl, hS.trans sA, (bs_false _).congr fun y => ⟨fun z => z.elim, fun z => by
        rcases z with ⟨_, _, z⟩ | ⟨k, z, _⟩ <;> omega⟩⟩ ?_ ?_
      · rintro i σ H8 hi ⟨as, v3, rfl, ha, hl8, hS8, hB8⟩
        have hi' : i < (tl g).length := by omega
        obtain ⟨bi, e1, e2⟩ := hB.get (k := i) (by omega)
        obtain ⟨d, g1, g2, g3⟩ := at_str (x := g) (i := 0 + (i : Int)) (by omega) (by omega)
        rw [show (0 + (i : Int)).toNat = i by omega] at g2
        refine ⟨fun σ2 H9 => ∃ (as : List Bool), σ2 = [some (.str g), some (.str b), some (.ref L), some (.int (0 + (i : Int))), some (.str (S [c])), some (.ref A)] ∧ H9 A = some (.lst (as.map V.bl)) ∧ H9 L = some (.lst (bs.map V.bl)) ∧ Same H H9 ∧ Bs as (tl g).length (fun y => (M y ∧ (tl g)[y]? = some 42 ∧ y < i + 1) ∨ ∃ k, k < i ∧ y = k + 1 ∧ M k ∧ ((tl g)[k]? = some 63 ∨ (tl g)[k]? = some c)), ?_, ?_⟩
        · have no : ¬ (M i ∧ (tl g)[i]? = some 42) → ∃ (as : List Bool), ([some (V.str g), some (V.str b), some (V.ref L), some (V.int (0 + (i : Int))), some (V.str (S [c])), some (V.ref A)] : St) = [some (.str g), some (.str b), some (.ref L), some (.int (0 + (i : Int))), some (.str (S [c])), some (.ref A)] ∧ H8 A = some (.lst (as.map V.bl)) ∧ H8 L = some (.lst (bs.map V.bl)) ∧ Same H H8 ∧ Bs as (tl g).length (fun y => (M y ∧ (tl g)[y]? = some 42 ∧ y < i + 1) ∨ ∃ k, k < i ∧ y = k + 1 ∧ M k ∧ ((tl g)[k]? = some 63 ∨ (tl g)[k]? = some c)) := fun h => ⟨as, rfl, ha, hl8, hS8, hB8.congr fun y => ⟨fun z => z.elim (fun w => .inl ⟨w.1, w.2.1, by omega⟩) .inr, fun z => z.elim (fun w => .inl ⟨w.1, w.2.1, by
            by_cases e : y = i
            · subst e; exact absurd ⟨w.1, w.2.1⟩ h
            · omega⟩) .inr⟩⟩
          refine ⟨_, rfl, _, rfl, L, _, _, _, rfl, rfl, SqL.of hl8, atI_bl (k := i) (by omega) e1, bi, rfl, ite2 (fun c1 => ?_) (fun c1 => iteF (no fun h => c1 (e2.mpr h.1)))⟩
          refine ⟨_, rfl, _, rfl, g, _, d, rfl, rfl, by omega, by omega, by omega, g1, rfl, _, rfl, ite2 (fun c2 => ?_) (fun c2 => no fun h => ?_)⟩
          · have e42 : d = 42 := (List.cons.inj (congrArg tl (V.str.inj (of_decide_eq_true c2)))).1
            subst e42
            refine ⟨_, rfl, _, rfl, A, _, _, i, rfl, rfl, ha, ixN_pos (by omega) (by rw [List.length_map]; have := hB8.1; omega), ?_⟩
            refine ⟨as.set i true, rfl, by rw [upd_same, map_set_bl], by rw [upd_ne LA]; exact hl8, fun bb o hh => by rw [upd_ne (ne_of_none hh HA)]; exact hS8 _ _ hh, (hB8.set (k := i) (by omega)).congr fun y => ⟨fun z => ?_, fun z => ?_⟩⟩
            · rcases z with (w | w) | e
              · exact .inl ⟨w.1, w.2.1, by omega⟩
              · exact .inr w
              · subst e; exact .inl ⟨e2.mp c1, g2, by omega⟩
            · rcases z with w | w
              · by_cases e : y = i
                · exact .inr e
                · exact .inl (.inl ⟨w.1, w.2.1, by omega⟩)
              · exact .inl (.inr w)
          · rw [g2] at h
            have : d = 42 := Option.some.inj h.2
            subst this
            exact c2 (decide_eq_true rfl)
        · rintro σ2 H9 ⟨as2, rfl, ha9, hl9, hS9, hB9⟩
          have ends : ∀ (as3 : List Bool) (H10 : Hp), H10 A = some (.lst (as3.map V.bl)) → H10 L = some (.lst (bs.map V.bl)) → Same H H10 → Bs as3 (tl g).length (fun y => ((M y ∧ (tl g)[y]? = some 42 ∧ y < i + 1) ∨ ∃ k, k < i ∧ y = k + 1 ∧ M k ∧ ((tl g)[k]? = some 63 ∨ (tl g)[k]? = some c)) ∨ (y = i + 1 ∧ M i ∧ ((tl g)[i]? = some 63 ∨ (tl g)[i]? = some c))) → ∃ (as : List Bool) (v3 : Option V), ([some (V.str g), some (V.str b), some (V.ref L), some (V.int (0 + (i : Int))), some (V.str (S [c])), some (V.ref A)] : St) = [some (.str g), some (.str b), some (.ref L), v3, some (.str (S [c])), some (.ref A)] ∧ H10 A = some (.lst (as.map V.bl)) ∧ H10 L = some (.lst (bs.map V.bl)) ∧ Same H H10 ∧ Bs as (tl g).length (fun y => (M y ∧ (tl g)[y]? = some 42 ∧ y < i + 1) ∨ ∃ k, k < i + 1 ∧ y = k + 1 ∧ M k ∧ ((tl g)[k]? = some 63 ∨ (tl g)[k]? = some c)) := fun as3 H10 h1 h2 h3 h4 => ⟨as3, _, rfl, h1, h2, h3, h4.congr fun y => ⟨fun z => by
            rcases z with (w | ⟨k, w1, w2⟩) | ⟨w1, w2⟩
            · exact .inl w
            · exact .inr ⟨k, by omega, w2⟩
            · exact .inr ⟨i, by omega, w1, w2⟩, fun z => by
            rcases z with w | ⟨k, w1, w2, w3⟩
            · exact .inl (.inl w)
            · by_cases e : k = i
              · subst e; exact .inr ⟨w2, w3⟩
              · exact .inl (.inr ⟨k, by omega, w2, w3⟩)⟩⟩
          refine ⟨_, rfl, _, rfl, L, _, _, _, rfl, rfl, SqL.of hl9, atI_bl (k := i) (by omega) e1, bi, rfl, ite2 (fun c1 => ?_) (fun c1 => iteF (ends as2 H9 ha9 hl9 hS9 (hB9.congr fun y => ⟨.inl, fun z => z.elim id fun w => absurd (e2.mpr w.2.1) c1⟩)))⟩
          refine ⟨_, rfl, _, rfl, g, _, d, rfl, rfl, by omega, by omega, by omega, g1, ?_⟩
          refine ⟨_, rfl, by show 2 ≤ sizeLine; decide, fun t ht => ?_⟩
          refine ⟨t, [Str.ofString "?", S [c]].map V.str, rfl, .inr (SqT.of upd_same), rfl, flat_strs _, _, rfl, ?_⟩
          have eb : (if false = true then !inV (V.str (S [d])) ([Str.ofString "?", S [c]].map V.str) else inV (V.str (S [d])) ([Str.ofString "?", S [c]].map V.str)) = decide (S [d] ∈ [Str.ofString "?", S [c]]) := inV_strs _ _
          have tn := same_new (o := HO.tup [V.str (Str.ofString "?"), V.str (S [c])]) ht
          by_cases hin : S [d] ∈ [Str.ofString "?", S [c]]
          · have hmt : (tl g)[i]? = some 63 ∨ (tl g)[i]? = some c := by
              rw [g2]
              rcases List.mem_cons.mp hin with e | e
              · exact .inl (congrArg some (List.cons.inj (congrArg tl e)).1)
              · exact .inr (congrArg some (List.cons.inj (congrArg tl (List.mem_singleton.mp e))).1)
            refine ite2 (fun _ => ?_) (fun h => (h (eb.trans (decide_eq_true hin))).elim)
            refine ⟨_, rfl, _, rfl, _, _, rfl, rfl, A, _, _, i + 1, rfl, rfl, tn _ _ ha9, ixN_pos (by omega) (by rw [List.length_map]; have := hB9.1; omega), ?_⟩
            refine ends (as2.set (i + 1) true) _ (by rw [upd_same, map_set_bl]) (by rw [upd_ne LA]; exact tn _ _ hl9) (fun bb o hh => by rw [upd_ne (ne_of_none hh HA)]; exact (hS9.trans tn) _ _ hh) ((hB9.set (k := i + 1) (by omega)).congr fun y => ⟨fun z => z.elim .inl fun e => .inr ⟨e, e2.mp c1, hmt⟩, fun z => z.elim .inl fun w => .inr w.1⟩)
          · refine ite2 (fun h => (hin (of_decide_eq_true (eb.symm.trans h))).elim) (fun _ => ends as2 _ (tn _ _ ha9) (tn _ _ hl9) (hS9.trans tn) (hB9.congr fun y => ⟨.inl, fun z => z.elim id fun w => absurd ?_ hin⟩))
            have e := w.2.2
            rw [g2] at e
            rcases e with e | e
            · have : d = 63 := Option.some.inj e
              subst this; exact List.mem_cons_self
            · have : d = c := Option.some.inj e
              subst this; exact List.mem_cons_of_mem _ (List.mem_singleton.mpr rfl)
      -- along the stars
      rintro σ8 H8 ⟨as, v3', rfl, ha, hl8, hS8, hB8⟩
      have hB8' : Bs as (tl g).length (lawA (tl g) M c) := hB8.congr fun y => by
        unfold lawA
        constructor
        · rintro (w | ⟨k, _, w⟩)
          · exact .inl ⟨w.1, w.2.1⟩
          · exact .inr ⟨k, w⟩
        · rintro (w | ⟨k, w⟩)
          · exact .inl ⟨w.1, w.2, by have := (List.getElem?_eq_some_iff.mp w.2).1; omega⟩
          · refine .inr ⟨k, ?_, w⟩
            have : k < (tl g).length := by rcases w.2.2 with e | e <;> exact (List.getElem?_eq_some_iff.mp e).1
            omega
      refine ⟨_, rfl, g, rfl, Nat.le_of_lt (small _ (by omega)), _, rfl, by omega, by omega, ?_⟩
      refine for_range (lo := 0) (n := ((g.length : Int)).toNat) (fun i σ H9 => ∃ (as : List Bool) (v3 : Option V), σ = [some (.str g), some (.str b), some (.ref L), v3, some (.str (S [c])), some (.ref A)] ∧ H9 A = some (.lst (as.map V.bl)) ∧ Same H H9 ∧ Bs as (tl g).length (fun y => (y ≤ i ∧ lawB (tl g) (lawA (tl g) M c) y) ∨ (i < y ∧ lawA (tl g) M c y))) ⟨as, _, rfl, ha, hS8, hB8'.congr fun y => ?_⟩ ?_ ?_
      · cases y with
        | zero => exact ⟨fun z => .inl ⟨Nat.le_refl _, z⟩, fun z => z.elim (fun w => w.2) fun w => w.2⟩
        | succ y => exact ⟨fun z => .inr ⟨by omega, z⟩, fun z => z.elim (fun w => by omega) fun w => w.2⟩
      · rintro i σ H9 hi ⟨as, v3, rfl, ha, hS9, hB9⟩
        have hi' : i < (tl g).length := by omega
        obtain ⟨bi, e1, e2⟩ := hB9.get (k := i) (by omega)
        have e3 : bi = true ↔ lawB (tl g) (lawA (tl g) M c) i := e2.trans ⟨fun z => z.elim (fun w => w.2) fun w => by omega, fun z => .inl ⟨Nat.le_refl _, z⟩⟩
        have no : ¬ (lawB (tl g) (lawA (tl g) M c) i ∧ (tl g)[i]? = some 42) → ∃ (as : List Bool) (v3 : Option V), ([some (V.str g), some (V.str b), some (V.ref L), some (V.int (0 + (i : Int))), some (V.str (S [c])), some (V.ref A)] : St) = [some (.str g), some (.str b), some (.ref L), v3, some (.str (S [c])), some (.ref A)] ∧ H9 A = some (.lst (as.map V.bl)) ∧ Same H H9 ∧ Bs as (tl g).length (fun y => (y ≤ i + 1 ∧ lawB (tl g) (lawA (tl g) M c) y) ∨ (i + 1 < y ∧ lawA (tl g) M c y)) := fun h => ⟨as, _, rfl, ha, hS9, hB9.congr fun y => by
          by_cases e : y = i + 1
          · subst e
            constructor
            · rintro (w | w)
              · omega
              · exact .inl ⟨Nat.le_refl _, .inl w.2⟩
            · rintro (⟨_, w | w⟩ | w)
              · exact .inr ⟨by omega, w⟩
              · exact absurd w h
              · omega
          · constructor
            · rintro (w | w)
              · exact .inl ⟨by omega, w.2⟩
              · exact .inr ⟨by omega, w.2⟩
            · rintro (w | w)
              · exact .inl ⟨by omega, w.2⟩
              · exact .inr ⟨by omega, w.2⟩⟩
        refine ⟨_, rfl, _, rfl, A, _, _, _, rfl, rfl, SqL.of ha, atI_bl (k := i) (by omega) e1, bi, rfl, ite2 (fun c1 => ?_) (fun c1 => iteF (no fun h => c1 (e3.mpr h.1)))⟩
        obtain ⟨d, g1, g2, g3⟩ := at_str (x := g) (i := 0 + (i : Int)) (by omega) (by omega)
        rw [show (0 + (i : Int)).toNat = i by omega] at g2
        refine ⟨_, rfl, _, rfl, g, _, d, rfl, rfl, by omega, by omega, by omega, g1, rfl, _, rfl, ite2 (fun c2 => ?_) (fun c2 => no fun h => ?_)⟩
        · have e42 : d = 42 := (List.cons.inj (congrArg tl (V.str.inj (of_decide_eq_true c2)))).1
          subst e42
          refine ⟨_, rfl, _, rfl, _, _, rfl, rfl, A, _, _, i + 1, rfl, rfl, ha, ixN_pos (by omega) (by rw [List.length_map]; have := hB9.1; omega), ?_⟩
          refine ⟨as.set (i + 1) true, _, rfl, by rw [upd_same, map_set_bl], fun bb o hh => by rw [upd_ne (ne_of_none hh HA)]; exact hS9 _ _ hh, (hB9.set (k := i + 1) (by omega)).congr fun y => ?_⟩
          by_cases e : y = i + 1
          · subst e
            exact ⟨fun _ => .inl ⟨Nat.le_refl _, .inr ⟨e3.mp c1, g2⟩⟩, fun _ => .inr rfl⟩
          · constructor
            · rintro ((w | w) | w)
              · exact .inl ⟨by omega, w.2⟩
              · exact .inr ⟨by omega, w.2⟩
              · exact absurd w e
            · rintro (w | w)
              · exact .inl (.inl ⟨by omega, w.2⟩)
              · exact .inl (.inr ⟨by omega, w.2⟩)
        · rw [g2] at h
          have : d = 42 := Option.some.inj h.2
          subst this
          exact c2 (decide_eq_true rfl)
      · rintro σ9 H9 ⟨as, v3, rfl, ha, hS9, hB9⟩
        refine ⟨_, rfl, A, as, lawB (tl g) (lawA (tl g) M c), _, _, _, rfl, ha, hS9, hB9.congr fun y => ⟨fun z => z.elim (fun w => w.2) fun w => ?_, fun z => ?_⟩, hLx'⟩
        · have hw := w.1
          exfalso
          rcases w.2 with ⟨m, _⟩ | ⟨k, e, m, r⟩
          · have := Mw y m; omega
          · have : k < (tl g).length := by rcases r with r | r <;> exact (List.getElem?_eq_some_iff.mp r).1
            omega
        · by_cases e : y ≤ ((g.length : Int)).toNat
          · exact .inl ⟨e, z⟩
          · exfalso
            have h9 := (hLx' y).mp z
            obtain ⟨_, wi2⟩ := stand_ok (tl g) ((tl b).take (j + 1))
            rcases h9 with n | ⟨q, _⟩
            · have := wi2 y n; omega
            · have := (List.getElem?_eq_some_iff.mp q).1; omega
    · rintro σ H' ⟨L, bs, M, v3, v4, v5, rfl, hl, hS, hB, hLx⟩
      rw [List.take_length] at hLx
      obtain ⟨bi, e1, e2⟩ := hB.get (k := (tl g).length) (Nat.le_refl _)
      refine ⟨_, rfl, _, rfl, g, rfl, Nat.le_of_lt (small _ (by omega)), L, _, _, .bl bi, rfl, rfl, SqL.of hl, atI_bl (k := (tl g).length) (by omega) e1, ?_⟩
      have ef : bi = @decide (fit (tl g) (tl b)) (Classical.propDecidable _) := by
        rw [Bool.eq_iff_iff, e2]
        simp only [decide_eq_true_iff]
        refine (hLx _).trans ⟨fun z => z.elim id fun w => ?_, .inl⟩
        have := (List.getElem?_eq_some_iff.mp w.1).1; omega
      rw [ef]
      exact q H' hS
end

end Z
namespace Z
open PySem L2 SX
section
variable {P : Program} {w : World} {K : PySem.W.Frag} {mg : Str → Option Value} {base : Heap}
theorem ok__law_lets (D : Df K mg "_law_lets" s__law_lets ["pattern", "board"]) (T : Tx mg) (C__law_fits : Cal P w K mg base "_law_fits" ["glob", "board"] 1 (sp__law_fits K)) : Cal P w K mg base "_law_lets" ["pattern", "board"] 2 (sp__law_lets K) := by
  obtain ⟨f__law_fits, fd__law_fits, G__law_fits, g__law_fits, k__law_fits, b__law_fits⟩ := C__law_fits
  obtain ⟨f, fd, F, gf, bf⟩ := D
  refine ⟨f, fd, F.ok sc__law_lets (fun vs H Q E h => ?_) (fun cdv A outer s₀ H vs Q E hr h => ?_), gf, F.kp, bf⟩
  · obtain ⟨p, b, rfl, _⟩ := h; rfl
  · obtain ⟨p, b, rfl, pl, hb, q⟩ := h
    refine ⟨_, (pss_cons (ps_set (i := 2) sc__law_lets.nd rfl (Or.inl rfl) pe_bl)
      (pss_cons (ps_for PassesOwn.never rfl (pi_list (pe_split (pv 0) pe_str)) (pg_name (i := 3) sc__law_lets.nd rfl (Or.inl rfl))
      (pss_one (ps_if (pt_cmpR op_eq (pe_slice sl_str (pv 3) po_none (po_some pe_int)) pe_str (nomark _))
        (pss_one (ps_if (pt_val (pe_call G__law_fits (hr.mono (by decide)) (by rfl) g__law_fits k__law_fits b__law_fits .nil pass0 (pa_cons (pe_slice sl_str (pv 3) (po_some pe_int) po_none) (pa_cons (pv 1) pa_nil))))
          (pss_one (ps_set (i := 2) sc__law_lets.nd rfl (Or.inl rfl) pe_bl))
          pss_nil))
        (pss_one (ps_if (pt_val (pe_call G__law_fits (hr.mono (by decide)) (by rfl) g__law_fits k__law_fits b__law_fits .nil pass0 (pa_cons (pv 3) (pa_cons (pv 1) pa_nil))))
          (pss_one (ps_set (i := 2) sc__law_lets.nd rfl (Or.inl rfl) pe_bl))
          pss_nil)))))
      (pss_one (ps_ret (pv 2))))), ?_⟩
    have lp := tl_len p
    have small : ∀ n : Nat, n ≤ 30000 → n ≤ sizeLine := fun n h => Nat.le_trans h (by decide)
    refine ⟨_, rfl, ⟨_, rfl⟩, p, Str.ofString ",", rfl, rfl, rfl, small _ (by omega), fun B hB => ?_⟩
    rw [split_bar]
    have hB1 : (upd H B (HO.lst (((parts (tl p)).map S).map V.str))) B = some (.lst (((parts (tl p)).map S).map V.str)) := upd_same
    refine ⟨B, rfl, ⟨_, SqL.of hB1⟩, ?_⟩
    refine for_list (K := K) (a := B) (xs := ((parts (tl p)).map S).map V.str) (fun i σ H' => (∃ v3 : Option V, σ = [some (.str p), some (.str b), some (.bl (letsL ((parts (tl p)).take i) (tl b))), v3]) ∧ Same (upd H B (HO.lst (((parts (tl p)).map S).map V.str))) H') ⟨⟨_, rfl⟩, Same.refl _⟩ (fun i σ H' _ h => SqL.of (h.2 _ _ hB1)) ?_ ?_
    · rintro i x σ H' hi ⟨⟨v3, rfl⟩, hS⟩
      rw [List.getElem?_map, List.getElem?_map] at hi
      obtain ⟨y, hy, rfl⟩ := Option.map_eq_some_iff.mp hi
      obtain ⟨it, hit, rfl⟩ := Option.map_eq_some_iff.mp hy
      have il := parts_len (List.mem_of_getElem? hit)
      have et : (parts (tl p)).take (i + 1) = (parts (tl p)).take i ++ [it] := by rw [List.take_add_one, hit]; rfl
      have step : letsL ((parts (tl p)).take (i + 1)) (tl b) = (if @decide (fit (globOf it) (tl b)) (Classical.propDecidable _) = true then !isBar it else letsL ((parts (tl p)).take i) (tl b)) := by
        rw [et]
        show List.foldl _ _ (_ ++ [it]) = _
        rw [List.foldl_append]
        show (@ite _ (fit (globOf it) (tl b)) (Classical.propDecidable _) (!isBar it) (letsL ((parts (tl p)).take i) (tl b))) = _
        by_cases h : fit (globOf it) (tl b)
        · rw [if_pos h, if_pos (@decide_eq_true _ (Classical.propDecidable _) h)]
        · rw [if_neg h, if_neg (fun e => h (@of_decide_eq_true _ (Classical.propDecidable _) e))]
      refine ⟨_, rfl, 1, rfl, S it, rfl, small _ (by show (S it).length ≤ _; rw [S_len]; omega), rfl, _, rfl, ?_⟩
      rw [bar_cut]
      refine ite2 (fun cc => ?_) (fun cc => ?_)
      · have cc' : isBar it = true := cc
        have eg : globOf it = it.drop 1 := by unfold globOf; rw [if_pos cc']
        have ec : tl (cutS (S it) (some 1) none) = globOf it := by rw [eg]; exact cutS_from (by decide)
        refine ⟨_, rfl, 1, rfl, S it, rfl, small _ (by show (S it).length ≤ _; rw [S_len]; omega), _, rfl, cutS (S it) (some 1) none, b, rfl, hb, by rw [ec]; have := globOf_len it; omega, fun H2 m2 => ?_⟩
        rw [ec]
        refine ⟨_, rfl, ite2 (fun c2 => ?_) (fun c2 => ?_)⟩
        · refine ⟨⟨some (.str (S it)), ?_⟩, hS.trans m2⟩
          rw [step, if_pos c2, cc']; rfl
        · refine ⟨⟨some (.str (S it)), ?_⟩, hS.trans m2⟩
          rw [step, if_neg c2]; rfl
      · have cc' : ¬ isBar it = true := cc
        have eg : globOf it = it := by unfold globOf; rw [if_neg cc']
        refine ⟨_, rfl, _, rfl, S it, b, rfl, hb, by show it.length ≤ _; omega, fun H2 m2 => ?_⟩
        rw [show tl (S it) = globOf it from eg.symm]
        refine ⟨_, rfl, ite2 (fun c2 => ?_) (fun c2 => ?_)⟩
        · refine ⟨⟨some (.str (S it)), ?_⟩, hS.trans m2⟩
          rw [step, if_pos c2, show isBar it = false by simpa using cc']; rfl
        · refine ⟨⟨some (.str (S it)), ?_⟩, hS.trans m2⟩
          rw [step, if_neg c2]; rfl
    · rintro σ H' ⟨⟨v3, rfl⟩, hS⟩
      rw [List.length_map, List.length_map, List.take_length]
      exact ⟨_, rfl, q H' ((same_new hB).trans hS)⟩
end
section
variable {P : Program} {w : World} {K : PySem.W.Frag} {mg : Str → Option Value} {base : Heap}
theorem ok__law_lets_some (D : Df K mg "_law_lets_some" s__law_lets_some ["pattern", "boards"]) (T : Tx mg) (C__law_lets : Cal P w K mg base "_law_lets" ["pattern", "board"] 2 (sp__law_lets K)) : Cal P w K mg base "_law_lets_some" ["pattern", "boards"] 3 (sp__law_lets_some K) := by
  obtain ⟨f__law_lets, fd__law_lets, G__law_lets, g__law_lets, k__law_lets, b__law_lets⟩ := C__law_lets
  obtain ⟨f, fd, F, gf, bf⟩ := D
  refine ⟨f, fd, F.ok sc__law_lets_some (fun vs H Q E h => ?_) (fun cdv A outer s₀ H vs Q E hr h => ?_), gf, F.kp, bf⟩
  · obtain ⟨p, a, bs, rfl, _⟩ := h; rfl
  · obtain ⟨p, a, bs, rfl, hA, pl, bl, hb, q⟩ := h
    refine ⟨_, (pss_cons (ps_for PassesOwn.never rfl (pi_tup (pv 1)) (pg_name (i := 2) sc__law_lets_some.nd rfl (Or.inl rfl))
      (pss_one (ps_if (pt_val (pe_call G__law_lets (hr.mono (by decide)) (by rfl) g__law_lets k__law_lets b__law_lets .nil pass0 (pa_cons (pv 0) (pa_cons (pv 2) pa_nil))))
        (pss_one (ps_ret pe_bl))
        pss_nil)))
      (pss_one (ps_ret pe_bl))), ?_⟩
    refine ⟨_, rfl, a, rfl, ⟨_, hA⟩, ?_⟩
    refine for_tup (K := K) (a := a) (xs := bs.map V.str) (fun i σ H' => (∃ v2 : Option V, σ = [some (.str p), some (.ref a), v2]) ∧ Same H H' ∧ (bs.take i).any (fun b => letsL (parts (tl p)) (tl b)) = false) ⟨⟨_, rfl⟩, Same.refl _, rfl⟩ (fun i σ H' _ h => h.2.1.tup hA) ?_ ?_
    · rintro i x σ H' hi ⟨⟨v2, rfl⟩, hS, hN⟩
      rw [List.getElem?_map] at hi
      obtain ⟨b, hbi, rfl⟩ := Option.map_eq_some_iff.mp hi
      have et : bs.take (i + 1) = bs.take i ++ [b] := by rw [List.take_add_one, hbi]; rfl
      refine ⟨_, rfl, _, rfl, p, b, rfl, pl, hb b (List.mem_of_getElem? hbi), fun H2 m2 => ?_⟩
      refine ⟨_, rfl, ite2 (fun cc => ?_) (fun cc => ⟨⟨_, rfl⟩, hS.trans m2, ?_⟩)⟩
      · have := q H2 (hS.trans m2)
        rw [show (bs.any fun b => letsL (parts (tl p)) (tl b)) = true from List.any_eq_true.mpr ⟨b, List.mem_of_getElem? hbi, cc⟩] at this
        exact this
      · rw [et, List.any_append, hN]
        show (false || (letsL (parts (tl p)) (tl b) || false)) = false
        rw [show letsL (parts (tl p)) (tl b) = false by simpa using cc]; rfl
    · rintro σ H' ⟨⟨v2, rfl⟩, hS, hN⟩
      rw [List.length_map, List.take_length] at hN
      have := q H' hS
      rw [hN] at this
      exact this
end

end Z
namespace Z
open PySem L2 SX
section
variable {P : Program} {w : World} {K : PySem.W.Frag} {mg : Str → Option Value} {base : Heap}
theorem ok__law_words (D : Df K mg "_law_words" s__law_words ["source"]) (T : Tx mg)  (C__law_draw : Cal P w K mg base "_law_draw" ["source", "many"] 2 sp__law_draw) (C__law_names : Cal P w K mg base "_law_names" ["source", "many"] 4 (sp9__law_names K)) : Cal P w K mg base "_law_words" ["source"] 5 (sp2__law_words K) := by
  obtain ⟨f__law_draw, fd__law_draw, G__law_draw, g__law_draw, k__law_draw, b__law_draw⟩ := C__law_draw
  obtain ⟨f__law_names, fd__law_names, G__law_names, g__law_names, k__law_names, b__law_names⟩ := C__law_names
  obtain ⟨f, fd, F, gf, bf⟩ := D
  refine ⟨f, fd, F.ok sc__law_words (fun vs H Q E h => ?_) (fun cdv A outer s₀ H vs Q E hr h => ?_), gf, F.kp, bf⟩
  · obtain ⟨s, a, c, rfl, _⟩ := h; rfl
  · obtain ⟨s, a, c, rfl, hS, q⟩ := h
    refine ⟨_, (pss_one (ps_ret (pe_call G__law_names (hr.mono (by decide)) (by rfl) g__law_names k__law_names b__law_names .nil pass0 (pa_cons (pv 0) (pa_cons (pe_op op_add pe_int (pe_call G__law_draw (hr.mono (by decide)) (by rfl) g__law_draw k__law_draw b__law_draw .nil pass0 (pa_cons (pv 0) (pa_cons pe_int pa_nil)))) pa_nil))))), ?_⟩
    refine ⟨_, rfl, _, rfl, s, a, _, c + 99, rfl, by decide, by decide, hS, fun v H1 v0 v1 x1 S1 => ?_⟩
    obtain ⟨m, rfl⟩ := Int.eq_ofNat_of_zero_le v0
    refine ⟨_, _, rfl, rfl, s, a, m + 2, c + 50, ?_, by omega, S1.mono (by omega), fun u us H2 hu h2 ul uA x2 S2 => ?_⟩
    · show [V.ref s, V.int (2 + (m : Int))] = [V.ref s, V.int ((m + 2 : Nat) : Int)]
      rw [show ((m + 2 : Nat) : Int) = 2 + (m : Int) by omega]
    · have hu0 : H u = none := ext_free x1 S1 hu
      exact q u us H2 hu0 h2 ⟨fun e => by rw [e] at ul; simp at ul, by omega, uA.2⟩ (x1.trans x2) (S2.mono (by omega))
end
section
variable {P : Program} {w : World} {K : PySem.W.Frag} {mg : Str → Option Value} {base : Heap}
theorem ok__law_board (D : Df K mg "_law_board" s__law_board ["source", "words"]) (T : Tx mg)  (C__law_draw : Cal P w K mg base "_law_draw" ["source", "many"] 2 sp__law_draw) (C__law_pick : Cal P w K mg base "_law_pick" ["source", "row"] 3 (sp3__law_pick K)) : Cal P w K mg base "_law_board" ["source", "words"] 4 (sp2__law_board K) := by
  obtain ⟨f__law_draw, fd__law_draw, G__law_draw, g__law_draw, k__law_draw, b__law_draw⟩ := C__law_draw
  obtain ⟨f__law_pick, fd__law_pick, G__law_pick, g__law_pick, k__law_pick, b__law_pick⟩ := C__law_pick
  obtain ⟨f, fd, F, gf, bf⟩ := D
  refine ⟨f, fd, F.ok sc__law_board (fun vs H Q E h => ?_) (fun cdv A outer s₀ H vs Q E hr h => ?_), gf, F.kp, bf⟩
  · obtain ⟨s, a, u, us, c, rfl, _⟩ := h; rfl
  · obtain ⟨s, a, u, us, c, rfl, hU, hus, hW, hS, q⟩ := h
    refine ⟨_, (pss_cons (ps_set (i := 2) sc__law_board.nd rfl (Or.inl rfl) (pe_op op_add pe_int (pe_call G__law_draw (hr.mono (by decide)) (by rfl) g__law_draw k__law_draw b__law_draw .nil pass0 (pa_cons (pv 0) (pa_cons pe_int pa_nil)))))
      (pss_one (ps_ret (pe_join pe_str (pe_lc (own := [("k", 3)]) (g := gName 3) (tt := tYes) rfl sc__law_board.nd (pi_range1 (by rfl) T.n_range (pa_cons (pv 2) pa_nil)) (blkOk_by (own := [("k", 3)]) (N := N__law_board) (sc := defScope s__law_board) (by decide +kernel)) (fun _ _ _ _ _ => pg_name (i := 3) sc__law_board.nd rfl (Or.inl rfl)) (fun _ _ _ _ _ => pts_nil) (fun _ _ _ _ _ => (pe_call G__law_pick (hr.mono (by decide)) (by rfl) g__law_pick k__law_pick b__law_pick .nil pass0 (pa_cons (pv 0) (pa_cons (pv 1) pa_nil))))))))), ?_⟩
    obtain ⟨un, ul, uA⟩ := hW
    refine ⟨_, rfl, s, a, _, c + 9, rfl, by decide, by decide, hS, fun v H1 v0 v1 x1 S1 => ?_⟩
    refine ⟨_, _, rfl, rfl, ?_⟩
    refine ⟨⟨_, rfl⟩, _, rfl, _, rfl, by omega, by omega, fun D hD => ?_⟩
    refine lc_strs (n := (1 + v).toNat) (d := 1) (c := c) (fun x => Nm (tl x) ∧ (tl x).length ≤ 8) hD (S1.mono (by omega)) (by omega) (fun _ => rfl) (fun i c' Hx R hi hE' hS' k => ?_) (fun xs H3 hx3 hl3 hA3 hE3 hS3 => ?_)
    · refine ⟨_, rfl, _, rfl, .inl ⟨s, a, u, us.map V.str, c', rfl, hE'.seqL hus (x1.seqL hus hU), hus, fun e => un (List.map_eq_nil_iff.mp e), by rw [List.length_map]; omega, hS', fun w H4 wm x4 S4 => ?_⟩⟩
      obtain ⟨z, zm, rfl⟩ := List.mem_map.mp wm
      exact k z H4 (uA z zm) x4 S4
    · have hs := sum_len (n := 8) (xs := xs) fun x m => (hA3 x m).2
      refine ⟨_, D, xs, rfl, rfl, .inl (SqL.of hx3), ?_, ?_⟩
      · show _ + xs.length * 1 ≤ _; omega
      refine q _ H3 ?_ ?_ ?_ (x1.trans hE3) hS3
      · rw [tl_joinS]
        intro ch hc
        rcases joinL_mem hc with e | ⟨l, m, e⟩
        · rw [List.mem_singleton.mp e]; exact .inr (.inr rfl)
        · obtain ⟨x, hx, rfl⟩ := List.mem_map.mp m
          exact (hA3 x hx).1.2.bdc ch e
      · rw [tl_joinS]
        refine joinL_ne (fun e => ?_) (fun l m => ?_)
        · have := List.map_eq_nil_iff.mp e
          rw [this] at hl3; simp at hl3; omega
        · obtain ⟨x, hx, rfl⟩ := List.mem_map.mp m
          exact (hA3 x hx).1.ne
      · rw [tl_joinS]
        refine Nat.le_trans (joinL_len (n := 8) fun l m => ?_) ?_
        · obtain ⟨x, hx, rfl⟩ := List.mem_map.mp m
          exact (hA3 x hx).2
        · rw [List.length_map]; show xs.length * (8 + 1) ≤ 30; omega
end
section
variable {P : Program} {w : World} {K : PySem.W.Frag} {mg : Str → Option Value} {base : Heap}
theorem ok__law_glob (D : Df K mg "_law_glob" s__law_glob ["source", "words"]) (T : Tx mg)  (C__law_board : Cal P w K mg base "_law_board" ["source", "words"] 4 (sp2__law_board K)) (C__law_pick : Cal P w K mg base "_law_pick" ["source", "row"] 3 (sp3__law_pick K)) : Cal P w K mg base "_law_glob" ["source", "words"] 5 (sp2__law_glob K) := by
  obtain ⟨f__law_board, fd__law_board, G__law_board, g__law_board, k__law_board, b__law_board⟩ := C__law_board
  obtain ⟨f__law_pick, fd__law_pick, G__law_pick, g__law_pick, k__law_pick, b__law_pick⟩ := C__law_pick
  obtain ⟨f, fd, F, gf, bf⟩ := D
  refine ⟨f, fd, F.ok sc__law_glob (fun vs H Q E h => ?_) (fun cdv A outer s₀ H vs Q E hr h => ?_), gf, F.kp, bf⟩
  · obtain ⟨s, a, u, us, c, rfl, _⟩ := h; rfl
  · obtain ⟨s, a, u, us, c, rfl, hU, hus, hW, hS, q⟩ := h
    refine ⟨_, (pss_cons (ps_set (i := 2) sc__law_glob.nd rfl (Or.inl rfl) (pe_call G__law_pick (hr.mono (by decide)) (by rfl) g__law_pick k__law_pick b__law_pick .nil pass0 (pa_cons (pv 0) (pa_cons (pv 1) pa_nil))))
      (pss_cons (ps_set (i := 3) sc__law_glob.nd rfl (Or.inl rfl) (pe_lst (pa_cons (pe_call G__law_board (hr.mono (by decide)) (by rfl) g__law_board k__law_board b__law_board .nil pass0 (pa_cons (pv 0) (pa_cons (pv 1) pa_nil))) (pa_cons (pe_op op_add_str (pv 2) pe_str) (pa_cons (pe_op op_add_str pe_str (pv 2)) (pa_cons (pe_op op_add_str (pv 2) pe_str) (pa_cons (pe_op op_add_str (pe_op op_add_str pe_str (pe_slice sl_str (pv 2) (po_some pe_int) po_none)) pe_str) pa_nil)))))))
      (pss_one (ps_ret (pe_call G__law_pick (hr.mono (by decide)) (by rfl) g__law_pick k__law_pick b__law_pick .nil pass0 (pa_cons (pv 0) (pa_cons (pe_op L2.op_cat (pv 3) (pe_lst (pa_cons (pe_op op_add_str (pe_op op_add_str pe_str (pe_slice sl_str (pv 2) (po_some (pe_un un_neg pe_int)) po_none)) pe_str) (pa_cons (pe_op op_add_str (pv 2) pe_str) (pa_cons pe_str pa_nil))))) pa_nil))))))), ?_⟩
    obtain ⟨un, ul, uA⟩ := id hW
    have small : ∀ n : Nat, n ≤ 30000 → n ≤ sizeLine := fun n h => Nat.le_trans h (by decide)
    refine ⟨_, rfl, _, rfl, .inl ⟨s, a, u, us.map V.str, c + 19, rfl, hU, hus, fun e => un (List.map_eq_nil_iff.mp e), by rw [List.length_map]; omega, hS, fun w H1 wm x1 S1 => ?_⟩⟩
    obtain ⟨z, zm, rfl⟩ := List.mem_map.mp wm
    have zl := (uA z zm).2
    have zn := (uA z zm).1.ne
    have zo := (uA z zm).1.2.okc
    have lz := tl_len z
    refine ⟨_, rfl, _, rfl, s, a, u, us, c + 9, rfl, x1.seqL hus hU, hus, hW, S1, fun x H2 xB xn xl x2 S2 => ?_⟩
    have ap : ∀ {p q : List Nat}, (∀ c ∈ p, okc c = true) → (∀ c ∈ q, okc c = true) → ∀ c ∈ p ++ q, okc c = true := fun h1 h2 c m => (List.mem_append.mp m).elim (h1 c) (h2 c)
    have w1 : ∀ c ∈ tl (Str.ofString ".*"), okc c = true := by decide +kernel
    have w2 : ∀ c ∈ tl (Str.ofString "*."), okc c = true := by decide +kernel
    have w3 : ∀ c ∈ tl (Str.ofString "*"), okc c = true := by decide +kernel
    have w4 : ∀ c ∈ tl (Str.ofString "?"), okc c = true := by decide +kernel
    have w5 : ∀ c ∈ tl (Str.ofString "?*"), okc c = true := by decide +kernel
    have w6 : ∀ c ∈ tl (Str.ofString ".?*"), okc c = true := by decide +kernel
    have l1 : okG (tl (z ++ Str.ofString ".*")) ∧ (tl (z ++ Str.ofString ".*")).length ≤ 40 := by
      rw [tl_app]; exact ⟨⟨fun e => zn (List.append_eq_nil_iff.mp e).1, ap zo w1⟩, by rw [List.length_append]; show _ + 2 ≤ _; omega⟩
    have l2 : okG (tl (Str.ofString "*." ++ z)) ∧ (tl (Str.ofString "*." ++ z)).length ≤ 40 := by
      rw [tl_app]; exact ⟨⟨fun e => zn (List.append_eq_nil_iff.mp e).2, ap w2 zo⟩, by rw [List.length_append]; show 2 + _ ≤ _; omega⟩
    have l3 : okG (tl (z ++ Str.ofString "*")) ∧ (tl (z ++ Str.ofString "*")).length ≤ 40 := by
      rw [tl_app]; exact ⟨⟨fun e => zn (List.append_eq_nil_iff.mp e).1, ap zo w3⟩, by rw [List.length_append]; show _ + 1 ≤ _; omega⟩
    have lc1 : (tl (cutS z (some 1) none)).length ≤ 8 := Nat.le_trans (cut_le _ _ _) zl
    have l4 : okG (tl (Str.ofString "?" ++ cutS z (some 1) none ++ Str.ofString "*")) ∧ (tl (Str.ofString "?" ++ cutS z (some 1) none ++ Str.ofString "*")).length ≤ 40 := by
      rw [tl_app, tl_app]
      exact ⟨⟨by show 63 :: _ ≠ []; simp, ap (ap w4 fun c m => zo c (cut_mem _ _ _ c m)) w3⟩, by rw [List.length_append, List.length_append]; show (1 + _) + 1 ≤ _; omega⟩
    have lc2 : (tl (cutS z (some (-1)) none)).length ≤ 8 := Nat.le_trans (cut_le _ _ _) zl
    have l5 : okG (tl (Str.ofString "*" ++ cutS z (some (-1)) none ++ Str.ofString "?*")) ∧ (tl (Str.ofString "*" ++ cutS z (some (-1)) none ++ Str.ofString "?*")).length ≤ 40 := by
      rw [tl_app, tl_app]
      exact ⟨⟨by show 42 :: _ ≠ []; simp, ap (ap w3 fun c m => zo c (cut_mem _ _ _ c m)) w5⟩, by rw [List.length_append, List.length_append]; show (1 + _) + 2 ≤ _; omega⟩
    have l6 : okG (tl (z ++ Str.ofString ".?*")) ∧ (tl (z ++ Str.ofString ".?*")).length ≤ 40 := by
      rw [tl_app]; exact ⟨⟨fun e => zn (List.append_eq_nil_iff.mp e).1, ap zo w6⟩, by rw [List.length_append]; show _ + 3 ≤ _; omega⟩
    refine ⟨_, rfl, _, _, rfl, rfl, small _ (by rw [tl_len, tl_len]; show _ + 2 ≤ _; omega), _, rfl, _, _, rfl, rfl, small _ (by rw [tl_len, tl_len]; show 2 + _ ≤ _; omega), _, rfl, _, _, rfl, rfl, small _ (by rw [tl_len, tl_len]; show _ + 1 ≤ _; omega), ?_⟩
    refine ⟨_, rfl, 1, rfl, z, rfl, small _ (by omega), _, _, rfl, rfl, small _ (by rw [tl_len, tl_len]; show 1 + _ ≤ _; omega), _, _, rfl, rfl, small _ (by rw [tl_len, tl_len, tl_app, List.length_append]; show (1 + _) + 1 ≤ _; omega), by show 5 ≤ sizeLine; decide, fun M hM => ?_⟩
    have n1 := same_new (o := HO.lst ([x, z ++ Str.ofString ".*", Str.ofString "*." ++ z, z ++ Str.ofString "*", Str.ofString "?" ++ cutS z (some 1) none ++ Str.ofString "*"].map V.str)) hM
    refine ⟨_, rfl, _, rfl, _, rfl, 1, rfl, -1, rfl, z, rfl, small _ (by omega), _, _, rfl, rfl, small _ (by rw [tl_len, tl_len]; show 1 + _ ≤ _; omega), _, _, rfl, rfl, small _ (by rw [tl_len, tl_len, tl_app, List.length_append]; show (1 + _) + 2 ≤ _; omega), _, rfl, _, _, rfl, rfl, small _ (by rw [tl_len, tl_len]; show _ + 3 ≤ _; omega), by show 3 ≤ sizeLine; decide, fun N hN => ?_⟩
    have n2 := same_new (o := HO.lst ([Str.ofString "*" ++ cutS z (some (-1)) none ++ Str.ofString "?*", z ++ Str.ofString ".?*", Str.ofString "*"].map V.str)) hN
    refine ⟨M, N, _, _, rfl, rfl, n2 _ _ upd_same, upd_same, by show 5 + 3 ≤ sizeLine; decide, fun R hR => ?_⟩
    have n3 := same_new (o := HO.lst (([x, z ++ Str.ofString ".*", Str.ofString "*." ++ z, z ++ Str.ofString "*", Str.ofString "?" ++ cutS z (some 1) none ++ Str.ofString "*"] ++ [Str.ofString "*" ++ cutS z (some (-1)) none ++ Str.ofString "?*", z ++ Str.ofString ".?*", Str.ofString "*"]).map V.str)) hR
    have S3 := ((S2.ext n1).ext n2).ext n3
    refine .inl ⟨s, a, R, ([x, z ++ Str.ofString ".*", Str.ofString "*." ++ z, z ++ Str.ofString "*", Str.ofString "?" ++ cutS z (some 1) none ++ Str.ofString "*"] ++ [Str.ofString "*" ++ cutS z (some (-1)) none ++ Str.ofString "?*", z ++ Str.ofString ".?*", Str.ofString "*"]).map V.str, c + 8, rfl, SqL.of upd_same, (((S2.ext n1).ext n2).ne hR), by simp, by show 8 ≤ 100000; decide, S3, fun w H4 wm x4 S4 => ?_⟩
    obtain ⟨y, ym, rfl⟩ := List.mem_map.mp wm
    have yy : okG (tl y) ∧ (tl y).length ≤ 40 := by
      simp only [List.mem_append, List.mem_cons, List.not_mem_nil, or_false] at ym
      rcases ym with (e | e | e | e | e) | (e | e | e) <;> subst e
      · exact ⟨⟨xn, xB.okc⟩, by omega⟩
      · exact l1
      · exact l2
      · exact l3
      · exact l4
      · exact l5
      · exact l6
      · exact ⟨⟨by decide, w3⟩, by decide⟩
    exact q y H4 yy.1 yy.2 (x1.trans (x2.trans ((Ext.of (n1.trans (n2.trans n3))).trans x4))) (S4.mono (by omega))
end
section
variable {P : Program} {w : World} {K : PySem.W.Frag} {mg : Str → Option Value} {base : Heap}
theorem ok__law_pattern (D : Df K mg "_law_pattern" s__law_pattern ["source", "words"]) (T : Tx mg)  (C__law_draw : Cal P w K mg base "_law_draw" ["source", "many"] 2 sp__law_draw) (C__law_glob : Cal P w K mg base "_law_glob" ["source", "words"] 5 (sp2__law_glob K)) : Cal P w K mg base "_law_pattern" ["source", "words"] 6 (sp2__law_pattern K) := by
  obtain ⟨f__law_draw, fd__law_draw, G__law_draw, g__law_draw, k__law_draw, b__law_draw⟩ := C__law_draw
  obtain ⟨f__law_glob, fd__law_glob, G__law_glob, g__law_glob, k__law_glob, b__law_glob⟩ := C__law_glob
  obtain ⟨f, fd, F, gf, bf⟩ := D
  refine ⟨f, fd, F.ok sc__law_pattern (fun vs H Q E h => ?_) (fun cdv A outer s₀ H vs Q E hr h => ?_), gf, F.kp, bf⟩
  · obtain ⟨s, a, u, us, c, rfl, _⟩ := h; rfl
  · obtain ⟨s, a, u, us, c, rfl, hU, hus, hW, hS, q⟩ := h
    refine ⟨_, (pss_cons (ps_set (i := 2) sc__law_pattern.nd rfl (Or.inl rfl) (pe_op op_add pe_int (pe_call G__law_draw (hr.mono (by decide)) (by rfl) g__law_draw k__law_draw b__law_draw .nil pass0 (pa_cons (pv 0) (pa_cons pe_int pa_nil)))))
      (pss_cons (ps_setLc (i := 3) (own := [("k", 4)]) (g := gName 4) (tt := tYes) rfl sc__law_pattern.nd rfl rfl (sw_true rfl rfl rfl (by decide +kernel)) (pi_range1 (by rfl) T.n_range (pa_cons (pv 2) pa_nil)) (blkOk_by (own := [("k", 4)]) (N := N__law_pattern) (sc := defScope s__law_pattern) (by decide +kernel)) (fun _ _ _ _ _ => pg_name (i := 4) sc__law_pattern.nd rfl (Or.inl rfl)) (fun _ _ _ _ _ => pts_nil) (fun _ _ _ _ _ => (pe_op op_add_str (pe_ix (ix_listQ (K := K) rfl) (pe_lst (pa_cons pe_str (pa_cons pe_str pa_nil))) (pe_callTy call_int1 (by rfl) T.n_int (by decide +kernel) (pa_cons (pe_and (pe_cmpR op_gt (pv 4) pe_int (nomark _)) (pe_one (pe_cmpR op_eq (pe_call G__law_draw (hr.mono (by decide)) (by rfl) g__law_draw k__law_draw b__law_draw .nil pass0 (pa_cons (pv 0) (pa_cons pe_int pa_nil))) pe_int (nomark _)))) pa_nil)) (fun _ _ => rfl)) (pe_call G__law_glob (hr.mono (by decide)) (by rfl) g__law_glob k__law_glob b__law_glob .nil pass0 (pa_cons (pv 0) (pa_cons (pv 1) pa_nil))))))
      (pss_cons (ps_while PassesOwn.never (PW.pt (pw_and (pt_cmpR op_gt (pe_callB call_len_seq (by rfl) T.n_len PySem.boot_len (pa_cons (pv 3) pa_nil)) pe_int (nomark _)) (pw_and1 (pt_cmpR op_gt (pe_callB call_lenS (by rfl) T.n_len PySem.boot_len (pa_cons (pe_join pe_str (pv 3)) pa_nil)) pe_int (nomark _)))))
      (pss_one (ps_expr (pe_bm0 PySem.F.plainAttrs_list PySem.F.slot_list_pop PySem.F.type_list_pop mt_pop (pv 3)))))
      (pss_one (ps_ret (pe_join pe_str (pv 3))))))), ?_⟩
    have small : ∀ n : Nat, n ≤ 30000 → n ≤ sizeLine := fun n h => Nat.le_trans h (by decide)
    refine ⟨_, rfl, s, a, _, c + 199, rfl, by decide, by decide, hS, fun v H1 v0 v1 x1 S1 => ?_⟩
    refine ⟨_, _, rfl, rfl, ?_⟩
    refine ⟨_, rfl, _, rfl, by omega, by omega, fun D hD => ?_⟩
    refine lc_strs (n := (1 + v).toNat) (d := 22) (c := c) (fun x => goodItem (tl x) = true ∧ (tl x).length ≤ 41) hD (S1.mono (by omega)) (by omega) (fun _ => rfl) (fun i c' Hx R hi hE' hS' k => ?_) (fun xs H3 hx3 hl3 hA3 hE3 hS3 => ?_)
    · have fin : ∀ (z : Str) (H4 : Hp), (z = Str.ofString "" ∨ z = Str.ofString "!") → Ext s Hx H4 → Src H4 s a (c' + 20) → ∀ (g : Str) (H5 : Hp), okG (tl g) → (tl g).length ≤ 40 → Ext s H4 H5 → Src H5 s a c' → z.length + g.length ≤ sizeLine ∧ R (.str (z ++ g)) H5 := fun z H4 zz x4 S4 g H5 go gl x5 S5 => by
        have zl : (tl z).length ≤ 1 := by rcases zz with e | e <;> subst e <;> decide
        refine ⟨small _ (by rw [tl_len, tl_len]; omega), k _ H5 ⟨?_, by rw [tl_app, List.length_append]; omega⟩ (x4.trans x5) S5⟩
        rw [tl_app]
        rcases zz with e | e <;> subst e
        · exact (good_glob go).1
        · exact (good_glob go).2
      refine ⟨by show 2 ≤ sizeLine; decide, fun p hp => ?_⟩
      have S2 := hS'.new (o := HO.lst ([Str.ofString "", Str.ofString "!"].map V.str)) hp
      have ps := hS'.ne hp
      refine ⟨_, rfl, _, _, rfl, rfl, _, rfl, ite2 (fun _ => ?_) (fun _ => ?_)⟩
      · refine ⟨_, rfl, s, a, _, c' + 21, rfl, by decide, by decide, S2, fun w H4 w0 w1 x4 S4 => ?_⟩
        obtain ⟨z, zm, ez⟩ := strs_at [Str.ofString "", Str.ofString "!"] (v := if decide (V.int w = V.int 1) = true then 1 else 0) (by split <;> decide) (by split <;> decide)
        have zl : z = Str.ofString "" ∨ z = Str.ofString "!" := by
          rcases List.mem_cons.mp zm with e | e
          · exact .inl e
          · exact .inr (List.mem_singleton.mp e)
        refine ⟨rfl, .inr ⟨_, rfl, p, _, _, _, rfl, rfl, SqL.of (x4 _ _ ps upd_same), ez, ?_⟩⟩
        have xx := hE'.trans ((Ext.new hp).trans x4)
        refine ⟨_, rfl, _, rfl, s, a, u, us, c', rfl, xx.seqL hus (x1.seqL hus hU), hus, hW, S4.mono (by omega), fun g H5 go gl x5 S5 => ?_⟩
        obtain ⟨f1, f2⟩ := fin z H4 zl ((Ext.new hp).trans x4) (S4.mono (by omega)) g H5 go gl x5 S5
        exact ⟨_, _, rfl, rfl, f1, f2⟩
      · refine .inr ⟨_, rfl, p, _, _, .str (Str.ofString ""), rfl, rfl, SqL.of upd_same, rfl, ?_⟩
        have xx := hE'.trans (Ext.new (o := HO.lst ([Str.ofString "", Str.ofString "!"].map V.str)) (s := s) hp)
        refine ⟨_, rfl, _, rfl, s, a, u, us, c', rfl, xx.seqL hus (x1.seqL hus hU), hus, hW, S2.mono (by omega), fun g H5 go gl x5 S5 => ?_⟩
        obtain ⟨f1, f2⟩ := fin (Str.ofString "") _ (.inl rfl) (Ext.new hp) (S2.mono (by omega)) g H5 go gl x5 S5
        exact ⟨_, _, rfl, rfl, f1, f2⟩
    have Ds := S1.ne hD
    have Da := S1.nea hD
    have jl : ∀ ys : List Str, (∀ x ∈ ys, goodItem (tl x) = true ∧ (tl x).length ≤ 41) → ys.length ≤ 3 → (tl (Txt.join (Str.ofString ",") ys)).length ≤ 130 := fun ys hy hl => by
      rw [tl_joinS]
      refine Nat.le_trans (joinL_len (n := 41) fun l m => ?_) ?_
      · obtain ⟨x, hx, rfl⟩ := List.mem_map.mp m
        exact (hy x hx).2
      · rw [List.length_map]; show ys.length * (41 + 1) ≤ 130; omega
    have jg : ∀ ys : List Str, (∀ x ∈ ys, goodItem (tl x) = true ∧ (tl x).length ≤ 41) → ys ≠ [] → GP (tl (Txt.join (Str.ofString ",") ys)) := fun ys hy hn => by
      rw [tl_joinS]
      refine GP.join (fun e => hn (List.map_eq_nil_iff.mp e)) fun it m => ?_
      obtain ⟨x, hx, rfl⟩ := List.mem_map.mp m
      exact (hy x hx).1
    have js : ∀ ys : List Str, (∀ x ∈ ys, goodItem (tl x) = true ∧ (tl x).length ≤ 41) → ys.length ≤ 3 → (ys.map (·.length)).sum + ys.length * (Str.ofString ",").length ≤ 16777216 := fun ys hy hl => by
      have := sum_len (n := 41) fun x m => (hy x m).2
      show _ + ys.length * 1 ≤ _; omega
    refine ⟨fun n σ H' => ∃ ys : List Str, σ = [some (.ref s), some (.ref u), some (.int (1 + v)), some (.ref D), none] ∧ H' D = some (.lst (ys.map V.str)) ∧ (∀ x ∈ ys, goodItem (tl x) = true ∧ (tl x).length ≤ 41) ∧ ys.length ≤ 3 ∧ ys ≠ [] ∧ Ext s H H' ∧ Src H' s a c ∧ n = ys.length, ⟨_, xs, rfl, hx3, hA3, by omega, (fun e => by rw [e] at hl3; simp at hl3; omega), x1.trans hE3, hS3, rfl⟩, ?_⟩
    rintro n σ H' ⟨ys, rfl, hy, yA, yl, yn, hE, hS', rfl⟩
    have fin : ∃ a_1, [some (V.ref s), some (V.ref u), some (V.int (1 + v)), some (V.ref D), none][3]? = some (some a_1) ∧ ∃ a p zs, V.str (Str.ofString ",") = V.str a ∧ [a_1] = [V.ref p] ∧ (SqL K H' p (zs.map V.str) ∨ SqT K H' p (zs.map V.str)) ∧ (zs.map (·.length)).sum + zs.length * a.length ≤ 16777216 ∧ Q (V.str (Txt.join a zs)) H' := ⟨_, rfl, _, D, ys, rfl, rfl, .inl (SqL.of hy), js ys yA yl, q _ H' (jg ys yA yn) (jl ys yA yl) hE hS'⟩
    refine ⟨_, rfl, D, _, rfl, .inl (SqL.of hy), _, _, rfl, rfl, _, rfl, ite2 (fun c1 => ?_) (fun c1 => iteF ⟨⟨_, rfl⟩, fin⟩)⟩
    have y1 : 1 < ys.length := by have := of_decide_eq_true c1; rw [List.length_map] at this; omega
    have ll : (tl (Txt.join (Str.ofString ",") ys)).length ≤ 130 := jl ys yA yl
    refine ⟨⟨_, rfl⟩, _, rfl, _, D, ys, rfl, rfl, .inl (SqL.of hy), js ys yA yl, _, rfl, small _ (by rw [tl_len]; omega), _, _, rfl, rfl, _, rfl, ite2 (fun c2 => ?_) (fun c2 => ⟨⟨_, rfl⟩, fin⟩)⟩
    refine ⟨fun σ2 H2 => ∃ m', m' < ys.length ∧ ∃ ys : List Str, σ2 = [some (.ref s), some (.ref u), some (.int (1 + v)), some (.ref D), none] ∧ H2 D = some (.lst (ys.map V.str)) ∧ (∀ x ∈ ys, goodItem (tl x) = true ∧ (tl x).length ≤ 41) ∧ ys.length ≤ 3 ∧ ys ≠ [] ∧ Ext s H H2 ∧ Src H2 s a c ∧ m' = ys.length, fun σ2 H2 h => h, ?_⟩
    obtain ⟨r, z, e⟩ : ∃ r z, ys = r ++ [z] := ⟨ys.dropLast, ys.getLast (by intro e; rw [e] at y1; simp at y1), (List.dropLast_concat_getLast _).symm⟩
    subst e
    refine ⟨_, rfl, .inl ⟨rfl, _, SqL.of hy⟩, D, _, .str z, rfl, rfl, hy, ?_, ?_⟩
    · rw [List.map_append, List.length_append, List.length_map]
      show (r.map V.str ++ [V.str z])[r.length + 1 - 1]? = _
      rw [Nat.add_sub_cancel, List.getElem?_append_right (by rw [List.length_map]; exact Nat.le_refl _), List.length_map, Nat.sub_self]; rfl
    · have ed : ((r ++ [z]).map V.str).dropLast = r.map V.str := by rw [List.map_append]; exact List.dropLast_concat
      rw [ed]
      rw [List.length_append] at y1 yl
      refine ⟨_, ?_, r, rfl, upd_same, fun x hx => yA x (List.mem_append_left _ hx), by omega, (fun e => by rw [e] at y1; simp at y1), fun b o hb hh => ?_, hS'.put Ds Da, rfl⟩
      · rw [List.length_append]; show _ < _ + 1; omega
      · have : H1 D = none := hD
        have hh1 := x1 _ _ hb hh
        rw [upd_ne (ne_of_none hh1 hD)]; exact hE _ _ hb hh
end
section
variable {P : Program} {w : World} {K : PySem.W.Frag} {mg : Str → Option Value} {base : Heap}
theorem ok__law_boards (D : Df K mg "_law_boards" s__law_boards ["source", "words", "most"]) (T : Tx mg)  (C__law_board : Cal P w K mg base "_law_board" ["source", "words"] 4 (sp2__law_board K)) (C__law_draw : Cal P w K mg base "_law_draw" ["source", "many"] 2 sp__law_draw) : Cal P w K mg base "_law_boards" ["source", "words", "most"] 5 (sp2__law_boards K) := by
  obtain ⟨f__law_board, fd__law_board, G__law_board, g__law_board, k__law_board, b__law_board⟩ := C__law_board
  obtain ⟨f__law_draw, fd__law_draw, G__law_draw, g__law_draw, k__law_draw, b__law_draw⟩ := C__law_draw
  obtain ⟨f, fd, F, gf, bf⟩ := D
  refine ⟨f, fd, F.ok sc__law_boards (fun vs H Q E h => ?_) (fun cdv A outer s₀ H vs Q E hr h => ?_), gf, F.kp, bf⟩
  · obtain ⟨s, a, u, us, m, c, rfl, _⟩ := h; rfl
  · obtain ⟨s, a, u, us, m, c, rfl, hU, hus, hW, m0, m1, hS, q⟩ := h
    refine ⟨_, (pss_cons (ps_set (i := 3) sc__law_boards.nd rfl (Or.inl rfl) (pe_lst pa_nil))
      (pss_cons (ps_for PassesOwn.never rfl (pi_range1 (by rfl) T.n_range (pa_cons (pe_op op_add pe_int (pe_call G__law_draw (hr.mono (by decide)) (by rfl) g__law_draw k__law_draw b__law_draw .nil pass0 (pa_cons (pv 0) (pa_cons (pv 2) pa_nil)))) pa_nil)) (pg_name (i := 4) sc__law_boards.nd rfl (Or.inl rfl))
      (pss_cons (ps_set (i := 5) sc__law_boards.nd rfl (Or.inl rfl) (pe_call G__law_board (hr.mono (by decide)) (by rfl) g__law_board k__law_board b__law_board .nil pass0 (pa_cons (pv 0) (pa_cons (pv 1) pa_nil))))
        (pss_one (ps_if (pt_cmpR op_notIn_seq (pv 5) (pv 3) (by rfl))
        (pss_one (ps_expr (pe_bm PySem.F.plainAttrs_list PySem.F.slot_list_append PySem.F.type_list_append mt_append (pv 3) (pa_cons (pv 5) pa_nil))))
        pss_nil))))
      (pss_one (ps_ret (pe_callTy call_tuple_of (by rfl) T.n_tuple (by decide +kernel) (pa_cons (pv 3) pa_nil)))))), ?_⟩
    refine ⟨Nat.zero_le _, fun L hL => ?_⟩
    have Ls := hS.ne hL
    have La := hS.nea hL
    refine ⟨_, rfl, _, rfl, s, a, m, c + 190, rfl, m0, by omega, (hS.new hL).mono (by omega), fun v H1 v0 v1 x1 S1 => ?_⟩
    refine ⟨_, _, rfl, rfl, _, rfl, by omega, by omega, ?_⟩
    refine for_range (lo := 0) (n := (1 + v).toNat) (fun i σ H' => ∃ (bs : List Str) (v4 v5 : Option V), σ = [some (.ref s), some (.ref u), some (.int m), some (.ref L), v4, v5] ∧ H' L = some (.lst (bs.map V.str)) ∧ bs.length ≤ i ∧ (∀ x ∈ bs, Bdc (tl x) ∧ (tl x).length ≤ 30) ∧ Ext s H H' ∧ Src H' s a (c + (190 - 15 * i))) ?_ ?_ ?_
    · exact ⟨[], _, _, rfl, x1 _ _ Ls upd_same, Nat.le_refl _, (fun _ h => by cases h), (Ext.new hL).trans x1, S1.mono (by omega)⟩
    · rintro i σ H' hi ⟨bs, v4, v5, rfl, hl, l1, hB, hE, hS'⟩
      refine ⟨_, rfl, _, rfl, s, a, u, us, c + (190 - 15 * i) - 10, rfl, hE.seqL hus hU, hus, hW, hS'.mono (by omega), fun x H2 xB xn xl x2 S2 => ?_⟩
      have hl2 := x2 _ _ Ls hl
      refine ⟨_, rfl, _, rfl, L, _, rfl, .inl (SqL.of hl2), rfl, flat_strs bs, _, rfl, ite2 (fun _ => ?_) (fun _ => ⟨bs, _, _, rfl, hl2, by omega, hB, hE.trans x2, S2.mono (by omega)⟩)⟩
      refine ⟨_, rfl, .inl ⟨rfl, _, SqL.of hl2⟩, _, rfl, L, _, _, rfl, rfl, hl2, ?_, ?_⟩
      · rw [List.length_map]; exact small1000 (by omega)
      · refine ⟨bs ++ [x], _, _, rfl, by rw [upd_same, List.map_append]; rfl, by rw [List.length_append]; show _ + 1 ≤ _; omega, fun y hy => ?_, fun b o hb hh => ?_, (S2.put Ls La).mono (by omega)⟩
        · rcases List.mem_append.mp hy with h | h
          · exact hB y h
          · rw [List.mem_singleton.mp h]; exact ⟨xB, xl⟩
        · rw [upd_ne (ne_of_none hh hL)]; exact x2 _ _ hb (hE _ _ hb hh)
    · rintro σ H' ⟨bs, v4, v5, rfl, hl, l1, hB, hE, hS'⟩
      refine ⟨_, rfl, L, _, rfl, .inl ⟨SqL.of hl, fun t ht => ?_⟩⟩
      exact q t bs _ upd_same (by omega) hB (hE.trans (Ext.new ht)) ((hS'.new ht).mono (by omega))
end

end Z
namespace Z
open PySem L2 SX
theorem si_at {K : PySem.W.Frag} {H : Hp} {s : Si} {v : V} (h : DV K H (siD s) v) : ∃ a us, v = .ref a ∧ SqT K H a us ∧ us[1]? = some (V.str s.n) ∧ us[5]? = some (V.str s.p) := by
  obtain ⟨a, us, rfl, hS, d⟩ := h
  obtain ⟨u0, r0, rfl, d0, d⟩ := d
  obtain ⟨u1, r1, rfl, d1, d⟩ := d
  obtain ⟨u2, r2, rfl, d2, d⟩ := d
  obtain ⟨u3, r3, rfl, d3, d⟩ := d
  obtain ⟨u4, r4, rfl, d4, d⟩ := d
  obtain ⟨u5, r5, rfl, d5, d⟩ := d
  unfold DV at d1 d5
  subst d1
  subst d5
  exact ⟨a, _, rfl, hS, rfl, rfl⟩
theorem fd_at {K : PySem.W.Frag} {H : Hp} {s : Fd} {v : V} (h : DV K H (fdD s) v) : ∃ a us, v = .ref a ∧ SqT K H a us ∧ us[1]? = some (V.str s.g) ∧ us[2]? = some (V.str s.t) ∧ us[3]? = some (V.str s.p) ∧ us[4]? = some (V.int s.h) ∧ us[5]? = some (V.int s.z) := by
  obtain ⟨a, us, rfl, hS, d⟩ := h
  obtain ⟨u0, r0, rfl, d0, d⟩ := d
  obtain ⟨u1, r1, rfl, d1, d⟩ := d
  obtain ⟨u2, r2, rfl, d2, d⟩ := d
  obtain ⟨u3, r3, rfl, d3, d⟩ := d
  obtain ⟨u4, r4, rfl, d4, d⟩ := d
  obtain ⟨u5, r5, rfl, d5, d⟩ := d
  unfold DV at d1 d2 d3 d4 d5
  subst d1; subst d2; subst d3; subst d4; subst d5
  exact ⟨a, _, rfl, hS, rfl, rfl, rfl, rfl, rfl⟩
/-- the book's sites and feeds -/
theorem bk_at {K : PySem.W.Frag} {H : Hp} {b : Bk} {v : V} (h : DV K H (bkD b) v) : ∃ a us c3 w3 c5 w5, v = .ref a ∧ SqT K H a us ∧ us[3]? = some (V.ref c3) ∧ us[5]? = some (V.ref c5) ∧ SqT K H c3 w3 ∧ SqT K H c5 w5 ∧ DVs K H (b.si.map siD) w3 ∧ DVs K H (b.fd.map fdD) w5 := by
  obtain ⟨a, us, rfl, hS, d⟩ := h
  obtain ⟨u0, r0, rfl, d0, d⟩ := d
  obtain ⟨u1, r1, rfl, d1, d⟩ := d
  obtain ⟨u2, r2, rfl, d2, d⟩ := d
  obtain ⟨u3, r3, rfl, d3, d⟩ := d
  obtain ⟨u4, r4, rfl, d4, d⟩ := d
  obtain ⟨u5, r5, rfl, d5, d⟩ := d
  obtain ⟨c3, w3, rfl, h3, e3⟩ := d3
  obtain ⟨c5, w5, rfl, h5, e5⟩ := d5
  exact ⟨a, _, c3, w3, c5, w5, rfl, hS, rfl, rfl, h3, h5, e3, e5⟩
section
variable {P : Program} {w : World} {K : PySem.W.Frag} {mg : Str → Option Value} {base : Heap}
theorem ok_book_patterns (D : Df K mg "book_patterns" s_book_patterns ["book"]) (T : Tx mg)   : Cal P w K mg base "book_patterns" ["book"] 1 (sp_patts K) := by
  obtain ⟨f, fd, F, gf, bf⟩ := D
  refine ⟨f, fd, F.ok sc_book_patterns (fun vs H Q E h => ?_) (fun cdv A outer s₀ H vs Q E hr h => ?_), gf, F.kp, bf⟩
  · obtain ⟨b, v, rfl, _⟩ := h; rfl
  · obtain ⟨b, v, rfl, hb, ok, q⟩ := h
    refine ⟨_, (pss_one (ps_ret (pe_callTy call_tuple_of (by rfl) T.n_tuple (by decide +kernel) (pa_cons (pe_op L2.op_cat (pe_lc (own := [("entry", 1)]) (g := gName 1) (tt := tYes) rfl sc_book_patterns.nd (pi_tup (pe_ix ix_tup (pv 0) pe_int (fun _ _ => rfl))) (blkOk_by (own := [("entry", 1)]) (N := N_book_patterns) (sc := defScope s_book_patterns) (by decide +kernel)) (fun _ _ _ _ _ => pg_name (i := 1) sc_book_patterns.nd rfl (Or.inl rfl)) (fun _ _ _ _ _ => pts_nil) (fun _ _ _ _ _ => (pe_ix (ix_tupQ (K := K) rfl) (pv 1) pe_int (fun _ _ => rfl)))) (pe_lc (own := [("entry", 1)]) (g := gName 1) (tt := tYes) rfl sc_book_patterns.nd (pi_tup (pe_ix ix_tup (pv 0) pe_int (fun _ _ => rfl))) (blkOk_by (own := [("entry", 1)]) (N := N_book_patterns) (sc := defScope s_book_patterns) (by decide +kernel)) (fun _ _ _ _ _ => pg_name (i := 1) sc_book_patterns.nd rfl (Or.inl rfl)) (fun _ _ _ _ _ => pts_nil) (fun _ _ _ _ _ => (pe_ix (ix_tupQ (K := K) rfl) (pv 1) pe_int (fun _ _ => rfl))))) pa_nil)))), ?_⟩
    obtain ⟨ba, bus, c3, w3, c5, w5, rfl, hB, e3, e5, hC3, hC5, hw3, hw5⟩ := bk_at hb
    have sl := ok.si
    have fl := ok.fd
    refine ⟨_, rfl, ba, bus, 3, .ref c3, rfl, rfl, hB, atI_nat (j := 3) e3, c3, rfl, ⟨_, hC3⟩, fun M hM => ?_⟩
    refine lc_tup (K := K) (a := c3) (xs := w3) (fun i H' => H' M = some (.lst (((b.si.take i).map (·.p)).map V.str)) ∧ Same H H') ⟨upd_same, same_new hM⟩ (fun i H' _ h => h.2.tup hC3) ?_ ?_
    · rintro i u H1 hi ⟨h1, m1⟩
      obtain ⟨x, hx, dx⟩ := hw3.map_get hi
      have il := (List.getElem?_eq_some_iff.mp hx).1
      obtain ⟨t, tus, rfl, hT, _, et⟩ := si_at (dx.tk (TK.same m1))
      refine ⟨rfl, _, rfl, t, _, 5, _, rfl, rfl, hT, atI_nat (j := 5) et, _, h1, ?_, ?_, sput m1 hM⟩
      · rw [List.length_map, List.length_map, List.length_take]; exact small_lt _ (by omega)
      · rw [upd_same, List.take_add_one, hx, List.map_append, List.map_append]; rfl
    rintro H1 ⟨h1, m1⟩
    rw [hw3.map_len, List.take_length] at h1
    refine ⟨_, rfl, ba, bus, 5, .ref c5, rfl, rfl, m1.tup hB, atI_nat (j := 5) e5, c5, rfl, ⟨_, m1.tup hC5⟩, fun N hN => ?_⟩
    refine lc_tup (K := K) (a := c5) (xs := w5) (fun i H' => H' N = some (.lst (((b.fd.take i).map (·.p)).map V.str)) ∧ Same H1 H') ⟨upd_same, same_new hN⟩ (fun i H' _ h => h.2.tup (m1.tup hC5)) ?_ ?_
    · rintro i u H2 hi ⟨h2, m2⟩
      obtain ⟨x, hx, dx⟩ := hw5.map_get hi
      have il := (List.getElem?_eq_some_iff.mp hx).1
      obtain ⟨t, tus, rfl, hT, _, _, et, _⟩ := fd_at (dx.tk (TK.same (m1.trans m2)))
      refine ⟨rfl, _, rfl, t, _, 3, _, rfl, rfl, hT, atI_nat (j := 3) et, _, h2, ?_, ?_, sput m2 hN⟩
      · rw [List.length_map, List.length_map, List.length_take]; exact small_lt _ (by omega)
      · rw [upd_same, List.take_add_one, hx, List.map_append, List.map_append]; rfl
    rintro H2 ⟨h2, m2⟩
    rw [hw5.map_len, List.take_length] at h2
    refine ⟨M, N, _, _, rfl, rfl, m2 _ _ h1, h2, ?_, fun R hR => ?_⟩
    · rw [List.length_map, List.length_map, List.length_map, List.length_map]; exact small_le _ (by omega)
    have n3 := same_new (o := HO.lst ((b.si.map (·.p)).map V.str ++ (b.fd.map (·.p)).map V.str)) hR
    refine ⟨R, _, rfl, .inl ⟨SqL.of upd_same, fun T hT => ?_⟩⟩
    have n4 := same_new (o := HO.tup ((b.si.map (·.p)).map V.str ++ (b.fd.map (·.p)).map V.str)) hT
    refine q T _ ((m1.trans m2).trans (n3.trans n4)) ?_
    rw [List.map_append]
    exact SqT.of upd_same
end
section
variable {P : Program} {w : World} {K : PySem.W.Frag} {mg : Str → Option Value} {base : Heap}
theorem ok_book_sight (D : Df K mg "book_sight" s_book_sight ["book", "boards"]) (T : Tx mg)  (C_book_patterns : Cal P w K mg base "book_patterns" ["book"] 1 (sp_patts K)) (C_sight : Cal P w K mg base "sight" ["patterns", "boards"] 7 (sp_sight K)) : Cal P w K mg base "book_sight" ["book", "boards"] 8 (sp_bsight K) := by
  obtain ⟨f_book_patterns, fd_book_patterns, G_book_patterns, g_book_patterns, k_book_patterns, b_book_patterns⟩ := C_book_patterns
  obtain ⟨f_sight, fd_sight, G_sight, g_sight, k_sight, b_sight⟩ := C_sight
  obtain ⟨f, fd, F, gf, bf⟩ := D
  refine ⟨f, fd, F.ok sc_book_sight (fun vs H Q E h => ?_) (fun cdv A outer s₀ H vs Q E hr h => ?_), gf, F.kp, bf⟩
  · obtain ⟨b, v, a, bs, rfl, _⟩ := h; rfl
  · obtain ⟨b, v, a, bs, rfl, hb, nb, ha, bl, bc, q⟩ := h
    refine ⟨_, (pss_one (ps_ret (pe_call G_sight (hr.mono (by decide)) (by rfl) g_sight k_sight b_sight .nil pass0 (pa_cons (pe_call G_book_patterns (hr.mono (by decide)) (by rfl) g_book_patterns k_book_patterns b_book_patterns .nil pass0 (pa_cons (pv 0) pa_nil)) (pa_cons (pv 1) pa_nil))))), ?_⟩
    have sl := nb.ok.si
    have fl := nb.ok.fd
    refine ⟨_, rfl, b, v, rfl, hb, nb.ok, fun t H1 m1 ht => ⟨_, rfl, t, a, _, bs, rfl, ht, m1.tup ha, fun p hp => ?_, ?_, bl, bc, fun r H2 m2 hr => q r H2 (m1.trans m2) ?_⟩⟩
    · rcases List.mem_append.mp hp with e | e
      · obtain ⟨x, hx, rfl⟩ := List.mem_map.mp e
        exact nb.ok.sp x hx
      · obtain ⟨x, hx, rfl⟩ := List.mem_map.mp e
        exact nb.fp x hx
    · rw [List.length_append, List.length_map, List.length_map]; omega
    · have e : seenL b bs = (b.si.map (·.p) ++ b.fd.map (·.p)).map fun p => if (bs.any fun b => letsL (parts (tl p)) (tl b)) = true then (1 : Int) else 0 := by
        unfold seenL
        rw [List.map_append, List.map_map, List.map_map]; rfl
      rw [e]; exact hr
end
section
variable {P : Program} {w : World} {K : PySem.W.Frag} {mg : Str → Option Value} {base : Heap}
theorem ok_carriers (D : Df K mg "carriers" s_carriers ["book", "seen"]) (T : Tx mg)   : Cal P w K mg base "carriers" ["book", "seen"] 1 (sp_carriers K) := by
  obtain ⟨f, fd, F, gf, bf⟩ := D
  refine ⟨f, fd, F.ok sc_carriers (fun vs H Q E h => ?_) (fun cdv A outer s₀ H vs Q E hr h => ?_), gf, F.kp, bf⟩
  · obtain ⟨b, v, t, bs, rfl, _⟩ := h; rfl
  · obtain ⟨b, v, t, bs, rfl, hb, nb, ht, q⟩ := h
    refine ⟨_, (pss_one (ps_ret (pe_lc (own := [("entry", 2), ("bit", 3)]) (g := gTup K 2 (gCons (gName 2) (gCons (gName 3) gNil))) rfl sc_carriers.nd (RZ.pi_zipA (by rfl) T.n_zip (pa_cons (pe_ix ix_tup (pv 0) pe_int (fun _ _ => rfl)) (pa_cons (pv 1) pa_nil))) (blkOk_by (own := [("entry", 2), ("bit", 3)]) (N := N_carriers) (sc := defScope s_carriers) (by decide +kernel)) (fun _ _ _ _ _ => (pg_tup rfl (pgs_cons (pg_name (i := 2) sc_carriers.nd rfl (Or.inl rfl)) (pgs_cons (pg_name (i := 3) sc_carriers.nd rfl (Or.inl rfl)) pgs_nil)))) (fun _ _ _ _ _ => pts_one (pt_cmpR op_eq (pv 3) pe_int (nomark _))) (fun _ _ _ _ _ => (pe_ix (ix_tupQ (K := K) rfl) (pv 2) pe_int (fun _ _ => rfl)))))), ?_⟩
    obtain ⟨ba, bus, c3, w3, c5, w5, rfl, hB, e3, e5, hC3, hC5, hw3, hw5⟩ := bk_at hb
    have sl := nb.ok.si
    have wl := hw3.map_len
    have sn : (seenL b bs).length = b.si.length + b.fd.length := by unfold seenL; rw [List.length_append, List.length_map, List.length_map]
    refine ⟨_, rfl, ba, bus, 3, .ref c3, rfl, rfl, hB, atI_nat (j := 3) e3, _, rfl, c3, t, w3, _, rfl, .inr ⟨hC3, ht, fun M hM => ?_⟩⟩
    refine lc_zipT (K := K) (a := c3) (b := t) (xs := w3) (ys := (seenL b bs).map V.int) (by rw [List.length_map]; omega) (fun i H' => H' M = some (.lst ((((b.si.take i).filter fun s => letsP s.p bs).map (·.n)).map V.str)) ∧ Same H H') ⟨upd_same, same_new hM⟩ (fun i H' _ h => ⟨h.2.tup hC3, h.2.tup ht⟩) ?_ ?_
    · rintro i x y T H1 hx hy ⟨h1, m1⟩ hT
      obtain ⟨s, hs, dx⟩ := hw3.map_get hx
      have il := (List.getElem?_eq_some_iff.mp hs).1
      have ey : y = .int (bit (letsP s.p bs)) := by
        obtain ⟨z, hz, rfl⟩ := map_get hy
        unfold seenL at hz
        rw [List.getElem?_append_left (by rw [List.length_map]; omega), List.getElem?_map, hs] at hz
        rw [← Option.some.inj hz]
      subst ey
      have n := same_new (o := HO.tup [x, V.int (bit (letsP s.p bs))]) hT
      obtain ⟨tt, tus, rfl, hTt, et, _⟩ := si_at (dx.tk (TK.same (m1.trans n)))
      refine ⟨T, _, rfl, SqT.of upd_same, rfl, _, _, rfl, _, _, rfl, rfl, rfl, _, rfl, rfl, _, rfl, ?_⟩
      have fs := filt_step2 (p := fun s : Si => letsP s.p bs) hs
      by_cases c : letsP s.p bs = true
      · have e1 : bit (letsP s.p bs) = 1 := by unfold bit; rw [if_pos c]
        rw [if_pos c] at fs
        rw [e1]
        rw [e1] at n hTt
        refine iG (decide_eq_true rfl) ⟨_, rfl, tt, _, 1, _, rfl, rfl, hTt, atI_nat (j := 1) et, _, n _ _ h1, ?_, ?_, sput (m1.trans n) hM⟩
        · rw [List.length_map, List.length_map]
          have := List.length_filter_le (fun s : Si => letsP s.p bs) (b.si.take i)
          rw [List.length_take] at this
          exact small_lt _ (by omega)
        · rw [upd_same, fs, List.map_append, List.map_append]; rfl
      · have e1 : bit (letsP s.p bs) = 0 := by unfold bit; rw [if_neg c]
        rw [if_neg c, List.append_nil] at fs
        rw [e1]
        rw [e1] at n
        exact iN rfl ⟨by rw [n _ _ h1, fs], m1.trans n⟩
    rintro H1 ⟨h1, m1⟩
    rw [wl, List.take_length] at h1
    exact q M H1 hM m1 h1
end

end Z
namespace Z
open PySem L2 SX
section
variable {P : Program} {w : World} {K : PySem.W.Frag} {mg : Str → Option Value} {base : Heap}
theorem ok_links_of (D : Df K mg "links_of" s_links_of ["book", "seen", "size"]) (T : Tx mg)  (C_carriers : Cal P w K mg base "carriers" ["book", "seen"] 1 (sp_carriers K)) : Cal P w K mg base "links_of" ["book", "seen", "size"] 2 (sp_links K) := by
  obtain ⟨f_carriers, fd_carriers, G_carriers, g_carriers, k_carriers, b_carriers⟩ := C_carriers
  obtain ⟨f, fd, F, gf, bf⟩ := D
  refine ⟨f, fd, F.ok sc_links_of (fun vs H Q E h => ?_) (fun cdv A outer s₀ H vs Q E hr h => ?_), gf, F.kp, bf⟩
  · obtain ⟨b, v, t, bs, z, rfl, _⟩ := h; rfl
  · obtain ⟨b, v, t, bs, z, rfl, hb, nb, ht, q⟩ := h
    refine ⟨_, (pss_cons (ps_set (i := 3) sc_links_of.nd rfl (Or.inl rfl) (pe_call G_carriers (hr.mono (by decide)) (by rfl) g_carriers k_carriers b_carriers .nil pass0 (pa_cons (pv 0) (pa_cons (pv 1) pa_nil))))
      (pss_cons (ps_set (i := 4) sc_links_of.nd rfl (Or.inl rfl) (pe_lst pa_nil))
      (pss_cons (ps_for PassesOwn.never rfl (RZ.pi_zipA (by rfl) T.n_zip (pa_cons (pe_ix ix_tup (pv 0) pe_int (fun _ _ => rfl)) (pa_cons (pe_slice (sl_tupS (K := K) rfl) (pv 1) (po_some (pe_callB call_len_seq (by rfl) T.n_len PySem.boot_len (pa_cons (pe_ix ix_tup (pv 0) pe_int (fun _ _ => rfl)) pa_nil))) po_none) pa_nil))) (pg_tup rfl (pgs_cons (pg_name (i := 5) sc_links_of.nd rfl (Or.inl rfl)) (pgs_cons (pg_name (i := 6) sc_links_of.nd rfl (Or.inl rfl)) pgs_nil)))
      (pss_one (ps_if (PW.pt (pw_and (pt_cmpR op_eq (pv 6) pe_int (nomark _)) (pw_and (pt_cmpR op_le (pv 2) (pe_ix ix_tup (pv 5) pe_int (fun _ _ => rfl)) (nomark _)) (pw_and1 (pt_cmpR op_in_seq (pe_ix ix_tup (pv 5) pe_int (fun _ _ => rfl)) (pv 3) (by rfl))))))
        (pss_one (ps_expr (pe_bm PySem.F.plainAttrs_list PySem.F.slot_list_append PySem.F.type_list_append mt_append (pv 4) (pa_cons (pe_tup (pa_cons (pe_ix ix_tup (pv 5) pe_int (fun _ _ => rfl)) (pa_cons (pe_ix ix_tup (pv 5) pe_int (fun _ _ => rfl)) (pa_cons (pe_ix ix_tup (pv 5) pe_int (fun _ _ => rfl)) pa_nil)))) pa_nil))))
        pss_nil)))
      (pss_one (ps_ret (pe_callTy call_tuple_of (by rfl) T.n_tuple (by decide +kernel) (pa_cons (pv 4) pa_nil))))))), ?_⟩
    obtain ⟨ba, bus, c3, w3, c5, w5, rfl, hB, e3, e5, hC3, hC5, hw3, hw5⟩ := bk_at hb
    have sl := nb.ok.si
    have fl := nb.ok.fd
    have wl := hw5.map_len
    have wl3 := hw3.map_len
    refine ⟨_, rfl, _, rfl, b, .ref ba, t, bs, rfl, hb, nb, ht, fun N H1 hN m1 h1 => ?_⟩
    refine ⟨Nat.zero_le _, fun M hM => ?_⟩
    have n2 := same_new (o := HO.lst []) hM
    have m2 := m1.trans n2
    have nM : H M = none := Same.free m1 hM
    have h1' := n2 _ _ h1
    have NM : N ≠ M := ne_of_none h1 hM
    have hM2 : (upd H1 M (HO.lst [])) M = some (.lst []) := upd_same
    generalize upd H1 M (HO.lst []) = H2 at n2 m2 h1' hM2 ⊢
    refine ⟨_, rfl, ba, bus, 5, .ref c5, rfl, rfl, m2.tup hB, atI_nat (j := 5) e5, _, rfl, _, rfl, ba, bus, 3, .ref c3, rfl, rfl, m2.tup hB, atI_nat (j := 3) e3, c3, w3, rfl, .inr (m2.tup hC3), _, rfl, t, _, rfl, m2.tup ht, fun t2 H3 m3 ht2 => ?_⟩
    have m03 := m2.trans m3
    rw [cutV_from (Int.natCast_nonneg _), Int.toNat_natCast, wl3] at ht2
    have es : ((seenL b bs).map V.int).drop b.si.length = (b.fd.map fun f => bit (letsP f.p bs)).map V.int := by
      unfold seenL
      rw [List.map_append, List.drop_append_of_le_length (by rw [List.length_map, List.length_map]; exact Nat.le_refl _), List.drop_of_length_le (by rw [List.length_map, List.length_map]; exact Nat.le_refl _)]; rfl
    rw [es] at ht2
    refine ⟨c5, t2, w5, _, rfl, .inr ⟨m03.tup hC5, ht2, ?_⟩⟩
    refine for_zipU (K := K) (a := c5) (b := t2) (xs := w5) (ys := (b.fd.map fun f => bit (letsP f.p bs)).map V.int) (by rw [List.length_map, List.length_map]; omega) (fun i σ H' => ∃ (vs' : List V) (v5 v6 : Option V), σ = [some (.ref ba), some (.ref t), some (.int z), some (.ref N), some (.ref M), v5, v6] ∧ H' M = some (.lst vs') ∧ DVs K H' ((((b.fd.take i).filter fun f => letsP f.p bs && decide (z ≤ f.z) && decide (f.t ∈ carL b bs)).map fun f => (f.g, f.t, f.h)).map lkD) vs' ∧ H' N = some (.lst ((carL b bs).map V.str)) ∧ SqT K H' t2 ((b.fd.map fun f => bit (letsP f.p bs)).map V.int) ∧ Same H H') ⟨[], _, _, rfl, m3 _ _ hM2, dln, m3 _ _ h1', ht2, m03⟩ (fun i σ H' h => by obtain ⟨_, _, _, _, _, _, _, h6, m⟩ := h; exact ⟨m.tup hC5, h6⟩) ?_ ?_
    · rintro i x y T σ H4 hx hy ⟨vs', v5, v6, rfl, h4, hd, hN4, ht4, m4⟩ hT
      obtain ⟨f', hf, dx⟩ := hw5.map_get hx
      have il := (List.getElem?_eq_some_iff.mp hf).1
      have ey : y = .int (bit (letsP f'.p bs)) := by
        obtain ⟨z, hz, rfl⟩ := map_get hy
        rw [List.getElem?_map, hf] at hz
        rw [← Option.some.inj hz]
      subst ey
      have n := same_new (o := HO.tup [x, V.int (bit (letsP f'.p bs))]) hT
      have m5 := m4.trans n
      have h5 := n _ _ h4
      have hd5 := hd.tk (TK.same n)
      have hN5 := n _ _ hN4
      have ht5 := n.tup ht4
      obtain ⟨tt, tus, rfl, hTt, e1, e2, _, e4, e6⟩ := fd_at (dx.tk (TK.same m5))
      refine ⟨T, _, rfl, SqT.of upd_same, rfl, _, _, rfl, _, _, rfl, rfl, ?_⟩
      generalize upd H4 T (HO.tup [V.ref tt, V.int (bit (letsP f'.p bs))]) = H5 at n m5 h5 hd5 hN5 ht5 hTt ⊢
      have fs := filt_step2 (p := fun f : Fd => letsP f.p bs && decide (z ≤ f.z) && decide (f.t ∈ carL b bs)) hf
      have no : (letsP f'.p bs && decide (z ≤ f'.z) && decide (f'.t ∈ carL b bs)) = false → ∃ (vs' : List V) (v5 v6 : Option V), [some (V.ref ba), some (.ref t), some (.int z), some (.ref N), some (.ref M), some (.ref tt), some (.int (bit (letsP f'.p bs)))] = [some (.ref ba), some (.ref t), some (.int z), some (.ref N), some (.ref M), v5, v6] ∧ H5 M = some (.lst vs') ∧ DVs K H5 ((((b.fd.take (i + 1)).filter fun f => letsP f.p bs && decide (z ≤ f.z) && decide (f.t ∈ carL b bs)).map fun f => (f.g, f.t, f.h)).map lkD) vs' ∧ H5 N = some (.lst ((carL b bs).map V.str)) ∧ SqT K H5 t2 ((b.fd.map fun f => bit (letsP f.p bs)).map V.int) ∧ Same H H5 := fun e => ⟨vs', _, _, rfl, h5, by rw [fs, e, if_neg Bool.false_ne_true, List.append_nil]; exact hd5, hN5, ht5, m5⟩
      refine ⟨_, rfl, rfl, _, rfl, ?_⟩
      by_cases c : letsP f'.p bs = true
      rotate_left
      · exact iN (by unfold bit; rw [if_neg c]; rfl) (no (by rw [Bool.eq_false_iff.mpr c]; rfl))
      refine iG (by unfold bit; rw [if_pos c]; rfl) ?_
      refine ⟨_, rfl, _, rfl, tt, _, 5, _, rfl, rfl, hTt, atI_nat (j := 5) e6, _, _, rfl, rfl, _, rfl, ite2 (fun c2 => ?_) (fun c2 => no (by rw [c, Bool.eq_false_iff.mpr c2]; rfl))⟩
      refine ⟨_, rfl, tt, _, 2, _, rfl, rfl, hTt, atI_nat (j := 2) e2, _, rfl, N, _, rfl, .inl (SqL.of hN5), rfl, flat_strs _, _, rfl, ?_⟩
      rw [inV_strs]
      refine ite2 (fun c9 => ?_) (fun c9 => no (by
        have c9' : ¬ decide (f'.t ∈ carL b bs) = true := c9
        rw [c, c2, Bool.eq_false_iff.mpr c9']; rfl))
      have yes : (letsP f'.p bs && decide (z ≤ f'.z) && decide (f'.t ∈ carL b bs)) = true := by
        have c9' : decide (f'.t ∈ carL b bs) = true := c9
        rw [c, c2, c9']; rfl
      rw [yes, if_pos rfl] at fs
      refine ⟨_, rfl, .inl ⟨rfl, _, SqL.of h5⟩, _, rfl, tt, _, 1, _, rfl, rfl, hTt, atI_nat (j := 1) e1, _, rfl, tt, _, 2, _, rfl, rfl, hTt, atI_nat (j := 2) e2, _, rfl, tt, _, 4, _, rfl, rfl, hTt, atI_nat (j := 4) e4, by show 3 ≤ sizeLine; decide, fun J hJ => ?_⟩
      have n6 := same_new (o := HO.tup [V.str f'.g, V.str f'.t, V.int f'.h]) hJ
      have h6 := n6 _ _ h5
      have vl := hd5.map_len
      have ll := List.length_filter_le (fun f : Fd => letsP f.p bs && decide (z ≤ f.z) && decide (f.t ∈ carL b bs)) (b.fd.take i)
      rw [List.length_map] at vl
      rw [List.length_take] at ll
      refine ⟨M, _, _, rfl, rfl, h6, small_lt _ (by omega), vs' ++ [.ref J], _, _, rfl, upd_same, ?_, by rw [upd_ne NM]; exact n6 _ _ hN5, tk_put h6 _ _ (n6.tup ht5), sput (m5.trans n6) nM⟩
      rw [fs, List.map_append]
      exact DVs.snoc (hd5.tk ((TK.same n6).trans (tk_put h6))) ⟨J, _, rfl, tk_put h6 _ _ (SqT.of upd_same), dlc (dls _) (dlc (dls _) (dlc (dli _) dln))⟩
    rintro σ H4 ⟨vs', v5, v6, rfl, h4, hd, hN4, ht4, m4⟩
    rw [wl, List.take_length] at hd
    refine ⟨_, rfl, M, vs', rfl, .inl ⟨SqL.of h4, fun J hJ => ?_⟩⟩
    have n6 := same_new (o := HO.tup vs') hJ
    exact q (.ref J) _ (m4.trans n6) ⟨J, _, rfl, SqT.of upd_same, hd.tk (TK.same n6)⟩
end
section
variable {P : Program} {w : World} {K : PySem.W.Frag} {mg : Str → Option Value} {base : Heap}
theorem ok_ways_on (D : Df K mg "ways_on" s_ways_on ["ways", "links", "reached"]) (T : Tx mg)   : Cal P w K mg base "ways_on" ["ways", "links", "reached"] 1 (sp_ways_on K) := by
  obtain ⟨f, fd, F, gf, bf⟩ := D
  refine ⟨f, fd, F.ok sc_ways_on (fun vs H Q E h => ?_) (fun cdv A outer s₀ H vs Q E hr h => ?_), gf, F.kp, bf⟩
  · obtain ⟨l, r, k, us, lev, L, TT, rfl, _⟩ := h; rfl
  · obtain ⟨l, r, k, us, lev, L, TT, rfl, hl, hd, hk, hr0, Ln, levn, q⟩ := h
    refine ⟨_, (pss_cons (ps_set (i := 3) sc_ways_on.nd rfl (Or.inl rfl) pe_dnewK)
      (pss_cons (ps_for PassesOwn.never rfl (pi_list (pv 0)) (pg_name (i := 4) sc_ways_on.nd rfl (Or.inl rfl))
      (pss_one (ps_for PassesOwn.never rfl (pi_tup (pv 1)) (pg_tup rfl (pgs_cons (pg_name (i := 5) sc_ways_on.nd rfl (Or.inl rfl)) (pgs_cons (pg_name (i := 6) sc_ways_on.nd rfl (Or.inl rfl)) (pgs_cons (pg_name (i := 7) sc_ways_on.nd rfl (Or.inl rfl)) pgs_nil))))
        (pss_one (ps_if (PW.pt (pw_and (pt_cmpR op_eq (pv 5) (pe_ix ix_tup (pv 4) (pe_un un_neg pe_int) (fun _ _ => rfl)) (nomark _)) (pw_and (pt_cmpR op_le (pe_callB call_len_seq (by rfl) T.n_len PySem.boot_len (pa_cons (pv 4) pa_nil)) (pv 7) (nomark _)) (pw_and (pt_cmp (pc_dnotin (hu_of hr) (pv 6) (pv 2))) (pw_and1 (pt_cmp (pc_dnotin (hu_of hr) (pv 6) (pv 3))))))))
          (pss_one (ps_dput (hu_of hr) (pv 3) (pv 6) (pe_op (op_cat (K := K) rfl) (pv 4) (pe_tup (pa_cons (pv 6) pa_nil))) rfl))
          pss_nil)))))
      (pss_one (ps_ret (pv 3))))), ?_⟩
    obtain ⟨ka, kus, rfl, hK, dK⟩ := hk
    refine fun p hp => ?_
    have mp := same_new (o := HO.dK []) hp
    have pr : r ≠ p := ne_of_none hr0 hp
    have pl : l ≠ p := ne_of_none hl hp
    refine ⟨_, rfl, l, rfl, ⟨_, SqL.of (mp _ _ hl)⟩, ?_⟩
    have lu := hd.map_len
    refine for_list (K := K) (a := l) (xs := us) (fun i σ H' => ∃ (U : Tr) (v4 v5 v6 v7 : Option V), σ = [some (.ref l), some (.ref ka), some (.ref r), some (.ref p), v4, v5, v6, v7] ∧ H' p = some (.dK (kvT U)) ∧ OkT K H' U ∧ Same H H' ∧ OnI L (rT TT) lev (rT U) fun a t => a ∈ lev.take i ∧ edp L a t) ?_ (fun i σ H' _ h => by obtain ⟨_, _, _, _, _, _, _, _, m, _⟩ := h; exact SqL.of (m _ _ hl)) ?_ ?_
    · exact ⟨[], _, _, _, _, rfl, upd_same, (fun _ h => by cases h), mp, .start fun a t h => by rw [List.take_zero] at h; exact absurd h.1 (by simp)⟩
    · rintro i x σ H1 hi ⟨U, v4, v5, v6, v7, rfl, h1, hU, m1, inv⟩
      obtain ⟨w, hw, dx⟩ := hd.map_get hi
      obtain ⟨wa, wus, rfl, hW, dW⟩ := dx
      have ew := dvs_strs dW
      subst ew
      have wm := levn w (List.mem_of_getElem? hw)
      obtain ⟨w0, z, ez⟩ : ∃ w0 z, w = w0 ++ [z] := ⟨w.dropLast, w.getLast wm.1, (List.dropLast_concat_getLast wm.1).symm⟩
      have wlast : w.getLast? = some z := by rw [ez, List.getLast?_append]; rfl
      have ait : atI (w.map V.str) (-1) = some (.str z) := by rw [ez, List.map_append]; exact atI_last _ _
      refine ⟨_, rfl, ka, rfl, ⟨_, m1.tup hK⟩, ?_⟩
      refine for_tup (K := K) (a := ka) (xs := kus) (fun j σ H' => ∃ (U : Tr) (v5 v6 v7 : Option V), σ = [some (.ref l), some (.ref ka), some (.ref r), some (.ref p), some (.ref wa), v5, v6, v7] ∧ H' p = some (.dK (kvT U)) ∧ OkT K H' U ∧ Same H H' ∧ OnI L (rT TT) lev (rT U) fun a t => (a ∈ lev.take i ∧ edp L a t) ∨ (a = w ∧ ∃ b : Int, (z, t, b) ∈ L.take j ∧ (w.length : Int) ≤ b)) ?_ (fun j σ H' _ h => by obtain ⟨_, _, _, _, _, _, _, m, _⟩ := h; exact m.tup hK) ?_ ?_
      · exact ⟨U, _, _, _, rfl, h1, hU, m1, inv.mono fun a t h => .inl (h.elim id fun h => by obtain ⟨_, b, h, _⟩ := h; rw [List.take_zero] at h; cases h)⟩
      · rintro j y σ H2 hj ⟨U, v5, v6, v7, rfl, h2, hU2, m2, inv2⟩
        obtain ⟨e, he, dy⟩ := dK.map_get hj
        obtain ⟨g, t, bd⟩ := e
        obtain ⟨ea, eus, rfl, hE, dE⟩ := dy.tk (TK.same m2)
        obtain ⟨u0, r0, rfl, d0, dE⟩ := dE
        obtain ⟨u1, r1, rfl, d1, dE⟩ := dE
        obtain ⟨u2, r2, rfl, d2, dE⟩ := dE
        unfold DVs at dE
        unfold DV at d0 d1 d2
        subst d0; subst d1; subst d2; subst dE
        have hW2 := m2.tup hW
        have tk : L.take (j + 1) = L.take j ++ [(g, t, bd)] := by rw [List.take_add_one, he]; rfl
        have skip : ((g = z ∧ (w.length : Int) ≤ bd) → (∃ w', (t, w') ∈ rT TT) ∨ ∃ w', (t, w') ∈ rT U) → OnI L (rT TT) lev (rT U) fun a t => (a ∈ lev.take i ∧ edp L a t) ∨ (a = w ∧ ∃ b : Int, (z, t, b) ∈ L.take (j + 1) ∧ (w.length : Int) ≤ b) := fun h0 => inv2.mono fun a c h => by
          rcases h with h | ⟨ha, b, hb, hw⟩
          · exact .inl (.inl h)
          · rw [tk] at hb
            rcases List.mem_append.mp hb with hb | hb
            · exact .inl (.inr ⟨ha, b, hb, hw⟩)
            · have e3 := List.mem_singleton.mp hb
              obtain ⟨e4, e5⟩ := Prod.mk.inj e3
              obtain ⟨e6, e7⟩ := Prod.mk.inj e5
              rw [e6]
              exact .inr (h0 ⟨e4.symm, by rw [← e7]; exact hw⟩)
        have fin : (OnI L (rT TT) lev (rT U) fun a t => (a ∈ lev.take i ∧ edp L a t) ∨ (a = w ∧ ∃ b : Int, (z, t, b) ∈ L.take (j + 1) ∧ (w.length : Int) ≤ b)) → ∃ (U : Tr) (v5 v6 v7 : Option V), [some (V.ref l), some (.ref ka), some (.ref r), some (.ref p), some (.ref wa), some (.str g), some (.str t), some (.int bd)] = [some (.ref l), some (.ref ka), some (.ref r), some (.ref p), some (.ref wa), v5, v6, v7] ∧ H2 p = some (.dK (kvT U)) ∧ OkT K H2 U ∧ Same H H2 ∧ OnI L (rT TT) lev (rT U) fun a t => (a ∈ lev.take i ∧ edp L a t) ∨ (a = w ∧ ∃ b : Int, (z, t, b) ∈ L.take (j + 1) ∧ (w.length : Int) ≤ b) := fun h => ⟨U, _, _, _, rfl, h2, hU2, m2, h⟩
        refine ⟨ea, _, rfl, hE, rfl, _, _, rfl, _, _, rfl, _, _, rfl, rfl, ?_⟩
        refine ⟨_, rfl, _, rfl, _, rfl, wa, _, _, _, rfl, rfl, hW2, ait, rfl, _, rfl, ite2 (fun c1 => ?_) (fun c1 => fin (skip fun h => absurd (decide_eq_true (by rw [h.1])) c1))⟩
        have eg : g = z := V.str.inj (of_decide_eq_true c1)
        subst eg
        refine ⟨_, rfl, wa, _, rfl, .inr hW2, _, rfl, _, _, rfl, rfl, _, rfl, ?_⟩
        rw [List.length_map]
        refine ite2 (fun c2 => ?_) (fun c2 => fin (skip fun h => absurd (decide_eq_true h.2) c2))
        have c2' : (w.length : Int) ≤ bd := of_decide_eq_true c2
        refine ⟨_, rfl, _, rfl, r, _, rfl, DGet.k (k := Sum.inr t) (m2 _ _ hr0), _, rfl, ?_⟩
        by_cases c3 : ∃ w', (t, w') ∈ rT TT
        · obtain ⟨w', hw'⟩ := c3
          obtain ⟨v', hv'⟩ := kvT_ex hw'
          have : (valV (kvT TT) (Sum.inr t : Key)).isSome = true := kvT_is hv'
          rw [this]
          exact iN rfl (fin (skip fun _ => .inl ⟨w', hw'⟩))
        · have hR : ∀ w', (t, w') ∉ rT TT := fun w' m => c3 ⟨w', m⟩
          rw [kvT_none hR]
          refine iG rfl ⟨_, rfl, _, rfl, p, _, rfl, DGet.k (k := Sum.inr t) h2, _, rfl, ?_⟩
          by_cases c4 : ∃ w', (t, w') ∈ rT U
          · obtain ⟨w', hw'⟩ := c4
            obtain ⟨v', hv'⟩ := kvT_ex hw'
            have : (valV (kvT U) (Sum.inr t : Key)).isSome = true := kvT_is hv'
            rw [this]
            exact iN rfl (fin (skip fun _ => .inr ⟨w', hw'⟩))
          · have hU' : ∀ w', (t, w') ∉ rT U := fun w' m => c4 ⟨w', m⟩
            rw [kvT_none hU']
            have ep : edp L w t := ⟨g, wlast, bd, List.mem_of_getElem? he, by have := wm.2; have := List.length_pos_iff.mpr wm.1; omega⟩
            have il := (List.getElem?_eq_some_iff.mp hw).1
            have inv3 := inv2.add (dn' := fun a t => (a ∈ lev.take i ∧ edp L a t) ∨ (a = w ∧ ∃ b : Int, (g, t, b) ∈ L.take (j + 1) ∧ (w.length : Int) ≤ b)) hw ep hR hU' (fun a ha hb => .inl ⟨ha, hb⟩) fun a c h => by
              rcases h with h | ⟨ha, b, hb, hw⟩
              · exact .inl (.inl h)
              · rw [tk] at hb
                rcases List.mem_append.mp hb with hb | hb
                · exact .inl (.inr ⟨ha, b, hb, hw⟩)
                · exact .inr (Prod.mk.inj (Prod.mk.inj (List.mem_singleton.mp hb)).2).1
            refine iG rfl ⟨_, rfl, _, rfl, by show 1 ≤ sizeLine; decide, fun J hJ => ?_⟩
            have n3 := same_new (o := HO.tup [V.str t]) hJ
            have wl100 := wm.2
            refine ⟨wa, J, _, _, rfl, rfl, n3.tup hW2, SqT.of upd_same, by rw [List.length_map]; exact small_le _ (by show _ + 1 ≤ _; omega), fun R H3 m3 hR3 => ?_⟩
            have m23 := n3.trans m3
            have ul := inv2.len
            refine ⟨_, rfl, _, rfl, p, _, rfl, DPut.k (k := Sum.inr t) (m23 _ _ h2) (by rw [kvT_len, ← List.length_map (f := fun x : Str × List Str × V => (x.1, x.2.1))]; exact small_lt _ (by have : (rT U).length ≤ 100 := Nat.le_trans ul Ln; exact Nat.le_trans this (by decide))), ?_⟩
            have ek : kV (Sum.inr t : Key) = V.str t := rfl
            rw [kvT_put (w := w ++ [t]) hU']
            refine ⟨U ++ [(t, w ++ [t], .ref R)], _, _, _, rfl, upd_same, fun x hx => ?_, sput (m2.trans m23) hp, by rw [rT_app]; exact inv3⟩
            have tkp : TK K H3 (upd H3 p (.dK (kvT (U ++ [(t, w ++ [t], V.ref R)])))) := tk_upd (m23 _ _ h2) (fun _ e => by cases e) (fun _ _ e => by cases e)
            rcases List.mem_append.mp hx with hx | hx
            · exact (hU2 x hx).tk ((TK.same m23).trans tkp)
            · rw [List.mem_singleton.mp hx]
              refine ⟨R, _, rfl, tkp _ _ hR3, ?_⟩
              have e9 : (w ++ [t]).map D.str = (w.map D.str) ++ [D.str t] := by rw [List.map_append]; rfl
              rw [show w.map V.str ++ [V.str t] = (w ++ [t]).map V.str by rw [List.map_append]; rfl]
              exact DVs.strs _
      · rintro σ H2 ⟨U, v5, v6, v7, rfl, h2, hU2, m2, inv2⟩
        rw [dK.map_len, List.take_length] at inv2
        refine ⟨U, _, _, _, _, rfl, h2, hU2, m2, inv2.mono fun a t h => ?_⟩
        obtain ⟨ha, hb⟩ := h
        rw [List.take_add_one, hw] at ha
        rcases List.mem_append.mp ha with ha | ha
        · exact .inl (.inl ⟨ha, hb⟩)
        · have : a = w := List.mem_singleton.mp ha
          subst this
          obtain ⟨x, hx, b, hm, hl'⟩ := hb
          rw [wlast] at hx
          obtain rfl := Option.some.inj hx
          exact .inl (.inr ⟨rfl, b, hm, by have := List.length_pos_iff.mpr wm.1; omega⟩)
    · rintro σ H1 ⟨U, v4, v5, v6, v7, rfl, h1, hU, m1, inv⟩
      rw [lu, List.take_length] at inv
      exact ⟨_, rfl, q p U H1 hp m1 h1 hU inv.fin⟩
end

end Z
namespace Z
open PySem L2 SX
section
variable {P : Program} {w : World} {K : PySem.W.Frag} {mg : Str → Option Value} {base : Heap}
theorem ok_ways_from (D : Df K mg "ways_from" s_ways_from ["origin", "names", "links"]) (T : Tx mg)  (C_ways_on : Cal P w K mg base "ways_on" ["ways", "links", "reached"] 1 (sp_ways_on K)) : Cal P w K mg base "ways_from" ["origin", "names", "links"] 2 (sp_ways_from K) := by
  obtain ⟨f_ways_on, fd_ways_on, G_ways_on, g_ways_on, k_ways_on, b_ways_on⟩ := C_ways_on
  obtain ⟨f, fd, F, gf, bf⟩ := D
  refine ⟨f, fd, F.ok sc_ways_from (fun vs H Q E h => ?_) (fun cdv A outer s₀ H vs Q E hr h => ?_), gf, F.kp, bf⟩
  · obtain ⟨o, n, k, us, L, rfl, _⟩ := h; rfl
  · obtain ⟨o, n, k, us, L, rfl, hn, ul, hk, Ln, Lu, q⟩ := h
    refine ⟨_, (pss_cons (ps_if (pt_cmpR op_notIn_seq (pv 0) (pv 1) (by rfl))
      (pss_one (ps_ret pe_dnewK))
      pss_nil)
      (pss_cons (ps_set (i := 3) sc_ways_from.nd rfl (Or.inl rfl) (pe_disp (pps_cons (pv 0) (pe_tup (pa_cons (pv 0) pa_nil)) pps_nil) (by rfl) (by rfl) (fun z => by cases z) (by decide)))
      (pss_cons (ps_set (i := 4) sc_ways_from.nd rfl (Or.inl rfl) (pe_lst (pa_cons (pe_tup (pa_cons (pv 0) pa_nil)) pa_nil)))
      (pss_cons (ps_while PassesOwn.never (pt_truth (pv 4) (by intro _; rfl))
      (pss_cons (ps_set (i := 5) sc_ways_from.nd rfl (Or.inl rfl) (pe_call G_ways_on (hr.mono (by decide)) (by rfl) g_ways_on k_ways_on b_ways_on .nil pass0 (pa_cons (pv 4) (pa_cons (pv 2) (pa_cons (pv 3) pa_nil)))))
        (pss_cons (ps_expr (pe_bm PySem.F.plainAttrs_dict PySem.F.slot_dict_update PySem.F.type_dict_update mt_updK (pv 3) (pa_cons (pv 5) pa_nil)))
        (pss_one (ps_set (i := 4) sc_ways_from.nd rfl (Or.inl rfl) (pe_callB (cr_sortVals (room65 hr) rfl) (by rfl) T.n_sorted (by decide +kernel) (pa_cons (pe_bm0 PySem.F.plainAttrs_dict PySem.F.slot_dict_values PySem.F.type_dict_values mt_valuesK (pv 5)) pa_nil)))))))
      (pss_one (ps_ret (pv 3))))))), ?_⟩
    have mk : ∀ H1, Same H H1 → DV K H1 (.tup (L.map lkD)) k := fun H1 m => hk.tk (TK.same m)
    refine ⟨_, rfl, _, rfl, n, _, rfl, .inl (SqL.of hn), rfl, flat_strs _, _, rfl, ?_⟩
    rw [inV_strs]
    refine ite2 (fun c => ?_) (fun c => ?_)
    · have no : o ∉ us := fun m => by
        have c' : (!decide (o ∈ us)) = true := c
        rw [decide_eq_true m] at c'; cases c'
      exact fun p hp => q p [] _ hp (same_new hp) upd_same (fun _ h => by cases h) ⟨fun h => absurd h no, fun _ => rfl⟩ List.nodup_nil (fun _ h => by cases h)
    have yes : o ∈ us := by
      have c' : ¬ (!decide (o ∈ us)) = true := c
      by_cases m : o ∈ us
      · exact m
      · rw [decide_eq_false m] at c'; exact absurd rfl c'
    refine fun p hp => ⟨_, rfl, _, rfl, by show 1 ≤ sizeLine; decide, fun J hJ => ?_⟩
    have m1 := same_new (o := HO.dK []) hp
    have m2 := same_new (o := HO.tup [V.str o]) hJ
    have pJ : p ≠ J := ne_of_none upd_same hJ
    have h2 : (upd (upd H p (.dK [])) J (HO.tup [V.str o])) p = some (.dK []) := m2 _ _ upd_same
    refine ⟨h2, [(Sum.inr o, .ref J)], rfl, by show 1 ≤ 15; decide, ?_⟩
    have e0 : (HO.dK (mergeK [] [(Sum.inr o, V.ref J)])) = HO.dK (kvT [(o, [o], V.ref J)]) := rfl
    rw [e0]
    have h3 : (upd (upd (upd H p (.dK [])) J (HO.tup [V.str o])) p (.dK (kvT [(o, [o], V.ref J)]))) p = some (.dK (kvT [(o, [o], V.ref J)])) := upd_same
    have hJ3 : (upd (upd (upd H p (.dK [])) J (HO.tup [V.str o])) p (.dK (kvT [(o, [o], V.ref J)]))) J = some (.tup [V.str o]) := by rw [upd_ne pJ.symm, upd_same]
    have m3 : Same H (upd (upd (upd H p (.dK [])) J (HO.tup [V.str o])) p (.dK (kvT [(o, [o], V.ref J)]))) := sput (m1.trans m2) hp
    generalize upd (upd (upd H p (.dK [])) J (HO.tup [V.str o])) p (.dK (kvT [(o, [o], V.ref J)])) = H3 at h3 hJ3 m3 ⊢
    have dJ : DV K H3 (wD [o]) (.ref J) := ⟨J, _, rfl, SqT.of hJ3, dlc (dls _) dln⟩
    refine ⟨_, rfl, by show 1 ≤ sizeLine; decide, fun J2 hJ2 => ⟨by show 1 ≤ sizeLine; decide, fun lv hlv => ?_⟩⟩
    have m4 := same_new (o := HO.tup [V.str o]) hJ2
    have m5 := same_new (o := HO.lst [V.ref J2]) hlv
    have m45 := m4.trans m5
    have dJ2 : DV K (upd (upd H3 J2 (HO.tup [V.str o])) lv (HO.lst [V.ref J2])) (wD [o]) (.ref J2) := ⟨J2, _, rfl, m5.tup (SqT.of upd_same), dlc (dls _) dln⟩
    refine ⟨fun mm σ H' => ∃ (lv : Addr) (us' : List V) (lev : List (List Str)) (T1 : Tr) (d : Nat) (v5 : Option V), σ = [some (.str o), some (.ref n), some k, some (.ref p), some (.ref lv), v5] ∧ H' p = some (.dK (kvT T1)) ∧ OkT K H' T1 ∧ H' lv = some (.lst us') ∧ DVs K H' (lev.map wD) us' ∧ Same H H' ∧ Lw L o us (rT T1) d ∧ Lv1 (rT T1) d lev ∧ (∃ w, (o, w) ∈ rT T1) ∧ mm = (us.length - T1.length) * 2 + min lev.length 1, ?_, ?_⟩
    · refine ⟨_, lv, _, [[o]], [(o, [o], .ref J)], 0, _, rfl, m45 _ _ h3, fun x m => ?_, upd_same, ⟨_, _, rfl, dJ2, dln⟩, m3.trans m45, .start yes, .start, ⟨[o], by show (o, [o]) ∈ [(o, [o])]; simp⟩, rfl⟩
      rw [List.mem_singleton.mp m]; exact dJ.tk (TK.same m45)
    rintro mm σ H1 ⟨lv, us', lev, T1, d, v5, rfl, h1, hT1, hl1, dl1, m1', inv, lv1, hs, rfl⟩
    have lu := dl1.map_len
    refine ⟨_, rfl, !us'.isEmpty, .inl ⟨_, SqL.of hl1, rfl⟩, ?_⟩
    have tl1 := inv.len
    have tlen : (rT T1).length = T1.length := List.length_map _
    by_cases c0 : lev = []
    · subst c0
      have e : us' = [] := List.length_eq_zero_iff.mp lu
      subst e
      exact iteF ⟨_, rfl, q p T1 H1 hp m1' h1 hT1 ⟨fun _ => inv.fin lv1 hs, fun h => absurd yes h⟩ (by rw [← rT_names]; exact inv.nd) fun x m => inv.us (x.1, x.2.1) (List.mem_map_of_mem (f := fun x : Str × List Str × V => (x.1, x.2.1)) m)⟩
    have lp := List.length_pos_iff.mpr c0
    have e1 : (!us'.isEmpty) = true := by
      cases us' with
      | nil => rw [← lu] at lp; exact absurd lp (by decide)
      | cons => rfl
    rw [e1]
    refine iteT ⟨_, fun σ2 H2 h => h, ?_⟩
    refine ⟨_, rfl, _, rfl, _, rfl, lv, p, k, us', lev, L, T1, rfl, hl1, dl1, mk _ m1', h1, Ln, fun w m => ?_, fun f U H2 hf m2' h2' hU on => ?_⟩
    · obtain ⟨y, hy, hl⟩ := lv1.to w m
      have h0 := inv.ok _ hy
      have hw := h0.1.1.len
      have hb := way_len_us (L := L) (us := us) yes Lu h0.1
      simp only at hw hb
      exact ⟨fun e => by rw [e] at hw; simp at hw, by omega⟩
    have f0 : H f = none := Same.free m1' hf
    have h12 := m2' _ _ h1
    have pf : p ≠ f := ne_of_none h1 hf
    have inv2 := inv.next lv1 on Lu
    have tl2 := inv2.len
    rw [← rT_app] at inv2 tl2
    have tlen2 : (rT (T1 ++ U)).length = T1.length + U.length := by unfold rT; rw [List.length_map, List.length_append]
    have nd2 : ((T1 ++ U).map (·.1)).Nodup := by rw [← rT_names]; exact inv2.nd
    refine ⟨_, rfl, .inr (.inr (.inl ⟨rfl, .inl ⟨_, h12⟩⟩)), _, rfl, p, f, _, _, rfl, rfl, pf, h12, h2', by rw [kvT_len, kvT_len]; exact small_le _ (by omega), ?_⟩
    rw [kvT_merge nd2]
    have tk3 : TK K H2 (upd H2 p (.dK (kvT (T1 ++ U)))) := tk_upd h12 (fun _ e => by cases e) (fun _ _ e => by cases e)
    have m3' : Same H (upd H2 p (.dK (kvT (T1 ++ U)))) := sput (m1'.trans m2') hp
    have h3' : (upd H2 p (.dK (kvT (T1 ++ U)))) p = some (.dK (kvT (T1 ++ U))) := upd_same
    have hf3 : (upd H2 p (.dK (kvT (T1 ++ U)))) f = some (.dK (kvT U)) := by rw [upd_ne pf.symm]; exact h2'
    have hT3 : OkT K (upd H2 p (.dK (kvT (T1 ++ U)))) (T1 ++ U) := fun x m => (List.mem_append.mp m).elim (fun m => ((hT1 x m).tk (TK.same m2')).tk tk3) fun m => (hU x m).tk tk3
    generalize upd H2 p (.dK (kvT (T1 ++ U))) = H3' at tk3 m3' h3' hf3 hT3 ⊢
    have hU3 : OkT K H3' U := fun x m => hT3 x (List.mem_append_right _ m)
    refine ⟨_, rfl, .inr (.inr (.inl ⟨rfl, .inl ⟨_, hf3⟩⟩)), f, kvT U, rfl, rfl, hf3, fun vw hvw => ?_⟩
    have m6 := same_new (o := valuesO vw f) hvw
    refine ⟨vw, f, kvT U, Str × List Str × V, U, fun x => wD x.2.1, rfl, upd_same, m6 _ _ hf3, kvT_dvs (hU3.tk (TK.same m6)), aa_of (fun a b => alike_w _ _), so_way on, (fun b _ => depth_w _), fun ys r hr dys => ?_⟩
    have m7 := same_new (o := HO.lst ys) hr
    have m67 := m6.trans m7
    have pm := sort_perm (fun x : Str × List Str × V => wD x.2.1) U
    have pw : ((U.mergeSort (dle fun x : Str × List Str × V => wD x.2.1)).map (·.2.1)).Pairwise fun a b => wlt b a = false := by
      rw [List.pairwise_map]
      exact (sort_pw (fun x : Str × List Str × V => wD x.2.1) U).imp fun {a b} h => by
        have h' : (!PySem.W.dataLt (py (wD b.2.1)) (py (wD a.2.1))) = true := h
        rw [wlt_data] at h'
        simpa using h'
    refine ⟨_, ?_, r, ys, (U.mergeSort (dle fun x : Str × List Str × V => wD x.2.1)).map (·.2.1), T1 ++ U, d + 1, _, rfl, m67 _ _ h3', hT3.tk (TK.same m67), upd_same, ?_, m3'.trans m67, inv2, ?_, hs.elim fun w h => ⟨w, by rw [rT_app]; exact List.mem_append_left _ h⟩, rfl⟩
    · have l1 : min lev.length 1 = 1 := Nat.min_eq_right lp
      rw [l1, List.length_map, pm.length_eq, List.length_append]
      cases U with
      | nil => show (us.length - (T1.length + 0)) * 2 + min 0 1 < _; rw [Nat.zero_min]; omega
      | cons u r =>
        have l2 : min (u :: r).length 1 = 1 := Nat.min_eq_right (by rw [List.length_cons]; omega)
        rw [l2]
        rw [List.length_cons] at tlen2 ⊢
        omega
    · rw [List.map_map]; exact dys.tk (TK.same m7)
    · rw [rT_app]
      refine inv.lvl on lv1 ?_ pw
      have := pm.map (·.2.1)
      have e : (rT U).map (·.2) = U.map (·.2.1) := by unfold rT; rw [List.map_map]; rfl
      rw [e]; exact this
end
section
variable {P : Program} {w : World} {K : PySem.W.Frag} {mg : Str → Option Value} {base : Heap}
theorem ok_ways_of (D : Df K mg "ways_of" s_ways_of ["book", "kind"]) (T : Tx mg)  (C_book_sight : Cal P w K mg base "book_sight" ["book", "boards"] 8 (sp_bsight K)) (C_carriers : Cal P w K mg base "carriers" ["book", "seen"] 1 (sp_carriers K)) (C_links_of : Cal P w K mg base "links_of" ["book", "seen", "size"] 2 (sp_links K)) (C_ways_from : Cal P w K mg base "ways_from" ["origin", "names", "links"] 2 (sp_ways_from K)) : Cal P w K mg base "ways_of" ["book", "kind"] 9 (sp_ways_of K) := by
  obtain ⟨f_book_sight, fd_book_sight, G_book_sight, g_book_sight, k_book_sight, b_book_sight⟩ := C_book_sight
  obtain ⟨f_carriers, fd_carriers, G_carriers, g_carriers, k_carriers, b_carriers⟩ := C_carriers
  obtain ⟨f_links_of, fd_links_of, G_links_of, g_links_of, k_links_of, b_links_of⟩ := C_links_of
  obtain ⟨f_ways_from, fd_ways_from, G_ways_from, g_ways_from, k_ways_from, b_ways_from⟩ := C_ways_from
  obtain ⟨f, fd, F, gf, bf⟩ := D
  refine ⟨f, fd, F.ok sc_ways_of (fun vs H Q E h => ?_) (fun cdv A outer s₀ H vs Q E hr h => ?_), gf, F.kp, bf⟩
  · obtain ⟨b, v, u, k, rfl, _⟩ := h; rfl
  · obtain ⟨b, v, u, k, rfl, hb, nb, hk, kok, q⟩ := h
    refine ⟨_, (pss_cons (ps_set (i := 2) sc_ways_of.nd rfl (Or.inl rfl) (pe_call G_book_sight (hr.mono (by decide)) (by rfl) g_book_sight k_book_sight b_book_sight .nil pass0 (pa_cons (pv 0) (pa_cons (pe_ix ix_tup (pv 1) pe_int (fun _ _ => rfl)) pa_nil))))
      (pss_one (ps_ret (pe_call G_ways_from (hr.mono (by decide)) (by rfl) g_ways_from k_ways_from b_ways_from .nil pass0 (pa_cons (pe_ix ix_tup (pv 1) pe_int (fun _ _ => rfl)) (pa_cons (pe_call G_carriers (hr.mono (by decide)) (by rfl) g_carriers k_carriers b_carriers .nil pass0 (pa_cons (pv 0) (pa_cons (pv 2) pa_nil))) (pa_cons (pe_call G_links_of (hr.mono (by decide)) (by rfl) g_links_of k_links_of b_links_of .nil pass0 (pa_cons (pv 0) (pa_cons (pv 2) (pa_cons (pe_ix ix_tup (pv 1) pe_int (fun _ _ => rfl)) pa_nil)))) pa_nil))))))), ?_⟩
    obtain ⟨ka, kus, rfl, hK, dK⟩ := hk
    obtain ⟨u0, r0, rfl, d0, dK⟩ := dK
    obtain ⟨u1, r1, rfl, d1, dK⟩ := dK
    obtain ⟨u2, r2, rfl, d2, dK⟩ := dK
    obtain ⟨u3, r3, rfl, d3, dK⟩ := dK
    unfold DV at d1 d3
    subst d1
    subst d3
    obtain ⟨ba, bus, rfl, hBs, dBs⟩ := d2
    have eb := dvs_strs dBs
    subst eb
    have sl := nb.ok.si
    have fl := nb.ok.fd
    refine ⟨_, rfl, _, rfl, ka, _, 2, _, rfl, rfl, hK, atI_nat (j := 2) rfl, b, v, ba, k.bs, rfl, hb, nb, hBs, kok.bl, kok.bc, fun t H1 m1 ht => ?_⟩
    refine ⟨_, rfl, ka, _, 1, _, rfl, rfl, m1.tup hK, atI_nat (j := 1) rfl, _, rfl, _, rfl, b, v, t, k.bs, rfl, hb.tk (TK.same m1), nb, ht, fun n H2 hn m2 h2 => ?_⟩
    have m12 := m1.trans m2
    refine ⟨_, rfl, _, rfl, _, rfl, ka, _, 3, _, rfl, rfl, m12.tup hK, atI_nat (j := 3) rfl, b, v, t, k.bs, k.z, rfl, hb.tk (TK.same m12), nb, m2.tup ht, fun lk H3 m3 dl => ?_⟩
    have cl : (carL b k.bs).length ≤ b.si.length := by unfold carL; rw [List.length_map]; exact List.length_filter_le _ _
    have ll := lk_len b k.bs k.z
    refine ⟨k.o, n, lk, carL b k.bs, lkL b k.bs k.z, rfl, m3 _ _ h2, by omega, dl, by omega, fun l m => lk_car m, fun p TT H4 hp m4 h4 hT wf nd tu => ?_⟩
    exact q p TT H4 (Same.free (m12.trans m3) hp) ((m12.trans m3).trans m4) h4 hT wf nd tu
end

end Z
namespace Z
open PySem L2 SX
theorem ways_small {L : Lk} {o : Str} {us : List Str} {T : Tr} (wf : WF L o us (rT T)) (nd : (T.map (·.1)).Nodup) (tu : ∀ x ∈ T, x.1 ∈ us) (Lu : ∀ l ∈ L, l.2.1 ∈ us) (ul : us.length ≤ 20) : (∀ x ∈ T, x.2.1.length ≤ 100 ∧ 1 ≤ x.2.1.length) ∧ T.length ≤ 20 := by
  refine ⟨fun x hx => ?_, ?_⟩
  · by_cases c : o ∈ us
    · have l := (wf.1 c).2.1 (x.1, x.2.1) (List.mem_map_of_mem (f := fun x : Str × List Str × V => (x.1, x.2.1)) hx)
      have := way_len_us c Lu l
      simp only at this
      exact ⟨by omega, l.1.len⟩
    · have := wf.2 c
      have e : T = [] := List.map_eq_nil_iff.mp this
      rw [e] at hx; cases hx
  · have := nodup_len nd (m := us) fun y m => by
      obtain ⟨x, hx, rfl⟩ := List.mem_map.mp m
      exact tu x hx
    rw [List.length_map] at this
    omega
section
variable {P : Program} {w : World} {K : PySem.W.Frag} {mg : Str → Option Value} {base : Heap}
theorem ok_hops_of (D : Df K mg "hops_of" s_hops_of ["book", "kind"]) (T : Tx mg)  (C_ways_of : Cal P w K mg base "ways_of" ["book", "kind"] 9 (sp_ways_of K)) : Cal P w K mg base "hops_of" ["book", "kind"] 10 (sp_hops_of K) := by
  obtain ⟨f_ways_of, fd_ways_of, G_ways_of, g_ways_of, k_ways_of, b_ways_of⟩ := C_ways_of
  obtain ⟨f, fd, F, gf, bf⟩ := D
  refine ⟨f, fd, F.ok sc_hops_of (fun vs H Q E h => ?_) (fun cdv A outer s₀ H vs Q E hr h => ?_), gf, F.kp, bf⟩
  · obtain ⟨b, v, u, k, rfl, _⟩ := h; rfl
  · obtain ⟨b, v, u, k, rfl, hb, nb, hk, kok, q⟩ := h
    refine ⟨_, (pss_cons (ps_set (i := 2) sc_hops_of.nd rfl (Or.inr rfl) (pe_call G_ways_of (hr.mono (by decide)) (by rfl) g_ways_of k_ways_of b_ways_of .nil pass0 (pa_cons (pv 0) (pa_cons (pv 1) pa_nil))))
      (pss_one (ps_ret (pe_callTy call_tuple_of (by rfl) T.n_tuple (by decide +kernel) (pa_cons (pe_lc (own := [("entry", 3)]) (g := gName 3) (tt := tYes) rfl sc_hops_of.nd (pi_tup (pe_ix ix_tup (pv 0) pe_int (fun _ _ => rfl))) (blkOk_by (own := [("entry", 3)]) (N := N_hops_of) (sc := defScope s_hops_of) (by decide +kernel)) (fun _ _ _ _ _ => pg_name (i := 3) sc_hops_of.nd rfl (Or.inl rfl)) (fun _ _ _ _ _ => pts_nil) (fun _ _ _ _ _ => (pe_ifExp (pt_cmp (pc_din (hu_of hr) (pe_ix (ix_tupQ (K := K) rfl) (pv 3) pe_int (fun _ _ => rfl)) (pv 2))) (pe_op op_sub (pe_callB (call_lenQ (K := K) rfl) (by rfl) T.n_len PySem.boot_len (pa_cons (pe_dget (hu_of hr) (pv 2) (pe_ix (ix_tupQ (K := K) rfl) (pv 3) pe_int (fun _ _ => rfl)) (fun _ _ => rfl)) pa_nil)) pe_int) pe_non))) pa_nil))))), ?_⟩
    have sl := nb.ok.si
    have cl : (carL b k.bs).length ≤ b.si.length := by unfold carL; rw [List.length_map]; exact List.length_filter_le _ _
    refine ⟨_, rfl, _, rfl, b, v, u, k, rfl, hb, nb, hk, kok, fun p TT H1 hp m1 h1 hT wf nd tu => ?_⟩
    obtain ⟨tb, tn⟩ := ways_small wf nd tu (fun l m => lk_car m) (by omega)
    have e : (rT TT).map (fun x => (x.1, x.2.length - 1)) = TT.map fun x => (x.1, x.2.1.length - 1) := by unfold rT; rw [List.map_map]; rfl
    have ho := hops_of_ways (by rw [rT_names]; exact nd) wf
    rw [e] at ho
    obtain ⟨ba, bus, c3, w3, c5, w5, rfl, hB, e3, e5, hC3, hC5, hw3, hw5⟩ := bk_at (hb.tk (TK.same m1))
    refine ⟨_, rfl, ba, bus, 3, .ref c3, rfl, rfl, hB, atI_nat (j := 3) e3, c3, rfl, ⟨_, hC3⟩, fun M hM => ?_⟩
    generalize hF : TT.map (fun x => (x.1, x.2.1.length - 1)) = F at ho
    refine lc_tup (K := K) (a := c3) (xs := w3) (fun i H' => ∃ vs' : List V, H' M = some (.lst vs') ∧ DVs K H' ((b.si.take i).map fun s => hD (lookF F s.n)) vs' ∧ Same H1 H') ⟨[], upd_same, dln, same_new hM⟩ (fun i H' _ h => by obtain ⟨_, _, _, m⟩ := h; exact m.tup hC3) ?_ ?_
    · rintro i x H2 hi ⟨vs', h2, hd, m2⟩
      obtain ⟨s, hs, dx⟩ := hw3.map_get hi
      have il := (List.getElem?_eq_some_iff.mp hs).1
      obtain ⟨t, tus, rfl, hTt, et, _⟩ := si_at (dx.tk (TK.same m2))
      have vl := hd.map_len
      rw [List.length_take] at vl
      have put : ∀ y : V, DV K H2 (hD (lookF F s.n)) y → ∃ acc, H2 M = some (.lst acc) ∧ acc.length < sizeLine ∧ ∃ vs', (upd H2 M (.lst (acc ++ [y]))) M = some (.lst vs') ∧ DVs K (upd H2 M (.lst (acc ++ [y]))) ((b.si.take (i + 1)).map fun s => hD (lookF F s.n)) vs' ∧ Same H1 (upd H2 M (.lst (acc ++ [y]))) := fun y dy => by
        refine ⟨vs', h2, small_lt _ (by omega), vs' ++ [y], upd_same, ?_, sput m2 hM⟩
        rw [List.take_add_one, hs]
        exact DVs.snoc (hd.tk (tk_put h2)) (dy.tk (tk_put h2))
      refine ⟨rfl, _, rfl, t, _, 1, _, rfl, rfl, hTt, atI_nat (j := 1) et, _, rfl, p, _, rfl, DGet.k (k := Sum.inr s.n) (m2 _ _ h1), _, rfl, ?_⟩
      by_cases c : ∃ w, (s.n, w) ∈ rT TT
      · obtain ⟨w, hw⟩ := c
        obtain ⟨v', hv'⟩ := kvT_ex hw
        have dv := (hT _ hv').tk (TK.same m2)
        obtain ⟨wa, wus, ev, hW, dW⟩ := dv
        simp only at ev
        subst ev
        have ew := dvs_strs dW
        subst ew
        have gk := DGet.k (k := (Sum.inr s.n : Key)) (m2 _ _ h1)
        rw [kvT_some nd hv'] at gk
        have wb := tb _ hv'
        simp only at wb
        rw [kvT_some nd hv']
        refine iG rfl ⟨_, rfl, _, rfl, t, _, 1, _, rfl, rfl, hTt, atI_nat (j := 1) et, p, _, rfl, gk, wa, _, rfl, .inr hW, _, _, rfl, rfl, ?_⟩
        have lm : (w.map V.str).length = w.length := List.length_map _
        have ez : (((w.map V.str).length : Nat) : Int) - 1 = ((w.length - 1 : Nat) : Int) := by omega
        refine put (.int (((w.map V.str).length : Nat) - 1)) ?_
        rw [ez]
        have lf : lookF F s.n = some (w.length - 1) := lookF_some ho.1 (by rw [← hF]; exact List.mem_map_of_mem (f := fun x : Str × List Str × V => (x.1, x.2.1.length - 1)) hv')
        rw [lf]; exact dli _
      · have no : ∀ w, (s.n, w) ∉ rT TT := fun w m => c ⟨w, m⟩
        rw [kvT_none no]
        refine iN rfl (put .non ?_)
        have lf : lookF F s.n = none := lookF_none fun d m => by
          rw [← hF] at m
          obtain ⟨x, hx, ex⟩ := List.mem_map.mp m
          exact no x.2.1 (by rw [← (Prod.mk.inj ex).1]; exact List.mem_map_of_mem (f := fun x : Str × List Str × V => (x.1, x.2.1)) hx)
        rw [lf]; unfold hD DV; rfl
    rintro H2 ⟨vs', h2, hd, m2⟩
    rw [hw3.map_len, List.take_length] at hd
    refine ⟨M, vs', rfl, .inl ⟨SqL.of h2, fun G hG => ?_⟩⟩
    have n9 := same_new (o := HO.tup vs') hG
    exact q (.ref G) F _ ((m1.trans m2).trans n9) ho ⟨G, vs', rfl, SqT.of upd_same, hd.tk (TK.same n9)⟩
end

end Z
namespace Z
open PySem L2 SX
section
variable {P : Program} {w : World} {K : PySem.W.Frag} {mg : Str → Option Value} {base : Heap}
theorem ok__law_shuffled (D : Df K mg "_law_shuffled" s__law_shuffled ["source", "row"]) (T : Tx mg)  (C__law_draw : Cal P w K mg base "_law_draw" ["source", "many"] 2 sp__law_draw) : Cal P w K mg base "_law_shuffled" ["source", "row"] 3 (sp20_shuffled K) := by
  obtain ⟨f__law_draw, fd__law_draw, G__law_draw, g__law_draw, k__law_draw, b__law_draw⟩ := C__law_draw
  obtain ⟨f, fd, F, gf, bf⟩ := D
  refine ⟨f, fd, F.ok sc__law_shuffled (fun vs H Q E h => ?_) (fun cdv A outer s₀ H vs Q E hr h => ?_), gf, F.kp, bf⟩
  · obtain ⟨s, a, r, xs, c, rfl, _⟩ := h; rfl
  · obtain ⟨s, a, r, xs, c, rfl, hR, rs, xl, hS, q⟩ := h
    refine ⟨_, (pss_cons (ps_set (i := 2) sc__law_shuffled.nd rfl (Or.inl rfl) (pe_callTy call_list_of (by rfl) T.n_list (by decide +kernel) (pa_cons (pv 1) pa_nil)))
      (pss_cons (ps_set (i := 3) sc__law_shuffled.nd rfl (Or.inl rfl) (pe_lst pa_nil))
      (pss_cons (ps_for PassesOwn.never rfl (pi_range1 (by rfl) T.n_range (pa_cons (pe_callB call_len_seq (by rfl) T.n_len PySem.boot_len (pa_cons (pv 1) pa_nil)) pa_nil)) (pg_name (i := 4) sc__law_shuffled.nd rfl (Or.inl rfl))
      (pss_one (ps_expr (pe_bm PySem.F.plainAttrs_list PySem.F.slot_list_append PySem.F.type_list_append mt_append (pv 3) (pa_cons (pe_bm PySem.F.plainAttrs_list PySem.F.slot_list_pop PySem.F.type_list_pop mt_popAt (pv 2) (pa_cons (pe_call G__law_draw (hr.mono (by decide)) (by rfl) g__law_draw k__law_draw b__law_draw .nil pass0 (pa_cons (pv 0) (pa_cons (pe_callB call_len_seq (by rfl) T.n_len PySem.boot_len (pa_cons (pv 2) pa_nil)) pa_nil))) pa_nil)) pa_nil)))))
      (pss_one (ps_ret (pv 3)))))), ?_⟩
    refine ⟨_, rfl, r, xs, rfl, .inl hR, fun L hL => ?_⟩
    have n1 := same_new (o := HO.lst xs) hL
    refine ⟨Nat.zero_le _, fun D hD => ?_⟩
    have n2 := same_new (o := HO.lst []) hD
    have S1 := (hS.ext n1).ext n2
    have Ls := hS.ne hL
    have La := hS.nea hL
    have HD : H D = none := Same.free n1 hD
    have Ds := hS.ne HD
    have Da := hS.nea HD
    have LD : L ≠ D := ne_of_none upd_same hD
    refine ⟨_, rfl, r, xs, rfl, .inl ((n1.trans n2).seq hR), _, rfl, by omega, by omega, ?_⟩
    refine for_range (lo := 0) (n := ((xs.length : Int)).toNat) (fun i σ H' => ∃ (ls ys : List V) (v4 : Option V), σ = [some (.ref s), some (.ref r), some (.ref L), some (.ref D), v4] ∧ H' L = some (.lst ls) ∧ H' D = some (.lst ys) ∧ ls.length + i = xs.length ∧ ys.length = i ∧ (ls ++ ys).Perm xs ∧ Ext s H H' ∧ Src H' s a (c + (xs.length - i))) ?_ ?_ ?_
    · exact ⟨xs, [], _, rfl, n2 _ _ upd_same, upd_same, by simp, rfl, (by rw [List.append_nil]), Ext.of (n1.trans n2), S1.mono (by omega)⟩
    · rintro i σ H' hi ⟨ls, ys, v4, rfl, hl, hy, l1, l2, pm, hE, hS'⟩
      refine ⟨_, rfl, .inl ⟨rfl, _, SqL.of hy⟩, _, rfl, .inl ⟨rfl, _, SqL.of hl⟩, _, rfl, _, rfl, L, _, rfl, .inl (SqL.of hl), s, a, (ls.length : Int), c + (xs.length - (i + 1)), rfl, by omega, by omega, hS'.mono (by omega), fun v H2 v0 v1 x2 S2 => ?_⟩
      have hv : v.toNat < ls.length := by omega
      have hl2 := x2 _ _ Ls hl
      have hy2 := x2 _ _ Ds hy
      refine ⟨L, ls, v, v.toNat, ls[v.toNat], rfl, rfl, hl2, by omega, by omega, ?_, List.getElem?_eq_getElem hv, ?_⟩
      · exact seqIndex_of v0 v1
      refine ⟨D, ys, _, rfl, rfl, by rw [upd_ne LD.symm]; exact hy2, small1000 (by omega), ?_⟩
      refine ⟨ls.eraseIdx v.toNat, ys ++ [ls[v.toNat]], _, rfl, by rw [upd_ne LD, upd_same], upd_same, ?_, by rw [List.length_append]; simp [l2], ?_, fun b o hb hh => ?_, (S2.put Ls La).put Ds Da⟩
      · rw [List.length_eraseIdx, if_pos hv]; omega
      · have e1 : (ls.eraseIdx v.toNat ++ (ys ++ [ls[v.toNat]])).Perm (ls[v.toNat] :: (ls.eraseIdx v.toNat ++ ys)) := by
          rw [← List.append_assoc]
          exact List.perm_append_singleton _ _
        have e2 : (ls[v.toNat] :: (ls.eraseIdx v.toNat ++ ys)).Perm (ls ++ ys) := by
          rw [← List.cons_append]
          exact (erase_perm _ _ hv).append_right ys
        exact (e1.trans e2).trans pm
      · rw [upd_ne (ne_of_none hh HD), upd_ne (ne_of_none hh hL)]; exact x2 _ _ hb (hE _ _ hb hh)
    · rintro σ H' ⟨ls, ys, v4, rfl, hl, hy, l1, l2, pm, hE, hS'⟩
      have e0 : ls = [] := List.length_eq_zero_iff.mp (by omega)
      subst e0
      exact ⟨_, rfl, q D ys H' HD hy pm hE (hS'.mono (by omega))⟩
end
section
variable {P : Program} {w : World} {K : PySem.W.Frag} {mg : Str → Option Value} {base : Heap}
theorem ok__law_lines (D : Df K mg "_law_lines" s__law_lines ["source", "names"]) (T : Tx mg)  (C__law_draw : Cal P w K mg base "_law_draw" ["source", "many"] 2 sp__law_draw) (C__law_pick : Cal P w K mg base "_law_pick" ["source", "row"] 3 (sp3__law_pick K)) : Cal P w K mg base "_law_lines" ["source", "names"] 4 (sp20_lines K) := by
  obtain ⟨f__law_draw, fd__law_draw, G__law_draw, g__law_draw, k__law_draw, b__law_draw⟩ := C__law_draw
  obtain ⟨f__law_pick, fd__law_pick, G__law_pick, g__law_pick, k__law_pick, b__law_pick⟩ := C__law_pick
  obtain ⟨f, fd, F, gf, bf⟩ := D
  refine ⟨f, fd, F.ok sc__law_lines (fun vs H Q E h => ?_) (fun cdv A outer s₀ H vs Q E hr h => ?_), gf, F.kp, bf⟩
  · obtain ⟨s, a, u, us, c, rfl, _⟩ := h; rfl
  · obtain ⟨s, a, u, us, c, rfl, hU, hus, u1, u9, uN, hS, q⟩ := h
    refine ⟨_, (pss_cons (ps_set (i := 2) sc__law_lines.nd rfl (Or.inl rfl) (pe_lst pa_nil))
      (pss_cons (ps_for PassesOwn.never rfl (pi_range2 (by rfl) T.n_range (pa_cons pe_int (pa_cons (pe_callB call_len_seq (by rfl) T.n_len PySem.boot_len (pa_cons (pv 1) pa_nil)) pa_nil))) (pg_name (i := 3) sc__law_lines.nd rfl (Or.inl rfl))
      (pss_cons (ps_set (i := 4) sc__law_lines.nd rfl (Or.inl rfl) (pe_ix ix_list (pv 1) (pe_call G__law_draw (hr.mono (by decide)) (by rfl) g__law_draw k__law_draw b__law_draw .nil pass0 (pa_cons (pv 0) (pa_cons (pv 3) pa_nil))) (fun _ _ => rfl)))
        (pss_one (ps_expr (pe_bm PySem.F.plainAttrs_list PySem.F.slot_list_append PySem.F.type_list_append mt_append (pv 2) (pa_cons (pe_tup (pa_cons (pe_callB (call_minX rfl) (by rfl) T.n_min (by decide +kernel) (pa_cons (pv 4) (pa_cons (pe_ix ix_list (pv 1) (pv 3) (fun _ _ => rfl)) pa_nil))) (pa_cons (pe_callB (call_maxX rfl) (by rfl) T.n_max (by decide +kernel) (pa_cons (pv 4) (pa_cons (pe_ix ix_list (pv 1) (pv 3) (fun _ _ => rfl)) pa_nil))) pa_nil))) pa_nil))))))
      (pss_cons (ps_for PassesOwn.never rfl (pi_range1 (by rfl) T.n_range (pa_cons (pe_call G__law_draw (hr.mono (by decide)) (by rfl) g__law_draw k__law_draw b__law_draw .nil pass0 (pa_cons (pv 0) (pa_cons (pe_callB call_len_seq (by rfl) T.n_len PySem.boot_len (pa_cons (pv 1) pa_nil)) pa_nil))) pa_nil)) (pg_name (i := 3) sc__law_lines.nd rfl (Or.inl rfl))
      (pss_cons (ps_set (i := 4) sc__law_lines.nd rfl (Or.inl rfl) (pe_call G__law_pick (hr.mono (by decide)) (by rfl) g__law_pick k__law_pick b__law_pick .nil pass0 (pa_cons (pv 0) (pa_cons (pv 1) pa_nil))))
        (pss_cons (ps_set (i := 5) sc__law_lines.nd rfl (Or.inl rfl) (pe_call G__law_pick (hr.mono (by decide)) (by rfl) g__law_pick k__law_pick b__law_pick .nil pass0 (pa_cons (pv 0) (pa_cons (pv 1) pa_nil))))
        (pss_one (ps_if (PW.pt (pw_and (pt_cmpR op_ne (pv 4) (pv 5) (nomark _)) (pw_and1 (pt_cmpR (op_notInDDQ (K := K) rfl (room65 hr)) (pe_tup (pa_cons (pe_callB (call_minX rfl) (by rfl) T.n_min (by decide +kernel) (pa_cons (pv 4) (pa_cons (pv 5) pa_nil))) (pa_cons (pe_callB (call_maxX rfl) (by rfl) T.n_max (by decide +kernel) (pa_cons (pv 4) (pa_cons (pv 5) pa_nil))) pa_nil))) (pv 2) (by rfl)))))
        (pss_one (ps_expr (pe_bm PySem.F.plainAttrs_list PySem.F.slot_list_append PySem.F.type_list_append mt_append (pv 2) (pa_cons (pe_tup (pa_cons (pe_callB (call_minX rfl) (by rfl) T.n_min (by decide +kernel) (pa_cons (pv 4) (pa_cons (pv 5) pa_nil))) (pa_cons (pe_callB (call_maxX rfl) (by rfl) T.n_max (by decide +kernel) (pa_cons (pv 4) (pa_cons (pv 5) pa_nil))) pa_nil))) pa_nil))))
        pss_nil)))))
      (pss_one (ps_ret (pe_callB (cr_sortDDQ (K := K) rfl (room65 hr)) (by rfl) T.n_sorted (by decide +kernel) (pa_cons (pv 2) pa_nil))))))), ?_⟩
    refine ⟨Nat.zero_le _, fun L hL => ?_⟩
    have Ls := hS.ne hL
    have La := hS.nea hL
    have uA : ∀ x ∈ us, Low (tl x) := fun x hx => (uN.2 x hx).1.2
    refine ⟨_, rfl, u, _, rfl, .inl ((same_new hL).seq hU), 1, _, rfl, ⟨by decide, by decide, by rw [List.length_map]; omega, by rw [List.length_map]; omega⟩, ?_⟩
    -- a pair is put at the end
    have put : ∀ (H1 : Hp) (vs' : List V) (ls : List (Str × Str)) (x y : Str) (c' : Nat) (R : Hp → Prop), H1 L = some (.lst vs') → DVs K H1 (ls.map lnD) vs' → ls.length ≤ 100 → Ext s H H1 → Src H1 s a c' →
        (∀ H2 vs2, H2 L = some (.lst vs2) → DVs K H2 ((ls ++ [(x, y)]).map lnD) vs2 → Ext s H H2 → Src H2 s a c' → R H2) → ∀ t, H1 t = none → ∃ (l : Addr) (xs : List V) (z : V), V.ref L = .ref l ∧ [V.ref t] = [z] ∧ (upd H1 t (HO.tup [V.str x, V.str y])) l = some (.lst xs) ∧ xs.length < sizeLine ∧ R (upd (upd H1 t (HO.tup [V.str x, V.str y])) l (.lst (xs ++ [z]))) := fun H1 vs' ls x y c' R h1 hd hl hE hS' k t ht => by
      have n := same_new (o := HO.tup [V.str x, V.str y]) ht
      have h2 := n _ _ h1
      refine ⟨L, vs', .ref t, rfl, rfl, h2, by rw [hd.map_len]; exact small_lt _ (by omega), k _ _ upd_same ?_ (ext_keep hL (hE.trans (Ext.of n))) ((hS'.ext n).put Ls La)⟩
      exact DVs.snoc (hd.tk ((TK.same n).trans (tk_put h2))) ⟨t, _, rfl, tk_put h2 _ _ (SqT.of upd_same), dlc (dls _) (dlc (dls _) dln)⟩
    refine for_range (lo := 1) (n := (((us.map V.str).length : Int) - 1).toNat) (fun i σ H' => ∃ (vs' : List V) (ls : List (Str × Str)) (v3 v4 : Option V), σ = [some (.ref s), some (.ref u), some (.ref L), v3, v4, none] ∧ H' L = some (.lst vs') ∧ DVs K H' (ls.map lnD) vs' ∧ LnOk (us.take (i + 1)) ls ∧ ls.length ≤ i ∧ Ext s H H' ∧ Src H' s a (c + (100 - i))) ?_ ?_ ?_
    · exact ⟨[], [], _, _, rfl, upd_same, dln, ⟨(fun _ h => by cases h), List.nodup_nil⟩, Nat.le_refl _, Ext.new hL, hS.new hL⟩
    · rintro i σ H' hi ⟨vs', ls, v3, v4, rfl, h1, hd, ok, hl, hE, hS'⟩
      rw [List.length_map] at hi
      refine ⟨_, rfl, _, rfl, _, rfl, s, a, _, c + (100 - (i + 1)), rfl, by omega, by omega, hS'.mono (by omega), fun v H2 v0 v1 x2 S2 => ?_⟩
      obtain ⟨v, rfl⟩ := Int.eq_ofNat_of_zero_le v0
      have vl : v < us.length := by omega
      have ex : atI (us.map V.str) ((v : Nat) : Int) = some (.str us[v]) := atI_nat (by rw [List.getElem?_map, List.getElem?_eq_getElem vl]; rfl)
      have kl : i + 1 < us.length := by omega
      have ey : atI (us.map V.str) (1 + (i : Int)) = some (.str us[i + 1]) := at_of (j := i + 1) (by omega) (by rw [List.getElem?_map, List.getElem?_eq_getElem kl]; rfl)
      have xx := hE.trans x2
      have mx : us[v] ∈ us.take (i + 1) := List.mem_of_getElem? (i := v) (by rw [List.getElem?_take_of_lt (by omega)]; exact List.getElem?_eq_getElem vl)
      have my : us[i + 1] ∉ us.take (i + 1) := fun m => by
        obtain ⟨j, hj⟩ := List.getElem?_of_mem m
        have jl : j < i + 1 := by have := (List.getElem?_eq_some_iff.mp hj).1; rw [List.length_take] at this; omega
        rw [List.getElem?_take_of_lt jl] at hj
        have := (List.getElem?_inj (by omega) uN.1).mp (hj.trans (List.getElem?_eq_getElem kl).symm)
        omega
      have ne : us[v] ≠ us[i + 1] := fun e => my (e ▸ mx)
      have tk : us.take (i + 1 + 1) = us.take (i + 1) ++ [us[i + 1]] := by rw [List.take_add_one, List.getElem?_eq_getElem kl]; rfl
      have h2 := x2 _ _ Ls h1
      have hd2 := hd.tk (TK.ext x2 hS')
      generalize us[v] = x at *
      generalize us[i + 1] = y at *
      refine ⟨u, _, _, _, rfl, rfl, xx.seqL hus hU, ex, ?_⟩
      refine ⟨_, rfl, .inl ⟨rfl, _, SqL.of h2⟩, _, rfl, _, rfl, _, rfl, u, _, _, _, rfl, rfl, xx.seqL hus hU, ey, x, y, rfl, _, rfl, _, rfl, _, rfl, u, _, _, _, rfl, rfl, xx.seqL hus hU, ey, x, y, rfl, by show 2 ≤ sizeLine; decide, ?_⟩
      refine put H2 vs' ls (minP x y) (maxP x y) (c + (100 - (i + 1))) _ h2 hd2 (by omega) xx S2 fun H3 vs3 h3 hd3 e3 S3 => ⟨vs3, ls ++ [(minP x y, maxP x y)], _, _, rfl, h3, hd3, ?_, by rw [List.length_append]; show _ + 1 ≤ _; omega, e3, S3⟩
      rw [tk]
      refine ⟨fun l hl' => ?_, ?_⟩
      · rcases List.mem_append.mp hl' with e | e
        · exact ⟨List.mem_append_left _ (ok.1 l e).1, List.mem_append_left _ (ok.1 l e).2.1, (ok.1 l e).2.2⟩
        · rw [List.mem_singleton.mp e]
          rcases ordP ne with ⟨a1, a2, a3⟩ | ⟨a1, a2, a3⟩
          · rw [a1, a2]; exact ⟨List.mem_append_left _ mx, List.mem_append_right _ (by simp), a3⟩
          · rw [a1, a2]; exact ⟨List.mem_append_right _ (by simp), List.mem_append_left _ mx, a3⟩
      · rw [List.nodup_append]
        refine ⟨ok.2, by simp, fun p hp r hr e => ?_⟩
        have er := List.mem_singleton.mp hr
        have := ok.1 p hp
        rw [e, er] at this
        rcases ordP ne with ⟨a1, a2, _⟩ | ⟨a1, a2, _⟩
        · rw [a1, a2] at this; exact my this.2.1
        · rw [a1, a2] at this; exact my this.1
    · rintro σ H1 ⟨vs', ls, v3, v4, rfl, h1, hd, ok, hl, hE, hS'⟩
      rw [List.length_map] at hl ok
      have ok : LnOk us ls := ⟨fun l m => ⟨List.mem_of_mem_take (ok.1 l m).1, List.mem_of_mem_take (ok.1 l m).2.1, (ok.1 l m).2.2⟩, ok.2⟩
      refine ⟨_, rfl, _, rfl, u, _, rfl, .inl (hE.seqL hus hU), s, a, _, c + 90, rfl, by rw [List.length_map]; omega, by rw [List.length_map]; omega, hS'.mono (by rw [List.length_map]; omega), fun v H2 v0 v1 x2 S2 => ?_⟩
      rw [List.length_map] at v1
      refine ⟨_, rfl, by omega, by omega, ?_⟩
      refine for_range (lo := 0) (n := v.toNat) (fun i σ H' => ∃ (vs' : List V) (ls : List (Str × Str)) (v3 v4 v5 : Option V), σ = [some (.ref s), some (.ref u), some (.ref L), v3, v4, v5] ∧ H' L = some (.lst vs') ∧ DVs K H' (ls.map lnD) vs' ∧ LnOk us ls ∧ ls.length ≤ i + 8 ∧ Ext s H H' ∧ Src H' s a (c + (90 - 2 * i))) ?_ ?_ ?_
      · exact ⟨vs', ls, _, _, _, rfl, x2 _ _ Ls h1, hd.tk (TK.ext x2 hS'), ok, by omega, hE.trans x2, S2⟩
      · rintro i σ H3 hi ⟨vs', ls, v3, v4, v5, rfl, h3, hd3, ok3, hl3, hE3, hS3⟩
        have ne : us.map V.str ≠ [] := fun e => by have := List.map_eq_nil_iff.mp e; rw [this] at u1; simp at u1
        refine ⟨_, rfl, _, rfl, .inl ⟨s, a, u, us.map V.str, c + (90 - 2 * (i + 1)) + 1, rfl, hE3.seqL hus hU, hus, ne, by rw [List.length_map]; omega, hS3.mono (by omega), fun w H4 wm x4 S4 => ?_⟩⟩
        obtain ⟨x, xm, rfl⟩ := List.mem_map.mp wm
        refine ⟨_, rfl, _, rfl, .inl ⟨s, a, u, us.map V.str, c + (90 - 2 * (i + 1)), rfl, (hE3.trans x4).seqL hus hU, hus, ne, by rw [List.length_map]; omega, S4, fun w H5 wm x5 S5 => ?_⟩⟩
        obtain ⟨y, ym, rfl⟩ := List.mem_map.mp wm
        have h5 := x5 _ _ Ls (x4 _ _ Ls h3)
        have hd5 := (hd3.tk (TK.ext x4 hS3)).tk (TK.ext x5 S4)
        have e5 := (hE3.trans x4).trans x5
        refine ⟨_, rfl, _, rfl, rfl, _, rfl, ite2 (fun cc => ?_) (fun cc => iteF ⟨vs', ls, _, _, _, rfl, h5, hd5, ok3, by omega, e5, S5⟩)⟩
        have nxy : x ≠ y := fun e => by subst e; simp at cc
        refine ⟨_, rfl, _, rfl, x, y, rfl, _, rfl, _, rfl, x, y, rfl, by show 2 ≤ sizeLine; decide, fun t1 ht1 => ?_⟩
        have n1 := same_new (o := HO.tup [V.str (minP x y), V.str (maxP x y)]) ht1
        have h6 := n1 _ _ h5
        have hd6 := hd5.tk (TK.same n1)
        have e6 := e5.trans (Ext.of (s := s) n1)
        have S6 := S5.ext n1
        have dp : DV K (upd H5 t1 (HO.tup [V.str (minP x y), V.str (maxP x y)])) (lnD (minP x y, maxP x y)) (.ref t1) := ⟨t1, _, rfl, SqT.of upd_same, dlc (dls _) (dlc (dls _) dln)⟩
        generalize upd H5 t1 (HO.tup [V.str (minP x y), V.str (maxP x y)]) = H6 at n1 h6 hd6 e6 S6 dp ⊢
        have lw : Low (tl (minP x y)) ∧ Low (tl (maxP x y)) ∧ minP x y ∈ us ∧ maxP x y ∈ us ∧ tl (minP x y) < tl (maxP x y) := by
          rcases ordP nxy with ⟨a1, a2, a3⟩ | ⟨a1, a2, a3⟩
          · rw [a1, a2]; exact ⟨uA x xm, uA y ym, xm, ym, a3⟩
          · rw [a1, a2]; exact ⟨uA y ym, uA x xm, ym, xm, a3⟩
        refine ⟨_, rfl, lnD (minP x y, maxP x y), L, vs', ls.map lnD, dp, rfl, SqL.of h6, hd6, pr_ok lw.1 lw.2.1, ln_ok (fun l m => ⟨uA _ (ok3.1 l m).1, uA _ (ok3.1 l m).2.1⟩), _, rfl, ?_⟩
        refine ite2 (fun c2 => ?_) (fun c2 => ⟨vs', ls, _, _, _, rfl, h6, hd6, ok3, by omega, e6, S6⟩)
        have nin : (minP x y, maxP x y) ∉ ls := fun m => by
          have c2' : (!(ls.map lnD).any fun z => eqD z (lnD (minP x y, maxP x y))) = true := c2
          rw [(any_eqD (fun p _ e => lnD_inj e) fun p _ => alike_ln p _).mpr m] at c2'
          cases c2'
        refine ⟨_, rfl, .inl ⟨rfl, _, SqL.of h6⟩, _, rfl, _, rfl, x, y, rfl, _, rfl, _, rfl, x, y, rfl, by show 2 ≤ sizeLine; decide, ?_⟩
        refine put H6 vs' ls (minP x y) (maxP x y) (c + (90 - 2 * (i + 1))) _ h6 hd6 (by omega) e6 S6 fun H7 vs7 h7 hd7 e7 S7 => ⟨vs7, ls ++ [(minP x y, maxP x y)], _, _, _, rfl, h7, hd7, ⟨fun l m => ?_, ?_⟩, by rw [List.length_append]; show _ + 1 ≤ _; omega, e7, S7⟩
        · rcases List.mem_append.mp m with e | e
          · exact ok3.1 l e
          · rw [List.mem_singleton.mp e]; exact lw.2.2
        · rw [List.nodup_append]
          exact ⟨ok3.2, by simp, fun p hp r hr e => nin (by rw [← List.mem_singleton.mp hr, ← e]; exact hp)⟩
      · rintro σ H3 ⟨vs', ls, v3, v4, v5, rfl, h3, hd3, ok3, hl3, hE3, hS3⟩
        refine ⟨_, rfl, L, vs', Str × Str, ls, lnD, rfl, SqL.of h3, hd3, aa_of alike_ln, so_tup (fun l => ⟨_, _, rfl⟩), (fun l _ => depth_ln l), fun ys R hR dy => ?_⟩
        have n8 := same_new (o := HO.lst ys) hR
        have pm := sort_perm lnD ls
        exact q R ys _ _ (ext_free hE3 hS3 hR) upd_same (dy.tk (TK.same n8)) (by rw [pm.length_eq]; omega) ⟨fun l m => ok3.1 l (pm.mem_iff.mp m), pm.nodup_iff.mpr ok3.2⟩ (hE3.trans (Ext.of n8)) ((hS3.ext n8).mono (by omega))
end
section
variable {P : Program} {w : World} {K : PySem.W.Frag} {mg : Str → Option Value} {base : Heap}
theorem ok__law_all_lines (D : Df K mg "_law_all_lines" s__law_all_lines ["names"]) (T : Tx mg)   : Cal P w K mg base "_law_all_lines" ["names"] 1 (sp20_all_lines K) := by
  obtain ⟨f, fd, F, gf, bf⟩ := D
  refine ⟨f, fd, F.ok sc__law_all_lines (fun vs H Q E h => ?_) (fun cdv A outer s₀ H vs Q E hr h => ?_), gf, F.kp, bf⟩
  · obtain ⟨u, us, rfl, _⟩ := h; rfl
  · obtain ⟨u, us, rfl, hU, u9, uN, q⟩ := h
    refine ⟨_, (pss_cons (ps_set (i := 1) sc__law_all_lines.nd rfl (Or.inl rfl) (pe_lst pa_nil))
      (pss_cons (ps_for PassesOwn.never rfl (pi_list (pv 0)) (pg_name (i := 2) sc__law_all_lines.nd rfl (Or.inl rfl))
      (pss_one (ps_for PassesOwn.never rfl (pi_list (pv 0)) (pg_name (i := 3) sc__law_all_lines.nd rfl (Or.inl rfl))
        (pss_one (ps_if (pt_cmpR op_lt_str (pv 2) (pv 3) (nomark _))
          (pss_one (ps_expr (pe_bm PySem.F.plainAttrs_list PySem.F.slot_list_append PySem.F.type_list_append mt_append (pv 1) (pa_cons (pe_tup (pa_cons (pv 2) (pa_cons (pv 3) pa_nil))) pa_nil))))
          pss_nil)))))
      (pss_one (ps_ret (pe_callB (cr_sortDDQ (K := K) rfl (room65 hr)) (by rfl) T.n_sorted (by decide +kernel) (pa_cons (pv 1) pa_nil)))))), ?_⟩
    refine ⟨Nat.zero_le _, fun L hL => ?_⟩
    have m0 := same_new (o := HO.lst []) hL
    have uA : ∀ x ∈ us, Low (tl x) := fun x hx => (uN.2 x hx).1.2
    refine ⟨_, rfl, u, rfl, ⟨_, m0.seq hU⟩, ?_⟩
    refine for_list (K := K) (a := u) (xs := us.map V.str) (fun i σ H' => ∃ (vs' : List V) (ls : List (Str × Str)) (v2 v3 : Option V), σ = [some (.ref u), some (.ref L), v2, v3] ∧ H' L = some (.lst vs') ∧ DVs K H' (ls.map lnD) vs' ∧ LnOk us ls ∧ (∀ l ∈ ls, l.1 ∈ us.take i) ∧ ls.length ≤ i * us.length ∧ Same H H') ?_ (fun i σ H' _ h => by obtain ⟨_, _, _, _, _, _, _, _, _, _, m⟩ := h; exact m.seq hU) ?_ ?_
    · exact ⟨[], [], _, _, rfl, upd_same, dln, ⟨(fun _ h => by cases h), List.nodup_nil⟩, (fun _ h => by cases h), Nat.zero_le _, m0⟩
    · rintro i x σ H1 hi ⟨vs', ls, v2, v3, rfl, h1, hd, ok, o1, hl, m1⟩
      obtain ⟨x, hx, rfl⟩ := map_get hi
      have xm := List.mem_of_getElem? hx
      have il := (List.getElem?_eq_some_iff.mp hx).1
      have xn : x ∉ us.take i := fun m => by
        obtain ⟨j, hj⟩ := List.getElem?_of_mem m
        have jl : j < i := by have := (List.getElem?_eq_some_iff.mp hj).1; rw [List.length_take] at this; omega
        rw [List.getElem?_take_of_lt jl] at hj
        have := (List.getElem?_inj (by omega) uN.1).mp (hj.trans hx.symm)
        omega
      refine ⟨_, rfl, u, rfl, ⟨_, m1.seq hU⟩, ?_⟩
      refine for_list (K := K) (a := u) (xs := us.map V.str) (fun j σ H' => ∃ (vs' : List V) (ls : List (Str × Str)) (v3 : Option V), σ = [some (.ref u), some (.ref L), some (.str x), v3] ∧ H' L = some (.lst vs') ∧ DVs K H' (ls.map lnD) vs' ∧ LnOk us ls ∧ (∀ l ∈ ls, l.1 ∈ us.take i ∨ (l.1 = x ∧ l.2 ∈ us.take j)) ∧ ls.length ≤ i * us.length + j ∧ Same H H') ?_ (fun j σ H' _ h => by obtain ⟨_, _, _, _, _, _, _, _, _, m⟩ := h; exact m.seq hU) ?_ ?_
      · exact ⟨vs', ls, _, rfl, h1, hd, ok, fun l m => .inl (o1 l m), by omega, m1⟩
      · rintro j y σ H2 hj ⟨vs', ls, v3, rfl, h2, hd2, ok2, o2, hl2, m2⟩
        obtain ⟨y, hy, rfl⟩ := map_get hj
        have ym := List.mem_of_getElem? hy
        have jl := (List.getElem?_eq_some_iff.mp hy).1
        have yn : y ∉ us.take j := fun m => by
          obtain ⟨k, hk⟩ := List.getElem?_of_mem m
          have kl : k < j := by have := (List.getElem?_eq_some_iff.mp hk).1; rw [List.length_take] at this; omega
          rw [List.getElem?_take_of_lt kl] at hk
          have := (List.getElem?_inj (by omega) uN.1).mp (hk.trans hy.symm)
          omega
        have tk : us.take (j + 1) = us.take j ++ [y] := by rw [List.take_add_one, hy]; rfl
        have bnd : i * us.length ≤ 81 := by
          have : i * us.length ≤ 9 * 9 := Nat.mul_le_mul (by omega) (by omega)
          omega
        refine ⟨_, rfl, _, rfl, x, y, rfl, rfl, _, rfl, ite2 (fun cc => ?_) (fun cc => ⟨vs', ls, _, rfl, h2, hd2, ok2, fun l m => (o2 l m).imp id fun h => ⟨h.1, by rw [tk]; exact List.mem_append_left _ h.2⟩, by omega, m2⟩)⟩
        have lt : tl x < tl y := of_decide_eq_true cc
        refine ⟨_, rfl, .inl ⟨rfl, _, SqL.of h2⟩, _, rfl, _, rfl, by show 2 ≤ sizeLine; decide, fun t ht => ?_⟩
        have n := same_new (o := HO.tup [V.str x, V.str y]) ht
        have h3 := n _ _ h2
        refine ⟨L, vs', _, rfl, rfl, h3, by rw [hd2.map_len]; exact small_lt _ (by omega), vs' ++ [.ref t], ls ++ [(x, y)], _, rfl, upd_same, DVs.snoc (hd2.tk ((TK.same n).trans (tk_put h3))) ⟨t, _, rfl, tk_put h3 _ _ (SqT.of upd_same), dlc (dls _) (dlc (dls _) dln)⟩, ⟨fun l m => ?_, ?_⟩, fun l m => ?_, by rw [List.length_append]; show _ + 1 ≤ _; omega, sput (m2.trans n) hL⟩
        · rcases List.mem_append.mp m with e | e
          · exact ok2.1 l e
          · rw [List.mem_singleton.mp e]; exact ⟨xm, ym, lt⟩
        · rw [List.nodup_append]
          refine ⟨ok2.2, by simp, fun p hp r hr e => ?_⟩
          have er := List.mem_singleton.mp hr
          rcases o2 p hp with h | h
          · exact xn (by rw [e, er] at h; exact h)
          · exact yn (by rw [e, er] at h; exact h.2)
        · rcases List.mem_append.mp m with e | e
          · exact (o2 l e).imp id fun h => ⟨h.1, by rw [tk]; exact List.mem_append_left _ h.2⟩
          · rw [List.mem_singleton.mp e]; exact .inr ⟨rfl, by rw [tk]; simp⟩
      · rintro σ H2 ⟨vs', ls, v3, rfl, h2, hd2, ok2, o2, hl2, m2⟩
        rw [List.length_map] at hl2 o2
        refine ⟨vs', ls, _, _, rfl, h2, hd2, ok2, fun l m => ?_, by rw [Nat.add_mul, Nat.one_mul]; exact hl2, m2⟩
        rw [List.take_add_one, hx]
        rcases o2 l m with h | h
        · exact List.mem_append_left _ h
        · exact List.mem_append_right _ (by rw [h.1]; simp)
    · rintro σ H1 ⟨vs', ls, v2, v3, rfl, h1, hd, ok, o1, hl, m1⟩
      rw [List.length_map] at hl
      refine ⟨_, rfl, L, vs', Str × Str, ls, lnD, rfl, SqL.of h1, hd, aa_of alike_ln, so_tup (fun l => ⟨_, _, rfl⟩), (fun l _ => depth_ln l), fun ys R hR dy => ?_⟩
      have n8 := same_new (o := HO.lst ys) hR
      have pm := sort_perm lnD ls
      exact q R ys _ _ (Same.free m1 hR) upd_same (dy.tk (TK.same n8)) (by rw [pm.length_eq]; exact hl) ⟨fun l m => ok.1 l (pm.mem_iff.mp m), pm.nodup_iff.mpr ok.2⟩ (m1.trans n8)
end

end Z
namespace Z
open PySem L2 SX
/-- feeds over lines -/
structure FsOk (us : List Str) (pr : Str × Str → Prop) (fs : List Fd) : Prop where
  nd : (fs.map fun f => (f.g, f.t)).Nodup
  of : ∀ f ∈ fs, pr (f.g, f.t)
  us : ∀ f ∈ fs, f.g ∈ us ∧ f.t ∈ us ∧ (tl f.p).length ≤ 200
theorem FsOk.add {us : List Str} {pr pr' : Str × Str → Prop} {fs : List Fd} {f : Fd} (h : FsOk us pr fs) (n : ¬ pr (f.g, f.t)) (hu : f.g ∈ us ∧ f.t ∈ us ∧ (tl f.p).length ≤ 200) (m : ∀ x, pr x → pr' x) (k : pr' (f.g, f.t)) : FsOk us pr' (fs ++ [f]) := by
  refine ⟨?_, fun x hx => ?_, fun x hx => ?_⟩
  · rw [List.map_append, List.nodup_append]
    refine ⟨h.nd, by simp, fun a ha b hb e => ?_⟩
    obtain ⟨x, hx, rfl⟩ := List.mem_map.mp ha
    have : b = (f.g, f.t) := by simpa using hb
    have := h.of x hx
    exact n (by rw [← ‹b = (f.g, f.t)›, ← e]; exact this)
  · rcases List.mem_append.mp hx with e | e
    · exact m _ (h.of x e)
    · rw [List.mem_singleton.mp e]; exact k
  · rcases List.mem_append.mp hx with e | e
    · exact h.us x e
    · rw [List.mem_singleton.mp e]; exact hu
theorem FsOk.mono {us : List Str} {pr pr' : Str × Str → Prop} {fs : List Fd} (h : FsOk us pr fs) (m : ∀ x, pr x → pr' x) : FsOk us pr' fs := ⟨h.nd, fun f hf => m _ (h.of f hf), h.us⟩
section
variable {P : Program} {w : World} {K : PySem.W.Frag} {mg : Str → Option Value} {base : Heap}
theorem ok__law_net (D : Df K mg "_law_net" s__law_net ["source", "many", "words"]) (T : Tx mg)  (C__law_all_lines : Cal P w K mg base "_law_all_lines" ["names"] 1 (sp20_all_lines K)) (C__law_draw : Cal P w K mg base "_law_draw" ["source", "many"] 2 sp__law_draw) (C__law_lines : Cal P w K mg base "_law_lines" ["source", "names"] 4 (sp20_lines K)) (C__law_names : Cal P w K mg base "_law_names" ["source", "many"] 4 (sp9__law_names K)) (C__law_pattern : Cal P w K mg base "_law_pattern" ["source", "words"] 6 (sp2__law_pattern K)) (C__law_pick : Cal P w K mg base "_law_pick" ["source", "row"] 3 (sp3__law_pick K)) (C__law_shuffled : Cal P w K mg base "_law_shuffled" ["source", "row"] 3 (sp20_shuffled K)) : Cal P w K mg base "_law_net" ["source", "many", "words"] 7 (sp20_net K) := by
  obtain ⟨f__law_all_lines, fd__law_all_lines, G__law_all_lines, g__law_all_lines, k__law_all_lines, b__law_all_lines⟩ := C__law_all_lines
  obtain ⟨f__law_draw, fd__law_draw, G__law_draw, g__law_draw, k__law_draw, b__law_draw⟩ := C__law_draw
  obtain ⟨f__law_lines, fd__law_lines, G__law_lines, g__law_lines, k__law_lines, b__law_lines⟩ := C__law_lines
  obtain ⟨f__law_names, fd__law_names, G__law_names, g__law_names, k__law_names, b__law_names⟩ := C__law_names
  obtain ⟨f__law_pattern, fd__law_pattern, G__law_pattern, g__law_pattern, k__law_pattern, b__law_pattern⟩ := C__law_pattern
  obtain ⟨f__law_pick, fd__law_pick, G__law_pick, g__law_pick, k__law_pick, b__law_pick⟩ := C__law_pick
  obtain ⟨f__law_shuffled, fd__law_shuffled, G__law_shuffled, g__law_shuffled, k__law_shuffled, b__law_shuffled⟩ := C__law_shuffled
  obtain ⟨f, fd, F, gf, bf⟩ := D
  refine ⟨f, fd, F.ok sc__law_net (fun vs H Q E h => ?_) (fun cdv A outer s₀ H vs Q E hr h => ?_), gf, F.kp, bf⟩
  · obtain ⟨s, a, w, ws, m, c, rfl, _⟩ := h; rfl
  · obtain ⟨s, a, w, ws, m, c, rfl, m1, m8, hW, wns, hWds, hS, q⟩ := h
    refine ⟨_, (pss_cons (ps_set (i := 3) sc__law_net.nd rfl (Or.inl rfl) (pe_call G__law_names (hr.mono (by decide)) (by rfl) g__law_names k__law_names b__law_names .nil pass0 (pa_cons (pv 0) (pa_cons (pv 1) pa_nil))))
      (pss_cons (ps_set (i := 4) sc__law_net.nd rfl (Or.inl rfl) (pe_slice sl_list (pe_call G__law_lines (hr.mono (by decide)) (by rfl) g__law_lines k__law_lines b__law_lines .nil pass0 (pa_cons (pv 0) (pa_cons (pv 3) pa_nil))) po_none (po_some pe_int)))
      (C8.pss_cut (ps_if (PW.pt (pw_and (pt_cmpR op_lt (pv 1) pe_int (nomark _)) (pw_and1 (pt_cmpR op_eq (pe_call G__law_draw (hr.mono (by decide)) (by rfl) g__law_draw k__law_draw b__law_draw .nil pass0 (pa_cons (pv 0) (pa_cons pe_int pa_nil))) pe_int (nomark _)))))
      (pss_one (ps_set (i := 4) sc__law_net.nd rfl (Or.inl rfl) (pe_call G__law_all_lines (hr.mono (by decide)) (by rfl) g__law_all_lines k__law_all_lines b__law_all_lines .nil pass0 (pa_cons (pv 3) pa_nil))))
      pss_nil)
      (pss_cons (ps_set (i := 5) sc__law_net.nd rfl (Or.inl rfl) (pe_lst (pa_cons pe_str (pa_cons pe_str (pa_cons pe_str (pa_cons (pe_call G__law_pattern (hr.mono (by decide)) (by rfl) g__law_pattern k__law_pattern b__law_pattern .nil pass0 (pa_cons (pv 0) (pa_cons (pv 2) pa_nil))) (pa_cons (pe_call G__law_pattern (hr.mono (by decide)) (by rfl) g__law_pattern k__law_pattern b__law_pattern .nil pass0 (pa_cons (pv 0) (pa_cons (pv 2) pa_nil))) pa_nil)))))))
      (pss_cons (ps_set (i := 6) sc__law_net.nd rfl (Or.inl rfl) (pe_lst (pa_cons (pe_op op_add pe_int (pe_call G__law_draw (hr.mono (by decide)) (by rfl) g__law_draw k__law_draw b__law_draw .nil pass0 (pa_cons (pv 0) (pa_cons pe_int pa_nil)))) (pa_cons (pe_op op_add pe_int (pe_call G__law_draw (hr.mono (by decide)) (by rfl) g__law_draw k__law_draw b__law_draw .nil pass0 (pa_cons (pv 0) (pa_cons pe_int pa_nil)))) (pa_cons pe_int pa_nil)))))
      (pss_cons (ps_set (i := 7) sc__law_net.nd rfl (Or.inl rfl) (pe_lst pa_nil))
      (pss_cons (ps_for PassesOwn.never rfl (pi_list (pv 4)) (pg_name (i := 8) sc__law_net.nd rfl (Or.inl rfl))
      (pss_one (ps_for PassesOwn.never rfl (pi_range1 (by rfl) T.n_range (pa_cons pe_int pa_nil)) (pg_name (i := 9) sc__law_net.nd rfl (Or.inl rfl))
        (pss_one (ps_if (pt_cmpR op_ne (pe_call G__law_draw (hr.mono (by decide)) (by rfl) g__law_draw k__law_draw b__law_draw .nil pass0 (pa_cons (pv 0) (pa_cons pe_int pa_nil))) pe_int (nomark _))
          (pss_cons (ps_set (i := 10) sc__law_net.nd rfl (Or.inl rfl) (pe_op op_add pe_int (pe_call G__law_draw (hr.mono (by decide)) (by rfl) g__law_draw k__law_draw b__law_draw .nil pass0 (pa_cons (pv 0) (pa_cons (pe_op op_add (pv 1) pe_int) pa_nil)))))
            (pss_cons (ps_set (i := 11) sc__law_net.nd rfl (Or.inl rfl) (pe_call G__law_pick (hr.mono (by decide)) (by rfl) g__law_pick k__law_pick b__law_pick .nil pass0 (pa_cons (pv 0) (pa_cons (pv 6) pa_nil))))
            (pss_one (ps_expr (pe_bm PySem.F.plainAttrs_list PySem.F.slot_list_append PySem.F.type_list_append mt_append (pv 7) (pa_cons (pe_tup (pa_cons pe_str (pa_cons (pe_ix ix_tup (pv 8) (pv 9) (fun _ _ => rfl)) (pa_cons (pe_ix ix_tup (pv 8) (pe_op op_sub pe_int (pv 9)) (fun _ _ => rfl)) (pa_cons (pe_call G__law_pick (hr.mono (by decide)) (by rfl) g__law_pick k__law_pick b__law_pick .nil pass0 (pa_cons (pv 0) (pa_cons (pv 5) pa_nil))) (pa_cons (pv 10) (pa_cons (pv 11) pa_nil))))))) pa_nil))))))
          pss_nil)))))
      (pss_cons (ps_set (i := 12) sc__law_net.nd rfl (Or.inl rfl) (pe_lst pa_nil))
      (pss_cons (ps_for PassesOwn.never rfl (pi_list (pv 3)) (pg_name (i := 13) sc__law_net.nd rfl (Or.inl rfl))
      (pss_one (ps_expr (pe_bm PySem.F.plainAttrs_list PySem.F.slot_list_append PySem.F.type_list_append mt_append (pv 12) (pa_cons (pe_tup (pa_cons pe_str (pa_cons (pv 13) (pa_cons (pe_call G__law_draw (hr.mono (by decide)) (by rfl) g__law_draw k__law_draw b__law_draw .nil pass0 (pa_cons (pv 0) (pa_cons pe_int pa_nil))) (pa_cons pe_int (pa_cons pe_int (pa_cons (pe_call G__law_pick (hr.mono (by decide)) (by rfl) g__law_pick k__law_pick b__law_pick .nil pass0 (pa_cons (pv 0) (pa_cons (pe_op L2.op_cat (pe_lst (pa_cons pe_str pa_nil)) (pv 5)) pa_nil))) pa_nil))))))) pa_nil)))))
      (pss_one (ps_ret (pe_tup (pa_cons pe_str (pa_cons pe_int (pa_cons (pe_tup (pa_cons pe_int (pa_cons pe_int pa_nil))) (pa_cons (pe_callTy call_tuple_of (by rfl) T.n_tuple (by decide +kernel) (pa_cons (pv 12) pa_nil)) (pa_cons (pe_callTy call_tuple_of (by rfl) T.n_tuple (by decide +kernel) (pa_cons (pv 4) pa_nil)) (pa_cons (pe_callTy call_tuple_of (by rfl) T.n_tuple (by decide +kernel) (pa_cons (pe_call G__law_shuffled (hr.mono (by decide)) (by rfl) g__law_shuffled k__law_shuffled b__law_shuffled .nil pass0 (pa_cons (pv 0) (pa_cons (pv 7) pa_nil))) pa_nil)) (pa_cons (pe_tup pa_nil) (pa_cons (pe_tup pa_nil) pa_nil)))))))))))))))))))), ?_⟩
    refine ⟨_, rfl, _, rfl, s, a, m, c + 29900, rfl, by omega, hS.mono (by omega), fun u us H1 hu hus ul uN x1 S1 => ?_⟩
    have us' : u ≠ s := hS.ne hu
    refine ⟨_, rfl, _, rfl, s, a, u, us, c + 29700, rfl, SqL.of hus, us', by omega, by omega, uN, S1.mono (by omega), fun L lws ls H2 hL0 hL dl ll lo x2 S2 => ?_⟩
    have Ls := S1.ne hL0
    refine ⟨12, rfl, L, lws, rfl, SqL.of hL, fun L2 hL2 => ?_⟩
    have n3 := same_new (o := HO.lst (cutV lws none (some 12))) hL2
    have L2s := S2.ne hL2
    have S3 := S2.ext n3
    have e3 : Ext s H _ := (x1.trans x2).trans (Ext.of n3)
    have e13 : Ext s H1 _ := x2.trans (Ext.of n3)
    have h3 : (upd H2 L2 (HO.lst (cutV lws none (some 12)))) L2 = some (.lst (cutV lws none (some 12))) := upd_same
    have dl3 := dl.tk (TK.same n3)
    generalize upd H2 L2 (HO.lst (cutV lws none (some 12))) = H3 at n3 S3 e3 e13 h3 dl3 ⊢
    rw [cutV_to (by decide)] at h3
    have cut12 : ∀ (r : List (Str × Str)), LnOk us r → LnOk us (r.take (12 : Int).toNat) := fun r h => ⟨fun l hl => h.1 l (List.mem_of_mem_take hl), h.2.sublist (List.take_sublist _ _)⟩
    have dtake : DVs K H3 ((ls.take (12 : Int).toNat).map lnD) (lws.take (12 : Int).toNat) := dl3.take _
    refine ⟨fun σ' H' => ∃ (Lx : Addr) (xs : List V) (r : List (Str × Str)), σ' = [some (.ref s), some (.int (m : Int)), some (.ref w), some (.ref u), some (.ref Lx), none, none, none, none, none, none, none, none, none] ∧ Lx ≠ s ∧ H' Lx = some (.lst xs) ∧ DVs K H' (r.map lnD) xs ∧ LnOk us r ∧ r.length ≤ 25 ∧ Ext s H H' ∧ H' u = some (.lst (us.map V.str)) ∧ Src H' s a (c + 29690), ?_, ?_⟩
    · have stop : ∀ H', Ext s H3 H' → Src H' s a (c + 29690) → ∃ (Lx : Addr) (xs : List V) (r : List (Str × Str)), [some (V.ref s), some (.int (m : Int)), some (.ref w), some (.ref u), some (.ref L2), none, none, none, none, none, none, none, none, none] = [some (.ref s), some (.int (m : Int)), some (.ref w), some (.ref u), some (.ref Lx), none, none, none, none, none, none, none, none, none] ∧ Lx ≠ s ∧ H' Lx = some (.lst xs) ∧ DVs K H' (r.map lnD) xs ∧ LnOk us r ∧ r.length ≤ 25 ∧ Ext s H H' ∧ H' u = some (.lst (us.map V.str)) ∧ Src H' s a (c + 29690) := fun H' x S => ⟨L2, _, ls.take (12 : Int).toNat, rfl, L2s, x _ _ L2s h3, dtake.tk (TK.ext x S3), cut12 ls lo, by rw [List.length_take]; omega, e3.trans x, (e13.trans x) _ _ us' hus, S⟩
      refine ⟨_, rfl, _, _, rfl, rfl, _, rfl, ite2 (fun c1 => ?_) (fun _ => iteF (stop H3 (Ext.refl s H3) (S3.mono (by omega))))⟩
      have m5 : m < 6 := by have := of_decide_eq_true c1; omega
      refine ⟨_, rfl, s, a, _, c + 29699, rfl, by decide, by decide, S3, fun v H4 _ _ x4 S4 => ⟨rfl, _, rfl, ite2 (fun _ => ?_) (fun _ => stop H4 x4 (S4.mono (by omega)))⟩⟩
      have hu4 := (e13.trans x4) _ _ us' hus
      refine ⟨_, rfl, u, us, rfl, SqL.of hu4, by omega, uN, fun L3 w3 r3 H5 hL3 h5 d5 l5 o5 m5' => ⟨L3, w3, r3, rfl, S4.ne hL3, h5, d5, o5, ?_, (e3.trans x4).trans (Ext.of m5'), m5' _ _ hu4, (S4.ext m5').mono (by omega)⟩⟩
      have : us.length * us.length ≤ 5 * 5 := Nat.mul_le_mul (by omega) (by omega)
      omega
    rintro σ' H4 ⟨Lx, xs, r, rfl, Lxs, h4, d4, lo4, r25, e4, hu4, S4⟩
    refine ⟨_, rfl, _, rfl, s, a, w, ws, c + 29480, rfl, e4.seqL wns hW, wns, hWds, S4.mono (by omega), fun p1 H5 gp1 pl1 x5 S5 => ?_⟩
    refine ⟨_, rfl, _, rfl, s, a, w, ws, c + 29270, rfl, (e4.trans x5).seqL wns hW, wns, hWds, S5.mono (by omega), fun p2 H6 gp2 pl2 x6 S6 => ?_⟩
    refine ⟨by show 5 ≤ sizeLine; decide, fun P hP => ?_⟩
    have Ps := S6.ne hP
    have n7 := same_new (o := HO.lst [V.str (Str.ofString "*"), V.str (Str.ofString "*"), V.str (Str.ofString "*"), V.str p1, V.str p2]) hP
    have hP7 : (upd H6 P (HO.lst [V.str (Str.ofString "*"), V.str (Str.ofString "*"), V.str (Str.ofString "*"), V.str p1, V.str p2])) P = some (.lst ([Str.ofString "*", Str.ofString "*", Str.ofString "*", p1, p2].map V.str)) := upd_same
    have S7 := S6.ext n7
    have x7 : Ext s H4 _ := (x5.trans x6).trans (Ext.of n7)
    generalize upd H6 P (HO.lst [V.str (Str.ofString "*"), V.str (Str.ofString "*"), V.str (Str.ofString "*"), V.str p1, V.str p2]) = H7 at n7 hP7 S7 x7 ⊢
    have pB : ∀ y ∈ [Str.ofString "*", Str.ofString "*", Str.ofString "*", p1, p2], (tl y).length ≤ 200 := fun y hy => by
      simp only [List.mem_cons, List.not_mem_nil, or_false] at hy
      rcases hy with e | e | e | e | e <;> subst e
      · decide
      · decide
      · decide
      · omega
      · omega
    generalize hps : [Str.ofString "*", Str.ofString "*", Str.ofString "*", p1, p2] = ps at hP7 pB
    have psn : ps.map V.str ≠ [] := by rw [← hps]; simp
    have psl : ps.length = 5 := by rw [← hps]; rfl
    clear hps
    refine ⟨_, rfl, s, a, _, c + 29269, rfl, by decide, by decide, S7.mono (by omega), fun z1 H8 _ _ x8 S8 => ⟨_, _, rfl, rfl, ?_⟩⟩
    refine ⟨_, rfl, s, a, _, c + 29268, rfl, by decide, by decide, S8.mono (by omega), fun z2 H9 _ _ x9 S9 => ⟨_, _, rfl, rfl, by show 3 ≤ sizeLine; decide, fun Z hZ => ?_⟩⟩
    have Zs := S9.ne hZ
    have n10 := same_new (o := HO.lst [V.int (1 + z1), V.int (1 + z2), V.int 99]) hZ
    have hZ10 : (upd H9 Z (HO.lst [V.int (1 + z1), V.int (1 + z2), V.int 99])) Z = some (.lst ([1 + z1, 1 + z2, 99].map V.int)) := upd_same
    have S10 := S9.ext n10
    have x10 : Ext s H7 _ := (x8.trans x9).trans (Ext.of n10)
    generalize upd H9 Z (HO.lst [V.int (1 + z1), V.int (1 + z2), V.int 99]) = H10 at n10 hZ10 S10 x10 ⊢
    generalize hzs : [1 + z1, 1 + z2, 99] = zs at hZ10
    have zsn : zs.map V.int ≠ [] := by rw [← hzs]; simp
    have zsl : zs.length = 3 := by rw [← hzs]; rfl
    clear hzs
    have x410 := x7.trans x10
    have e10 := e4.trans x410
    have hP10 := x10 _ _ Ps hP7
    have hL10 := x410 _ _ Lxs h4
    have d10 := d4.tk (TK.ext x410 S4)
    have hu10 := x410 _ _ us' hu4
    refine ⟨Nat.zero_le _, fun M hM => ?_⟩
    have Ms := S10.ne hM
    have Ma := S10.nea hM
    refine ⟨_, rfl, Lx, rfl, ⟨_, SqL.of ((same_new hM) _ _ hL10)⟩, ?_⟩
    refine for_list (K := K) (a := Lx) (xs := xs) (fun i σ H' => ∃ (vs' : List V) (fs : List Fd) (v8 v9 v10 v11 : Option V), σ = [some (.ref s), some (.int (m : Int)), some (.ref w), some (.ref u), some (.ref Lx), some (.ref P), some (.ref Z), some (.ref M), v8, v9, v10, v11, none, none] ∧ H' M = some (.lst vs') ∧ DVs K H' (fs.map fdD) vs' ∧ FsOk us (fun x => x ∈ r.take i ∨ (x.2, x.1) ∈ r.take i) fs ∧ fs.length ≤ 2 * i ∧ Ext s H10 H' ∧ Src H' s a (c + (29200 - 10 * i))) ?_ (fun i σ H' _ h => by obtain ⟨_, _, _, _, _, _, _, _, _, _, _, e, _⟩ := h; exact SqL.of (e _ _ Lxs hL10)) ?_ ?_
    · exact ⟨[], [], _, _, _, _, rfl, upd_same, dln, ⟨List.nodup_nil, (fun _ h => by cases h), (fun _ h => by cases h)⟩, Nat.zero_le _, Ext.new hM, (S10.new hM).mono (by omega)⟩
    · rintro i x σ H11 hi ⟨vs', fs, v8, v9, v10, v11, rfl, h11, hd, fo, fl, e11, S11⟩
      obtain ⟨l, hl, dx⟩ := d10.map_get hi
      obtain ⟨t, rfl, hT⟩ := DV_pair_inv dx
      have lm := List.mem_of_getElem? hl
      have il := (List.getElem?_eq_some_iff.mp hl).1
      have lk := lo4.1 l lm
      have ln : l ∉ r.take i := fun h => by
        obtain ⟨j, hj⟩ := List.getElem?_of_mem h
        have jl : j < i := by have := (List.getElem?_eq_some_iff.mp hj).1; rw [List.length_take] at this; omega
        rw [List.getElem?_take_of_lt jl] at hj
        have := (List.getElem?_inj (by omega) lo4.2).mp (hj.trans hl.symm)
        omega
      have ln2 : (l.2, l.1) ∉ r.take i := fun h => by
        have := (lo4.1 _ (List.mem_of_mem_take h)).2.2
        exact List.lt_irrefl _ (List.lt_trans this lk.2.2)
      have tk : r.take (i + 1) = r.take i ++ [l] := by rw [List.take_add_one, hl]; rfl
      refine ⟨2, rfl, by decide, by decide, ?_⟩
      refine for_range (lo := 0) (n := 2) (fun j σ H' => ∃ (vs' : List V) (fs : List Fd) (v9 v10 v11 : Option V), σ = [some (.ref s), some (.int (m : Int)), some (.ref w), some (.ref u), some (.ref Lx), some (.ref P), some (.ref Z), some (.ref M), some (.ref t), v9, v10, v11, none, none] ∧ H' M = some (.lst vs') ∧ DVs K H' (fs.map fdD) vs' ∧ FsOk us (fun x => (x ∈ r.take i ∨ (x.2, x.1) ∈ r.take i) ∨ (0 < j ∧ x = l) ∨ (1 < j ∧ (x.2, x.1) = l)) fs ∧ fs.length ≤ 2 * i + j ∧ Ext s H10 H' ∧ Src H' s a (c + (29200 - 10 * i - 5 * j))) ?_ ?_ ?_
      · exact ⟨vs', fs, _, _, _, rfl, h11, hd, fo.mono fun x h => .inl h, by omega, e11, S11⟩
      · rintro j σ H12 hj ⟨vs', fs, v9, v10, v11, rfl, h12, hd, fo, fl, e12, S12⟩
        have hT12 := TK.ext e12 S10 _ _ hT
        obtain ⟨g, h, hg, hh, hgh⟩ : ∃ g h : Str, atI [V.str l.1, V.str l.2] (0 + (j : Int)) = some (.str g) ∧ atI [V.str l.1, V.str l.2] (1 - (0 + (j : Int))) = some (.str h) ∧ ((j = 0 ∧ (g, h) = l) ∨ (j = 1 ∧ (h, g) = l)) := by
          have : j = 0 ∨ j = 1 := by omega
          rcases this with e | e <;> subst e
          · exact ⟨_, _, rfl, rfl, .inl ⟨rfl, rfl⟩⟩
          · exact ⟨_, _, rfl, rfl, .inr ⟨rfl, rfl⟩⟩
        refine ⟨_, rfl, s, a, _, c + (29200 - 10 * i - 5 * j - 1), rfl, by decide, by decide, S12.mono (by omega), fun dv H13 _ _ x13 S13 => ⟨rfl, _, rfl, ite2 (fun _ => ?_) (fun _ => ⟨vs', fs, _, _, _, rfl, x13 _ _ Ms h12, hd.tk (TK.ext x13 S12), fo.mono fun x h => ?_, by omega, e12.trans x13, S13.mono (by omega)⟩)⟩⟩
        rotate_left
        · exact h.imp id fun h => h.imp (fun h => ⟨by omega, h.2⟩) fun h => ⟨by omega, h.2⟩
        refine ⟨_, rfl, _, rfl, _, _, rfl, rfl, s, a, _, c + (29200 - 10 * i - 5 * j - 2), rfl, by omega, by omega, S13.mono (by omega), fun hp H14 _ _ x14 S14 => ⟨_, _, rfl, rfl, ?_⟩⟩
        have e14 := (e12.trans x13).trans x14
        refine ⟨_, rfl, _, rfl, .inl ⟨s, a, Z, zs.map V.int, c + (29200 - 10 * i - 5 * j - 3), rfl, SqL.of (e14 _ _ Zs hZ10), Zs, zsn, by rw [List.length_map]; omega, S14.mono (by omega), fun sv H15 sm x15 S15 => ?_⟩⟩
        obtain ⟨sz, _, rfl⟩ := List.mem_map.mp sm
        have h15 := x15 _ _ Ms (x14 _ _ Ms (x13 _ _ Ms h12))
        have hd15 := ((hd.tk (TK.ext x13 S12)).tk (TK.ext x14 S13)).tk (TK.ext x15 S14)
        have e15 := e14.trans x15
        have hT15 := TK.ext e15 S10 _ _ hT
        refine ⟨_, rfl, .inl ⟨rfl, _, SqL.of h15⟩, _, rfl, _, rfl, t, _, _, _, rfl, rfl, hT15, hg, _, rfl, _, rfl, _, _, rfl, rfl, t, _, _, _, rfl, rfl, hT15, hh, ?_⟩
        refine ⟨_, rfl, _, rfl, .inl ⟨s, a, P, ps.map V.str, c + (29200 - 10 * i - 5 * j - 4), rfl, SqL.of (e15 _ _ Ps hP10), Ps, psn, by rw [List.length_map]; omega, S15.mono (by omega), fun pv H16 pm x16 S16 => ?_⟩⟩
        obtain ⟨pp, ppm, rfl⟩ := List.mem_map.mp pm
        have h16 := x16 _ _ Ms h15
        have hd16 := hd15.tk (TK.ext x16 S15)
        have e16 := e15.trans x16
        refine ⟨_, rfl, _, rfl, by show 6 ≤ sizeLine; decide, fun R hR => ?_⟩
        have n17 := same_new (o := HO.tup [V.str (Str.ofString "feed"), V.str g, V.str h, V.str pp, V.int (1 + hp), V.int sz]) hR
        have h17 := n17 _ _ h16
        have ghu : g ∈ us ∧ h ∈ us := by
          rcases hgh with ⟨_, e⟩ | ⟨_, e⟩
          · rw [← e] at lk; exact ⟨lk.1, lk.2.1⟩
          · rw [← e] at lk; exact ⟨lk.2.1, lk.1⟩
        refine ⟨M, _, _, rfl, rfl, h17, by rw [hd16.map_len]; exact small_lt _ (by omega), vs' ++ [.ref R], fs ++ [⟨g, h, pp, 1 + hp, sz⟩], _, _, _, rfl, upd_same, DVs.snoc (hd16.tk ((TK.same n17).trans (tk_put h17))) ⟨R, _, rfl, tk_put h17 _ _ (SqT.of upd_same), dlc (dls _) (dlc (dls _) (dlc (dls _) (dlc (dls _) (dlc (dli _) (dlc (dli _) dln)))))⟩, ?_, by rw [List.length_append]; show _ + 1 ≤ _; omega, ext_keep hM (e16.trans (Ext.of n17)), ((S16.ext n17).put Ms Ma).mono (by omega)⟩
        refine fo.add ?_ ⟨ghu.1, ghu.2, pB pp ppm⟩ (fun x h => h.imp id fun h => h.imp (fun h => ⟨by omega, h.2⟩) fun h => ⟨by omega, h.2⟩) ?_
        · show ¬ (((g, h) ∈ r.take i ∨ (h, g) ∈ r.take i) ∨ (0 < j ∧ (g, h) = l) ∨ (1 < j ∧ (h, g) = l))
          rcases hgh with ⟨e0, e⟩ | ⟨e0, e⟩
          · have e2 : (h, g) = (l.2, l.1) := by rw [← e]
            rw [e, e2, e0]
            rintro ((z | z) | (⟨z, _⟩ | ⟨z, _⟩))
            · exact ln z
            · exact ln2 z
            · exact absurd z (by decide)
            · exact absurd z (by decide)
          · have e2 : (g, h) = (l.2, l.1) := by rw [← e]
            rw [e, e2, e0]
            rintro ((z | z) | (⟨_, z⟩ | ⟨z, _⟩))
            · exact ln2 z
            · exact ln z
            · have e3 : l.2 = l.1 := (Prod.mk.inj z).1
              have := lk.2.2
              rw [e3] at this
              exact List.lt_irrefl _ this
            · exact absurd z (by decide)
        · show ((g, h) ∈ r.take i ∨ (h, g) ∈ r.take i) ∨ (0 < j + 1 ∧ (g, h) = l) ∨ (1 < j + 1 ∧ (h, g) = l)
          rcases hgh with ⟨e0, e⟩ | ⟨e0, e⟩
          · exact .inr (.inl ⟨by omega, e⟩)
          · exact .inr (.inr ⟨by omega, e⟩)
      · rintro σ H12 ⟨vs', fs, v9, v10, v11, rfl, h12, hd, fo, fl, e12, S12⟩
        refine ⟨vs', fs, _, _, _, _, rfl, h12, hd, fo.mono fun x h => ?_, by omega, e12, S12.mono (by omega)⟩
        rw [tk, List.mem_append, List.mem_append, List.mem_singleton, List.mem_singleton]
        rcases h with (h | h) | (h | h)
        · exact .inl (.inl h)
        · exact .inr (.inl h)
        · exact .inl (.inr h.2)
        · exact .inr (.inr h.2)
    rintro σ H11 ⟨vs', fs, v8, v9, v10, v11, rfl, h11, hd11, fo, fl, e11, S11⟩
    rw [d10.map_len] at fl S11
    have e0b : Ext s H H11 := e10.trans e11
    have hu11 := e11 _ _ us' hu10
    have hP11 := e11 _ _ Ps hP10
    have hL11 := e11 _ _ Lxs hL10
    have d11 := d10.tk (TK.ext e11 S10)
    refine ⟨Nat.zero_le _, fun J hJ => ?_⟩
    have Js := S11.ne hJ
    have Ja := S11.nea hJ
    refine ⟨_, rfl, u, rfl, ⟨_, SqL.of ((same_new hJ) _ _ hu11)⟩, ?_⟩
    refine for_list (K := K) (a := u) (xs := us.map V.str) (fun i σ H' => ∃ (ts : List V) (l : List Si) (v13 : Option V), σ = [some (.ref s), some (.int (m : Int)), some (.ref w), some (.ref u), some (.ref Lx), some (.ref P), some (.ref Z), some (.ref M), v8, v9, v10, v11, some (.ref J), v13] ∧ H' J = some (.lst ts) ∧ DVs K H' (l.map siD) ts ∧ l.map (·.n) = us.take i ∧ (∀ x ∈ l, (tl x.p).length ≤ 200) ∧ Ext s H11 H' ∧ Src H' s a (c + (28000 - 10 * i))) ?_ (fun i σ H' _ h => by obtain ⟨_, _, _, _, _, _, _, _, e, _⟩ := h; exact SqL.of (e _ _ us' hu11)) ?_ ?_
    · exact ⟨[], [], _, rfl, upd_same, dln, rfl, (fun _ h => by cases h), Ext.new hJ, (S11.new hJ).mono (by omega)⟩
    · rintro i x σ H12 hi ⟨ts, l, v13, rfl, h12, hd12, hn, hp, e12, S12⟩
      obtain ⟨nm, hnm, rfl⟩ := map_get hi
      have il := (List.getElem?_eq_some_iff.mp hnm).1
      have ll12 : l.length ≤ 9 := by
        have := congrArg List.length hn
        rw [List.length_map, List.length_take] at this; omega
      refine ⟨_, rfl, .inl ⟨rfl, _, SqL.of h12⟩, _, rfl, ?_⟩
      refine ⟨_, rfl, s, a, _, c + (28000 - 10 * i - 1), rfl, by decide, by decide, S12.mono (by omega), fun ov H13 _ _ x13 S13 => ?_⟩
      refine ⟨_, rfl, by show 1 ≤ sizeLine; decide, fun Q1 hQ1 => ?_⟩
      have n14 := same_new (o := HO.lst [V.str (Str.ofString "*")]) hQ1
      have e13 := (e12.trans x13).trans (Ext.of (s := s) n14)
      have hP14 := e13 _ _ Ps hP11
      refine ⟨_, rfl, Q1, P, _, _, rfl, rfl, upd_same, hP14, by rw [List.length_map]; exact small_le _ (by show 1 + _ ≤ _; omega), fun Q2 hQ2 => ?_⟩
      have n15 := same_new (o := HO.lst ([V.str (Str.ofString "*")] ++ ps.map V.str)) hQ2
      have n145 := n14.trans n15
      have S15 := S13.ext n145
      have hQ15 : (upd (upd H13 Q1 (HO.lst [V.str (Str.ofString "*")])) Q2 (HO.lst ([V.str (Str.ofString "*")] ++ ps.map V.str))) Q2 = some (.lst ((Str.ofString "*" :: ps).map V.str)) := upd_same
      have Q2s := (S13.ext n14).ne hQ2
      have x15 : Ext s H12 (upd (upd H13 Q1 (HO.lst [V.str (Str.ofString "*")])) Q2 (HO.lst ([V.str (Str.ofString "*")] ++ ps.map V.str))) := x13.trans (Ext.of n145)
      generalize upd (upd H13 Q1 (HO.lst [V.str (Str.ofString "*")])) Q2 (HO.lst ([V.str (Str.ofString "*")] ++ ps.map V.str)) = H15 at n145 S15 hQ15 x15 ⊢
      refine .inl ⟨s, a, Q2, (Str.ofString "*" :: ps).map V.str, c + (28000 - 10 * i - 2), rfl, SqL.of hQ15, Q2s, by simp, by rw [List.length_map, List.length_cons]; omega, S15.mono (by omega), fun pv H16 pm x16 S16 => ?_⟩
      obtain ⟨pp, ppm, rfl⟩ := List.mem_map.mp pm
      have ppb : (tl pp).length ≤ 200 := by
        rcases List.mem_cons.mp ppm with e | e
        · rw [e]; decide
        · exact pB pp e
      have x1216 := x15.trans x16
      have h16 := x1216 _ _ Js h12
      have hd16 := hd12.tk (TK.ext x1216 S12)
      refine ⟨by show 6 ≤ sizeLine; decide, fun R hR => ?_⟩
      have n17 := same_new (o := HO.tup [V.str (Str.ofString "site"), V.str nm, V.int ov, V.int 30, V.int 30, V.str pp]) hR
      have h17 := n17 _ _ h16
      refine ⟨J, _, _, rfl, rfl, h17, by rw [hd16.map_len]; exact small_lt _ (by omega), ts ++ [.ref R], l ++ [⟨nm, ov, 30, 30, pp⟩], _, rfl, upd_same, DVs.snoc (hd16.tk ((TK.same n17).trans (tk_put h17))) ⟨R, _, rfl, tk_put h17 _ _ (SqT.of upd_same), dlc (dls _) (dlc (dls _) (dlc (dli _) (dlc (dli _) (dlc (dli _) (dlc (dls _) dln)))))⟩, ?_, fun y hy => ?_, ext_keep hJ ((e12.trans x1216).trans (Ext.of n17)), ((S16.ext n17).put Js Ja).mono (by omega)⟩
      · rw [List.map_append, hn, List.take_add_one, hnm]; rfl
      · rcases List.mem_append.mp hy with e | e
        · exact hp y e
        · rw [List.mem_singleton.mp e]; exact ppb
    rintro σ H12 ⟨ts, l, v13, rfl, h12, hd12, hn, hp, e12, S12⟩
    rw [List.length_map, List.take_length] at hn
    rw [List.length_map] at S12
    refine ⟨by show 2 ≤ sizeLine; decide, fun W hW' => ?_⟩
    have n13 := same_new (o := HO.tup [V.int 1, V.int 3]) hW'
    refine ⟨_, rfl, J, ts, rfl, .inl ⟨SqL.of (n13 _ _ h12), fun T1 hT1 => ?_⟩⟩
    have n14 := same_new (o := HO.tup ts) hT1
    have n134 := n13.trans n14
    refine ⟨_, rfl, Lx, xs, rfl, .inl ⟨SqL.of (n134 _ _ (e12 _ _ Lxs hL11)), fun T2 hT2 => ?_⟩⟩
    have n15 := same_new (o := HO.tup xs) hT2
    have n135 := n134.trans n15
    have S15 := S12.ext n135
    have e1215 : Ext s H11 (upd (upd (upd H12 W (HO.tup [V.int 1, V.int 3])) T1 (HO.tup ts)) T2 (HO.tup xs)) := e12.trans (Ext.of n135)
    have qW := (n14.trans n15) _ _ (upd_same (H := H12) (a := W) (o := HO.tup [V.int 1, V.int 3]))
    have qT1 := n15 _ _ (upd_same (H := upd H12 W (HO.tup [V.int 1, V.int 3])) (a := T1) (o := HO.tup ts))
    have qT2 : (upd (upd (upd H12 W (HO.tup [V.int 1, V.int 3])) T1 (HO.tup ts)) T2 (HO.tup xs)) T2 = some (.tup xs) := upd_same
    have Ws := S12.ne hW'
    have T1s := (S12.ext n13).ne hT1
    have T2s := (S12.ext n134).ne hT2
    generalize upd (upd (upd H12 W (HO.tup [V.int 1, V.int 3])) T1 (HO.tup ts)) T2 (HO.tup xs) = H15 at n135 S15 e1215 qW qT1 qT2 ⊢
    have h15 := e1215 _ _ Ms h11
    have hd15 := hd11.tk (TK.ext e1215 S11)
    have vl := hd15.map_len
    refine ⟨_, rfl, _, rfl, s, a, M, vs', c + 20000, rfl, SqL.of h15, Ms, by omega, S15.mono (by omega), fun D ys H16 hD h16 py x16 S16 => ?_⟩
    obtain ⟨fs', pm, dm⟩ := DVs.perm py (hd15.tk (TK.ext x16 S15))
    refine ⟨D, _, rfl, .inl ⟨SqL.of h16, fun T3 hT3 => ?_⟩⟩
    have n17 := same_new (o := HO.tup ys) hT3
    refine ⟨Nat.zero_le _, fun E1 hE1 => ?_⟩
    have n18 := same_new (o := HO.tup []) hE1
    refine ⟨Nat.zero_le _, fun E2 hE2 => ?_⟩
    have n19 := same_new (o := HO.tup []) hE2
    refine ⟨by show 8 ≤ sizeLine; decide, fun B hB => ?_⟩
    have n20 := same_new (o := HO.tup [V.str (Str.ofString "book"), V.int 9, V.ref W, V.ref T1, V.ref T2, V.ref T3, V.ref E1, V.ref E2]) hB
    have n1720 := n17.trans (n18.trans (n19.trans n20))
    have q3 := (n18.trans (n19.trans n20)) _ _ (upd_same (a := T3) (o := HO.tup ys))
    have q4 := (n19.trans n20) _ _ (upd_same (a := E1) (o := HO.tup []))
    have q5 := n20 _ _ (upd_same (a := E2) (o := HO.tup []))
    have TF := TK.same (K := K) n1720
    have T1516 : TK K H15 H16 := TK.ext x16 S15
    have bl : l.length = us.length := by rw [← hn, List.length_map]
    have pl' := pm.length_eq
    refine q (.ref B) ⟨9, 1, 3, l, r, fs', []⟩ _ ⟨B, _, rfl, SqT.of upd_same, dlc (dls _) (dlc (dli _) (dlc ⟨W, _, rfl, SqT.of (n1720 _ _ (x16 _ _ Ws qW)), dlc (dli _) (dlc (dli _) dln)⟩ (dlc ⟨T1, _, rfl, SqT.of (n1720 _ _ (x16 _ _ T1s qT1)), ((hd12.tk (TK.same n135)).tk T1516).tk TF⟩ (dlc ⟨T2, _, rfl, SqT.of (n1720 _ _ (x16 _ _ T2s qT2)), ((d11.tk (TK.ext e1215 S11)).tk T1516).tk TF⟩ (dlc ⟨T3, _, rfl, SqT.of q3, dm.tk TF⟩ (dlc ⟨E1, _, rfl, SqT.of q4, dln⟩ (dlc ⟨E2, _, rfl, SqT.of q5, dln⟩ dln)))))))⟩ ?_ (by show l.length = m; omega) (by show fs'.length ≤ 60; omega) (((e0b.trans e1215).trans x16).trans (Ext.of n1720)) ((S16.ext n1720).mono (by omega))
    have fm : ∀ f ∈ fs', f ∈ fs := fun f hf => pm.mem_iff.mp hf
    have nmE : nms (⟨9, 1, 3, l, r, fs', []⟩ : Bk) = us := hn
    refine ⟨⟨by show l.length ≤ 10; omega, by show r.length ≤ 30; omega, by show fs'.length ≤ 100; omega, Nat.zero_le _, fun x hx => by have := hp x hx; omega, (fun _ h => by cases h), fun x hx => ?_, fun f hf => ?_⟩, by rw [nmE]; exact uN.1, ?_, ?_, fun f hf => by rw [nmE]; exact ⟨(fo.us f (fm f hf)).1, (fo.us f (fm f hf)).2.1⟩, fun f hf => by have := (fo.us f (fm f hf)).2.2; omega⟩
    · have : x.n ∈ us := by rw [← hn]; exact List.mem_map_of_mem (f := (·.n)) hx
      exact ⟨(uN.2 _ this).1.2, (uN.2 _ this).2⟩
    · exact ⟨(uN.2 _ (fo.us f (fm f hf)).1).1.2, (uN.2 _ (fo.us f (fm f hf)).2.1).1.2⟩
    · intro e
      have e' : l = [] := e
      rw [e'] at bl
      have : us.length = 0 := bl.symm
      omega
    · exact (pm.map fun f => (f.g, f.t)).nodup_iff.mpr fo.nd
end

end Z
namespace Z
open PySem L2 SX
theorem flat_ints (xs : List Int) : (xs.map V.int).all flatV = true := List.all_eq_true.mpr fun x h => by
  obtain ⟨y, _, rfl⟩ := List.mem_map.mp h; rfl
section
variable {P : Program} {w : World} {K : PySem.W.Frag} {mg : Str → Option Value} {base : Heap}
theorem ok__law_kind (D : Df K mg "_law_kind" s__law_kind ["source", "book", "words"]) (T : Tx mg)  (C__law_boards : Cal P w K mg base "_law_boards" ["source", "words", "most"] 5 (sp2__law_boards K)) (C__law_pick : Cal P w K mg base "_law_pick" ["source", "row"] 3 (sp3__law_pick K)) : Cal P w K mg base "_law_kind" ["source", "book", "words"] 6 (sp20_kind K) := by
  obtain ⟨f__law_boards, fd__law_boards, G__law_boards, g__law_boards, k__law_boards, b__law_boards⟩ := C__law_boards
  obtain ⟨f__law_pick, fd__law_pick, G__law_pick, g__law_pick, k__law_pick, b__law_pick⟩ := C__law_pick
  obtain ⟨f, fd, F, gf, bf⟩ := D
  refine ⟨f, fd, F.ok sc__law_kind (fun vs H Q E h => ?_) (fun cdv A outer s₀ H vs Q E hr h => ?_), gf, F.kp, bf⟩
  · obtain ⟨s, a, w, b, v, ws, c, rfl, _⟩ := h; rfl
  · obtain ⟨s, a, w, b, v, ws, c, rfl, hb, nb, hW, wns, hWds, hS, q⟩ := h
    refine ⟨_, (pss_cons (ps_set (i := 3) sc__law_kind.nd rfl (Or.inl rfl) (pe_lst (pa_cons pe_int (pa_cons pe_int (pa_cons pe_int (pa_cons pe_int (pa_cons pe_int (pa_cons pe_int pa_nil))))))))
      (pss_cons (ps_for PassesOwn.never rfl (pi_tup (pe_ix ix_tup (pv 1) pe_int (fun _ _ => rfl))) (pg_name (i := 4) sc__law_kind.nd rfl (Or.inl rfl))
      (pss_one (ps_if (pt_cmpR op_notIn_seq (pe_ix ix_tup (pv 4) pe_int (fun _ _ => rfl)) (pv 3) (by rfl))
        (pss_cons (ps_expr (pe_bm PySem.F.plainAttrs_list PySem.F.slot_list_append PySem.F.type_list_append mt_append (pv 3) (pa_cons (pe_ix ix_tup (pv 4) pe_int (fun _ _ => rfl)) pa_nil)))
          (pss_one (ps_expr (pe_bm PySem.F.plainAttrs_list PySem.F.slot_list_append PySem.F.type_list_append mt_append (pv 3) (pa_cons (pe_op op_add (pe_ix ix_tup (pv 4) pe_int (fun _ _ => rfl)) pe_int) pa_nil)))))
        pss_nil)))
      (pss_cons (ps_set (i := 5) sc__law_kind.nd rfl (Or.inl rfl) (pe_ix ix_tup (pe_call G__law_pick (hr.mono (by decide)) (by rfl) g__law_pick k__law_pick b__law_pick .nil pass0 (pa_cons (pv 0) (pa_cons (pe_ix ix_tup (pv 1) pe_int (fun _ _ => rfl)) pa_nil))) pe_int (fun _ _ => rfl)))
      (pss_one (ps_ret (pe_tup (pa_cons pe_str (pa_cons (pv 5) (pa_cons (pe_call G__law_boards (hr.mono (by decide)) (by rfl) g__law_boards k__law_boards b__law_boards .nil pass0 (pa_cons (pv 0) (pa_cons (pv 2) (pa_cons pe_int pa_nil)))) (pa_cons (pe_call G__law_pick (hr.mono (by decide)) (by rfl) g__law_pick k__law_pick b__law_pick .nil pass0 (pa_cons (pv 0) (pa_cons (pv 3) pa_nil))) pa_nil)))))))))), ?_⟩
    have fl := nb.ok.fd
    have sl := nb.ok.si
    obtain ⟨ba, bus, c3, w3, c5, w5, rfl, hB, e3, e5, hC3, hC5, hw3, hw5⟩ := bk_at hb
    refine ⟨by show 6 ≤ sizeLine; decide, fun Z hZ => ?_⟩
    have Zs := hS.ne hZ
    have Za := hS.nea hZ
    have m0 := same_new (o := HO.lst [V.int 1, V.int 1, V.int 1, V.int 2, V.int 2, V.int 2000]) hZ
    refine ⟨_, rfl, ba, bus, 5, .ref c5, rfl, rfl, m0.tup hB, atI_nat (j := 5) e5, c5, rfl, ⟨_, m0.tup hC5⟩, ?_⟩
    refine for_tup (K := K) (a := c5) (xs := w5) (fun i σ H' => ∃ (zs : List Int) (v4 : Option V), σ = [some (.ref s), some (.ref ba), some (.ref w), some (.ref Z), v4, none] ∧ H' Z = some (.lst (zs.map V.int)) ∧ zs.length ≤ 6 + 2 * i ∧ zs ≠ [] ∧ Same H H') ⟨[1, 1, 1, 2, 2, 2000], _, rfl, upd_same, by show 6 ≤ 6 + 0; decide, by simp, m0⟩ (fun i σ H' _ h => by obtain ⟨_, _, _, _, _, _, m⟩ := h; exact m.tup hC5) ?_ ?_
    · rintro i x σ H1 hi ⟨zs, v4, rfl, h1, zl, zn, m1⟩
      obtain ⟨f', hf, dx⟩ := hw5.map_get hi
      have il := (List.getElem?_eq_some_iff.mp hf).1
      obtain ⟨t, tus, rfl, hT, _, _, _, _, ez⟩ := fd_at (dx.tk (TK.same m1))
      refine ⟨_, rfl, t, _, 5, _, rfl, rfl, hT, atI_nat (j := 5) ez, _, rfl, Z, _, rfl, .inl (SqL.of h1), rfl, flat_ints zs, _, rfl, ite2 (fun _ => ?_) (fun _ => ⟨zs, _, rfl, h1, by omega, zn, m1⟩)⟩
      refine ⟨_, rfl, .inl ⟨rfl, _, SqL.of h1⟩, _, rfl, t, _, 5, _, rfl, rfl, hT, atI_nat (j := 5) ez, Z, _, _, rfl, rfl, h1, by rw [List.length_map]; exact small_lt _ (by omega), ?_⟩
      have h2 : (upd H1 Z (.lst (zs.map V.int ++ [V.int f'.z]))) Z = some (.lst ((zs ++ [f'.z]).map V.int)) := by rw [upd_same, List.map_append]; rfl
      have T2 : SqT K (upd H1 Z (.lst (zs.map V.int ++ [V.int f'.z]))) t tus := tk_put h1 _ _ hT
      have m2 : Same H (upd H1 Z (.lst (zs.map V.int ++ [V.int f'.z]))) := sput m1 hZ
      generalize upd H1 Z (.lst (zs.map V.int ++ [V.int f'.z])) = H2 at h2 T2 m2 ⊢
      refine ⟨_, rfl, .inl ⟨rfl, _, SqL.of h2⟩, _, rfl, t, _, 5, _, rfl, rfl, T2, atI_nat (j := 5) ez, _, _, rfl, rfl, Z, _, _, rfl, rfl, h2, by rw [List.length_map, List.length_append]; exact small_lt _ (by show _ + 1 ≤ _; omega), ?_⟩
      exact ⟨zs ++ [f'.z] ++ [f'.z + 1], _, rfl, by rw [upd_same, List.map_append (l₁ := zs ++ [f'.z])]; rfl, by rw [List.length_append, List.length_append]; show _ + 1 + 1 ≤ _; omega, by simp, sput m2 hZ⟩
    rintro σ H1 ⟨zs, v4, rfl, h1, zl, zn, m1⟩
    have S1 := hS.ext m1
    have wl5 := hw5.map_len
    have wl3 := hw3.map_len
    have w3n : w3 ≠ [] := fun e => nb.ne (List.length_eq_zero_iff.mp (by rw [e] at wl3; exact wl3.symm))
    refine ⟨_, rfl, _, rfl, ba, bus, 3, .ref c3, rfl, rfl, m1.tup hB, atI_nat (j := 3) e3, .inr (.inr ⟨s, a, c3, w3, c + 900, rfl, m1.tup hC3, w3n, by omega, S1.mono (by omega), fun x H2 xm x2 S2 => ?_⟩)⟩
    obtain ⟨i, hi⟩ := List.getElem?_of_mem xm
    obtain ⟨s', hs', dx⟩ := hw3.map_get hi
    have T02 : TK K H H2 := (TK.same m1).trans (TK.ext x2 S1)
    obtain ⟨t, tus, rfl, hT, et, _⟩ := si_at (dx.tk T02)
    refine ⟨t, _, 1, _, rfl, rfl, hT, atI_nat (j := 1) et, ?_⟩
    have e02 : Ext s H H2 := (Ext.of m1).trans x2
    refine ⟨_, rfl, _, rfl, _, rfl, s, a, w, ws, 3, c + 500, rfl, e02.seqL wns hW, wns, hWds, by decide, by decide, S2.mono (by omega), fun tb bs H3 h3 bl bB x3 S3 => ?_⟩
    have h13 := (x2.trans x3) _ _ Zs h1
    have tbs : tb ≠ s := fun e => by obtain ⟨_, hl⟩ := S3.lst; rw [e, hl] at h3; cases h3
    refine ⟨_, rfl, _, rfl, .inl ⟨s, a, Z, zs.map V.int, c + 499, rfl, SqL.of h13, Zs, fun e => zn (List.map_eq_nil_iff.mp e), by rw [List.length_map]; omega, S3.mono (by omega), fun zv H4 zm x4 S4 => ?_⟩⟩
    obtain ⟨z, _, rfl⟩ := List.mem_map.mp zm
    refine ⟨by show 4 ≤ sizeLine; decide, fun R hR => ?_⟩
    have n5 := same_new (o := HO.tup [V.str (Str.ofString "kind"), V.str s'.n, V.ref tb, V.int z]) hR
    refine q (.ref R) ⟨s'.n, bs, z⟩ _ ⟨R, _, rfl, SqT.of upd_same, dlc (dls _) (dlc (dls _) (dlc ⟨tb, _, rfl, SqT.of (n5 _ _ (x4 _ _ tbs h3)), DVs.strs _⟩ (dlc (dli _) dln)))⟩ ⟨by show bs.length ≤ 1000; omega, fun d hd => (bB d hd).1.clean, List.mem_map_of_mem (f := (·.n)) (List.mem_of_getElem? hs')⟩ (((e02.trans x3).trans x4).trans (Ext.of n5)) ((S4.ext n5).mono (by omega))
end

end Z
namespace Z
open PySem L2 SX
set_option maxHeartbeats 1000000
section
variable {P : Program} {w : World} {K : PySem.W.Frag} {mg : Str → Option Value} {base : Heap}
theorem ok_keeps_link (D : Df K mg "keeps_link" s_keeps_link ["label", "bound", "behind"]) (T : Tx mg)   : Cal P w K mg base "keeps_link" ["label", "bound", "behind"] 1 sp22_keeps := by
  obtain ⟨f, fd, F, gf, bf⟩ := D
  refine ⟨f, fd, F.ok sc_keeps_link (fun vs H Q E h => ?_) (fun cdv A outer s₀ H vs Q E hr h => ?_), gf, F.kp, bf⟩
  · obtain ⟨x, y, h, rfl, _⟩ := h; rfl
  · obtain ⟨x, y, h, rfl, q⟩ := h
    refine ⟨_, (pss_cons (ps_if (PW.pt (pw_or (pt_cmpR op_isN (pv 0) pe_non (nomark _)) (pw_or1 (pt_cmpR op_gt (pe_op op_add (pv 0) pe_int) (pv 1) (nomark _)))))
      (pss_one (ps_ret pe_bl))
      pss_nil)
      (pss_one (ps_ret (pe_and (pe_cmpR op_notN (pv 2) pe_non (nomark _)) (pe_one (pe_cmpR op_le (pv 2) (pe_op op_add (pv 0) pe_int) (nomark _))))))), ?_⟩
    cases x with
    | none => exact ⟨_, rfl, rfl, _, rfl, iG rfl (iteT q)⟩
    | some i =>
      refine ⟨_, rfl, rfl, _, rfl, iN rfl ?_⟩
      refine ⟨_, rfl, _, _, rfl, rfl, _, rfl, _, _, rfl, rfl, _, rfl, ite2 (fun c => ?_) (fun c => ?_)⟩
      · have : keepB (some i) h y = true := by
          show (decide (h < i + 1) || _) = true
          rw [c]; rfl
        rw [this] at q; exact q
      cases y with
      | none =>
        have e1 : keepB (some i) h none = false := by
          show (decide (h < i + 1) || false) = _
          rw [Bool.eq_false_iff.mpr c]; rfl
        rw [e1] at q
        exact ⟨_, rfl, rfl, _, rfl, iN rfl q⟩
      | some j =>
        have e1 : keepB (some i) h (some j) = decide (j ≤ i + 1) := by
          show (decide (h < i + 1) || decide (j ≤ i + 1)) = _
          rw [Bool.eq_false_iff.mpr c]; rfl
        rw [e1] at q
        exact ⟨_, rfl, rfl, _, rfl, iG rfl ⟨_, rfl, _, rfl, _, _, rfl, rfl, _, _, rfl, rfl, q⟩⟩
end
section
variable {P : Program} {w : World} {K : PySem.W.Frag} {mg : Str → Option Value} {base : Heap}
theorem ok_judge_labels (D : Df K mg "judge_labels" s_judge_labels ["book", "kind", "labels"]) (T : Tx mg)  (C_book_sight : Cal P w K mg base "book_sight" ["book", "boards"] 8 (sp_bsight K)) (C_carriers : Cal P w K mg base "carriers" ["book", "seen"] 1 (sp_carriers K)) (C_keeps_link : Cal P w K mg base "keeps_link" ["label", "bound", "behind"] 1 sp22_keeps) (C_links_of : Cal P w K mg base "links_of" ["book", "seen", "size"] 2 (sp_links K)) : Cal P w K mg base "judge_labels" ["book", "kind", "labels"] 9 (sp22_judge K) := by
  obtain ⟨f_book_sight, fd_book_sight, G_book_sight, g_book_sight, k_book_sight, b_book_sight⟩ := C_book_sight
  obtain ⟨f_carriers, fd_carriers, G_carriers, g_carriers, k_carriers, b_carriers⟩ := C_carriers
  obtain ⟨f_keeps_link, fd_keeps_link, G_keeps_link, g_keeps_link, k_keeps_link, b_keeps_link⟩ := C_keeps_link
  obtain ⟨f_links_of, fd_links_of, G_links_of, g_links_of, k_links_of, b_links_of⟩ := C_links_of
  obtain ⟨f, fd, F, gf, bf⟩ := D
  refine ⟨f, fd, F.ok sc_judge_labels (fun vs H Q E h => ?_) (fun cdv A outer s₀ H vs Q E hr h => ?_), gf, F.kp, bf⟩
  · obtain ⟨b, v, u, k, t, lab, rfl, _⟩ := h; rfl
  · obtain ⟨b, v, u, k, t, lab, rfl, hb, nb, hk, kok, ht, ll, q⟩ := h
    refine ⟨_, (pss_cons (ps_setLc (i := 3) (own := [("entry", 7)]) (g := gName 7) (tt := tYes) rfl sc_judge_labels.nd rfl rfl (sw_true rfl rfl rfl (by decide +kernel)) (pi_tup (pe_ix ix_tup (pv 0) pe_int (fun _ _ => rfl))) (blkOk_by (own := [("entry", 7)]) (N := N_judge_labels) (sc := defScope s_judge_labels) (by decide +kernel)) (fun _ _ _ _ _ => pg_name (i := 7) sc_judge_labels.nd rfl (Or.inl rfl)) (fun _ _ _ _ _ => pts_nil) (fun _ _ _ _ _ => (pe_ix (ix_tupQ (K := K) rfl) (pv 7) pe_int (fun _ _ => rfl))))
      (pss_cons (ps_if (PW.pt (pw_or (pt_cmpR op_ne (pe_callB call_len_seq (by rfl) T.n_len PySem.boot_len (pa_cons (pv 2) pa_nil)) (pe_callB call_len_seq (by rfl) T.n_len PySem.boot_len (pa_cons (pv 3) pa_nil)) (nomark _)) (pw_or1 (pt_not (pt_val (pe_callB (cr_all rfl) (by rfl) T.n_all (by decide +kernel) (pa_cons (pe_lc (own := [("label", 11)]) (g := gName 11) (tt := tYes) rfl sc_judge_labels.nd (pi_tup (pv 2)) (blkOk_by (own := [("label", 11)]) (N := N_judge_labels) (sc := defScope s_judge_labels) (by decide +kernel)) (fun _ _ _ _ _ => pg_name (i := 11) sc_judge_labels.nd rfl (Or.inl rfl)) (fun _ _ _ _ _ => pts_nil) (fun _ _ _ _ _ => (pe_or (pe_cmpR op_isN (pv 11) pe_non (nomark _)) (pe_one (pe_cmpR op_ge (pv 11) pe_int (nomark _)))))) pa_nil)))))))
      (pss_one (ps_ret pe_bl))
      pss_nil)
      (pss_cons (ps_set (i := 4) sc_judge_labels.nd rfl (Or.inr rfl) (pe_dictZ rfl (by rfl) T.n_dict (by rfl) T.n_zip (pa_cons (pv 3) (pa_cons (pv 2) pa_nil))))
      (pss_cons (ps_set (i := 5) sc_judge_labels.nd rfl (Or.inl rfl) (pe_call G_book_sight (hr.mono (by decide)) (by rfl) g_book_sight k_book_sight b_book_sight .nil pass0 (pa_cons (pv 0) (pa_cons (pe_ix ix_tup (pv 1) pe_int (fun _ _ => rfl)) pa_nil))))
      (C8.pss_cut (ps_if (PW.pt (pw_and (pt_cmpR op_in_seq (pe_ix ix_tup (pv 1) pe_int (fun _ _ => rfl)) (pe_call G_carriers (hr.mono (by decide)) (by rfl) g_carriers k_carriers b_carriers .nil pass0 (pa_cons (pv 0) (pa_cons (pv 5) pa_nil))) (by rfl)) (pw_and1 (pt_cmpR op_ne (pe_dget (hu_of hr) (pv 4) (pe_ix ix_tup (pv 1) pe_int (fun _ _ => rfl)) (fun _ _ => rfl)) pe_int (nomark _)))))
      (pss_one (ps_ret pe_bl))
      pss_nil)
      (pss_cons (ps_set (i := 6) sc_judge_labels.nd rfl (Or.inl rfl) (pe_call G_links_of (hr.mono (by decide)) (by rfl) g_links_of k_links_of b_links_of .nil pass0 (pa_cons (pv 0) (pa_cons (pv 5) (pa_cons (pe_ix ix_tup (pv 1) pe_int (fun _ _ => rfl)) pa_nil)))))
      (pss_one (ps_ret (pe_callB (cr_all rfl) (by rfl) T.n_all (by decide +kernel) (pa_cons (pe_lc (own := [("giver", 8), ("taker", 9), ("bound", 10)]) (g := gTup K 3 (gCons (gName 8) (gCons (gName 9) (gCons (gName 10) gNil)))) (tt := tYes) rfl sc_judge_labels.nd (pi_tup (pv 6)) (blkOk_by (own := [("giver", 8), ("taker", 9), ("bound", 10)]) (N := N_judge_labels) (sc := defScope s_judge_labels) (by decide +kernel)) (fun _ _ _ _ _ => (pg_tup rfl (pgs_cons (pg_name (i := 8) sc_judge_labels.nd rfl (Or.inl rfl)) (pgs_cons (pg_name (i := 9) sc_judge_labels.nd rfl (Or.inl rfl)) (pgs_cons (pg_name (i := 10) sc_judge_labels.nd rfl (Or.inl rfl)) pgs_nil))))) (fun _ _ _ _ _ => pts_nil) (fun _ _ _ _ _ => (pe_call G_keeps_link (hr.mono (by decide)) (by rfl) g_keeps_link k_keeps_link b_keeps_link .nil pass0 (pa_cons (pe_dget (hu_of hr) (pv 4) (pv 8) (fun _ _ => rfl)) (pa_cons (pv 10) (pa_cons (pe_dget (hu_of hr) (pv 4) (pv 9) (fun _ _ => rfl)) pa_nil)))))) pa_nil)))))))))), ?_⟩
    have hk0 := hk
    obtain ⟨ka, kus, rfl, hK, dK⟩ := hk
    obtain ⟨u0, r0, rfl, d0, dK⟩ := dK
    obtain ⟨u1, r1, rfl, d1, dK⟩ := dK
    obtain ⟨u2, r2, rfl, d2, dK⟩ := dK
    obtain ⟨u3, r3, rfl, d3, dK⟩ := dK
    unfold DV at d1 d3
    subst d1
    subst d3
    obtain ⟨bsa, bsu, rfl, hBs, dBs⟩ := d2
    have eb := dvs_strs dBs
    subst eb
    have hb0 := hb
    obtain ⟨ba, bus, c3, w3, c5, w5, rfl, hB, e3, e5, hC3, hC5, hw3, hw5⟩ := bk_at hb
    have sl := nb.ok.si
    have fl := nb.ok.fd
    have wl3 := hw3.map_len
    have nl : (nms b).length = b.si.length := List.length_map _
    refine ⟨_, rfl, ba, bus, 3, .ref c3, rfl, rfl, hB, atI_nat (j := 3) e3, c3, rfl, ⟨_, hC3⟩, fun N hN => ?_⟩
    refine lc_tup (K := K) (a := c3) (xs := w3) (fun i H' => H' N = some (.lst (((nms b).take i).map V.str)) ∧ Same H H') ⟨by rw [upd_same]; rfl, same_new hN⟩ (fun i H' _ h => h.2.tup hC3) ?_ ?_
    · rintro i u H1 hi ⟨h1, m1⟩
      obtain ⟨x, hx, dx⟩ := hw3.map_get hi
      have il := (List.getElem?_eq_some_iff.mp hx).1
      obtain ⟨t, tus, rfl, hT, et, _⟩ := si_at (dx.tk (TK.same m1))
      have en : (nms b)[i]? = some x.n := by unfold nms; rw [List.getElem?_map, hx]; rfl
      refine ⟨rfl, _, rfl, t, _, 1, _, rfl, rfl, hT, atI_nat (j := 1) et, _, h1, ?_, ?_, sput m1 hN⟩
      · rw [List.length_map, List.length_take]; exact small_lt _ (by omega)
      · rw [upd_same, List.take_add_one, en, List.map_append]; rfl
    rintro H1 ⟨h1, m1⟩
    rw [wl3, ← nl, List.take_length] at h1
    have no : ∀ H', Same H H' → ¬ JL b k lab → Q (.bl false) H' := fun H' m h => by
      have := q H' m
      rwa [show jlB b k lab = false from cB_f h] at this
    refine ⟨_, rfl, t, _, rfl, .inr (m1.tup ht), _, rfl, N, _, rfl, .inl (SqL.of h1), rfl, _, rfl, ite2 (fun c => iteT (no _ m1 fun h => ?_)) (fun c => ?_)⟩
    · have c' : (!decide (V.int ((lab.map lbV).length : Nat) = V.int (((nms b).map V.str).length : Nat))) = true := c
      rw [List.length_map, List.length_map, nl, h.ln] at c'
      simp at c'
    have el : lab.length = b.si.length := by
      by_cases e : lab.length = b.si.length
      · exact e
      · exact absurd (show (!decide (V.int ((lab.map lbV).length : Nat) = V.int (((nms b).map V.str).length : Nat))) = true by
          rw [List.length_map, List.length_map, nl, Bool.not_eq_true', decide_eq_false_iff_not]
          intro h; have := V.int.inj h; omega) c
    -- no one is negative
    refine ⟨_, rfl, t, rfl, ⟨_, m1.tup ht⟩, fun M hM => ?_⟩
    refine lc_tup (K := K) (a := t) (xs := lab.map lbV) (fun i H' => H' M = some (.lst (((lab.take i).map fun x => x.all fun i => decide (0 ≤ i)).map V.bl)) ∧ Same H1 H') ⟨upd_same, same_new hM⟩ (fun i H' _ h => (m1.trans h.2).tup ht) ?_ ?_
    · rintro i x H2 hi ⟨h2, m2⟩
      rw [List.getElem?_map] at hi
      cases ex : lab[i]? with
      | none => rw [ex] at hi; cases hi
      | some y =>
        rw [ex] at hi
        obtain rfl : lbV y = x := Option.some.inj hi
        have il := (List.getElem?_eq_some_iff.mp ex).1
        have fin : ∀ c : Bool, c = y.all (fun i => decide (0 ≤ i)) → ∃ acc, H2 M = some (.lst acc) ∧ acc.length < sizeLine ∧ (upd H2 M (.lst (acc ++ [V.bl c]))) M = some (.lst (((lab.take (i + 1)).map fun x => x.all fun i => decide (0 ≤ i)).map V.bl)) ∧ Same H1 (upd H2 M (.lst (acc ++ [V.bl c]))) := fun c e => by
          refine ⟨_, h2, ?_, ?_, sput m2 hM⟩
          · rw [List.length_map, List.length_map, List.length_take]; exact small_lt _ (by omega)
          · rw [upd_same, List.take_add_one, ex, List.map_append, List.map_append, e]; rfl
        cases y with
        | none => exact ⟨rfl, _, rfl, rfl, _, rfl, iG rfl (fin _ rfl)⟩
        | some j => exact ⟨rfl, _, rfl, rfl, _, rfl, iN rfl ⟨_, rfl, _, _, rfl, rfl, fin _ rfl⟩⟩
    rintro H2 ⟨h2, m2⟩
    rw [List.length_map, List.take_length] at h2
    have m12 := m1.trans m2
    have hN2 := m2 _ _ h1
    have ea : ((lab.map fun x => x.all fun i => decide (0 ≤ i)).all id) = true ↔ ∀ x ∈ lab, ∀ i, x = some i → 0 ≤ i := by
      rw [List.all_eq_true]
      constructor
      · rintro h x hx i rfl
        have := h _ (List.mem_map_of_mem (f := fun x : Lb => x.all fun i => decide (0 ≤ i)) hx)
        exact of_decide_eq_true this
      · rintro h y hy
        obtain ⟨x, hx, rfl⟩ := List.mem_map.mp hy
        cases x with
        | none => rfl
        | some i => exact decide_eq_true (h _ hx i rfl)
    refine ⟨M, _, rfl, SqL.of h2, _, rfl, ?_⟩
    by_cases c2 : ∀ x ∈ lab, ∀ i, x = some i → 0 ≤ i
    rotate_left
    · rw [Bool.eq_false_iff.mpr fun h => c2 (ea.mp h)]
      exact iteT (no _ m12 fun h => c2 h.nn)
    rw [ea.mpr c2]
    refine iteF ?_
    -- the dict
    refine ⟨_, rfl, _, rfl, N, t, nms b, lab.map lbV, rfl, SqL.of hN2, m12.tup ht, by rw [List.length_map]; omega, fun P hP => ?_⟩
    have ek : mergeK [] (((nms b).zip (lab.map lbV)).map fun z => ((Sum.inr z.1 : Key), z.2)) = kvN (nms b) (lab.map lbV) := kvN_merge nb.nd
    rw [ek]
    have m3 := same_new (o := HO.dK (kvN (nms b) (lab.map lbV))) hP
    have hP3 : (upd H2 P (HO.dK (kvN (nms b) (lab.map lbV)))) P = some (.dK (kvN (nms b) (lab.map lbV))) := upd_same
    have m13 := m12.trans m3
    generalize upd H2 P (HO.dK (kvN (nms b) (lab.map lbV))) = H3 at m3 hP3 m13 ⊢
    have look : ∀ y ∈ nms b, valV (kvN (nms b) (lab.map lbV)) (Sum.inr y : Key) = some (lbV (labAt (nms b) lab y)) := fun y hy => by
      obtain ⟨j, x, j1, j2⟩ := lab_ex (lab := lab) (by rw [el, nl]) hy
      rw [labAt_get nb.nd j1 j2]
      exact kvN_val nb.nd j1 (by rw [List.getElem?_map, j2]; rfl)
    refine ⟨_, rfl, _, rfl, ka, _, 2, _, rfl, rfl, m13.tup hK, atI_nat (j := 2) rfl, b, .ref ba, bsa, k.bs, rfl, hb0.tk (TK.same m13), nb, m13.tup hBs, kok.bl, kok.bc, fun sn H4 m4 hsn => ?_⟩
    have m14 := m13.trans m4
    refine ⟨fun σ' H' => σ' = [some (.ref ba), some (.ref ka), some (.ref t), some (.ref N), some (.ref P), some (.ref sn), none, none, none, none, none, none] ∧ Same H4 H' ∧ (k.o ∈ carL b k.bs → labAt (nms b) lab k.o = some 0), ?_, ?_⟩
    rotate_left
    · rintro σ' H5 ⟨rfl, m45, og⟩
      have m15 := m14.trans m45
      have hP5 := (m4.trans m45) _ _ hP3
      refine ⟨_, rfl, _, rfl, _, rfl, ka, _, 3, _, rfl, rfl, m15.tup hK, atI_nat (j := 3) rfl, b, .ref ba, sn, k.bs, k.z, rfl, hb0.tk (TK.same m15), nb, m45.tup hsn, fun lk H6 m6 hlk => ?_⟩
      have m16 := m15.trans m6
      have hP6 := m6 _ _ hP5
      obtain ⟨la, lus, rfl, hLa, dLa⟩ := hlk
      have lul := dLa.map_len
      have lkl := lk_len b k.bs k.z
      refine ⟨_, rfl, la, rfl, ⟨_, hLa⟩, fun Z hZ => ?_⟩
      refine lc_tup (K := K) (a := la) (xs := lus) (fun i H' => H' Z = some (.lst ((((lkL b k.bs k.z).take i).map fun l => keepB (labAt (nms b) lab l.1) l.2.2 (labAt (nms b) lab l.2.1)).map V.bl)) ∧ Same H6 H') ⟨upd_same, same_new hZ⟩ (fun i H' _ h => h.2.tup hLa) ?_ ?_
      · rintro i x H7 hi ⟨h7, m7⟩
        obtain ⟨l, hl, dx⟩ := dLa.map_get hi
        obtain ⟨x1, x2, xh⟩ := l
        have il := (List.getElem?_eq_some_iff.mp hl).1
        obtain ⟨g1, g2⟩ := lk_of nb (List.mem_of_getElem? hl)
        obtain ⟨ea', eus, rfl, hE, dE⟩ := dx.tk (TK.same m7)
        obtain ⟨v0, q0, rfl, z0, dE⟩ := dE
        obtain ⟨v1, q1, rfl, z1, dE⟩ := dE
        obtain ⟨v2, q2, rfl, z2, dE⟩ := dE
        unfold DVs at dE
        unfold DV at z0 z1 z2
        subst z0; subst z1; subst z2; subst dE
        have gk1 := DGet.k (k := (Sum.inr x1 : Key)) (m7 _ _ hP6)
        have gk2 := DGet.k (k := (Sum.inr x2 : Key)) (m7 _ _ hP6)
        rw [look _ g1] at gk1
        rw [look _ g2] at gk2
        refine ⟨ea', _, rfl, hE, rfl, _, _, rfl, _, _, rfl, _, _, rfl, rfl, rfl, _, rfl, _, rfl, P, _, rfl, gk1, _, rfl, _, rfl, _, rfl, P, _, rfl, gk2, labAt (nms b) lab x1, labAt (nms b) lab x2, xh, rfl, _, h7, ?_, ?_, sput m7 hZ⟩
        · rw [List.length_map, List.length_map, List.length_take]; exact small_lt _ (by omega)
        · rw [upd_same, List.take_add_one, hl, List.map_append, List.map_append]; rfl
      rintro H7 ⟨h7, m7⟩
      rw [lul, List.take_length] at h7
      refine ⟨Z, _, rfl, SqL.of h7, ?_⟩
      have := q H7 (m16.trans m7)
      have e : ((lkL b k.bs k.z).map fun l => keepB (labAt (nms b) lab l.1) l.2.2 (labAt (nms b) lab l.2.1)).all id = jlB b k lab := by
        unfold jlB
        rw [Bool.eq_iff_iff, cB_iff, List.all_eq_true]
        constructor
        · intro h
          exact ⟨el, c2, og, fun l hl => h _ (List.mem_map_of_mem (f := fun l : Str × Str × Int => keepB (labAt (nms b) lab l.1) l.2.2 (labAt (nms b) lab l.2.1)) hl)⟩
        · rintro h y hy
          obtain ⟨l, hl, rfl⟩ := List.mem_map.mp hy
          exact h.lk l hl
      rw [e]; exact this


    refine ⟨_, rfl, ka, _, 1, _, rfl, rfl, m14.tup hK, atI_nat (j := 1) rfl, _, rfl, _, rfl, b, .ref ba, sn, k.bs, rfl, hb0.tk (TK.same m14), nb, hsn, fun p H5 hp m5 h5 => ?_⟩
    have m15 := m14.trans m5
    have hP5 := (m4.trans m5) _ _ hP3
    refine ⟨p, _, rfl, .inl (SqL.of h5), rfl, flat_strs _, _, rfl, ?_⟩
    rw [show (if false = true then !inV (V.str k.o) ((carL b k.bs).map V.str) else inV (V.str k.o) ((carL b k.bs).map V.str)) = decide (k.o ∈ carL b k.bs) by rw [if_neg Bool.false_ne_true, inV_strs]]
    by_cases c4 : k.o ∈ carL b k.bs
    · have gk := DGet.k (k := (Sum.inr k.o : Key)) hP5
      rw [look _ kok.on] at gk
      refine iG (decide_eq_true c4) ⟨_, rfl, _, rfl, ka, _, 1, _, rfl, rfl, m15.tup hK, atI_nat (j := 1) rfl, P, _, rfl, gk, lb_scal _ _, _, rfl, ?_⟩
      by_cases c5 : labAt (nms b) lab k.o ≠ some 0
      · exact iG ((lb_ne0 _).mpr c5) (no _ m15 fun h => c5 (h.og c4))
      exact iN (Bool.eq_false_iff.mpr fun h => c5 ((lb_ne0 _).mp h)) ⟨rfl, m5, fun _ => Classical.not_not.mp c5⟩
    exact iN (decide_eq_false c4) (iteF ⟨rfl, m5, fun c => absurd c c4⟩)
end
section
variable {P : Program} {w : World} {K : PySem.W.Frag} {mg : Str → Option Value} {base : Heap}
theorem ok__law_wide (D : Df K mg "_law_wide" s__law_wide ["book", "kind"]) (T : Tx mg)  (C__law_lets_some : Cal P w K mg base "_law_lets_some" ["pattern", "boards"] 3 (sp__law_lets_some K)) : Cal P w K mg base "_law_wide" ["book", "kind"] 4 (sp22_wide K) := by
  obtain ⟨f__law_lets_some, fd__law_lets_some, G__law_lets_some, g__law_lets_some, k__law_lets_some, b__law_lets_some⟩ := C__law_lets_some
  obtain ⟨f, fd, F, gf, bf⟩ := D
  refine ⟨f, fd, F.ok sc__law_wide (fun vs H Q E h => ?_) (fun cdv A outer s₀ H vs Q E hr h => ?_), gf, F.kp, bf⟩
  · obtain ⟨b, v, u, k, rfl, _⟩ := h; rfl
  · obtain ⟨b, v, u, k, rfl, hb, nb, hk, kok, q⟩ := h
    refine ⟨_, (pss_cons (ps_set (i := 2) sc__law_wide.nd rfl (Or.inr rfl) (pe_lc (own := [("site", 4)]) (g := gName 4) rfl sc__law_wide.nd (pi_tup (pe_ix ix_tup (pv 0) pe_int (fun _ _ => rfl))) (blkOk_by (own := [("site", 4)]) (N := N__law_wide) (sc := defScope s__law_wide) (by decide +kernel)) (fun _ _ _ _ _ => pg_name (i := 4) sc__law_wide.nd rfl (Or.inl rfl)) (fun _ _ _ _ _ => pts_one (pt_val (pe_call G__law_lets_some (hr.mono (by decide)) (by rfl) g__law_lets_some k__law_lets_some b__law_lets_some .nil pass0 (pa_cons (pe_ix (ix_tupQ (K := K) rfl) (pv 4) pe_int (fun _ _ => rfl)) (pa_cons (pe_ix (ix_tupQ (K := K) rfl) (pv 1) pe_int (fun _ _ => rfl)) pa_nil))))) (fun _ _ _ _ _ => (pe_ix (ix_tupQ (K := K) rfl) (pv 4) pe_int (fun _ _ => rfl)))))
      (pss_cons (ps_setLc (i := 3) (own := [("feed", 5)]) (g := gName 5) rfl sc__law_wide.nd rfl rfl (sw_true rfl rfl rfl (by decide +kernel)) (pi_tup (pe_ix ix_tup (pv 0) pe_int (fun _ _ => rfl))) (blkOk_by (own := [("feed", 5)]) (N := N__law_wide) (sc := defScope s__law_wide) (by decide +kernel)) (fun _ _ _ _ _ => pg_name (i := 5) sc__law_wide.nd rfl (Or.inl rfl)) (fun _ _ _ _ _ => pts_one (PW.pt (pw_and (pt_cmpR (in_seqQ (K := K) rfl) (pe_ix (ix_tupQ (K := K) rfl) (pv 5) pe_int (fun _ _ => rfl)) (pv 2) (by rfl)) (pw_and (pt_cmpR op_le (pe_ix (ix_tupQ (K := K) rfl) (pv 1) pe_int (fun _ _ => rfl)) (pe_ix (ix_tupQ (K := K) rfl) (pv 5) pe_int (fun _ _ => rfl)) (nomark _)) (pw_and1 (pt_val (pe_call G__law_lets_some (hr.mono (by decide)) (by rfl) g__law_lets_some k__law_lets_some b__law_lets_some .nil pass0 (pa_cons (pe_ix (ix_tupQ (K := K) rfl) (pv 5) pe_int (fun _ _ => rfl)) (pa_cons (pe_ix (ix_tupQ (K := K) rfl) (pv 1) pe_int (fun _ _ => rfl)) pa_nil))))))))) (fun _ _ _ _ _ => (pv 5)))
      (pss_one (ps_ret (pe_tup (pa_cons (pe_cmpR op_in_seq (pe_ix ix_tup (pv 1) pe_int (fun _ _ => rfl)) (pv 2) (by rfl)) (pa_cons (pv 3) pa_nil))))))), ?_⟩
    obtain ⟨ba, bus, c3, w3, c5, w5, rfl, hB, e3, e5, hC3, hC5, hw3, hw5⟩ := bk_at hb
    have sl := nb.ok.si
    have fl := nb.ok.fd
    obtain ⟨ka, kus, rfl, hK, dK⟩ := hk
    obtain ⟨u0, r0, rfl, d0, dK⟩ := dK
    obtain ⟨u1, r1, rfl, d1, dK⟩ := dK
    obtain ⟨u2, r2, rfl, d2, dK⟩ := dK
    obtain ⟨u3, r3, rfl, d3, dK⟩ := dK
    unfold DV at d1 d3
    subst d1
    subst d3
    obtain ⟨bsa, bsu, rfl, hBs, dBs⟩ := d2
    have eb := dvs_strs dBs
    subst eb
    refine ⟨_, rfl, ba, bus, 3, .ref c3, rfl, rfl, hB, atI_nat (j := 3) e3, c3, rfl, ⟨_, hC3⟩, fun C hC => ?_⟩
    refine lc_tup (K := K) (a := c3) (xs := w3) (fun i H' => H' C = some (.lst ((((b.si.take i).filter fun s => letsP s.p k.bs).map (·.n)).map V.str)) ∧ Same H H') ⟨upd_same, same_new hC⟩ (fun i H' _ h => h.2.tup hC3) ?_ ?_
    · rintro i u H1 hi ⟨h1, m1⟩
      obtain ⟨x, hx, dx⟩ := hw3.map_get hi
      have il := (List.getElem?_eq_some_iff.mp hx).1
      obtain ⟨t, tus, rfl, hT, et, ep⟩ := si_at (dx.tk (TK.same m1))
      have fs := filt_step2 (p := fun s : Si => letsP s.p k.bs) hx
      refine ⟨rfl, _, rfl, t, _, 5, _, rfl, rfl, hT, atI_nat (j := 5) ep, _, rfl, ka, _, 2, _, rfl, rfl, m1.tup hK, atI_nat (j := 2) rfl, x.p, bsa, k.bs, rfl, m1.tup hBs, nb.ok.sp x (List.mem_of_getElem? hx), kok.bl, kok.bc, fun H2 m2 => ?_⟩
      have m12 := m1.trans m2
      refine ⟨_, rfl, ?_⟩
      by_cases c : letsP x.p k.bs = true
      · rw [if_pos c] at fs
        refine iG c ⟨_, rfl, t, _, 1, _, rfl, rfl, m2.tup hT, atI_nat (j := 1) et, _, m2 _ _ h1, ?_, ?_, sput m12 hC⟩
        · rw [List.length_map, List.length_map]
          have := lets_len (b := b) (bs := k.bs) (i := i)
          exact small_lt _ (by omega)
        · rw [upd_same, fs, List.map_append, List.map_append]; rfl
      · rw [if_neg c, List.append_nil] at fs
        exact iN (Bool.eq_false_iff.mpr c) ⟨by rw [m2 _ _ h1, fs], m12⟩
    rintro H1 ⟨h1, m1⟩
    have wl := hw3.map_len
    have wl5 := hw5.map_len
    rw [wl, List.take_length] at h1
    have h1 : H1 C = some (.lst ((carL b k.bs).map V.str)) := h1
    refine ⟨_, rfl, ba, bus, 5, .ref c5, rfl, rfl, m1.tup hB, atI_nat (j := 5) e5, c5, rfl, ⟨_, m1.tup hC5⟩, fun G hG => ?_⟩
    have gH : H G = none := Same.free m1 hG
    have CG : C ≠ G := ne_of_none h1 hG
    let okf : Fd → Bool := fun f => letsP f.p k.bs && decide (k.z ≤ f.z) && decide (f.t ∈ carL b k.bs)
    refine lc_tup (K := K) (a := c5) (xs := w5) (fun i H' => ∃ us, H' G = some (.lst us) ∧ DVs K H' (((b.fd.take i).filter okf).map fdD) us ∧ H' C = some (.lst ((carL b k.bs).map V.str)) ∧ Same H H') ⟨[], upd_same, dln, (same_new hG) _ _ h1, m1.trans (same_new hG)⟩ (fun i H' _ h => by obtain ⟨_, _, _, _, m⟩ := h; exact m.tup hC5) ?_ ?_
    · rintro i u H2 hi ⟨us, h2, hd2, hc2, m2⟩
      obtain ⟨x, hx, dx⟩ := hw5.map_get hi
      have il := (List.getElem?_eq_some_iff.mp hx).1
      have dx2 := dx.tk (TK.same m2)
      obtain ⟨t, tus, rfl, hT, et1, et2, et3, et4, et5⟩ := fd_at dx2
      have fs := filt_step2 (p := okf) hx
      have nope : ∀ H3, Same H2 H3 → okf x = false → ∃ us, H3 G = some (.lst us) ∧ DVs K H3 (((b.fd.take (i + 1)).filter okf).map fdD) us ∧ H3 C = some (.lst ((carL b k.bs).map V.str)) ∧ Same H H3 := fun H3 m3 e => ⟨us, m3 _ _ h2, by rw [fs, if_neg (by rw [e]; exact Bool.false_ne_true), List.append_nil]; exact hd2.tk (TK.same m3), m3 _ _ hc2, m2.trans m3⟩
      refine ⟨rfl, _, rfl, t, _, 2, _, rfl, rfl, hT, atI_nat (j := 2) et2, _, rfl, C, _, rfl, .inl (SqL.of hc2), rfl, flat_strs _, _, rfl, ?_⟩
      rw [show (if false = true then !inV (V.str x.t) ((carL b k.bs).map V.str) else inV (V.str x.t) ((carL b k.bs).map V.str)) = decide (x.t ∈ carL b k.bs) by rw [if_neg Bool.false_ne_true, inV_strs]]
      refine ite2 (fun c9 => ?_) (fun c9 => iteF (nope _ (fun _ _ h => h) (by show (_ && _ && decide (x.t ∈ carL b k.bs)) = false; rw [Bool.eq_false_iff.mpr c9, Bool.and_false])))
      refine ⟨_, rfl, ka, _, 3, _, rfl, rfl, (m2).tup hK, atI_nat (j := 3) rfl, _, rfl, t, _, 5, _, rfl, rfl, hT, atI_nat (j := 5) et5, k.z, x.z, rfl, rfl, _, rfl, ?_⟩
      refine ite2 (fun c2 => ?_) (fun c2 => iteF (nope _ (fun _ _ h => h) (by show (_ && decide (k.z ≤ x.z) && _) = false; rw [Bool.eq_false_iff.mpr c2, Bool.and_false, Bool.false_and])))
      refine ⟨_, rfl, t, _, 3, _, rfl, rfl, hT, atI_nat (j := 3) et3, _, rfl, ka, _, 2, _, rfl, rfl, m2.tup hK, atI_nat (j := 2) rfl, x.p, bsa, k.bs, rfl, m2.tup hBs, nb.fp x (List.mem_of_getElem? hx), kok.bl, kok.bc, fun H3 m3 => ?_⟩
      refine ⟨_, rfl, ?_⟩
      by_cases c : letsP x.p k.bs = true
      rotate_left
      · exact iN (Bool.eq_false_iff.mpr c) (nope _ m3 (by show (letsP x.p k.bs && _ && _) = false; rw [Bool.eq_false_iff.mpr c]; rfl))
      have yes : okf x = true := by show (letsP x.p k.bs && decide (k.z ≤ x.z) && decide (x.t ∈ carL b k.bs)) = true; rw [c, c2, c9]; rfl
      rw [yes, if_pos rfl] at fs
      have h3 := m3 _ _ h2
      have vl := hd2.map_len
      have ll := List.length_filter_le okf (b.fd.take i)
      rw [List.length_take] at ll
      refine iG c ⟨_, rfl, us, h3, small_lt _ (by omega), us ++ [V.ref t], upd_same, ?_, by rw [upd_ne CG]; exact m3 _ _ hc2, sput (m2.trans m3) gH⟩
      rw [fs]
      have T3 := (TK.same (K := K) m3).trans (tk_put h3 (o := HO.lst (us ++ [V.ref t])))
      exact DVs.snoc (hd2.tk T3) (dx2.tk T3)
    rintro H2 ⟨fus, h2, hd2, hc2, m2⟩
    rw [wl5, List.take_length] at hd2
    have eL : lkL b k.bs k.z = (b.fd.filter okf).map fun f => (f.g, f.t, f.h) := rfl
    have fll : (b.fd.filter okf).length ≤ 100 := Nat.le_trans (List.length_filter_le _ _) fl
    generalize b.fd.filter okf = fs at hd2 eL fll
    refine ⟨_, rfl, ka, _, 1, _, rfl, rfl, m2.tup hK, atI_nat (j := 1) rfl, _, rfl, C, _, rfl, .inl (SqL.of hc2), rfl, flat_strs _, _, rfl, by show 2 ≤ sizeLine; decide, fun T hT => ?_⟩
    rw [show (if false = true then !inV (V.str k.o) ((carL b k.bs).map V.str) else inV (V.str k.o) ((carL b k.bs).map V.str)) = decide (k.o ∈ carL b k.bs) by rw [if_neg Bool.false_ne_true, inV_strs]]
    have n3 := same_new (o := HO.tup [V.bl (decide (k.o ∈ carL b k.bs)), V.ref G]) hT
    exact q T G _ gH (m2.trans n3) ⟨fus, fs, SqT.of upd_same, SqL.of (n3 _ _ h2), hd2.tk (TK.same n3), eL, fll⟩
end
section
variable {P : Program} {w : World} {K : PySem.W.Frag} {mg : Str → Option Value} {base : Heap}
theorem ok__law_labels_right (D : Df K mg "_law_labels_right" s__law_labels_right ["book", "kind", "wide", "labels"]) (T : Tx mg)   : Cal P w K mg base "_law_labels_right" ["book", "kind", "wide", "labels"] 1 (sp22_right K) := by
  obtain ⟨f, fd, F, gf, bf⟩ := D
  refine ⟨f, fd, F.ok sc__law_labels_right (fun vs H Q E h => ?_) (fun cdv A outer s₀ H vs Q E hr h => ?_), gf, F.kp, bf⟩
  · obtain ⟨b, v, u, k, w, G, t, lab, rfl, _⟩ := h; rfl
  · obtain ⟨b, v, u, k, w, G, t, lab, rfl, hb, nb, hk, kok, hw, ht, ll, q⟩ := h
    refine ⟨_, (pss_cons (ps_setLc (i := 4) (own := [("site", 8)]) (g := gName 8) (tt := tYes) rfl sc__law_labels_right.nd rfl rfl (sw_true rfl rfl rfl (by decide +kernel)) (pi_tup (pe_ix ix_tup (pv 0) pe_int (fun _ _ => rfl))) (blkOk_by (own := [("site", 8)]) (N := N__law_labels_right) (sc := defScope s__law_labels_right) (by decide +kernel)) (fun _ _ _ _ _ => pg_name (i := 8) sc__law_labels_right.nd rfl (Or.inl rfl)) (fun _ _ _ _ _ => pts_nil) (fun _ _ _ _ _ => (pe_ix (ix_tupQ (K := K) rfl) (pv 8) pe_int (fun _ _ => rfl))))
      (pss_cons (ps_if (PW.pt (pw_or (pt_cmpR op_ne (pe_callB call_len_seq (by rfl) T.n_len PySem.boot_len (pa_cons (pv 3) pa_nil)) (pe_callB call_len_seq (by rfl) T.n_len PySem.boot_len (pa_cons (pv 4) pa_nil)) (nomark _)) (pw_or1 (pt_cmpR op_in_seq pe_bl (pe_lc (own := [("label", 9)]) (g := gName 9) (tt := tYes) rfl sc__law_labels_right.nd (pi_tup (pv 3)) (blkOk_by (own := [("label", 9)]) (N := N__law_labels_right) (sc := defScope s__law_labels_right) (by decide +kernel)) (fun _ _ _ _ _ => pg_name (i := 9) sc__law_labels_right.nd rfl (Or.inl rfl)) (fun _ _ _ _ _ => pts_nil) (fun _ _ _ _ _ => (pe_and (pe_cmpR op_notN (pv 9) pe_non (nomark _)) (pe_one (pe_cmpR op_lt (pv 9) pe_int (nomark _)))))) (by rfl)))))
      (pss_one (ps_ret pe_bl))
      pss_nil)
      (C8.pss_cut (ps_if (PW.pt (pw_and (pt_truth (pe_ix ix_tup (pv 2) pe_int (fun _ _ => rfl)) (by intro _; rfl)) (pw_and1 (pt_cmpR op_ne (pe_ix ix_tup (pv 3) (pe_bm PySem.F.plainAttrs_list PySem.F.slot_list_index PySem.F.type_list_index mt_index (pv 4) (pa_cons (pe_ix ix_tup (pv 1) pe_int (fun _ _ => rfl)) pa_nil)) (fun _ _ => rfl)) pe_int (nomark _)))))
      (pss_one (ps_ret pe_bl))
      pss_nil)
      (pss_cons (ps_for PassesOwn.never rfl (pi_list (pe_ix ix_tup (pv 2) pe_int (fun _ _ => rfl))) (pg_name (i := 5) sc__law_labels_right.nd rfl (Or.inl rfl))
      (pss_cons (ps_set (i := 6) sc__law_labels_right.nd rfl (Or.inl rfl) (pe_ix ix_tup (pv 3) (pe_bm PySem.F.plainAttrs_list PySem.F.slot_list_index PySem.F.type_list_index mt_index (pv 4) (pa_cons (pe_ix ix_tup (pv 5) pe_int (fun _ _ => rfl)) pa_nil)) (fun _ _ => rfl)))
        (pss_cons (ps_set (i := 7) sc__law_labels_right.nd rfl (Or.inl rfl) (pe_ix ix_tup (pv 3) (pe_bm PySem.F.plainAttrs_list PySem.F.slot_list_index PySem.F.type_list_index mt_index (pv 4) (pa_cons (pe_ix ix_tup (pv 5) pe_int (fun _ _ => rfl)) pa_nil)) (fun _ _ => rfl)))
        (pss_one (ps_if (PW.pt (pw_and (pt_cmpR op_notN (pv 6) pe_non (nomark _)) (pw_and (pt_cmpR op_le (pe_op op_add (pv 6) pe_int) (pe_ix ix_tup (pv 5) pe_int (fun _ _ => rfl)) (nomark _)) (pw_and1 (PW.pt (pw_or (pt_cmpR op_isN (pv 7) pe_non (nomark _)) (pw_or1 (pt_cmpR op_gt (pv 7) (pe_op op_add (pv 6) pe_int) (nomark _)))))))))
        (pss_one (ps_ret pe_bl))
        pss_nil)))))
      (pss_one (ps_ret pe_bl)))))), ?_⟩
    obtain ⟨ka, kus, rfl, hK, dK⟩ := hk
    obtain ⟨u0, r0, rfl, d0, dK⟩ := dK
    obtain ⟨u1, r1, rfl, d1, dK⟩ := dK
    unfold DV at d1
    subst d1
    obtain ⟨gus, fs, hWt, hG, dG, eL, fsl⟩ := hw
    obtain ⟨ba, bus, c3, w3, c5, w5, rfl, hB, e3, e5, hC3, hC5, hw3, hw5⟩ := bk_at hb
    have sl := nb.ok.si
    have wl3 := hw3.map_len
    have nl : (nms b).length = b.si.length := List.length_map _
    refine ⟨_, rfl, ba, bus, 3, .ref c3, rfl, rfl, hB, atI_nat (j := 3) e3, c3, rfl, ⟨_, hC3⟩, fun N hN => ?_⟩
    refine lc_tup (K := K) (a := c3) (xs := w3) (fun i H' => H' N = some (.lst (((nms b).take i).map V.str)) ∧ Same H H') ⟨by rw [upd_same]; rfl, same_new hN⟩ (fun i H' _ h => h.2.tup hC3) ?_ ?_
    · rintro i u H1 hi ⟨h1, m1⟩
      obtain ⟨x, hx, dx⟩ := hw3.map_get hi
      have il := (List.getElem?_eq_some_iff.mp hx).1
      obtain ⟨t, tus, rfl, hT, et, _⟩ := si_at (dx.tk (TK.same m1))
      have en : (nms b)[i]? = some x.n := by unfold nms; rw [List.getElem?_map, hx]; rfl
      refine ⟨rfl, _, rfl, t, _, 1, _, rfl, rfl, hT, atI_nat (j := 1) et, _, h1, ?_, ?_, sput m1 hN⟩
      · rw [List.length_map, List.length_take]; exact small_lt _ (by omega)
      · rw [upd_same, List.take_add_one, en, List.map_append]; rfl
    rintro H1 ⟨h1, m1⟩
    rw [wl3, ← nl, List.take_length] at h1
    have no : ∀ H', Same H H' → ¬ JL b k lab → Q (.bl false) H' := fun H' m h => by
      have := q H' m
      rwa [show jlB b k lab = false from cB_f h] at this
    refine ⟨_, rfl, t, _, rfl, .inr (m1.tup ht), _, rfl, N, _, rfl, .inl (SqL.of h1), rfl, _, rfl, ite2 (fun c => iteT (no _ m1 fun h => ?_)) (fun c => ?_)⟩
    · have c' : (!decide (V.int ((lab.map lbV).length : Nat) = V.int (((nms b).map V.str).length : Nat))) = true := c
      rw [List.length_map, List.length_map, nl, h.ln] at c'
      simp at c'
    have el : lab.length = b.si.length := by
      by_cases e : lab.length = b.si.length
      · exact e
      · exact absurd (show (!decide (V.int ((lab.map lbV).length : Nat) = V.int (((nms b).map V.str).length : Nat))) = true by
          rw [List.length_map, List.length_map, nl, Bool.not_eq_true', decide_eq_false_iff_not]
          intro h; have := V.int.inj h; omega) c
    refine ⟨_, rfl, t, rfl, ⟨_, m1.tup ht⟩, fun M hM => ?_⟩
    refine lc_tup (K := K) (a := t) (xs := lab.map lbV) (fun i H' => H' M = some (.lst (((lab.take i).map fun x => x.any fun i => decide (i < 0)).map V.bl)) ∧ Same H1 H') ⟨upd_same, same_new hM⟩ (fun i H' _ h => (m1.trans h.2).tup ht) ?_ ?_
    · rintro i x H2 hi ⟨h2, m2⟩
      rw [List.getElem?_map] at hi
      cases ex : lab[i]? with
      | none => rw [ex] at hi; cases hi
      | some y =>
        rw [ex] at hi
        obtain rfl : lbV y = x := Option.some.inj hi
        have il := (List.getElem?_eq_some_iff.mp ex).1
        have fin : ∀ c : Bool, c = y.any (fun i => decide (i < 0)) → ∃ acc, H2 M = some (.lst acc) ∧ acc.length < sizeLine ∧ (upd H2 M (.lst (acc ++ [V.bl c]))) M = some (.lst (((lab.take (i + 1)).map fun x => x.any fun i => decide (i < 0)).map V.bl)) ∧ Same H1 (upd H2 M (.lst (acc ++ [V.bl c]))) := fun c e => by
          refine ⟨_, h2, ?_, ?_, sput m2 hM⟩
          · rw [List.length_map, List.length_map, List.length_take]; exact small_lt _ (by omega)
          · rw [upd_same, List.take_add_one, ex, List.map_append, List.map_append, e]; rfl
        cases y with
        | none => exact ⟨rfl, _, rfl, rfl, _, rfl, iN rfl (fin _ rfl)⟩
        | some j => exact ⟨rfl, _, rfl, rfl, _, rfl, iG rfl ⟨_, rfl, _, _, rfl, rfl, fin _ rfl⟩⟩
    rintro H2 ⟨h2, m2⟩
    rw [List.length_map, List.take_length] at h2
    have m12 := m1.trans m2
    have hN2 := m2 _ _ h1
    have ea : ((lab.map fun x => x.any fun i => decide (i < 0)).any fun d => d == true) = true ↔ ¬ ∀ x ∈ lab, ∀ i, x = some i → 0 ≤ i := by
      rw [List.any_eq_true]
      constructor
      · rintro ⟨c, hc, e⟩ h
        obtain ⟨x, hx, rfl⟩ := List.mem_map.mp hc
        cases x with
        | none => cases e
        | some i =>
          have : decide (i < 0) = true := beq_iff_eq.mp e
          have := of_decide_eq_true this
          have := h _ hx i rfl
          omega
      · intro h
        rw [Classical.not_forall] at h
        obtain ⟨x, h⟩ := h
        obtain ⟨hx, h⟩ := Classical.not_imp.mp h
        cases x with
        | none => exact absurd (fun i e => by cases e) h
        | some i =>
          refine ⟨_, List.mem_map_of_mem (f := fun x : Lb => x.any fun i => decide (i < 0)) hx, ?_⟩
          show (decide (i < 0) == true) = true
          by_cases c : 0 ≤ i
          · exact absurd (fun j e => by rw [← Option.some.inj e]; exact c) h
          · rw [decide_eq_true (by omega)]; rfl
    refine ⟨M, _, rfl, .inl (SqL.of h2), rfl, bls_flat _, _, rfl, ?_⟩
    rw [show ∀ X : Bool, (if false = true then !X else X) = X from fun X => if_neg Bool.false_ne_true, inV_bls]
    by_cases c2 : ∀ x ∈ lab, ∀ i, x = some i → 0 ≤ i
    rotate_left
    · exact iG (ea.mpr c2) (no _ m12 fun h => c2 h.nn)
    refine iN (Bool.eq_false_iff.mpr fun h => ea.mp h c2) ?_
    have hW2 := m12.tup hWt
    have ht2 := m12.tup ht
    -- a label by its name
    have lk : ∀ y ∈ nms b, ∃ j : Nat, (nms b)[j]? = some y ∧ (∀ (m : Nat) (z : V), m < j → ((nms b).map V.str)[m]? = some z → eqV z (.str y) = false) ∧ (lab.map lbV)[j]? = some (lbV (labAt (nms b) lab y)) := fun y hy => by
      obtain ⟨j, j1, j2⟩ := idx_at nb.nd hy
      refine ⟨j, j1, j2, ?_⟩
      have jl := (List.getElem?_eq_some_iff.mp j1).1
      have e := List.getElem?_eq_getElem (l := lab) (i := j) (by omega)
      rw [List.getElem?_map, e, labAt_get nb.nd j1 e]; rfl
    refine ⟨fun σ' H' => σ' = [some (.ref ba), some (.ref ka), some (.ref w), some (.ref t), some (.ref N), none, none, none, none, none] ∧ Same H2 H' ∧ (k.o ∈ carL b k.bs → labAt (nms b) lab k.o = some 0), ?_, ?_⟩
    · refine ⟨_, rfl, w, _, 0, _, rfl, rfl, hW2, atI_nat (j := 0) rfl, decide (k.o ∈ carL b k.bs), rfl, ?_⟩
      by_cases c4 : k.o ∈ carL b k.bs
      rotate_left
      · exact iN (decide_eq_false c4) (iteF ⟨rfl, Same.refl _, fun c => absurd c c4⟩)
      obtain ⟨j, j1, j2, j3⟩ := lk _ kok.on
      refine iG (decide_eq_true c4) ⟨_, rfl, _, rfl, .inl ⟨rfl, _, SqL.of hN2⟩, _, rfl, ka, _, 1, _, rfl, rfl, m12.tup hK, atI_nat (j := 1) rfl, N, _, .str k.o, j, .str k.o, rfl, rfl, SqL.of hN2, rfl, flat_strs _, by rw [List.getElem?_map, j1]; rfl, beq_self_eq_true _, j2, t, _, _, _, rfl, rfl, ht2, atI_nat j3, lb_scal _ _, _, rfl, ?_⟩
      by_cases c5 : labAt (nms b) lab k.o ≠ some 0
      · exact iG ((lb_ne0 _).mpr c5) (no _ m12 fun h => c5 (h.og c4))
      exact iN (Bool.eq_false_iff.mpr fun h => c5 ((lb_ne0 _).mp h)) ⟨rfl, Same.refl _, fun _ => Classical.not_not.mp c5⟩
    rintro σ' H3 ⟨rfl, m3, og⟩
    have m13 := m12.trans m3
    have gl := dG.map_len
    refine ⟨_, rfl, w, _, 1, _, rfl, rfl, m3.tup hW2, atI_nat (j := 1) rfl, G, rfl, ⟨_, m13.seq hG⟩, ?_⟩
    refine for_list (K := K) (a := G) (xs := gus) (fun i σ H' => ∃ v5 v6 v7, σ = [some (.ref ba), some (.ref ka), some (.ref w), some (.ref t), some (.ref N), v5, v6, v7, none, none] ∧ Same H3 H' ∧ ∀ l ∈ (lkL b k.bs k.z).take i, keepB (labAt (nms b) lab l.1) l.2.2 (labAt (nms b) lab l.2.1) = true) ⟨_, _, _, rfl, Same.refl _, fun l h => by rw [List.take_zero] at h; cases h⟩ (fun i σ H' _ h => by obtain ⟨_, _, _, _, m, _⟩ := h; exact (m13.trans m).seq hG) ?_ ?_
    rotate_left
    · rintro σ H4 ⟨v5, v6, v7, rfl, m4, al⟩
      have := q H4 (m13.trans m4)
      rwa [show jlB b k lab = true from cB_t ⟨el, c2, og, fun l hl => al l (by rw [gl, ← List.length_map (f := fun f : Fd => (f.g, f.t, f.h)), ← eL, List.take_length]; exact hl)⟩] at this
    rintro i x σ H4 hi ⟨v5, v6, v7, rfl, m4, al⟩
    have m14 := m13.trans m4
    obtain ⟨f', hf, dx⟩ := dG.map_get hi
    have hl : (lkL b k.bs k.z)[i]? = some (f'.g, f'.t, f'.h) := by rw [eL, List.getElem?_map, hf]; rfl
    obtain ⟨g1, g2⟩ := lk_of nb (List.mem_of_getElem? hl)
    simp only at g1 g2
    obtain ⟨ta, tus, rfl, hT, e1, e2, _, e4, _⟩ := fd_at (dx.tk (TK.same m14))
    obtain ⟨j, j1, j2, j3⟩ := lk _ g1
    obtain ⟨j', j1', j2', j3'⟩ := lk _ g2
    have hN4 := (m3.trans m4) _ _ hN2
    have ht4 := (m3.trans m4).tup ht2
    have fin : keepB (labAt (nms b) lab f'.g) f'.h (labAt (nms b) lab f'.t) = true → ∀ l ∈ (lkL b k.bs k.z).take (i + 1), keepB (labAt (nms b) lab l.1) l.2.2 (labAt (nms b) lab l.2.1) = true := fun e l h => by
      rw [List.take_add_one, hl] at h
      rcases List.mem_append.mp h with c | c
      · exact al l c
      · rw [List.mem_singleton.mp c]; exact e
    have bad : keepB (labAt (nms b) lab f'.g) f'.h (labAt (nms b) lab f'.t) = false → ¬ JL b k lab := fun e h => by
      have := h.lk _ (List.mem_of_getElem? hl)
      rw [this] at e; cases e
    refine ⟨_, rfl, _, rfl, .inl ⟨rfl, _, SqL.of hN4⟩, _, rfl, ta, _, 1, _, rfl, rfl, hT, atI_nat (j := 1) e1, N, _, .str f'.g, j, .str f'.g, rfl, rfl, SqL.of hN4, rfl, flat_strs _, by rw [List.getElem?_map, j1]; rfl, beq_self_eq_true _, j2, t, _, _, _, rfl, rfl, ht4, atI_nat j3, ?_⟩
    refine ⟨_, rfl, _, rfl, .inl ⟨rfl, _, SqL.of hN4⟩, _, rfl, ta, _, 2, _, rfl, rfl, hT, atI_nat (j := 2) e2, N, _, .str f'.t, j', .str f'.t, rfl, rfl, SqL.of hN4, rfl, flat_strs _, by rw [List.getElem?_map, j1']; rfl, beq_self_eq_true _, j2', t, _, _, _, rfl, rfl, ht4, atI_nat j3', ?_⟩
    generalize labAt (nms b) lab f'.g = x at fin bad ⊢
    generalize labAt (nms b) lab f'.t = y at fin bad ⊢
    cases x with
    | none => exact ⟨_, rfl, rfl, _, rfl, iN rfl (iteF ⟨_, _, _, rfl, m4, fin rfl⟩)⟩
    | some p =>
      refine ⟨_, rfl, rfl, _, rfl, iG rfl ⟨_, rfl, _, _, rfl, rfl, _, rfl, ta, _, 4, _, rfl, rfl, hT, atI_nat (j := 4) e4, _, _, rfl, rfl, _, rfl, ?_⟩⟩
      by_cases c : p + 1 ≤ f'.h
      rotate_left
      · exact iN (decide_eq_false c) (iteF ⟨_, _, _, rfl, m4, fin (by show (decide (f'.h < p + 1) || _) = true; rw [decide_eq_true (by omega)]; rfl)⟩)
      have lt : decide (f'.h < p + 1) = false := decide_eq_false (by omega)
      refine iG (decide_eq_true c) ?_
      cases y with
      | none => exact ⟨_, rfl, rfl, _, rfl, iG rfl (iteT (no _ m14 (bad (by show (decide (f'.h < p + 1) || false) = false; rw [lt]; rfl))))⟩
      | some r =>
        refine ⟨_, rfl, rfl, _, rfl, iN rfl ⟨_, rfl, _, rfl, _, _, rfl, rfl, _, _, rfl, rfl, _, rfl, ?_⟩⟩
        by_cases c7 : r ≤ p + 1
        · exact iN (decide_eq_false (by show ¬ p + 1 < r; omega)) ⟨_, _, _, rfl, m4, fin (by show (decide (f'.h < p + 1) || decide (r ≤ p + 1)) = true; rw [decide_eq_true c7, Bool.or_true])⟩
        · exact iG (decide_eq_true (by show p + 1 < r; omega)) (no _ m14 (bad (by show (decide (f'.h < p + 1) || decide (r ≤ p + 1)) = false; rw [lt, decide_eq_false c7]; rfl)))
end

end Z
namespace Z
open PySem L2 SX
theorem rep_flat (x : Lb) : ∀ n : Nat, (List.replicate n [lbV x]).flatten = (List.replicate n x).map lbV
  | 0 => rfl
  | n + 1 => by rw [List.replicate_succ, List.flatten_cons, rep_flat x n, List.replicate_succ, List.map_cons]; rfl
/-- what was found so far -/
structure FoL (K : PySem.W.Frag) (s a F : Addr) (H H' : Hp) (ys : List V) (T : List (List Lb)) (c : Nat) : Prop where
  f : H' F = some (.lst ys)
  d : DVs K H' (T.map lbsD) ys
  t : ∀ t ∈ T, t.length ≤ 100
  e : Ext s H H'
  s : Src H' s a c
theorem FoL.ext {K : PySem.W.Frag} {s a F : Addr} {H H1 H2 : Hp} {ys : List V} {T : List (List Lb)} {c c2 : Nat} (h : FoL K s a F H H1 ys T c) (Fs : F ≠ s) (x : Ext s H1 H2) (S : Src H2 s a c2) : FoL K s a F H H2 ys T c2 :=
  ⟨x _ _ Fs h.f, h.d.tk (TK.ext x h.s), h.t, h.e.trans x, S⟩
theorem FoL.put {K : PySem.W.Frag} {s a F : Addr} {H H1 : Hp} {ys : List V} {T : List (List Lb)} {c : Nat} {v : V} {w : List Lb} (h : FoL K s a F H H1 ys T c) (HF : H F = none) (Fs : F ≠ s) (Fa : F ≠ a) (dv : DV K H1 (lbsD w) v) (l : w.length ≤ 100) : FoL K s a F H (upd H1 F (.lst (ys ++ [v]))) (ys ++ [v]) (T ++ [w]) c :=
  ⟨upd_same, DVs.snoc (h.d.tk (tk_put h.f)) (dv.tk (tk_put h.f)), fun t m => (List.mem_append.mp m).elim (h.t t) fun m => by rw [List.mem_singleton.mp m]; exact l, ext_keep HF h.e, h.s.put Fs Fa⟩
section
variable {P : Program} {w : World} {K : PySem.W.Frag} {mg : Str → Option Value} {base : Heap}
theorem ok__law_least_hops (D : Df K mg "_law_least_hops" s__law_least_hops ["book", "kind", "wide"]) (T : Tx mg)   : Cal P w K mg base "_law_least_hops" ["book", "kind", "wide"] 1 (sp22_least K) := by
  obtain ⟨f, fd, F, gf, bf⟩ := D
  refine ⟨f, fd, F.ok sc__law_least_hops (fun vs H Q E h => ?_) (fun cdv A outer s₀ H vs Q E hr h => ?_), gf, F.kp, bf⟩
  · obtain ⟨b, v, u, k, w, G, rfl, _⟩ := h; rfl
  · obtain ⟨b, v, u, k, w, G, rfl, hb, nb, hk, kok, hw, q⟩ := h
    refine ⟨_, (pss_cons (ps_set (i := 3) sc__law_least_hops.nd rfl (Or.inr rfl) pe_dnewK)
      (C8.pss_cut (ps_if (pt_truth (pe_ix ix_tup (pv 2) pe_int (fun _ _ => rfl)) (by intro _; rfl))
      (pss_one (ps_dput (hu_of hr) (pv 3) (pe_ix ix_tup (pv 1) pe_int (fun _ _ => rfl)) pe_int rfl))
      pss_nil)
      (pss_cons (ps_for PassesOwn.never rfl (pi_range2 (by rfl) T.n_range (pa_cons pe_int (pa_cons (pe_callB call_len_seq (by rfl) T.n_len PySem.boot_len (pa_cons (pe_ix ix_tup (pv 0) pe_int (fun _ _ => rfl)) pa_nil)) pa_nil))) (pg_name (i := 4) sc__law_least_hops.nd rfl (Or.inl rfl))
      (pss_one (ps_for PassesOwn.never rfl (pi_list (pe_ix ix_tup (pv 2) pe_int (fun _ _ => rfl))) (pg_name (i := 5) sc__law_least_hops.nd rfl (Or.inl rfl))
        (pss_one (ps_if (PW.pt (pw_and (pt_cmpR op_eq (pe_dget2 (hu_of hr) (pv 3) (pe_ix ix_tup (pv 5) pe_int (fun _ _ => rfl)) (pe_un un_neg pe_int) ⟨rfl, rfl, rfl, rfl⟩) (pe_op op_sub (pv 4) pe_int) (nomark _)) (pw_and (pt_cmpR op_le (pv 4) (pe_ix ix_tup (pv 5) pe_int (fun _ _ => rfl)) (nomark _)) (pw_and1 (pt_cmp (pc_dnotin (hu_of hr) (pe_ix ix_tup (pv 5) pe_int (fun _ _ => rfl)) (pv 3)))))))
          (pss_one (ps_dput (hu_of hr) (pv 3) (pe_ix ix_tup (pv 5) pe_int (fun _ _ => rfl)) (pv 4) rfl))
          pss_nil)))))
      (pss_one (ps_ret (pe_callTy call_tuple_of (by rfl) T.n_tuple (by decide +kernel) (pa_cons (pe_lc (own := [("site", 6)]) (g := gName 6) (tt := tYes) rfl sc__law_least_hops.nd (pi_tup (pe_ix ix_tup (pv 0) pe_int (fun _ _ => rfl))) (blkOk_by (own := [("site", 6)]) (N := N__law_least_hops) (sc := defScope s__law_least_hops) (by decide +kernel)) (fun _ _ _ _ _ => pg_name (i := 6) sc__law_least_hops.nd rfl (Or.inl rfl)) (fun _ _ _ _ _ => pts_nil) (fun _ _ _ _ _ => (pe_dget1 (hu_of hr) (pv 3) (pe_ix (ix_tupQ (K := K) rfl) (pv 6) pe_int (fun _ _ => rfl)) ⟨rfl, rfl, rfl, rfl⟩))) pa_nil))))))), ?_⟩
    obtain ⟨ka, kus, rfl, hK, dK⟩ := hk
    obtain ⟨u0, r0, rfl, d0, dK⟩ := dK
    obtain ⟨u1, r1, rfl, d1, dK⟩ := dK
    unfold DV at d1
    subst d1
    obtain ⟨gus, fs, hWt, hG, dG, eL, fsl⟩ := hw
    obtain ⟨ba, bus, c3, w3, c5, w5, rfl, hB, e3, e5, hC3, hC5, hw3, hw5⟩ := bk_at hb
    have sl := nb.ok.si
    have spos := List.length_pos_iff.mpr nb.ne
    have wl3 := hw3.map_len
    have nl : (nms b).length = b.si.length := List.length_map _
    have gl := dG.map_len
    have Ll : (lkL b k.bs k.z).length = fs.length := by rw [eL, List.length_map]
    refine fun p hp => ?_
    have mp := same_new (o := HO.dK []) hp
    refine ⟨fun σ' H' => ∃ F : Hs, σ' = [some (.ref ba), some (.ref ka), some (.ref w), some (.ref p), none, none, none] ∧ H' p = some (.dK (kvF F)) ∧ LH (lkL b k.bs k.z) k.o (carL b k.bs) (nms b) 0 (lkL b k.bs k.z).length F ∧ F.length ≤ 1 ∧ Same H H', ?_, ?_⟩
    · refine ⟨_, rfl, w, _, 0, _, rfl, rfl, mp.tup hWt, atI_nat (j := 0) rfl, decide (k.o ∈ carL b k.bs), rfl, ?_⟩
      by_cases c : k.o ∈ carL b k.bs
      · refine iG (decide_eq_true c) ⟨_, rfl, _, rfl, ka, _, 1, _, rfl, rfl, mp.tup hK, atI_nat (j := 1) rfl, p, _, rfl, DPut.k (k := Sum.inr k.o) upd_same (by show 0 < sizeLine; decide), ?_⟩
        exact ⟨[(k.o, 0)], rfl, by rw [upd_same]; rfl, .start1 c kok.on, Nat.le_refl _, sput mp hp⟩
      · exact iN (decide_eq_false c) ⟨[], rfl, upd_same, .start0 c, Nat.zero_le _, mp⟩
    rintro σ' H1 ⟨F, rfl, h1, lh, Fl, m1⟩
    refine ⟨_, rfl, ba, bus, 3, .ref c3, rfl, rfl, m1.tup hB, atI_nat (j := 3) e3, c3, w3, rfl, .inr (m1.tup hC3), 1, _, rfl, ⟨by decide, by decide, by omega, by omega⟩, ?_⟩
    refine for_range (lo := 1) (n := ((w3.length : Int) - 1).toNat) (fun i σ H' => ∃ (F : Hs) (v4 v5 : Option V), σ = [some (.ref ba), some (.ref ka), some (.ref w), some (.ref p), v4, v5, none] ∧ H' p = some (.dK (kvF F)) ∧ LH (lkL b k.bs k.z) k.o (carL b k.bs) (nms b) i (lkL b k.bs k.z).length F ∧ Same H H') ⟨F, _, _, rfl, h1, lh, m1⟩ ?_ ?_
    · rintro i σ H2 hi ⟨F, v4, v5, rfl, h2, lh, m2⟩
      refine ⟨_, rfl, w, _, 1, _, rfl, rfl, m2.tup hWt, atI_nat (j := 1) rfl, G, rfl, ⟨_, m2.seq hG⟩, ?_⟩
      refine for_list (K := K) (a := G) (xs := gus) (fun j σ H' => ∃ (F : Hs) (v5 : Option V), σ = [some (.ref ba), some (.ref ka), some (.ref w), some (.ref p), some (.int (1 + (i : Int))), v5, none] ∧ H' p = some (.dK (kvF F)) ∧ LH (lkL b k.bs k.z) k.o (carL b k.bs) (nms b) (i + 1) j F ∧ Same H H') ⟨F, _, rfl, h2, lh.next, m2⟩ (fun j σ H' _ h => by obtain ⟨_, _, _, _, _, m⟩ := h; exact m.seq hG) ?_ ?_
      rotate_left
      · rintro σ H3 ⟨F, v5, rfl, h3, lh, m3⟩
        rw [gl, ← Ll] at lh
        exact ⟨F, _, _, rfl, h3, lh, m3⟩
      rintro j x σ H3 hj ⟨F, v5, rfl, h3, lh, m3⟩
      obtain ⟨f', hf, dx⟩ := dG.map_get hj
      have hl : (lkL b k.bs k.z)[j]? = some (f'.g, f'.t, f'.h) := by rw [eL, List.getElem?_map, hf]; rfl
      obtain ⟨g1, g2⟩ := lk_of nb (List.mem_of_getElem? hl)
      simp only at g1 g2
      obtain ⟨ta, tus, rfl, hT, e1, e2, _, e4, _⟩ := fd_at (dx.tk (TK.same m3))
      have Fl : F.length ≤ (nms b).length := by
        have := nodup_len lh.nd (m := nms b) fun y hy => by obtain ⟨z, hz, rfl⟩ := List.mem_map.mp hy; exact lh.us z hz
        rwa [List.length_map] at this
      refine ⟨_, rfl, p, rfl, .inl ⟨_, .inl h3⟩, _, rfl, ta, _, 1, _, rfl, rfl, hT, atI_nat (j := 1) e1, _, rfl, _, DGet.k (k := Sum.inr f'.g) h3, _, rfl, _, _, rfl, rfl, ?_⟩
      rw [kvF_val]
      cases e : lookF F f'.g with
      | none =>
        refine ⟨rfl, _, rfl, iN (decide_eq_false fun h => ?_) (iteF ⟨F, _, rfl, h3, lh.skip hl fun d hd => absurd hd (lookF_non e d), m3⟩)⟩
        have h : (-1 : Int) = 1 + (i : Int) - 1 := V.int.inj h
        omega
      | some d =>
        have hd := lookF_mem e
        refine ⟨rfl, _, rfl, ?_⟩
        by_cases c : d = i
        rotate_left
        · refine iN (decide_eq_false fun h => ?_) (iteF ⟨F, _, rfl, h3, lh.skip hl fun d' hd' ed _ => ?_, m3⟩)
          · have h : (d : Int) = 1 + (i : Int) - 1 := V.int.inj h
            omega
          · have := lookF_some lh.nd hd'
            rw [e] at this
            have := Option.some.inj this
            omega
        subst c
        refine iG (decide_eq_true (by show V.int (d : Int) = V.int (1 + (d : Int) - 1); rw [show (1 + (d : Int) - 1) = (d : Int) by omega])) ?_
        refine ⟨_, rfl, _, rfl, ta, _, 4, _, rfl, rfl, hT, atI_nat (j := 4) e4, _, _, rfl, rfl, _, rfl, ?_⟩
        by_cases c2 : 1 + (d : Int) ≤ f'.h
        rotate_left
        · exact iN (decide_eq_false c2) (iteF ⟨F, _, rfl, h3, lh.skip hl fun d' hd' ed lb => absurd (show 1 + (d : Int) ≤ f'.h by simp only at lb; omega) c2, m3⟩)
        refine iG (decide_eq_true c2) ⟨_, rfl, ta, _, 2, _, rfl, rfl, hT, atI_nat (j := 2) e2, _, rfl, p, _, rfl, DGet.k (k := Sum.inr f'.t) h3, _, rfl, ?_⟩
        rw [kvF_val]
        cases e' : lookF F f'.t with
        | some d' => exact iN rfl ⟨F, _, rfl, h3, lh.skip hl fun _ _ _ _ => ⟨d', lookF_mem e'⟩, m3⟩
        | none =>
          refine iG rfl ⟨_, rfl, _, rfl, _, rfl, ta, _, 2, _, rfl, rfl, hT, atI_nat (j := 2) e2, p, _, rfl, DPut.k (k := Sum.inr f'.t) h3 (by rw [List.length_map]; exact small_lt _ (by omega)), ?_⟩
          have ep : putK (kvF F) (Sum.inr f'.t : Key) (V.int (1 + (d : Int))) = kvF (F ++ [(f'.t, d + 1)]) := by
            rw [putK_new _ (by rw [kvF_val, e']; rfl)]
            unfold kvF
            rw [List.map_append, show (1 + (d : Int)) = ((d + 1 : Nat) : Int) by omega]; rfl
          exact ⟨F ++ [(f'.t, d + 1)], _, rfl, by rw [upd_same]; exact congrArg some (congrArg HO.dK ep), lh.put hl g2 hd rfl (lookF_non e'), sput m3 hp⟩
    rintro σ H2 ⟨F, v4, v5, rfl, h2, lh, m2⟩
    have tn : ∀ l ∈ lkL b k.bs k.z, l.2.1 ∈ nms b := fun l hl => (lk_of nb hl).2
    have jl : JL b k (hLab b F) := jl_of nb kok.on lh.nd lh.o1 (lh.fin (by omega) tn)
    refine ⟨_, rfl, ba, bus, 3, .ref c3, rfl, rfl, m2.tup hB, atI_nat (j := 3) e3, c3, rfl, ⟨_, m2.tup hC3⟩, fun M hM => ?_⟩
    refine lc_tup (K := K) (a := c3) (xs := w3) (fun i H' => H' M = some (.lst (((hLab b F).take i).map lbV)) ∧ Same H2 H') ⟨by rw [upd_same]; rfl, same_new hM⟩ (fun i H' _ h => (m2.trans h.2).tup hC3) ?_ ?_
    · rintro i x H3 hi ⟨h3, m3⟩
      obtain ⟨s, hs, dx⟩ := hw3.map_get hi
      have il := (List.getElem?_eq_some_iff.mp hs).1
      obtain ⟨t, tus, rfl, hTt, et, _⟩ := si_at (dx.tk (TK.same (m2.trans m3)))
      have hp3 := m3 _ _ h2
      have en : (hLab b F)[i]? = some ((lookF F s.n).map fun d : Nat => (d : Int)) := by unfold hLab nms; rw [List.getElem?_map, List.getElem?_map, hs]; rfl
      refine ⟨rfl, _, rfl, p, rfl, .inl ⟨_, .inl hp3⟩, _, rfl, t, _, 1, _, rfl, rfl, hTt, atI_nat (j := 1) et, _, DGet.k (k := Sum.inr s.n) hp3, _, h3, ?_, ?_, sput m3 hM⟩
      · rw [List.length_map, List.length_take]; exact small_lt _ (by omega)
      · rw [upd_same, List.take_add_one, en, List.map_append, kvF_val]
        cases lookF F s.n <;> rfl
    rintro H3 ⟨h3, m3⟩
    rw [wl3, ← hLab_len b F, List.take_length] at h3
    refine ⟨M, _, rfl, .inl ⟨SqL.of h3, fun X hX => ?_⟩⟩
    have n4 := same_new (o := HO.tup ((hLab b F).map lbV)) hX
    exact q X (hLab b F) _ (m2.trans (m3.trans n4)) (SqT.of upd_same) jl
end
section
variable {P : Program} {w : World} {K : PySem.W.Frag} {mg : Str → Option Value} {base : Heap}
theorem ok__law_bent (D : Df K mg "_law_bent" s__law_bent ["source", "labels"]) (T : Tx mg)  (C__law_draw : Cal P w K mg base "_law_draw" ["source", "many"] 2 sp__law_draw) (C__law_pick : Cal P w K mg base "_law_pick" ["source", "row"] 3 (sp3__law_pick K)) : Cal P w K mg base "_law_bent" ["source", "labels"] 4 (sp22_bent K) := by
  obtain ⟨f__law_draw, fd__law_draw, G__law_draw, g__law_draw, k__law_draw, b__law_draw⟩ := C__law_draw
  obtain ⟨f__law_pick, fd__law_pick, G__law_pick, g__law_pick, k__law_pick, b__law_pick⟩ := C__law_pick
  obtain ⟨f, fd, F, gf, bf⟩ := D
  refine ⟨f, fd, F.ok sc__law_bent (fun vs H Q E h => ?_) (fun cdv A outer s₀ H vs Q E hr h => ?_), gf, F.kp, bf⟩
  · obtain ⟨s, a, t, lab, c, rfl, _⟩ := h; rfl
  · obtain ⟨s, a, t, lab, c, rfl, ht, l1, l2, hS, q⟩ := h
    refine ⟨_, (pss_cons (ps_set (i := 2) sc__law_bent.nd rfl (Or.inl rfl) (pe_call G__law_draw (hr.mono (by decide)) (by rfl) g__law_draw k__law_draw b__law_draw .nil pass0 (pa_cons (pv 0) (pa_cons (pe_callB call_len_seq (by rfl) T.n_len PySem.boot_len (pa_cons (pv 1) pa_nil)) pa_nil))))
      (pss_cons (ps_set (i := 3) sc__law_bent.nd rfl (Or.inl rfl) pe_int)
      (pss_cons (ps_set (i := 4) sc__law_bent.nd rfl (Or.inl rfl) pe_int)
      (C8.pss_cut (ps_if (pt_cmpR op_notN (pe_ix ix_tup (pv 1) (pv 2) (fun _ _ => rfl)) pe_non (nomark _))
      (pss_cons (ps_set (i := 3) sc__law_bent.nd rfl (Or.inl rfl) (pe_op op_sub (pe_ix ix_tup (pv 1) (pv 2) (fun _ _ => rfl)) pe_int))
        (pss_one (ps_set (i := 4) sc__law_bent.nd rfl (Or.inl rfl) (pe_op op_add (pe_ix ix_tup (pv 1) (pv 2) (fun _ _ => rfl)) pe_int))))
      pss_nil)
      (pss_cons (ps_set (i := 5) sc__law_bent.nd rfl (Or.inl rfl) (pe_lst (pa_cons pe_non (pa_cons pe_int (pa_cons (pv 3) (pa_cons (pv 3) (pa_cons (pv 4) (pa_cons (pv 4) (pa_cons (pe_call G__law_draw (hr.mono (by decide)) (by rfl) g__law_draw k__law_draw b__law_draw .nil pass0 (pa_cons (pv 0) (pa_cons pe_int pa_nil))) (pa_cons (pe_call G__law_draw (hr.mono (by decide)) (by rfl) g__law_draw k__law_draw b__law_draw .nil pass0 (pa_cons (pv 0) (pa_cons pe_int pa_nil))) pa_nil))))))))))
      (pss_cons (ps_expr (pe_bm PySem.F.plainAttrs_list PySem.F.slot_list_append PySem.F.type_list_append mt_append (pv 5) (pa_cons (pe_op op_sub (pe_un un_neg pe_int) (pe_call G__law_draw (hr.mono (by decide)) (by rfl) g__law_draw k__law_draw b__law_draw .nil pass0 (pa_cons (pv 0) (pa_cons pe_int pa_nil)))) pa_nil)))
      (pss_one (ps_ret (pe_op (op_cat (K := K) rfl) (pe_op (op_cat (K := K) rfl) (pe_slice (sl_tupS (K := K) rfl) (pv 1) po_none (po_some (pv 2))) (pe_tup (pa_cons (pe_call G__law_pick (hr.mono (by decide)) (by rfl) g__law_pick k__law_pick b__law_pick .nil pass0 (pa_cons (pv 0) (pa_cons (pv 5) pa_nil))) pa_nil))) (pe_slice (sl_tupS (K := K) rfl) (pv 1) (po_some (pe_op op_add (pv 2) pe_int)) po_none)))))))))), ?_⟩
    have lm : (lab.map lbV).length = lab.length := List.length_map _
    refine ⟨_, rfl, _, rfl, t, _, rfl, .inr ht, s, a, _, c + 9, rfl, by omega, by omega, hS, fun sp H1 s0 s1 x1 S1 => ?_⟩
    rw [lm] at s1
    have ht1 := (TK.ext (K := K) x1 hS) _ _ ht
    obtain ⟨x, hx⟩ : ∃ x, lab[sp.toNat]? = some x := ⟨_, List.getElem?_eq_getElem (by omega)⟩
    have ait : atI (lab.map lbV) sp = some (lbV x) := at_of (j := sp.toNat) (by omega) (by rw [List.getElem?_map, hx]; rfl)
    refine ⟨fun σ' H' => ∃ le mo : Int, σ' = [some (.ref s), some (.ref t), some (.int sp), some (.int le), some (.int mo), none] ∧ H' = H1, ?_, ?_⟩
    · refine ⟨_, rfl, _, rfl, t, _, _, _, rfl, rfl, ht1, ait, rfl, _, rfl, ?_⟩
      cases x with
      | none => exact iN rfl ⟨1, 0, rfl, rfl⟩
      | some i => exact iG rfl ⟨_, rfl, _, rfl, t, _, _, _, rfl, rfl, ht1, ait, _, _, rfl, rfl, _, rfl, _, rfl, t, _, _, _, rfl, rfl, ht1, ait, _, _, rfl, rfl, i - 1, i + 1, rfl, rfl⟩
    rintro σ' H1' ⟨le, mo, rfl, rfl⟩
    refine ⟨_, rfl, _, rfl, _, rfl, _, rfl, _, rfl, s, a, _, c + 8, rfl, by decide, by decide, S1.mono (by omega), fun d1 H2 _ _ x2 S2 => ?_⟩
    refine ⟨_, rfl, s, a, _, c + 7, rfl, by decide, by decide, S2, fun d2 H3 _ _ x3 S3 => ⟨by show 8 ≤ sizeLine; decide, fun M hM => ?_⟩⟩
    have n4 := same_new (o := HO.lst [V.non, V.int 0, V.int le, V.int le, V.int mo, V.int mo, V.int d1, V.int d2]) hM
    have Ms := S3.ne hM
    have Ma := S3.nea hM
    have S4 := S3.ext n4
    have h4 : (upd H3 M (.lst [V.non, V.int 0, V.int le, V.int le, V.int mo, V.int mo, V.int d1, V.int d2])) M = some (.lst ([none, some 0, some le, some le, some mo, some mo, some d1, some d2].map lbV)) := upd_same
    have e4 : Ext s H (upd H3 M (.lst [V.non, V.int 0, V.int le, V.int le, V.int mo, V.int mo, V.int d1, V.int d2])) := ((x1.trans x2).trans x3).trans (Ext.of n4)
    have HM : H M = none := ext_free ((x1.trans x2).trans x3) S3 hM
    generalize upd H3 M (.lst [V.non, V.int 0, V.int le, V.int le, V.int mo, V.int mo, V.int d1, V.int d2]) = H4 at n4 S4 h4 e4 ⊢
    refine ⟨_, rfl, .inl ⟨rfl, _, SqL.of h4⟩, _, rfl, _, rfl, s, a, _, c + 6, rfl, by decide, by decide, S4, fun d3 H5 _ _ x5 S5 => ?_⟩
    have h5 := x5 _ _ Ms h4
    refine ⟨_, _, rfl, rfl, M, _, _, rfl, rfl, h5, by show 8 < sizeLine; decide, ?_⟩
    have h6 : (upd H5 M (.lst ([none, some 0, some le, some le, some mo, some mo, some d1, some d2].map lbV ++ [V.int (-1 - d3)]))) M = some (.lst ([none, some 0, some le, some le, some mo, some mo, some d1, some d2, some (-1 - d3)].map lbV)) := upd_same
    have e6 : Ext s H (upd H5 M (.lst ([none, some 0, some le, some le, some mo, some mo, some d1, some d2].map lbV ++ [V.int (-1 - d3)]))) := ext_keep HM (e4.trans x5)
    have S6 : Src (upd H5 M (.lst ([none, some 0, some le, some le, some mo, some mo, some d1, some d2].map lbV ++ [V.int (-1 - d3)]))) s a (c + 6) := S5.put Ms Ma
    have ht6 : SqT K (upd H5 M (.lst ([none, some 0, some le, some le, some mo, some mo, some d1, some d2].map lbV ++ [V.int (-1 - d3)]))) t (lab.map lbV) := tk_put h5 _ _ ((TK.ext (K := K) (e4.trans x5) hS) _ _ ht)
    show _
    generalize upd H5 M (.lst ([none, some 0, some le, some le, some mo, some mo, some d1, some d2].map lbV ++ [V.int (-1 - d3)])) = H6 at h6 e6 S6 ht6
    refine ⟨_, rfl, _, rfl, _, rfl, t, _, rfl, ht6, fun R1 H7 m7 hR1 => ?_⟩
    rw [cutV_to s0] at hR1
    refine ⟨_, rfl, _, rfl, .inl ⟨s, a, M, _, c + 5, rfl, SqL.of (m7 _ _ h6), Ms, by simp, by show 9 ≤ 100000; decide, S6.ext m7, fun v H8 vm x8 S8 => ⟨by show 1 ≤ sizeLine; decide, fun J hJ => ?_⟩⟩⟩
    obtain ⟨y, _, rfl⟩ := List.mem_map.mp vm
    have n9 := same_new (o := HO.tup [lbV y]) hJ
    have T8 := TK.ext (K := K) x8 (S6.ext m7)
    refine ⟨R1, J, _, _, rfl, rfl, n9.tup (T8 _ _ hR1), SqT.of upd_same, by rw [List.length_take, lm]; exact small_le _ (by show _ + 1 ≤ _; omega), fun R2 H10 m10 hR2 => ?_⟩
    have ht10 := m10.tup (n9.tup (T8 _ _ (m7.tup ht6)))
    refine ⟨_, rfl, _, rfl, _, _, rfl, rfl, _, rfl, t, _, rfl, ht10, fun R3 H11 m11 hR3 => ?_⟩
    rw [cutV_from (by omega)] at hR3
    refine ⟨R2, R3, _, _, rfl, rfl, m11.tup hR2, hR3, by rw [List.length_append, List.length_take, List.length_drop, lm]; exact small_le _ (by show _ + 1 + _ ≤ _; omega), fun R4 H12 m12 hR4 => ?_⟩
    have er : (lab.map lbV).take sp.toNat ++ [lbV y] ++ (lab.map lbV).drop (sp + 1).toNat = (lab.take sp.toNat ++ [y] ++ lab.drop (sp + 1).toNat).map lbV := by
      rw [List.map_append, List.map_append, List.map_take, List.map_drop]; rfl
    rw [er] at hR4
    have m912 := n9.trans (m10.trans (m11.trans m12))
    refine q R4 _ H12 hR4 ?_ (((e6.trans (Ext.of m7)).trans x8).trans (Ext.of m912)) ((S8.ext m912).mono (by omega))
    rw [List.length_append, List.length_append, List.length_take, List.length_drop, List.length_singleton]
    omega
end
section
variable {P : Program} {w : World} {K : PySem.W.Frag} {mg : Str → Option Value} {base : Heap}
theorem ok__law_all_labels (D : Df K mg "_law_all_labels" s__law_all_labels ["source", "book", "least"]) (T : Tx mg)  (C__law_bent : Cal P w K mg base "_law_bent" ["source", "labels"] 4 (sp22_bent K)) (C__law_pick : Cal P w K mg base "_law_pick" ["source", "row"] 3 (sp3__law_pick K)) : Cal P w K mg base "_law_all_labels" ["source", "book", "least"] 5 (sp22_all K) := by
  obtain ⟨f__law_bent, fd__law_bent, G__law_bent, g__law_bent, k__law_bent, b__law_bent⟩ := C__law_bent
  obtain ⟨f__law_pick, fd__law_pick, G__law_pick, g__law_pick, k__law_pick, b__law_pick⟩ := C__law_pick
  obtain ⟨f, fd, F, gf, bf⟩ := D
  refine ⟨f, fd, F.ok sc__law_all_labels (fun vs H Q E h => ?_) (fun cdv A outer s₀ H vs Q E hr h => ?_), gf, F.kp, bf⟩
  · obtain ⟨s, a, t, b, v, lab, c, rfl, _⟩ := h; rfl
  · obtain ⟨s, a, t, b, v, lab, c, rfl, hb, nb, ht, el, hS, q⟩ := h
    refine ⟨_, (pss_cons (ps_set (i := 3) sc__law_all_labels.nd rfl (Or.inl rfl) (pe_callB call_len_seq (by rfl) T.n_len PySem.boot_len (pa_cons (pv 2) pa_nil)))
      (pss_cons (ps_set (i := 4) sc__law_all_labels.nd rfl (Or.inl rfl) (pe_lst (pa_cons (pv 2) (pa_cons (pe_tup pa_nil) (pa_cons (pe_op op_mulT (pe_tup (pa_cons pe_non pa_nil)) (pv 3)) (pa_cons (pe_op op_mulT (pe_tup (pa_cons pe_int pa_nil)) (pv 3)) (pa_cons (pe_op (op_cat (K := K) rfl) (pv 2) (pe_tup (pa_cons (pe_call G__law_pick (hr.mono (by decide)) (by rfl) g__law_pick k__law_pick b__law_pick .nil pass0 (pa_cons (pv 0) (pa_cons (pe_lst (pa_cons pe_non (pa_cons pe_int (pa_cons pe_int pa_nil)))) pa_nil))) pa_nil))) (pa_cons (pe_slice (sl_tupS (K := K) rfl) (pv 2) (po_some pe_int) po_none) pa_nil))))))))
      (pss_cons (ps_for PassesOwn.never rfl (pi_range1 (by rfl) T.n_range (pa_cons pe_int pa_nil)) (pg_name (i := 5) sc__law_all_labels.nd rfl (Or.inl rfl))
      (pss_cons (ps_set (i := 6) sc__law_all_labels.nd rfl (Or.inl rfl) (pe_call G__law_bent (hr.mono (by decide)) (by rfl) g__law_bent k__law_bent b__law_bent .nil pass0 (pa_cons (pv 0) (pa_cons (pv 2) pa_nil))))
        (pss_cons (ps_expr (pe_bm PySem.F.plainAttrs_list PySem.F.slot_list_append PySem.F.type_list_append mt_append (pv 4) (pa_cons (pv 6) pa_nil)))
        (pss_one (ps_if (pt_cmpR op_lt (pv 5) pe_int (nomark _))
        (pss_one (ps_expr (pe_bm PySem.F.plainAttrs_list PySem.F.slot_list_append PySem.F.type_list_append mt_append (pv 4) (pa_cons (pe_call G__law_bent (hr.mono (by decide)) (by rfl) g__law_bent k__law_bent b__law_bent .nil pass0 (pa_cons (pv 0) (pa_cons (pe_call G__law_bent (hr.mono (by decide)) (by rfl) g__law_bent k__law_bent b__law_bent .nil pass0 (pa_cons (pv 0) (pa_cons (pv 6) pa_nil))) pa_nil))) pa_nil))))
        pss_nil)))))
      (pss_cons (ps_expr (pe_bm PySem.F.plainAttrs_list PySem.F.slot_list_append PySem.F.type_list_append mt_append (pv 4) (pa_cons (pe_callTy call_tuple_of (by rfl) T.n_tuple (by decide +kernel) (pa_cons (pe_lc (own := [("site", 7)]) (g := gName 7) (tt := tYes) rfl sc__law_all_labels.nd (pi_tup (pe_ix ix_tup (pv 1) pe_int (fun _ _ => rfl))) (blkOk_by (own := [("site", 7)]) (N := N__law_all_labels) (sc := defScope s__law_all_labels) (by decide +kernel)) (fun _ _ _ _ _ => pg_name (i := 7) sc__law_all_labels.nd rfl (Or.inl rfl)) (fun _ _ _ _ _ => pts_nil) (fun _ _ _ _ _ => (pe_call G__law_pick (hr.mono (by decide)) (by rfl) g__law_pick k__law_pick b__law_pick .nil pass0 (pa_cons (pv 0) (pa_cons (pe_lst (pa_cons pe_non (pa_cons pe_int (pa_cons pe_int (pa_cons pe_int (pa_cons pe_int (pa_cons pe_int pa_nil))))))) pa_nil))))) pa_nil)) pa_nil)))
      (pss_one (ps_ret (pe_op L2.op_cat (pv 4) (pe_lst (pa_cons (pe_callTy call_tuple_of (by rfl) T.n_tuple (by decide +kernel) (pa_cons (pe_lc (own := [("site", 7)]) (g := gName 7) (tt := tYes) rfl sc__law_all_labels.nd (pi_tup (pe_ix ix_tup (pv 1) pe_int (fun _ _ => rfl))) (blkOk_by (own := [("site", 7)]) (N := N__law_all_labels) (sc := defScope s__law_all_labels) (by decide +kernel)) (fun _ _ _ _ _ => pg_name (i := 7) sc__law_all_labels.nd rfl (Or.inl rfl)) (fun _ _ _ _ _ => pts_nil) (fun _ _ _ _ _ => (pe_call G__law_pick (hr.mono (by decide)) (by rfl) g__law_pick k__law_pick b__law_pick .nil pass0 (pa_cons (pv 0) (pa_cons (pe_lst (pa_cons pe_int (pa_cons pe_int (pa_cons pe_int (pa_cons pe_non pa_nil))))) pa_nil))))) pa_nil)) pa_nil))))))))), ?_⟩
    obtain ⟨ba, bus, c3, w3, c5, w5, rfl, hB, e3, e5, hC3, hC5, hw3, hw5⟩ := bk_at hb
    have sl := nb.ok.si
    have spos := List.length_pos_iff.mpr nb.ne
    have wl3 := hw3.map_len
    have lm : (lab.map lbV).length = lab.length := List.length_map _
    refine ⟨_, rfl, t, _, rfl, .inr ht, ?_⟩
    refine ⟨_, rfl, Nat.zero_le _, fun A0 hA0 => ⟨by show 1 ≤ sizeLine; decide, fun A1 hA1 => ?_⟩⟩
    have n0 := same_new (o := HO.tup []) hA0
    have n1 := same_new (o := HO.tup [V.non]) hA1
    refine ⟨_, rfl, A1, (lab.map lbV).length, _, rfl, rfl, SqT.of upd_same, by simp, by omega, by show 1 ≤ 1000; decide, fun M1 H2 m2 hM1 => ?_⟩
    rw [show [V.non] = [lbV none] from rfl, rep_flat] at hM1
    have q0 : SqT K H2 A0 [] := m2.tup (n1.tup (SqT.of upd_same))
    have m02 := n0.trans (n1.trans m2)
    refine ⟨by show 1 ≤ sizeLine; decide, fun A2 hA2 => ?_⟩
    have n3 := same_new (o := HO.tup [V.int 0]) hA2
    refine ⟨_, rfl, A2, (lab.map lbV).length, _, rfl, rfl, SqT.of upd_same, by simp, by omega, by show 1 ≤ 1000; decide, fun M2 H4 m4 hM2 => ?_⟩
    rw [show [V.int 0] = [lbV (some 0)] from rfl, rep_flat] at hM2
    have n34 := n3.trans m4
    have m04 := m02.trans n34
    have q0 := n34.tup q0
    have hM1 := n34.tup hM1
    have S4 := hS.ext m04
    refine ⟨_, rfl, _, rfl, by show 3 ≤ sizeLine; decide, fun L1 hL1 => ?_⟩
    have n5 := same_new (o := HO.lst [V.non, V.int 0, V.int 1]) hL1
    have h5 : (upd H4 L1 (.lst [V.non, V.int 0, V.int 1])) L1 = some (.lst ([none, some 0, some 1].map lbV)) := upd_same
    refine .inl ⟨s, a, L1, _, c + 499, rfl, SqL.of h5, S4.ne hL1, by simp, by show 3 ≤ 100000; decide, S4.ext n5, fun v5 H6 vm x6 S6 => ⟨by show 1 ≤ sizeLine; decide, fun A3 hA3 => ?_⟩⟩
    obtain ⟨y5, _, rfl⟩ := List.mem_map.mp vm
    have n7 := same_new (o := HO.tup [lbV y5]) hA3
    have x47 : Ext s H4 _ := ((Ext.of n5).trans x6).trans (Ext.of n7)
    have T47 := TK.ext (K := K) x47 S4
    have e07 : Ext s H _ := (Ext.of m04).trans x47
    have ht7 := (TK.ext (K := K) e07 hS) _ _ ht
    have q0 := T47 _ _ q0
    have hM1 := T47 _ _ hM1
    have hM2 := T47 _ _ hM2
    have S7 := S6.ext n7
    refine ⟨t, A3, _, _, rfl, rfl, ht7, SqT.of upd_same, by rw [lm]; exact small_le _ (by show _ + 1 ≤ _; omega), fun M3 H8 m8 hM3 => ?_⟩
    refine ⟨_, rfl, 1, rfl, t, _, rfl, m8.tup ht7, fun M4 H9 m9 hM4 => ⟨by show 6 ≤ sizeLine; decide, fun F0 hF => ?_⟩⟩
    rw [cutV_from (by decide)] at hM4
    have m89 := m8.trans m9
    have S9 := S7.ext m89
    have n10 := same_new (o := HO.lst [V.ref t, V.ref A0, V.ref M1, V.ref M2, V.ref M3, V.ref M4]) hF
    have Fs := S9.ne hF
    have Fa := S9.nea hF
    have e09 : Ext s H H9 := e07.trans (Ext.of m89)
    have HF : H F0 = none := ext_free e09 S9 hF
    have tk10 := (TK.same (K := K) m89).trans (TK.same n10)
    have er : lab.map lbV ++ [lbV y5] = (lab ++ [y5]).map lbV := by rw [List.map_append]; rfl
    rw [er] at hM3
    rw [← List.map_drop] at hM4
    have fo : FoL K s a F0 H (upd H9 F0 (HO.lst [V.ref t, V.ref A0, V.ref M1, V.ref M2, V.ref M3, V.ref M4])) [V.ref t, V.ref A0, V.ref M1, V.ref M2, V.ref M3, V.ref M4] [lab, [], List.replicate (lab.map lbV).length none, List.replicate (lab.map lbV).length (some 0), lab ++ [y5], lab.drop (1 : Int).toNat] (c + 499) := by
      refine ⟨upd_same, ?_, fun l hl => ?_, e09.trans (Ext.of n10), S9.ext n10⟩
      · exact dlc ⟨t, _, rfl, tk10 _ _ ht7, lbs_dv _⟩ (dlc ⟨A0, _, rfl, tk10 _ _ q0, lbs_dv _⟩ (dlc ⟨M1, _, rfl, tk10 _ _ hM1, lbs_dv _⟩ (dlc ⟨M2, _, rfl, tk10 _ _ hM2, lbs_dv _⟩ (dlc ⟨M3, _, rfl, n10.tup (m9.tup hM3), lbs_dv _⟩ (dlc ⟨M4, _, rfl, n10.tup hM4, lbs_dv _⟩ dln)))))
      · simp only [List.mem_cons, List.not_mem_nil, or_false] at hl
        rcases hl with rfl | rfl | rfl | rfl | rfl | rfl
        · omega
        · exact Nat.zero_le _
        · rw [List.length_replicate]; omega
        · rw [List.length_replicate]; omega
        · rw [List.length_append]; show _ + 1 ≤ _; omega
        · rw [List.length_drop]; omega
    have tlen : [lab, [], List.replicate (lab.map lbV).length none, List.replicate (lab.map lbV).length (some 0), lab ++ [y5], lab.drop (1 : Int).toNat].length = 6 := rfl
    generalize [lab, [], List.replicate (lab.map lbV).length none, List.replicate (lab.map lbV).length (some 0), lab ++ [y5], lab.drop (1 : Int).toNat] = T0 at fo tlen
    generalize [V.ref t, V.ref A0, V.ref M1, V.ref M2, V.ref M3, V.ref M4] = ys0 at fo ⊢
    generalize upd H9 F0 (HO.lst ys0) = H10 at fo ⊢
    clear tk10 n10 hM4 hM3 m89 m9 m8 hM1 hM2 q0 ht7 e09 e07 T47 x47 n7 x6 S6 n5 h5 S4 n34 m04 n3 m02 n0 n1 m2 m4 S7 S9 hF hA3 hL1 hA2 hA1 hA0
    have TH : ∀ {H'}, Ext s H H' → TK K H H' := fun x => TK.ext x hS
    have tz : ∀ {H' : Hp} {ys : List V} {T : List (List Lb)} {c' : Nat}, FoL K s a F0 H H' ys T c' → T.length ≤ 100 → ys.length < sizeLine := fun f l => by rw [f.d.map_len]; exact small_lt _ (by omega)
    refine ⟨4, rfl, by decide, by decide, ?_⟩
    refine for_range (lo := 0) (n := (4 : Int).toNat) (fun i σ H' => ∃ (ys : List V) (T : List (List Lb)) (v5 v6 : Option V), σ = [some (.ref s), some (.ref ba), some (.ref t), some (.int ((lab.map lbV).length : Nat)), some (.ref F0), v5, v6, none] ∧ FoL K s a F0 H H' ys T (c + (480 - 50 * i)) ∧ T.length ≤ 6 + 2 * i) ⟨_, _, _, _, rfl, ⟨fo.f, fo.d, fo.t, fo.e, fo.s.mono (by omega)⟩, by omega⟩ ?_ ?_
    · rintro i σ H1 hi ⟨ys, T, v5, v6, rfl, fo, tl⟩
      have hi4 : i < 4 := hi
      refine ⟨_, rfl, _, rfl, s, a, t, lab, c + (480 - 50 * i) - 10, rfl, TH fo.e _ _ ht, by omega, by omega, fo.s.mono (by omega), fun r1 y1 H2 hr1 yl1 x2 S2 => ?_⟩
      have fo2 := fo.ext Fs x2 S2
      refine ⟨_, rfl, .inl ⟨rfl, _, SqL.of fo2.f⟩, _, rfl, F0, _, _, rfl, rfl, fo2.f, tz fo2 (by omega), ?_⟩
      have tk3 := tk_put (K := K) (o := .lst (ys ++ [V.ref r1])) fo2.f
      have fo3 := fo2.put HF Fs Fa (v := .ref r1) (w := y1) ⟨r1, _, rfl, hr1, lbs_dv _⟩ (by omega)
      have hr3 := tk3 _ _ hr1
      generalize upd H2 F0 (.lst (ys ++ [V.ref r1])) = H3 at fo3 hr3 ⊢
      have tl3 : (T ++ [y1]).length = T.length + 1 := by rw [List.length_append]; rfl
      refine ⟨_, rfl, _, _, rfl, rfl, _, rfl, ite2 (fun _ => ?_) (fun _ => ⟨_, _, _, _, rfl, ⟨fo3.f, fo3.d, fo3.t, fo3.e, fo3.s.mono (by omega)⟩, by omega⟩)⟩
      refine ⟨_, rfl, .inl ⟨rfl, _, SqL.of fo3.f⟩, _, rfl, _, rfl, _, rfl, s, a, r1, y1, c + (480 - 50 * i) - 20, rfl, hr3, by omega, by omega, fo3.s.mono (by omega), fun r2 y2 H4 hr2 yl2 x4 S4 => ?_⟩
      refine ⟨s, a, r2, y2, c + (480 - 50 * i) - 30, rfl, hr2, by omega, by omega, S4.mono (by omega), fun r3 y3 H5 hr3' yl3 x5 S5 => ?_⟩
      have fo5 := fo3.ext Fs (x4.trans x5) S5
      refine ⟨F0, _, _, rfl, rfl, fo5.f, tz fo5 (by omega), ?_⟩
      have fo6 := fo5.put HF Fs Fa (v := .ref r3) (w := y3) ⟨r3, _, rfl, hr3', lbs_dv _⟩ (by omega)
      exact ⟨_, _, _, _, rfl, ⟨fo6.f, fo6.d, fo6.t, fo6.e, fo6.s.mono (by omega)⟩, by rw [List.length_append, tl3]; show _ + 1 + 1 ≤ _; omega⟩
    rintro σ H1 ⟨ys, T, v5, v6, rfl, fo, tl⟩
    have tl14 : T.length ≤ 14 := tl
    have fo : FoL K s a F0 H H1 ys T (c + 280) := ⟨fo.f, fo.d, fo.t, fo.e, fo.s.mono (by show _ ≤ c + (480 - 50 * 4); omega)⟩
    refine ⟨_, rfl, .inl ⟨rfl, _, SqL.of fo.f⟩, _, rfl, ba, bus, 3, .ref c3, rfl, rfl, TH fo.e _ _ hB, atI_nat (j := 3) e3, c3, rfl, ⟨_, TH fo.e _ _ hC3⟩, fun M hM => ?_⟩
    have Ms := fo.s.ne hM
    have Ma := fo.s.nea hM
    refine lc_tup (K := K) (a := c3) (xs := w3) (fun i H' => ∃ ls : List Lb, H' M = some (.lst (ls.map lbV)) ∧ ls.length = i ∧ Ext s H1 H' ∧ Src H' s a (c + (280 - i))) ⟨[], upd_same, rfl, Ext.new hM, fo.s.new hM⟩ (fun i H' _ h => by obtain ⟨_, _, _, x, _⟩ := h; exact (TK.ext (K := K) x fo.s) _ _ (TH fo.e _ _ hC3)) ?_ ?_
    · rintro i x H2 hi ⟨ls, h2, ll, x2, S2⟩
      have il := (List.getElem?_eq_some_iff.mp hi).1
      refine ⟨rfl, _, rfl, by show 6 ≤ sizeLine; decide, fun L hL => ?_⟩
      have n3 := same_new (o := HO.lst ([none, some 0, some 0, some 1, some 2, some 3].map lbV)) hL
      refine .inl ⟨s, a, L, [none, some 0, some 0, some 1, some 2, some 3].map lbV, c + (280 - (i + 1)), rfl, SqL.of upd_same, S2.ne hL, by simp, by show 6 ≤ 100000; decide, (S2.ext n3).mono (by omega), fun v H4 vm x4 S4 => ?_⟩
      obtain ⟨y, _, rfl⟩ := List.mem_map.mp vm
      have h4 := x4 _ _ Ms (n3 _ _ h2)
      refine ⟨_, h4, by rw [List.length_map]; exact small_lt _ (by omega), ls ++ [y], by rw [upd_same, List.map_append]; rfl, by rw [List.length_append, ll]; rfl, ext_keep hM ((x2.trans (Ext.of n3)).trans x4), S4.put Ms Ma⟩
    rintro H5 ⟨ls, hH5, lls, xH5, SH5⟩

    have fo5 := fo.ext Fs xH5 SH5
    refine ⟨M, _, rfl, .inl ⟨SqL.of hH5, fun X hX => ?_⟩⟩
    have n6 := same_new (o := HO.tup (ls.map lbV)) hX
    have fo6 := fo5.ext Fs (Ext.of n6) (fo5.s.ext n6)
    refine ⟨F0, _, _, rfl, rfl, fo6.f, tz fo6 (by omega), ?_⟩
    have fo7 := fo6.put HF Fs Fa (v := .ref X) (w := ls) ⟨X, _, rfl, SqT.of upd_same, lbs_dv _⟩ (by omega)
    generalize upd (upd H5 X (HO.tup (ls.map lbV))) F0 (.lst (ys ++ [V.ref X])) = H7 at fo7 ⊢
    have tl7 : (T ++ [ls]).length = T.length + 1 := by rw [List.length_append]; rfl
    have fo7 : FoL K s a F0 H H7 (ys ++ [V.ref X]) (T ++ [ls]) (c + 100) := ⟨fo7.f, fo7.d, fo7.t, fo7.e, fo7.s.mono (by omega)⟩
    refine ⟨_, rfl, _, rfl, ba, bus, 3, .ref c3, rfl, rfl, TH fo7.e _ _ hB, atI_nat (j := 3) e3, c3, rfl, ⟨_, TH fo7.e _ _ hC3⟩, fun N hN => ?_⟩
    have Ns := fo7.s.ne hN
    have Na := fo7.s.nea hN
    refine lc_tup (K := K) (a := c3) (xs := w3) (fun i H' => ∃ ls : List Lb, H' N = some (.lst (ls.map lbV)) ∧ ls.length = i ∧ Ext s H7 H' ∧ Src H' s a (c + (100 - i))) ⟨[], upd_same, rfl, Ext.new hN, fo7.s.new hN⟩ (fun i H' _ h => by obtain ⟨_, _, _, x, _⟩ := h; exact (TK.ext (K := K) x fo7.s) _ _ (TH fo7.e _ _ hC3)) ?_ ?_
    · rintro i x H2 hi ⟨ls, h2, ll, x2, S2⟩
      have il := (List.getElem?_eq_some_iff.mp hi).1
      refine ⟨rfl, _, rfl, by show 4 ≤ sizeLine; decide, fun L hL => ?_⟩
      have n3 := same_new (o := HO.lst ([some 0, some 0, some 1, none].map lbV)) hL
      refine .inl ⟨s, a, L, [some 0, some 0, some 1, none].map lbV, c + (100 - (i + 1)), rfl, SqL.of upd_same, S2.ne hL, by simp, by show 4 ≤ 100000; decide, (S2.ext n3).mono (by omega), fun v H4 vm x4 S4 => ?_⟩
      obtain ⟨y, _, rfl⟩ := List.mem_map.mp vm
      have h4 := x4 _ _ Ns (n3 _ _ h2)
      refine ⟨_, h4, by rw [List.length_map]; exact small_lt _ (by omega), ls ++ [y], by rw [upd_same, List.map_append]; rfl, by rw [List.length_append, ll]; rfl, ext_keep hN ((x2.trans (Ext.of n3)).trans x4), S4.put Ns Na⟩
    rintro H8 ⟨ks, hH8, lks, xH8, SH8⟩

    have fo8 := fo7.ext Fs xH8 SH8
    refine ⟨N, _, rfl, .inl ⟨SqL.of hH8, fun Y hY => ⟨by show 1 ≤ sizeLine; decide, fun L9 hL9 => ?_⟩⟩⟩
    have n9 := same_new (o := HO.tup (ks.map lbV)) hY
    have n10 := same_new (o := HO.lst [V.ref Y]) hL9
    have n910 := n9.trans n10
    have fo10 := fo8.ext Fs (Ext.of n910) (fo8.s.ext n910)
    refine ⟨F0, L9, _, _, rfl, rfl, fo10.f, upd_same, by rw [fo10.d.map_len, tl7]; exact small_le _ (by show _ + 1 + 1 ≤ _; omega), fun Z hZ => ?_⟩
    have n11 := same_new (o := HO.lst (ys ++ [V.ref X] ++ [V.ref Y])) hZ
    have S10 := fo8.s.ext n910
    refine q Z _ (T ++ [ls] ++ [ks]) _ (SqL.of upd_same) ?_ (fun l hl => ?_) (by rw [List.length_append, tl7]; show _ + 1 + 1 ≤ _; omega) (S10.ne hZ) (fo10.e.trans (Ext.of n11)) ((S10.ext n11).mono (by omega))
    · exact DVs.snoc (fo10.d.tk (TK.same n11)) ⟨Y, _, rfl, n11.tup (n10.tup (SqT.of upd_same)), lbs_dv _⟩
    · rcases List.mem_append.mp hl with e | e
      · exact fo7.t l e
      · rw [List.mem_singleton.mp e]; omega
end
section
variable {P : Program} {w : World} {K : PySem.W.Frag} {mg : Str → Option Value} {base : Heap}
theorem ok__law_above (D : Df K mg "_law_above" s__law_above ["labels", "hops"]) (T : Tx mg)   : Cal P w K mg base "_law_above" ["labels", "hops"] 1 (sp22_above K) := by
  obtain ⟨f, fd, F, gf, bf⟩ := D
  refine ⟨f, fd, F.ok sc__law_above (fun vs H Q E h => ?_) (fun cdv A outer s₀ H vs Q E hr h => ?_), gf, F.kp, bf⟩
  · obtain ⟨t, u, la, lb, rfl, _⟩ := h; rfl
  · obtain ⟨t, u, la, lb, rfl, ht, hu, el, ll, h, q⟩ := h
    refine ⟨_, (pss_cons (ps_for PassesOwn.never rfl (pi_range1 (by rfl) T.n_range (pa_cons (pe_callB call_len_seq (by rfl) T.n_len PySem.boot_len (pa_cons (pv 1) pa_nil)) pa_nil)) (pg_name (i := 2) sc__law_above.nd rfl (Or.inl rfl))
      (pss_one (ps_if (PW.pt (pw_and (pt_cmpR op_notN (pe_ix ix_tup (pv 1) (pv 2) (fun _ _ => rfl)) pe_non (nomark _)) (pw_and1 (PW.pt (pw_or (pt_cmpR op_isN (pe_ix ix_tup (pv 0) (pv 2) (fun _ _ => rfl)) pe_non (nomark _)) (pw_or1 (pt_cmpR op_gt (pe_ix ix_tup (pv 0) (pv 2) (fun _ _ => rfl)) (pe_ix ix_tup (pv 1) (pv 2) (fun _ _ => rfl)) (nomark _))))))))
        (pss_one (ps_ret pe_bl))
        pss_nil)))
      (pss_one (ps_ret pe_bl))), ?_⟩
    refine ⟨_, rfl, u, _, rfl, .inr hu, _, rfl, by rw [List.length_map]; omega, by rw [List.length_map]; omega, ?_⟩
    refine for_range (lo := 0) (n := (((lb.map lbV).length : Int)).toNat) (fun i σ H' => ∃ v2, σ = [some (.ref t), some (.ref u), v2] ∧ H' = H) ⟨_, rfl, rfl⟩ ?_ ?_
    · rintro i σ H' hi ⟨v2, rfl, rfl⟩
      rw [List.length_map] at hi
      have l1 : i < lb.length := by omega
      obtain ⟨y, hy⟩ : ∃ y, lb[i]? = some y := ⟨_, List.getElem?_eq_getElem l1⟩
      obtain ⟨x, hx⟩ : ∃ x, la[i]? = some x := ⟨_, List.getElem?_eq_getElem (by omega)⟩
      have aitY : atI (lb.map lbV) (0 + (i : Int)) = some (lbV y) := at_of (j := i) (by omega) (by rw [List.getElem?_map, hy]; rfl)
      have aitX : atI (la.map lbV) (0 + (i : Int)) = some (lbV x) := at_of (j := i) (by omega) (by rw [List.getElem?_map, hx]; rfl)
      refine ⟨_, rfl, _, rfl, u, _, _, _, rfl, rfl, hu, aitY, rfl, _, rfl, ?_⟩
      cases y with
      | none => exact iN rfl (iteF ⟨_, rfl, rfl⟩)
      | some d =>
        obtain ⟨j, hj, le⟩ := h i d hy
        rw [hx] at hj
        obtain rfl := Option.some.inj hj
        refine iG rfl ⟨_, rfl, _, rfl, t, _, _, _, rfl, rfl, ht, aitX, rfl, _, rfl, iN rfl ?_⟩
        exact ⟨_, rfl, _, rfl, t, _, _, _, rfl, rfl, ht, aitX, _, rfl, _, rfl, u, _, _, _, rfl, rfl, hu, aitY, _, _, rfl, rfl, _, rfl, iN (decide_eq_false (by show ¬ d < j; omega)) ⟨_, rfl, rfl⟩⟩
    rintro σ H' ⟨v2, rfl, rfl⟩
    exact q
end

end Z
namespace Z
open PySem L2 SX
theorem hD_lb (F : Hs) (y : Str) : hD (lookF F y) = lbD ((lookF F y).map fun d : Nat => (d : Int)) := by
  cases lookF F y <;> rfl
theorem hops_lbs {b : Bk} {F : Hs} : (b.si.map fun s => hD (lookF F s.n)) = (hLab b F).map lbD := by
  unfold hLab nms
  rw [List.map_map, List.map_map]
  exact List.map_congr_left fun s _ => hD_lb F s.n
section
variable {P : Program} {w : World} {K : PySem.W.Frag} {mg : Str → Option Value} {base : Heap}
theorem ok_law {f : Addr} {fd : FuncData} (F : Fun K "law" "law" s_law f fd) (T : Tx mg)  (C__law_above : Cal P w K mg base "_law_above" ["labels", "hops"] 1 (sp22_above K)) (C__law_all_labels : Cal P w K mg base "_law_all_labels" ["source", "book", "least"] 5 (sp22_all K)) (C__law_draw : Cal P w K mg base "_law_draw" ["source", "many"] 2 sp__law_draw) (C__law_is_int : Cal P w K mg base "_law_is_int" ["value"] 1 (sp__law_is_int K)) (C__law_kind : Cal P w K mg base "_law_kind" ["source", "book", "words"] 6 (sp20_kind K)) (C__law_labels_right : Cal P w K mg base "_law_labels_right" ["book", "kind", "wide", "labels"] 1 (sp22_right K)) (C__law_least_hops : Cal P w K mg base "_law_least_hops" ["book", "kind", "wide"] 1 (sp22_least K)) (C__law_net : Cal P w K mg base "_law_net" ["source", "many", "words"] 7 (sp20_net K)) (C__law_once_in : Cal P w K mg base "_law_once_in" ["source", "many"] 3 sp__law_once_in) (C__law_same : Cal P w K mg base "_law_same" ["actual", "due"] 2 (sp__law_same K 1)) (C__law_source : Cal P w K mg base "_law_source" ["script"] 2 (sp__law_source K)) (C__law_wide : Cal P w K mg base "_law_wide" ["book", "kind"] 4 (sp22_wide K)) (C__law_words : Cal P w K mg base "_law_words" ["source"] 5 (sp2__law_words K)) (C_hops_of : Cal P w K mg base "hops_of" ["book", "kind"] 10 (sp_hops_of K)) (C_judge_labels : Cal P w K mg base "judge_labels" ["book", "kind", "labels"] 9 (sp22_judge K)) : FnOk P w K mg base CX0 11 f fd ["script"] (sp_law K) := by
  obtain ⟨f__law_above, fd__law_above, G__law_above, g__law_above, k__law_above, b__law_above⟩ := C__law_above
  obtain ⟨f__law_all_labels, fd__law_all_labels, G__law_all_labels, g__law_all_labels, k__law_all_labels, b__law_all_labels⟩ := C__law_all_labels
  obtain ⟨f__law_draw, fd__law_draw, G__law_draw, g__law_draw, k__law_draw, b__law_draw⟩ := C__law_draw
  obtain ⟨f__law_is_int, fd__law_is_int, G__law_is_int, g__law_is_int, k__law_is_int, b__law_is_int⟩ := C__law_is_int
  obtain ⟨f__law_kind, fd__law_kind, G__law_kind, g__law_kind, k__law_kind, b__law_kind⟩ := C__law_kind
  obtain ⟨f__law_labels_right, fd__law_labels_right, G__law_labels_right, g__law_labels_right, k__law_labels_right, b__law_labels_right⟩ := C__law_labels_right
  obtain ⟨f__law_least_hops, fd__law_least_hops, G__law_least_hops, g__law_least_hops, k__law_least_hops, b__law_least_hops⟩ := C__law_least_hops
  obtain ⟨f__law_net, fd__law_net, G__law_net, g__law_net, k__law_net, b__law_net⟩ := C__law_net
  obtain ⟨f__law_once_in, fd__law_once_in, G__law_once_in, g__law_once_in, k__law_once_in, b__law_once_in⟩ := C__law_once_in
  obtain ⟨f__law_same, fd__law_same, G__law_same, g__law_same, k__law_same, b__law_same⟩ := C__law_same
  obtain ⟨f__law_source, fd__law_source, G__law_source, g__law_source, k__law_source, b__law_source⟩ := C__law_source
  obtain ⟨f__law_wide, fd__law_wide, G__law_wide, g__law_wide, k__law_wide, b__law_wide⟩ := C__law_wide
  obtain ⟨f__law_words, fd__law_words, G__law_words, g__law_words, k__law_words, b__law_words⟩ := C__law_words
  obtain ⟨f_hops_of, fd_hops_of, G_hops_of, g_hops_of, k_hops_of, b_hops_of⟩ := C_hops_of
  obtain ⟨f_judge_labels, fd_judge_labels, G_judge_labels, g_judge_labels, k_judge_labels, b_judge_labels⟩ := C_judge_labels
  refine F.ok sc_law (fun vs H Q E h => ?_) (fun cdv A outer s₀ H vs Q E hr h => ?_)
  · obtain ⟨a, ns, rfl, _⟩ := h; rfl
  · obtain ⟨a, ns, rfl, hA, hlen, q⟩ := h
    refine ⟨_, (pss_cons (ps_set (i := 1) sc_law.nd rfl (Or.inl rfl) (pe_call G__law_source (hr.mono (by decide)) (by rfl) g__law_source k__law_source b__law_source .nil pass0 (pa_cons (pv 0) pa_nil)))
      (pss_cons (ps_set (i := 2) sc_law.nd rfl (Or.inl rfl) (pe_call G__law_words (hr.mono (by decide)) (by rfl) g__law_words k__law_words b__law_words .nil pass0 (pa_cons (pv 1) pa_nil)))
      (pss_cons (ps_set (i := 3) sc_law.nd rfl (Or.inl rfl) (pe_op op_add pe_int (pe_call G__law_draw (hr.mono (by decide)) (by rfl) g__law_draw k__law_draw b__law_draw .nil pass0 (pa_cons (pv 1) (pa_cons pe_int pa_nil)))))
      (C8.pss_cut (ps_if (pt_val (pe_call G__law_once_in (hr.mono (by decide)) (by rfl) g__law_once_in k__law_once_in b__law_once_in .nil pass0 (pa_cons (pv 1) (pa_cons pe_int pa_nil))))
      (pss_one (ps_set (i := 3) sc_law.nd rfl (Or.inl rfl) (pe_op op_add pe_int (pe_op op_mul pe_int (pe_call G__law_draw (hr.mono (by decide)) (by rfl) g__law_draw k__law_draw b__law_draw .nil pass0 (pa_cons (pv 1) (pa_cons pe_int pa_nil)))))))
      pss_nil)
      (pss_cons (ps_set (i := 4) sc_law.nd rfl (Or.inl rfl) (pe_call G__law_net (hr.mono (by decide)) (by rfl) g__law_net k__law_net b__law_net .nil pass0 (pa_cons (pv 1) (pa_cons (pv 3) (pa_cons (pv 2) pa_nil)))))
      (pss_cons (ps_set (i := 5) sc_law.nd rfl (Or.inl rfl) (pe_call G__law_kind (hr.mono (by decide)) (by rfl) g__law_kind k__law_kind b__law_kind .nil pass0 (pa_cons (pv 1) (pa_cons (pv 4) (pa_cons (pv 2) pa_nil)))))
      (pss_cons (ps_set (i := 6) sc_law.nd rfl (Or.inl rfl) (pe_call G__law_wide (hr.mono (by decide)) (by rfl) g__law_wide k__law_wide b__law_wide .nil pass0 (pa_cons (pv 4) (pa_cons (pv 5) pa_nil))))
      (pss_cons (ps_set (i := 7) sc_law.nd rfl (Or.inl rfl) (pe_call G_hops_of (hr.mono (by decide)) (by rfl) g_hops_of k_hops_of b_hops_of .nil pass0 (pa_cons (pv 4) (pa_cons (pv 5) pa_nil))))
      (pss_cons (ps_if (PW.pt (pw_or (pt_not (pt_val (pe_callB call_isi (by rfl) T.n_isinstance (by decide +kernel) (pa_cons (pv 7) (pa_cons (pe_bltn (v := .ty "tuple") (by rfl) T.n_tuple (by decide +kernel) rfl) pa_nil))))) (pw_or1 (pt_cmpR op_in_seq pe_bl (pe_lc (own := [("hops", 11)]) (g := gName 11) (tt := tYes) rfl sc_law.nd (pi_tup (pv 7)) (blkOk_by (own := [("hops", 11)]) (N := N_law) (sc := defScope s_law) (by decide +kernel)) (fun _ _ _ _ _ => pg_name (i := 11) sc_law.nd rfl (Or.inl rfl)) (fun _ _ _ _ _ => pts_nil) (fun _ _ _ _ _ => (pe_or (pe_cmpR op_isN (pv 11) pe_non (nomark _)) (pe_one (pe_call G__law_is_int (hr.mono (by decide)) (by rfl) g__law_is_int k__law_is_int b__law_is_int .nil pass0 (pa_cons (pv 11) pa_nil)))))) (by rfl)))))
      (pss_one (ps_ret pe_bl))
      pss_nil)
      (pss_cons (ps_if (PW.pt (pw_or (pt_not (pt_val (pe_call G__law_labels_right (hr.mono (by decide)) (by rfl) g__law_labels_right k__law_labels_right b__law_labels_right .nil pass0 (pa_cons (pv 4) (pa_cons (pv 5) (pa_cons (pv 6) (pa_cons (pv 7) pa_nil))))))) (pw_or1 (pt_cmpR op_isnot_bl (pe_call G_judge_labels (hr.mono (by decide)) (by rfl) g_judge_labels k_judge_labels b_judge_labels .nil pass0 (pa_cons (pv 4) (pa_cons (pv 5) (pa_cons (pv 7) pa_nil)))) pe_bl (nomark _)))))
      (pss_one (ps_ret pe_bl))
      pss_nil)
      (pss_cons (ps_set (i := 8) sc_law.nd rfl (Or.inl rfl) (pe_call G__law_least_hops (hr.mono (by decide)) (by rfl) g__law_least_hops k__law_least_hops b__law_least_hops .nil pass0 (pa_cons (pv 4) (pa_cons (pv 5) (pa_cons (pv 6) pa_nil)))))
      (pss_cons (ps_for PassesOwn.never rfl (pi_list (pe_call G__law_all_labels (hr.mono (by decide)) (by rfl) g__law_all_labels k__law_all_labels b__law_all_labels .nil pass0 (pa_cons (pv 1) (pa_cons (pv 4) (pa_cons (pv 8) pa_nil))))) (pg_name (i := 9) sc_law.nd rfl (Or.inl rfl))
      (pss_cons (ps_set (i := 10) sc_law.nd rfl (Or.inl rfl) (pe_call G__law_labels_right (hr.mono (by decide)) (by rfl) g__law_labels_right k__law_labels_right b__law_labels_right .nil pass0 (pa_cons (pv 4) (pa_cons (pv 5) (pa_cons (pv 6) (pa_cons (pv 9) pa_nil))))))
        (pss_one (ps_if (PW.pt (pw_or (pt_not (pt_val (pe_call G__law_same (hr.mono (by decide)) (by rfl) g__law_same k__law_same b__law_same .nil pass0 (pa_cons (pe_call G_judge_labels (hr.mono (by decide)) (by rfl) g_judge_labels k_judge_labels b_judge_labels .nil pass0 (pa_cons (pv 4) (pa_cons (pv 5) (pa_cons (pv 9) pa_nil)))) (pa_cons (pv 10) pa_nil))))) (pw_or1 (PW.pt (pw_and (pt_val (pv 10)) (pw_and1 (pt_val (pe_call G__law_above (hr.mono (by decide)) (by rfl) g__law_above k__law_above b__law_above .nil pass0 (pa_cons (pv 9) (pa_cons (pv 7) pa_nil))))))))))
        (pss_one (ps_ret pe_bl))
        pss_nil))))
      (pss_one (ps_ret (pe_cmpR op_is_bl (pe_call G_judge_labels (hr.mono (by decide)) (by rfl) g_judge_labels k_judge_labels b_judge_labels .nil pass0 (pa_cons (pv 4) (pa_cons (pv 5) (pa_cons (pv 8) pa_nil)))) pe_bl (nomark _)))))))))))))))), ?_⟩
    refine ⟨_, rfl, a, ns, rfl, hA, hlen, fun s e H1 hs x1 S1 => ?_⟩
    refine ⟨_, rfl, s, e, 200000, rfl, S1.mono (by decide), fun w ws H2 hw hWd hW x2 S2 => ?_⟩
    have wn : w ≠ s := S1.ne hw
    refine ⟨_, rfl, s, e, _, 190000, rfl, by decide, by decide, S2.mono (by decide), fun v H3 v0 v1 x3 S3 => ?_⟩
    obtain ⟨v, rfl⟩ := Int.eq_ofNat_of_zero_le v0
    refine ⟨_, _, rfl, rfl, ?_⟩
    refine ⟨fun σ' H' => ∃ m : Nat, σ' = [some (.ref a), some (.ref s), some (.ref w), some (.int (m : Int)), none, none, none, none, none, none, none, none] ∧ 1 ≤ m ∧ m ≤ 8 ∧ H' w = some (.lst (ws.map V.str)) ∧ Src H' s e 180000, ?_, ?_⟩
    · refine ⟨_, rfl, s, e, _, 189999, rfl, by decide, by decide, S3, fun k H4 x4 S4 => ?_⟩
      have hW4 := x4 _ _ wn (x3 _ _ wn hWd)
      refine ⟨_, rfl, ite2 (fun _ => ?_) (fun _ => ⟨v + 1, ?_, by omega, by omega, hW4, S4.mono (by decide)⟩)⟩
      · refine ⟨_, rfl, s, e, _, 189000, rfl, by decide, by decide, S4.mono (by decide), fun z H5 z0 z1 x5 S5 => ?_⟩
        obtain ⟨z, rfl⟩ := Int.eq_ofNat_of_zero_le z0
        refine ⟨_, _, rfl, rfl, .inl ⟨by decide, by decide⟩, _, _, rfl, rfl, 6 + 2 * z, ?_, by omega, by omega, x5 _ _ wn hW4, S5.mono (by decide)⟩
        rw [show ((6 + 2 * z : Nat) : Int) = 6 + 2 * (z : Int) by omega]; rfl
      · rw [show ((v + 1 : Nat) : Int) = 1 + (v : Int) by omega]; rfl
    rintro σ' H4 ⟨m, rfl, m1, m8, hW4, S4⟩
    refine ⟨_, rfl, _, rfl, _, rfl, s, e, w, ws, m, 145000, rfl, m1, m8, SqL.of hW4, wn, hW, S4.mono (by decide), fun bv b H5 hb nb l1 f1 x5 S5 => ?_⟩
    have hW5 := x5 _ _ wn hW4
    refine ⟨_, rfl, _, rfl, _, rfl, s, e, w, b, bv, ws, 140000, rfl, hb, nb, SqL.of hW5, wn, hW, S5.mono (by decide), fun u k H6 hk kok x6 S6 => ?_⟩
    have hb6 := hb.tk (TK.ext x6 S5)
    have sl := nb.ok.si
    refine ⟨_, rfl, _, rfl, b, bv, u, k, rfl, hb6, nb, hk, kok, fun wt G H7 hG m7 hwt => ?_⟩
    have Gs := S6.ne hG
    have hb7 := hb6.tk (TK.same m7)
    have hk7 := hk.tk (TK.same m7)
    refine ⟨_, rfl, _, rfl, b, bv, u, k, rfl, hb7, nb, hk7, kok, fun tv F H8 m8' ho dt => ?_⟩
    rw [hops_lbs] at dt
    obtain ⟨ta, tus, rfl, hT, dT⟩ := dt
    have et := dvs_lbs dT
    subst et
    have wide : ∀ {H H' : Hp}, TK K H H' → (∀ xs, SqL K H G xs → SqL K H' G xs) → WideAt K H b k wt G → WideAt K H' b k wt G := fun tk sq ⟨us, fs, h1, h2, h3, h4, h5⟩ => ⟨us, fs, tk _ _ h1, sq _ h2, h3.tk tk, h4, h5⟩
    have hwt8 := wide (TK.same m8') (fun xs h => m8'.seq h) hwt
    have hb8 := hb7.tk (TK.same m8')
    have hk8 := hk7.tk (TK.same m8')
    have S8 := S6.ext (m7.trans m8')
    have hl := hLab_len b F
    have jt := jl_hops nb kok.on ho
    refine ⟨_, rfl, _, _, _, _, true, rfl, .ty _, TyX.ofT hT, kit_ty (by decide +kernel), _, rfl, iteF ?_⟩
    -- all are None or whole numbers
    refine ⟨_, rfl, ta, rfl, ⟨_, hT⟩, fun M hM => ?_⟩
    refine lc_tup (K := K) (a := ta) (xs := (hLab b F).map lbV) (fun i H' => H' M = some (.lst ((List.replicate i true).map V.bl)) ∧ i ≤ (hLab b F).length ∧ Same H8 H') ⟨upd_same, Nat.zero_le _, same_new hM⟩ (fun i H' _ h => h.2.2.tup hT) ?_ ?_
    · rintro i x H9 hi ⟨h9, il, m9⟩
      rw [List.getElem?_map] at hi
      cases ex : (hLab b F)[i]? with
      | none => rw [ex] at hi; cases hi
      | some y =>
        rw [ex] at hi
        obtain rfl : lbV y = x := Option.some.inj hi
        have il' := (List.getElem?_eq_some_iff.mp ex).1
        have fin : ∃ acc, H9 M = some (.lst acc) ∧ acc.length < sizeLine ∧ (upd H9 M (.lst (acc ++ [V.bl true]))) M = some (.lst ((List.replicate (i + 1) true).map V.bl)) ∧ i + 1 ≤ (hLab b F).length ∧ Same H8 (upd H9 M (.lst (acc ++ [V.bl true]))) := by
          refine ⟨_, h9, ?_, ?_, il', sput m9 hM⟩
          · rw [List.length_map, List.length_replicate]; exact small_lt _ (by omega)
          · rw [upd_same, List.replicate_succ', List.map_append]; rfl
        cases y with
        | none => exact ⟨rfl, _, rfl, rfl, _, rfl, iG rfl fin⟩
        | some j => exact ⟨rfl, _, rfl, rfl, _, rfl, iN rfl ⟨_, rfl, j, rfl, fin⟩⟩
    rintro H9 ⟨h9, _, m9⟩
    refine ⟨M, _, rfl, .inl (SqL.of h9), rfl, bls_flat _, _, rfl, ?_⟩
    rw [show ∀ X : Bool, (if false = true then !X else X) = X from fun X => if_neg Bool.false_ne_true, inV_bls]
    refine iN ?_ ?_
    · rw [List.any_eq_false]
      intro x hx
      rw [List.eq_of_mem_replicate hx]; decide
    have hb9 := hb8.tk (TK.same m9)
    have hk9 := hk8.tk (TK.same m9)
    have hT9 := m9.tup hT
    have hwt9 := wide (TK.same m9) (fun xs h => m9.seq h) hwt8
    -- the told ones are right
    refine ⟨_, rfl, _, rfl, _, rfl, _, rfl, b, bv, u, k, wt, G, ta, hLab b F, rfl, hb9, nb, hk9, kok, hwt9, hT9, by omega, fun H10 m10 => ?_⟩
    rw [show jlB b k (hLab b F) = true from cB_t jt]
    refine ⟨_, rfl, iteF ?_⟩
    have hb10 := hb9.tk (TK.same m10)
    have hk10 := hk9.tk (TK.same m10)
    have hT10 := m10.tup hT9
    refine ⟨_, rfl, _, rfl, _, rfl, b, bv, u, k, ta, hLab b F, rfl, hb10, nb, hk10, kok, hT10, by omega, fun H11 m11 => ?_⟩
    rw [show jlB b k (hLab b F) = true from cB_t jt]
    refine ⟨true, true, rfl, rfl, _, rfl, iN rfl ?_⟩
    have m911 := m10.trans m11
    have hb11 := hb9.tk (TK.same m911)
    have hk11 := hk9.tk (TK.same m911)
    have hT11 := m911.tup hT9
    have hwt11 := wide (TK.same m911) (fun xs h => m911.seq h) hwt9
    refine ⟨_, rfl, _, rfl, _, rfl, b, bv, u, k, wt, G, rfl, hb11, nb, hk11, kok, hwt11, fun la lab H12 m12 hla jl => ?_⟩
    have m812 := (m9.trans m911).trans m12
    have S12 := S8.ext m812
    have hb12 := hb11.tk (TK.same m12)
    have hk12 := hk11.tk (TK.same m12)
    have hT12 := m12.tup hT11
    have hwt12 := wide (TK.same m12) (fun xs h => m12.seq h) hwt11
    refine ⟨_, rfl, _, rfl, _, rfl, s, e, la, b, bv, lab, 100000, rfl, hb12, nb, hla, jl.ln, S12.mono (by decide), fun Z ys T0 H13 hZ dZ tl tn Zs x13 S13 => ?_⟩
    have T13 := TK.ext (K := K) x13 S12
    have hla13 := T13 _ _ hla
    have hb13 := hb12.tk T13
    have hk13 := hk12.tk T13
    have hT13 := T13 _ _ hT12
    have hwt13 := wide T13 (fun xs h => x13.seqL Gs h) hwt12
    refine ⟨Z, rfl, ⟨_, hZ⟩, ?_⟩
    refine for_list (K := K) (a := Z) (xs := ys) (fun i σ H' => ∃ v9 v10, σ = [some (.ref a), some (.ref s), some (.ref w), some (.int (m : Int)), some bv, some u, some (.ref wt), some (.ref ta), some (.ref la), v9, v10, none] ∧ Same H13 H') ⟨_, _, rfl, Same.refl _⟩ (fun i σ H' _ h => by obtain ⟨_, _, _, m⟩ := h; exact m.seq hZ) ?_ ?_
    rotate_left
    · rintro σ H14 ⟨v9, v10, rfl, m14⟩
      refine ⟨_, rfl, _, rfl, _, rfl, b, bv, u, k, la, lab, rfl, hb13.tk (TK.same m14), nb, hk13.tk (TK.same m14), kok, m14.tup hla13, by have := jl.ln; omega, fun H15 m15 => ?_⟩
      rw [show jlB b k lab = true from cB_t jl]
      exact ⟨true, true, rfl, rfl, q H15⟩
    rintro i x σ H14 hi ⟨v9, v10, rfl, m14⟩
    obtain ⟨l, hl', dx⟩ := (dZ.tk (TK.same m14)).map_get hi
    have ll := tl l (List.mem_of_getElem? hl')
    obtain ⟨xa, xus, rfl, hX, dX⟩ := dx
    have ex := dvs_lbs dX
    subst ex
    have hb14 := hb13.tk (TK.same m14)
    have hk14 := hk13.tk (TK.same m14)
    have hwt14 := wide (TK.same m14) (fun xs h => m14.seq h) hwt13
    refine ⟨_, rfl, _, rfl, _, rfl, _, rfl, b, bv, u, k, wt, G, xa, l, rfl, hb14, nb, hk14, kok, hwt14, hX, by omega, fun H15 m15 => ?_⟩
    refine ⟨_, rfl, _, rfl, _, rfl, b, bv, u, k, xa, l, rfl, hb14.tk (TK.same m15), nb, hk14.tk (TK.same m15), kok, m15.tup hX, by omega, fun H16 m16 => ?_⟩
    refine ⟨_, rfl, .bl (jlB b k l), _, _, rfl, by unfold DV; rfl, by unfold DV; rfl, True.intro, _, rfl, iteF ?_⟩
    have m1416 := m14.trans (m15.trans m16)
    refine ⟨_, rfl, _, rfl, ?_⟩
    by_cases c : JL b k l
    rotate_left
    · exact iN (cB_f c) (iteF ⟨_, _, rfl, m1416⟩)
    refine iG (cB_t c) ⟨_, rfl, _, rfl, xa, ta, l, hLab b F, rfl, (m15.trans m16).tup hX, m1416.tup hT13, by rw [c.ln, hl], by omega, fun j d hd => ?_, _, rfl, iteF ⟨_, _, rfl, m1416⟩⟩
    have hd' := hd
    unfold hLab at hd'
    rw [List.getElem?_map] at hd'
    cases ey : (nms b)[j]? with
    | none => rw [ey] at hd'; cases hd'
    | some y =>
      rw [ey] at hd'
      have hd' : ((lookF F y).map fun d : Nat => (d : Int)) = some d := Option.some.inj hd'
      cases ef : lookF F y with
      | none => rw [ef] at hd'; cases hd'
      | some n =>
        rw [ef] at hd'
        obtain rfl : (n : Int) = d := Option.some.inj hd'
        obtain ⟨i', h1, h2⟩ := jl_hop c ho (lookF_mem ef)
        have jl2 : j < l.length := by
          rw [c.ln, ← hl]
          exact (List.getElem?_eq_some_iff.mp hd).1
        refine ⟨i', ?_, h2⟩
        have e := List.getElem?_eq_getElem jl2
        rw [labAt_get nb.nd ey e] at h1
        rw [e, h1]
end

end Z
namespace Z
open PySem L2 SX
set_option maxHeartbeats 0 in
theorem all_mk {l : PySem.W.OpenLaw} {w : World} {K : PySem.W.Frag} {h : Heap} {mg : Str → Option Value} {fa : Addr} (X : K.In h) (G : h.Ns mainGlobals mg) (hfa : mg "law" = some (.ref fa))
    {f0 : Addr} {od0 an0 : Option Addr} {sl0 : Array (Option Value)} {oc0 kV0 dc0 pm0 cd0 ct0 : Value}
    {f1 : Addr} {od1 an1 : Option Addr} {sl1 : Array (Option Value)} {oc1 kV1 dc1 pm1 cd1 ct1 : Value}
    {f2 : Addr} {od2 an2 : Option Addr} {sl2 : Array (Option Value)} {oc2 kV2 dc2 pm2 cd2 ct2 : Value}
    {f3 : Addr} {od3 an3 : Option Addr} {sl3 : Array (Option Value)} {oc3 kV3 dc3 pm3 cd3 ct3 : Value}
    {f4 : Addr} {od4 an4 : Option Addr} {sl4 : Array (Option Value)} {oc4 kV4 dc4 pm4 cd4 ct4 : Value}
    {f5 : Addr} {od5 an5 : Option Addr} {sl5 : Array (Option Value)} {oc5 kV5 dc5 pm5 cd5 ct5 : Value}
    {f6 : Addr} {od6 an6 : Option Addr} {sl6 : Array (Option Value)} {oc6 kV6 dc6 pm6 cd6 ct6 : Value}
    {f7 : Addr} {od7 an7 : Option Addr} {sl7 : Array (Option Value)} {oc7 kV7 dc7 pm7 cd7 ct7 : Value}
    {f8 : Addr} {od8 an8 : Option Addr} {sl8 : Array (Option Value)} {oc8 kV8 dc8 pm8 cd8 ct8 : Value}
    {f9 : Addr} {od9 an9 : Option Addr} {sl9 : Array (Option Value)} {oc9 kV9 dc9 pm9 cd9 ct9 : Value}
    {f10 : Addr} {od10 an10 : Option Addr} {sl10 : Array (Option Value)} {oc10 kV10 dc10 pm10 cd10 ct10 : Value}
    {f11 : Addr} {od11 an11 : Option Addr} {sl11 : Array (Option Value)} {oc11 kV11 dc11 pm11 cd11 ct11 : Value}
    {f12 : Addr} {od12 an12 : Option Addr} {sl12 : Array (Option Value)} {oc12 kV12 dc12 pm12 cd12 ct12 : Value}
    {f13 : Addr} {od13 an13 : Option Addr} {sl13 : Array (Option Value)} {oc13 kV13 dc13 pm13 cd13 ct13 : Value}
    {f14 : Addr} {od14 an14 : Option Addr} {sl14 : Array (Option Value)} {oc14 kV14 dc14 pm14 cd14 ct14 : Value}
    {f15 : Addr} {od15 an15 : Option Addr} {sl15 : Array (Option Value)} {oc15 kV15 dc15 pm15 cd15 ct15 : Value}
    {f16 : Addr} {od16 an16 : Option Addr} {sl16 : Array (Option Value)} {oc16 kV16 dc16 pm16 cd16 ct16 : Value}
    {f17 : Addr} {od17 an17 : Option Addr} {sl17 : Array (Option Value)} {oc17 kV17 dc17 pm17 cd17 ct17 : Value}
    {f18 : Addr} {od18 an18 : Option Addr} {sl18 : Array (Option Value)} {oc18 kV18 dc18 pm18 cd18 ct18 : Value}
    {f19 : Addr} {od19 an19 : Option Addr} {sl19 : Array (Option Value)} {oc19 kV19 dc19 pm19 cd19 ct19 : Value}
    {f20 : Addr} {od20 an20 : Option Addr} {sl20 : Array (Option Value)} {oc20 kV20 dc20 pm20 cd20 ct20 : Value}
    {f21 : Addr} {od21 an21 : Option Addr} {sl21 : Array (Option Value)} {oc21 kV21 dc21 pm21 cd21 ct21 : Value}
    {f22 : Addr} {od22 an22 : Option Addr} {sl22 : Array (Option Value)} {oc22 kV22 dc22 pm22 cd22 ct22 : Value}
    {f23 : Addr} {od23 an23 : Option Addr} {sl23 : Array (Option Value)} {oc23 kV23 dc23 pm23 cd23 ct23 : Value}
    {f24 : Addr} {od24 an24 : Option Addr} {sl24 : Array (Option Value)} {oc24 kV24 dc24 pm24 cd24 ct24 : Value}
    {f25 : Addr} {od25 an25 : Option Addr} {sl25 : Array (Option Value)} {oc25 kV25 dc25 pm25 cd25 ct25 : Value}
    {f26 : Addr} {od26 an26 : Option Addr} {sl26 : Array (Option Value)} {oc26 kV26 dc26 pm26 cd26 ct26 : Value}
    {f27 : Addr} {od27 an27 : Option Addr} {sl27 : Array (Option Value)} {oc27 kV27 dc27 pm27 cd27 ct27 : Value}
    {f28 : Addr} {od28 an28 : Option Addr} {sl28 : Array (Option Value)} {oc28 kV28 dc28 pm28 cd28 ct28 : Value}
    {f29 : Addr} {od29 an29 : Option Addr} {sl29 : Array (Option Value)} {oc29 kV29 dc29 pm29 cd29 ct29 : Value}
    {f30 : Addr} {od30 an30 : Option Addr} {sl30 : Array (Option Value)} {oc30 kV30 dc30 pm30 cd30 ct30 : Value}
    {f31 : Addr} {od31 an31 : Option Addr} {sl31 : Array (Option Value)} {oc31 kV31 dc31 pm31 cd31 ct31 : Value}
    {f32 : Addr} {od32 an32 : Option Addr} {sl32 : Array (Option Value)} {oc32 kV32 dc32 pm32 cd32 ct32 : Value}
    {f33 : Addr} {od33 an33 : Option Addr} {sl33 : Array (Option Value)} {oc33 kV33 dc33 pm33 cd33 ct33 : Value}
    {f34 : Addr} {od34 an34 : Option Addr} {sl34 : Array (Option Value)} {oc34 kV34 dc34 pm34 cd34 ct34 : Value}
    {f35 : Addr} {od35 an35 : Option Addr} {sl35 : Array (Option Value)} {oc35 kV35 dc35 pm35 cd35 ct35 : Value}
    {f36 : Addr} {od36 an36 : Option Addr} {sl36 : Array (Option Value)} {oc36 kV36 dc36 pm36 cd36 ct36 : Value}
    {f37 : Addr} {od37 an37 : Option Addr} {sl37 : Array (Option Value)} {oc37 kV37 dc37 pm37 cd37 ct37 : Value}
    {f38 : Addr} {od38 an38 : Option Addr} {sl38 : Array (Option Value)} {oc38 kV38 dc38 pm38 cd38 ct38 : Value}
    {f39 : Addr} {od39 an39 : Option Addr} {sl39 : Array (Option Value)} {oc39 kV39 dc39 pm39 cd39 ct39 : Value}
    {f40 : Addr} {od40 an40 : Option Addr} {sl40 : Array (Option Value)} {oc40 kV40 dc40 pm40 cd40 ct40 : Value}
    {f41 : Addr} {od41 an41 : Option Addr} {sl41 : Array (Option Value)} {oc41 kV41 dc41 pm41 cd41 ct41 : Value}
    {f42 : Addr} {od42 an42 : Option Addr} {sl42 : Array (Option Value)} {oc42 kV42 dc42 pm42 cd42 ct42 : Value}
    {f43 : Addr} {od43 an43 : Option Addr} {sl43 : Array (Option Value)} {oc43 kV43 dc43 pm43 cd43 ct43 : Value}
    {f44 : Addr} {od44 an44 : Option Addr} {sl44 : Array (Option Value)} {oc44 kV44 dc44 pm44 cd44 ct44 : Value}
    {f45 : Addr} {od45 an45 : Option Addr} {sl45 : Array (Option Value)} {oc45 kV45 dc45 pm45 cd45 ct45 : Value}
    {f46 : Addr} {od46 an46 : Option Addr} {sl46 : Array (Option Value)} {oc46 kV46 dc46 pm46 cd46 ct46 : Value}
    (a0 : PySem.W.nsIn K mainGlobals "add_place" = some (some (.ref f0))) (l0 : K.lookup f0 = some ⟨oc0, od0, .func (PySem.W.fnOf "add_place" "add_place" (defArgs s_add_place) (defBody s_add_place) (defScope s_add_place) .none kV0 dc0 pm0 an0 cd0 ct0), sl0⟩) (c0 : PySem.W.codeIn K cd0 "add_place" = true) (k0 : PySem.W.keepIn K (.ref f0) = true)
    (a1 : PySem.W.nsIn K mainGlobals "follows" = some (some (.ref f1))) (l1 : K.lookup f1 = some ⟨oc1, od1, .func (PySem.W.fnOf "follows" "follows" (defArgs s_follows) (defBody s_follows) (defScope s_follows) .none kV1 dc1 pm1 an1 cd1 ct1), sl1⟩) (c1 : PySem.W.codeIn K cd1 "follows" = true) (k1 : PySem.W.keepIn K (.ref f1) = true)
    (a2 : PySem.W.nsIn K mainGlobals "standing" = some (some (.ref f2))) (l2 : K.lookup f2 = some ⟨oc2, od2, .func (PySem.W.fnOf "standing" "standing" (defArgs s_standing) (defBody s_standing) (defScope s_standing) .none kV2 dc2 pm2 an2 cd2 ct2), sl2⟩) (c2 : PySem.W.codeIn K cd2 "standing" = true) (k2 : PySem.W.keepIn K (.ref f2) = true)
    (a3 : PySem.W.nsIn K mainGlobals "fits" = some (some (.ref f3))) (l3 : K.lookup f3 = some ⟨oc3, od3, .func (PySem.W.fnOf "fits" "fits" (defArgs s_fits) (defBody s_fits) (defScope s_fits) .none kV3 dc3 pm3 an3 cd3 ct3), sl3⟩) (c3 : PySem.W.codeIn K cd3 "fits" = true) (k3 : PySem.W.keepIn K (.ref f3) = true)
    (a4 : PySem.W.nsIn K mainGlobals "items_of" = some (some (.ref f4))) (l4 : K.lookup f4 = some ⟨oc4, od4, .func (PySem.W.fnOf "items_of" "items_of" (defArgs s_items_of) (defBody s_items_of) (defScope s_items_of) .none kV4 dc4 pm4 an4 cd4 ct4), sl4⟩) (c4 : PySem.W.codeIn K cd4 "items_of" = true) (k4 : PySem.W.keepIn K (.ref f4) = true)
    (a5 : PySem.W.nsIn K mainGlobals "lets" = some (some (.ref f5))) (l5 : K.lookup f5 = some ⟨oc5, od5, .func (PySem.W.fnOf "lets" "lets" (defArgs s_lets) (defBody s_lets) (defScope s_lets) .none kV5 dc5 pm5 an5 cd5 ct5), sl5⟩) (c5 : PySem.W.codeIn K cd5 "lets" = true) (k5 : PySem.W.keepIn K (.ref f5) = true)
    (a6 : PySem.W.nsIn K mainGlobals "lets_one" = some (some (.ref f6))) (l6 : K.lookup f6 = some ⟨oc6, od6, .func (PySem.W.fnOf "lets_one" "lets_one" (defArgs s_lets_one) (defBody s_lets_one) (defScope s_lets_one) .none kV6 dc6 pm6 an6 cd6 ct6), sl6⟩) (c6 : PySem.W.codeIn K cd6 "lets_one" = true) (k6 : PySem.W.keepIn K (.ref f6) = true)
    (a7 : PySem.W.nsIn K mainGlobals "sight" = some (some (.ref f7))) (l7 : K.lookup f7 = some ⟨oc7, od7, .func (PySem.W.fnOf "sight" "sight" (defArgs s_sight) (defBody s_sight) (defScope s_sight) .none kV7 dc7 pm7 an7 cd7 ct7), sl7⟩) (c7 : PySem.W.codeIn K cd7 "sight" = true) (k7 : PySem.W.keepIn K (.ref f7) = true)
    (a8 : PySem.W.nsIn K mainGlobals "book_patterns" = some (some (.ref f8))) (l8 : K.lookup f8 = some ⟨oc8, od8, .func (PySem.W.fnOf "book_patterns" "book_patterns" (defArgs s_book_patterns) (defBody s_book_patterns) (defScope s_book_patterns) .none kV8 dc8 pm8 an8 cd8 ct8), sl8⟩) (c8 : PySem.W.codeIn K cd8 "book_patterns" = true) (k8 : PySem.W.keepIn K (.ref f8) = true)
    (a9 : PySem.W.nsIn K mainGlobals "book_sight" = some (some (.ref f9))) (l9 : K.lookup f9 = some ⟨oc9, od9, .func (PySem.W.fnOf "book_sight" "book_sight" (defArgs s_book_sight) (defBody s_book_sight) (defScope s_book_sight) .none kV9 dc9 pm9 an9 cd9 ct9), sl9⟩) (c9 : PySem.W.codeIn K cd9 "book_sight" = true) (k9 : PySem.W.keepIn K (.ref f9) = true)
    (a10 : PySem.W.nsIn K mainGlobals "carriers" = some (some (.ref f10))) (l10 : K.lookup f10 = some ⟨oc10, od10, .func (PySem.W.fnOf "carriers" "carriers" (defArgs s_carriers) (defBody s_carriers) (defScope s_carriers) .none kV10 dc10 pm10 an10 cd10 ct10), sl10⟩) (c10 : PySem.W.codeIn K cd10 "carriers" = true) (k10 : PySem.W.keepIn K (.ref f10) = true)
    (a11 : PySem.W.nsIn K mainGlobals "links_of" = some (some (.ref f11))) (l11 : K.lookup f11 = some ⟨oc11, od11, .func (PySem.W.fnOf "links_of" "links_of" (defArgs s_links_of) (defBody s_links_of) (defScope s_links_of) .none kV11 dc11 pm11 an11 cd11 ct11), sl11⟩) (c11 : PySem.W.codeIn K cd11 "links_of" = true) (k11 : PySem.W.keepIn K (.ref f11) = true)
    (a12 : PySem.W.nsIn K mainGlobals "ways_on" = some (some (.ref f12))) (l12 : K.lookup f12 = some ⟨oc12, od12, .func (PySem.W.fnOf "ways_on" "ways_on" (defArgs s_ways_on) (defBody s_ways_on) (defScope s_ways_on) .none kV12 dc12 pm12 an12 cd12 ct12), sl12⟩) (c12 : PySem.W.codeIn K cd12 "ways_on" = true) (k12 : PySem.W.keepIn K (.ref f12) = true)
    (a13 : PySem.W.nsIn K mainGlobals "ways_from" = some (some (.ref f13))) (l13 : K.lookup f13 = some ⟨oc13, od13, .func (PySem.W.fnOf "ways_from" "ways_from" (defArgs s_ways_from) (defBody s_ways_from) (defScope s_ways_from) .none kV13 dc13 pm13 an13 cd13 ct13), sl13⟩) (c13 : PySem.W.codeIn K cd13 "ways_from" = true) (k13 : PySem.W.keepIn K (.ref f13) = true)
    (a14 : PySem.W.nsIn K mainGlobals "ways_of" = some (some (.ref f14))) (l14 : K.lookup f14 = some ⟨oc14, od14, .func (PySem.W.fnOf "ways_of" "ways_of" (defArgs s_ways_of) (defBody s_ways_of) (defScope s_ways_of) .none kV14 dc14 pm14 an14 cd14 ct14), sl14⟩) (c14 : PySem.W.codeIn K cd14 "ways_of" = true) (k14 : PySem.W.keepIn K (.ref f14) = true)
    (a15 : PySem.W.nsIn K mainGlobals "keeps_link" = some (some (.ref f15))) (l15 : K.lookup f15 = some ⟨oc15, od15, .func (PySem.W.fnOf "keeps_link" "keeps_link" (defArgs s_keeps_link) (defBody s_keeps_link) (defScope s_keeps_link) .none kV15 dc15 pm15 an15 cd15 ct15), sl15⟩) (c15 : PySem.W.codeIn K cd15 "keeps_link" = true) (k15 : PySem.W.keepIn K (.ref f15) = true)
    (a16 : PySem.W.nsIn K mainGlobals "judge_labels" = some (some (.ref f16))) (l16 : K.lookup f16 = some ⟨oc16, od16, .func (PySem.W.fnOf "judge_labels" "judge_labels" (defArgs s_judge_labels) (defBody s_judge_labels) (defScope s_judge_labels) .none kV16 dc16 pm16 an16 cd16 ct16), sl16⟩) (c16 : PySem.W.codeIn K cd16 "judge_labels" = true) (k16 : PySem.W.keepIn K (.ref f16) = true)
    (a17 : PySem.W.nsIn K mainGlobals "hops_of" = some (some (.ref f17))) (l17 : K.lookup f17 = some ⟨oc17, od17, .func (PySem.W.fnOf "hops_of" "hops_of" (defArgs s_hops_of) (defBody s_hops_of) (defScope s_hops_of) .none kV17 dc17 pm17 an17 cd17 ct17), sl17⟩) (c17 : PySem.W.codeIn K cd17 "hops_of" = true) (k17 : PySem.W.keepIn K (.ref f17) = true)
    (a18 : PySem.W.nsIn K mainGlobals "_law_mix" = some (some (.ref f18))) (l18 : K.lookup f18 = some ⟨oc18, od18, .func (PySem.W.fnOf "_law_mix" "_law_mix" (defArgs s__law_mix) (defBody s__law_mix) (defScope s__law_mix) .none kV18 dc18 pm18 an18 cd18 ct18), sl18⟩) (c18 : PySem.W.codeIn K cd18 "_law_mix" = true) (k18 : PySem.W.keepIn K (.ref f18) = true)
    (a19 : PySem.W.nsIn K mainGlobals "_law_source" = some (some (.ref f19))) (l19 : K.lookup f19 = some ⟨oc19, od19, .func (PySem.W.fnOf "_law_source" "_law_source" (defArgs s__law_source) (defBody s__law_source) (defScope s__law_source) .none kV19 dc19 pm19 an19 cd19 ct19), sl19⟩) (c19 : PySem.W.codeIn K cd19 "_law_source" = true) (k19 : PySem.W.keepIn K (.ref f19) = true)
    (a20 : PySem.W.nsIn K mainGlobals "_law_draw" = some (some (.ref f20))) (l20 : K.lookup f20 = some ⟨oc20, od20, .func (PySem.W.fnOf "_law_draw" "_law_draw" (defArgs s__law_draw) (defBody s__law_draw) (defScope s__law_draw) .none kV20 dc20 pm20 an20 cd20 ct20), sl20⟩) (c20 : PySem.W.codeIn K cd20 "_law_draw" = true) (k20 : PySem.W.keepIn K (.ref f20) = true)
    (a21 : PySem.W.nsIn K mainGlobals "_law_pick" = some (some (.ref f21))) (l21 : K.lookup f21 = some ⟨oc21, od21, .func (PySem.W.fnOf "_law_pick" "_law_pick" (defArgs s__law_pick) (defBody s__law_pick) (defScope s__law_pick) .none kV21 dc21 pm21 an21 cd21 ct21), sl21⟩) (c21 : PySem.W.codeIn K cd21 "_law_pick" = true) (k21 : PySem.W.keepIn K (.ref f21) = true)
    (a22 : PySem.W.nsIn K mainGlobals "_law_once_in" = some (some (.ref f22))) (l22 : K.lookup f22 = some ⟨oc22, od22, .func (PySem.W.fnOf "_law_once_in" "_law_once_in" (defArgs s__law_once_in) (defBody s__law_once_in) (defScope s__law_once_in) .none kV22 dc22 pm22 an22 cd22 ct22), sl22⟩) (c22 : PySem.W.codeIn K cd22 "_law_once_in" = true) (k22 : PySem.W.keepIn K (.ref f22) = true)
    (a23 : PySem.W.nsIn K mainGlobals "_law_shuffled" = some (some (.ref f23))) (l23 : K.lookup f23 = some ⟨oc23, od23, .func (PySem.W.fnOf "_law_shuffled" "_law_shuffled" (defArgs s__law_shuffled) (defBody s__law_shuffled) (defScope s__law_shuffled) .none kV23 dc23 pm23 an23 cd23 ct23), sl23⟩) (c23 : PySem.W.codeIn K cd23 "_law_shuffled" = true) (k23 : PySem.W.keepIn K (.ref f23) = true)
    (a24 : PySem.W.nsIn K mainGlobals "_law_new_name" = some (some (.ref f24))) (l24 : K.lookup f24 = some ⟨oc24, od24, .func (PySem.W.fnOf "_law_new_name" "_law_new_name" (defArgs s__law_new_name) (defBody s__law_new_name) (defScope s__law_new_name) .none kV24 dc24 pm24 an24 cd24 ct24), sl24⟩) (c24 : PySem.W.codeIn K cd24 "_law_new_name" = true) (k24 : PySem.W.keepIn K (.ref f24) = true)
    (a25 : PySem.W.nsIn K mainGlobals "_law_names" = some (some (.ref f25))) (l25 : K.lookup f25 = some ⟨oc25, od25, .func (PySem.W.fnOf "_law_names" "_law_names" (defArgs s__law_names) (defBody s__law_names) (defScope s__law_names) .none kV25 dc25 pm25 an25 cd25 ct25), sl25⟩) (c25 : PySem.W.codeIn K cd25 "_law_names" = true) (k25 : PySem.W.keepIn K (.ref f25) = true)
    (a26 : PySem.W.nsIn K mainGlobals "_law_words" = some (some (.ref f26))) (l26 : K.lookup f26 = some ⟨oc26, od26, .func (PySem.W.fnOf "_law_words" "_law_words" (defArgs s__law_words) (defBody s__law_words) (defScope s__law_words) .none kV26 dc26 pm26 an26 cd26 ct26), sl26⟩) (c26 : PySem.W.codeIn K cd26 "_law_words" = true) (k26 : PySem.W.keepIn K (.ref f26) = true)
    (a27 : PySem.W.nsIn K mainGlobals "_law_board" = some (some (.ref f27))) (l27 : K.lookup f27 = some ⟨oc27, od27, .func (PySem.W.fnOf "_law_board" "_law_board" (defArgs s__law_board) (defBody s__law_board) (defScope s__law_board) .none kV27 dc27 pm27 an27 cd27 ct27), sl27⟩) (c27 : PySem.W.codeIn K cd27 "_law_board" = true) (k27 : PySem.W.keepIn K (.ref f27) = true)
    (a28 : PySem.W.nsIn K mainGlobals "_law_boards" = some (some (.ref f28))) (l28 : K.lookup f28 = some ⟨oc28, od28, .func (PySem.W.fnOf "_law_boards" "_law_boards" (defArgs s__law_boards) (defBody s__law_boards) (defScope s__law_boards) .none kV28 dc28 pm28 an28 cd28 ct28), sl28⟩) (c28 : PySem.W.codeIn K cd28 "_law_boards" = true) (k28 : PySem.W.keepIn K (.ref f28) = true)
    (a29 : PySem.W.nsIn K mainGlobals "_law_glob" = some (some (.ref f29))) (l29 : K.lookup f29 = some ⟨oc29, od29, .func (PySem.W.fnOf "_law_glob" "_law_glob" (defArgs s__law_glob) (defBody s__law_glob) (defScope s__law_glob) .none kV29 dc29 pm29 an29 cd29 ct29), sl29⟩) (c29 : PySem.W.codeIn K cd29 "_law_glob" = true) (k29 : PySem.W.keepIn K (.ref f29) = true)
    (a30 : PySem.W.nsIn K mainGlobals "_law_pattern" = some (some (.ref f30))) (l30 : K.lookup f30 = some ⟨oc30, od30, .func (PySem.W.fnOf "_law_pattern" "_law_pattern" (defArgs s__law_pattern) (defBody s__law_pattern) (defScope s__law_pattern) .none kV30 dc30 pm30 an30 cd30 ct30), sl30⟩) (c30 : PySem.W.codeIn K cd30 "_law_pattern" = true) (k30 : PySem.W.keepIn K (.ref f30) = true)
    (a31 : PySem.W.nsIn K mainGlobals "_law_fits" = some (some (.ref f31))) (l31 : K.lookup f31 = some ⟨oc31, od31, .func (PySem.W.fnOf "_law_fits" "_law_fits" (defArgs s__law_fits) (defBody s__law_fits) (defScope s__law_fits) .none kV31 dc31 pm31 an31 cd31 ct31), sl31⟩) (c31 : PySem.W.codeIn K cd31 "_law_fits" = true) (k31 : PySem.W.keepIn K (.ref f31) = true)
    (a32 : PySem.W.nsIn K mainGlobals "_law_lets" = some (some (.ref f32))) (l32 : K.lookup f32 = some ⟨oc32, od32, .func (PySem.W.fnOf "_law_lets" "_law_lets" (defArgs s__law_lets) (defBody s__law_lets) (defScope s__law_lets) .none kV32 dc32 pm32 an32 cd32 ct32), sl32⟩) (c32 : PySem.W.codeIn K cd32 "_law_lets" = true) (k32 : PySem.W.keepIn K (.ref f32) = true)
    (a33 : PySem.W.nsIn K mainGlobals "_law_lets_some" = some (some (.ref f33))) (l33 : K.lookup f33 = some ⟨oc33, od33, .func (PySem.W.fnOf "_law_lets_some" "_law_lets_some" (defArgs s__law_lets_some) (defBody s__law_lets_some) (defScope s__law_lets_some) .none kV33 dc33 pm33 an33 cd33 ct33), sl33⟩) (c33 : PySem.W.codeIn K cd33 "_law_lets_some" = true) (k33 : PySem.W.keepIn K (.ref f33) = true)
    (a34 : PySem.W.nsIn K mainGlobals "_law_is_int" = some (some (.ref f34))) (l34 : K.lookup f34 = some ⟨oc34, od34, .func (PySem.W.fnOf "_law_is_int" "_law_is_int" (defArgs s__law_is_int) (defBody s__law_is_int) (defScope s__law_is_int) .none kV34 dc34 pm34 an34 cd34 ct34), sl34⟩) (c34 : PySem.W.codeIn K cd34 "_law_is_int" = true) (k34 : PySem.W.keepIn K (.ref f34) = true)
    (a35 : PySem.W.nsIn K mainGlobals "_law_same" = some (some (.ref f35))) (l35 : K.lookup f35 = some ⟨oc35, od35, .func (PySem.W.fnOf "_law_same" "_law_same" (defArgs s__law_same) (defBody s__law_same) (defScope s__law_same) .none kV35 dc35 pm35 an35 cd35 ct35), sl35⟩) (c35 : PySem.W.codeIn K cd35 "_law_same" = true) (k35 : PySem.W.keepIn K (.ref f35) = true)
    (a36 : PySem.W.nsIn K mainGlobals "_law_lines" = some (some (.ref f36))) (l36 : K.lookup f36 = some ⟨oc36, od36, .func (PySem.W.fnOf "_law_lines" "_law_lines" (defArgs s__law_lines) (defBody s__law_lines) (defScope s__law_lines) .none kV36 dc36 pm36 an36 cd36 ct36), sl36⟩) (c36 : PySem.W.codeIn K cd36 "_law_lines" = true) (k36 : PySem.W.keepIn K (.ref f36) = true)
    (a37 : PySem.W.nsIn K mainGlobals "_law_all_lines" = some (some (.ref f37))) (l37 : K.lookup f37 = some ⟨oc37, od37, .func (PySem.W.fnOf "_law_all_lines" "_law_all_lines" (defArgs s__law_all_lines) (defBody s__law_all_lines) (defScope s__law_all_lines) .none kV37 dc37 pm37 an37 cd37 ct37), sl37⟩) (c37 : PySem.W.codeIn K cd37 "_law_all_lines" = true) (k37 : PySem.W.keepIn K (.ref f37) = true)
    (a38 : PySem.W.nsIn K mainGlobals "_law_net" = some (some (.ref f38))) (l38 : K.lookup f38 = some ⟨oc38, od38, .func (PySem.W.fnOf "_law_net" "_law_net" (defArgs s__law_net) (defBody s__law_net) (defScope s__law_net) .none kV38 dc38 pm38 an38 cd38 ct38), sl38⟩) (c38 : PySem.W.codeIn K cd38 "_law_net" = true) (k38 : PySem.W.keepIn K (.ref f38) = true)
    (a39 : PySem.W.nsIn K mainGlobals "_law_kind" = some (some (.ref f39))) (l39 : K.lookup f39 = some ⟨oc39, od39, .func (PySem.W.fnOf "_law_kind" "_law_kind" (defArgs s__law_kind) (defBody s__law_kind) (defScope s__law_kind) .none kV39 dc39 pm39 an39 cd39 ct39), sl39⟩) (c39 : PySem.W.codeIn K cd39 "_law_kind" = true) (k39 : PySem.W.keepIn K (.ref f39) = true)
    (a40 : PySem.W.nsIn K mainGlobals "_law_wide" = some (some (.ref f40))) (l40 : K.lookup f40 = some ⟨oc40, od40, .func (PySem.W.fnOf "_law_wide" "_law_wide" (defArgs s__law_wide) (defBody s__law_wide) (defScope s__law_wide) .none kV40 dc40 pm40 an40 cd40 ct40), sl40⟩) (c40 : PySem.W.codeIn K cd40 "_law_wide" = true) (k40 : PySem.W.keepIn K (.ref f40) = true)
    (a41 : PySem.W.nsIn K mainGlobals "_law_labels_right" = some (some (.ref f41))) (l41 : K.lookup f41 = some ⟨oc41, od41, .func (PySem.W.fnOf "_law_labels_right" "_law_labels_right" (defArgs s__law_labels_right) (defBody s__law_labels_right) (defScope s__law_labels_right) .none kV41 dc41 pm41 an41 cd41 ct41), sl41⟩) (c41 : PySem.W.codeIn K cd41 "_law_labels_right" = true) (k41 : PySem.W.keepIn K (.ref f41) = true)
    (a42 : PySem.W.nsIn K mainGlobals "_law_least_hops" = some (some (.ref f42))) (l42 : K.lookup f42 = some ⟨oc42, od42, .func (PySem.W.fnOf "_law_least_hops" "_law_least_hops" (defArgs s__law_least_hops) (defBody s__law_least_hops) (defScope s__law_least_hops) .none kV42 dc42 pm42 an42 cd42 ct42), sl42⟩) (c42 : PySem.W.codeIn K cd42 "_law_least_hops" = true) (k42 : PySem.W.keepIn K (.ref f42) = true)
    (a43 : PySem.W.nsIn K mainGlobals "_law_bent" = some (some (.ref f43))) (l43 : K.lookup f43 = some ⟨oc43, od43, .func (PySem.W.fnOf "_law_bent" "_law_bent" (defArgs s__law_bent) (defBody s__law_bent) (defScope s__law_bent) .none kV43 dc43 pm43 an43 cd43 ct43), sl43⟩) (c43 : PySem.W.codeIn K cd43 "_law_bent" = true) (k43 : PySem.W.keepIn K (.ref f43) = true)
    (a44 : PySem.W.nsIn K mainGlobals "_law_all_labels" = some (some (.ref f44))) (l44 : K.lookup f44 = some ⟨oc44, od44, .func (PySem.W.fnOf "_law_all_labels" "_law_all_labels" (defArgs s__law_all_labels) (defBody s__law_all_labels) (defScope s__law_all_labels) .none kV44 dc44 pm44 an44 cd44 ct44), sl44⟩) (c44 : PySem.W.codeIn K cd44 "_law_all_labels" = true) (k44 : PySem.W.keepIn K (.ref f44) = true)
    (a45 : PySem.W.nsIn K mainGlobals "_law_above" = some (some (.ref f45))) (l45 : K.lookup f45 = some ⟨oc45, od45, .func (PySem.W.fnOf "_law_above" "_law_above" (defArgs s__law_above) (defBody s__law_above) (defScope s__law_above) .none kV45 dc45 pm45 an45 cd45 ct45), sl45⟩) (c45 : PySem.W.codeIn K cd45 "_law_above" = true) (k45 : PySem.W.keepIn K (.ref f45) = true)
    (a46 : PySem.W.nsIn K mainGlobals "law" = some (some (.ref f46))) (l46 : K.lookup f46 = some ⟨oc46, od46, .func (PySem.W.fnOf "law" "law" (defArgs s_law) (defBody s_law) (defScope s_law) .none kV46 dc46 pm46 an46 cd46 ct46), sl46⟩) (c46 : PySem.W.codeIn K cd46 "law" = true) (k46 : PySem.W.keepIn K (.ref f46) = true)
    (z_abs : PySem.W.nsIn K mainGlobals "abs" = some none)
    (z_all : PySem.W.nsIn K mainGlobals "all" = some none)
    (z_any : PySem.W.nsIn K mainGlobals "any" = some none)
    (z_bool : PySem.W.nsIn K mainGlobals "bool" = some none)
    (z_dict : PySem.W.nsIn K mainGlobals "dict" = some none)
    (z_int : PySem.W.nsIn K mainGlobals "int" = some none)
    (z_isinstance : PySem.W.nsIn K mainGlobals "isinstance" = some none)
    (z_len : PySem.W.nsIn K mainGlobals "len" = some none)
    (z_list : PySem.W.nsIn K mainGlobals "list" = some none)
    (z_max : PySem.W.nsIn K mainGlobals "max" = some none)
    (z_min : PySem.W.nsIn K mainGlobals "min" = some none)
    (z_range : PySem.W.nsIn K mainGlobals "range" = some none)
    (z_reversed : PySem.W.nsIn K mainGlobals "reversed" = some none)
    (z_sorted : PySem.W.nsIn K mainGlobals "sorted" = some none)
    (z_str : PySem.W.nsIn K mainGlobals "str" = some none)
    (z_tuple : PySem.W.nsIn K mainGlobals "tuple" = some none)
    (z_zip : PySem.W.nsIn K mainGlobals "zip" = some none) :
    ∃ fd : FuncData, (∀ (s : Shared) (v : Value), BindsTo s fd ⟨[v], []⟩ [("script", v)]) ∧ ∀ base : Heap, K.In base → base.Ns mainGlobals mg → FnOk l.prog w K mg base CX0 11 fa fd ["script"] (sp_law K) := by
  have e := hfa.symm.trans (PySem.W.mg_of X G a46)
  cases e
  have T : Tx mg := ⟨PySem.W.mg_none_of X G z_abs, PySem.W.mg_none_of X G z_all, PySem.W.mg_none_of X G z_any, PySem.W.mg_none_of X G z_bool, PySem.W.mg_none_of X G z_dict, PySem.W.mg_none_of X G z_int, PySem.W.mg_none_of X G z_isinstance, PySem.W.mg_none_of X G z_len, PySem.W.mg_none_of X G z_list, PySem.W.mg_none_of X G z_max, PySem.W.mg_none_of X G z_min, PySem.W.mg_none_of X G z_range, PySem.W.mg_none_of X G z_reversed, PySem.W.mg_none_of X G z_sorted, PySem.W.mg_none_of X G z_str, PySem.W.mg_none_of X G z_tuple, PySem.W.mg_none_of X G z_zip⟩
  refine ⟨PySem.W.fnOf "law" "law" (defArgs s_law) (defBody s_law) (defScope s_law) .none kV46 dc46 pm46 an46 cd46 ct46, fun s v => .of_eq rfl, fun base _ _ => ?_⟩
  have D_add_place : Df K mg "add_place" s_add_place ["glob", "places", "place"] := ⟨f0, _, fun_mk (st := s_add_place) l0 c0 k0, PySem.W.mg_of X G a0, (fun_mk (st := s_add_place) l0 c0 k0).binds (ps := ["glob", "places", "place"]) fun _ _ _ _ _ _ us hl => match us, hl with | [_, _, _], _ => rfl⟩
  have D_follows : Df K mg "follows" s_follows ["glob", "standing", "character"] := ⟨f1, _, fun_mk (st := s_follows) l1 c1 k1, PySem.W.mg_of X G a1, (fun_mk (st := s_follows) l1 c1 k1).binds (ps := ["glob", "standing", "character"]) fun _ _ _ _ _ _ us hl => match us, hl with | [_, _, _], _ => rfl⟩
  have D_standing : Df K mg "standing" s_standing ["glob", "beginning"] := ⟨f2, _, fun_mk (st := s_standing) l2 c2 k2, PySem.W.mg_of X G a2, (fun_mk (st := s_standing) l2 c2 k2).binds (ps := ["glob", "beginning"]) fun _ _ _ _ _ _ us hl => match us, hl with | [_, _], _ => rfl⟩
  have D_fits : Df K mg "fits" s_fits ["glob", "board"] := ⟨f3, _, fun_mk (st := s_fits) l3 c3 k3, PySem.W.mg_of X G a3, (fun_mk (st := s_fits) l3 c3 k3).binds (ps := ["glob", "board"]) fun _ _ _ _ _ _ us hl => match us, hl with | [_, _], _ => rfl⟩
  have D_items_of : Df K mg "items_of" s_items_of ["pattern"] := ⟨f4, _, fun_mk (st := s_items_of) l4 c4 k4, PySem.W.mg_of X G a4, (fun_mk (st := s_items_of) l4 c4 k4).binds (ps := ["pattern"]) fun _ _ _ _ _ _ us hl => match us, hl with | [_], _ => rfl⟩
  have D_lets : Df K mg "lets" s_lets ["pattern", "board"] := ⟨f5, _, fun_mk (st := s_lets) l5 c5 k5, PySem.W.mg_of X G a5, (fun_mk (st := s_lets) l5 c5 k5).binds (ps := ["pattern", "board"]) fun _ _ _ _ _ _ us hl => match us, hl with | [_, _], _ => rfl⟩
  have D_lets_one : Df K mg "lets_one" s_lets_one ["pattern", "boards"] := ⟨f6, _, fun_mk (st := s_lets_one) l6 c6 k6, PySem.W.mg_of X G a6, (fun_mk (st := s_lets_one) l6 c6 k6).binds (ps := ["pattern", "boards"]) fun _ _ _ _ _ _ us hl => match us, hl with | [_, _], _ => rfl⟩
  have D_sight : Df K mg "sight" s_sight ["patterns", "boards"] := ⟨f7, _, fun_mk (st := s_sight) l7 c7 k7, PySem.W.mg_of X G a7, (fun_mk (st := s_sight) l7 c7 k7).binds (ps := ["patterns", "boards"]) fun _ _ _ _ _ _ us hl => match us, hl with | [_, _], _ => rfl⟩
  have D_book_patterns : Df K mg "book_patterns" s_book_patterns ["book"] := ⟨f8, _, fun_mk (st := s_book_patterns) l8 c8 k8, PySem.W.mg_of X G a8, (fun_mk (st := s_book_patterns) l8 c8 k8).binds (ps := ["book"]) fun _ _ _ _ _ _ us hl => match us, hl with | [_], _ => rfl⟩
  have D_book_sight : Df K mg "book_sight" s_book_sight ["book", "boards"] := ⟨f9, _, fun_mk (st := s_book_sight) l9 c9 k9, PySem.W.mg_of X G a9, (fun_mk (st := s_book_sight) l9 c9 k9).binds (ps := ["book", "boards"]) fun _ _ _ _ _ _ us hl => match us, hl with | [_, _], _ => rfl⟩
  have D_carriers : Df K mg "carriers" s_carriers ["book", "seen"] := ⟨f10, _, fun_mk (st := s_carriers) l10 c10 k10, PySem.W.mg_of X G a10, (fun_mk (st := s_carriers) l10 c10 k10).binds (ps := ["book", "seen"]) fun _ _ _ _ _ _ us hl => match us, hl with | [_, _], _ => rfl⟩
  have D_links_of : Df K mg "links_of" s_links_of ["book", "seen", "size"] := ⟨f11, _, fun_mk (st := s_links_of) l11 c11 k11, PySem.W.mg_of X G a11, (fun_mk (st := s_links_of) l11 c11 k11).binds (ps := ["book", "seen", "size"]) fun _ _ _ _ _ _ us hl => match us, hl with | [_, _, _], _ => rfl⟩
  have D_ways_on : Df K mg "ways_on" s_ways_on ["ways", "links", "reached"] := ⟨f12, _, fun_mk (st := s_ways_on) l12 c12 k12, PySem.W.mg_of X G a12, (fun_mk (st := s_ways_on) l12 c12 k12).binds (ps := ["ways", "links", "reached"]) fun _ _ _ _ _ _ us hl => match us, hl with | [_, _, _], _ => rfl⟩
  have D_ways_from : Df K mg "ways_from" s_ways_from ["origin", "names", "links"] := ⟨f13, _, fun_mk (st := s_ways_from) l13 c13 k13, PySem.W.mg_of X G a13, (fun_mk (st := s_ways_from) l13 c13 k13).binds (ps := ["origin", "names", "links"]) fun _ _ _ _ _ _ us hl => match us, hl with | [_, _, _], _ => rfl⟩
  have D_ways_of : Df K mg "ways_of" s_ways_of ["book", "kind"] := ⟨f14, _, fun_mk (st := s_ways_of) l14 c14 k14, PySem.W.mg_of X G a14, (fun_mk (st := s_ways_of) l14 c14 k14).binds (ps := ["book", "kind"]) fun _ _ _ _ _ _ us hl => match us, hl with | [_, _], _ => rfl⟩
  have D_keeps_link : Df K mg "keeps_link" s_keeps_link ["label", "bound", "behind"] := ⟨f15, _, fun_mk (st := s_keeps_link) l15 c15 k15, PySem.W.mg_of X G a15, (fun_mk (st := s_keeps_link) l15 c15 k15).binds (ps := ["label", "bound", "behind"]) fun _ _ _ _ _ _ us hl => match us, hl with | [_, _, _], _ => rfl⟩
  have D_judge_labels : Df K mg "judge_labels" s_judge_labels ["book", "kind", "labels"] := ⟨f16, _, fun_mk (st := s_judge_labels) l16 c16 k16, PySem.W.mg_of X G a16, (fun_mk (st := s_judge_labels) l16 c16 k16).binds (ps := ["book", "kind", "labels"]) fun _ _ _ _ _ _ us hl => match us, hl with | [_, _, _], _ => rfl⟩
  have D_hops_of : Df K mg "hops_of" s_hops_of ["book", "kind"] := ⟨f17, _, fun_mk (st := s_hops_of) l17 c17 k17, PySem.W.mg_of X G a17, (fun_mk (st := s_hops_of) l17 c17 k17).binds (ps := ["book", "kind"]) fun _ _ _ _ _ _ us hl => match us, hl with | [_, _], _ => rfl⟩
  have D__law_mix : Df K mg "_law_mix" s__law_mix ["seed", "turn"] := ⟨f18, _, fun_mk (st := s__law_mix) l18 c18 k18, PySem.W.mg_of X G a18, (fun_mk (st := s__law_mix) l18 c18 k18).binds (ps := ["seed", "turn"]) fun _ _ _ _ _ _ us hl => match us, hl with | [_, _], _ => rfl⟩
  have D__law_source : Df K mg "_law_source" s__law_source ["script"] := ⟨f19, _, fun_mk (st := s__law_source) l19 c19 k19, PySem.W.mg_of X G a19, (fun_mk (st := s__law_source) l19 c19 k19).binds (ps := ["script"]) fun _ _ _ _ _ _ us hl => match us, hl with | [_], _ => rfl⟩
  have D__law_draw : Df K mg "_law_draw" s__law_draw ["source", "many"] := ⟨f20, _, fun_mk (st := s__law_draw) l20 c20 k20, PySem.W.mg_of X G a20, (fun_mk (st := s__law_draw) l20 c20 k20).binds (ps := ["source", "many"]) fun _ _ _ _ _ _ us hl => match us, hl with | [_, _], _ => rfl⟩
  have D__law_pick : Df K mg "_law_pick" s__law_pick ["source", "row"] := ⟨f21, _, fun_mk (st := s__law_pick) l21 c21 k21, PySem.W.mg_of X G a21, (fun_mk (st := s__law_pick) l21 c21 k21).binds (ps := ["source", "row"]) fun _ _ _ _ _ _ us hl => match us, hl with | [_, _], _ => rfl⟩
  have D__law_once_in : Df K mg "_law_once_in" s__law_once_in ["source", "many"] := ⟨f22, _, fun_mk (st := s__law_once_in) l22 c22 k22, PySem.W.mg_of X G a22, (fun_mk (st := s__law_once_in) l22 c22 k22).binds (ps := ["source", "many"]) fun _ _ _ _ _ _ us hl => match us, hl with | [_, _], _ => rfl⟩
  have D__law_shuffled : Df K mg "_law_shuffled" s__law_shuffled ["source", "row"] := ⟨f23, _, fun_mk (st := s__law_shuffled) l23 c23 k23, PySem.W.mg_of X G a23, (fun_mk (st := s__law_shuffled) l23 c23 k23).binds (ps := ["source", "row"]) fun _ _ _ _ _ _ us hl => match us, hl with | [_, _], _ => rfl⟩
  have D__law_new_name : Df K mg "_law_new_name" s__law_new_name ["source", "used"] := ⟨f24, _, fun_mk (st := s__law_new_name) l24 c24 k24, PySem.W.mg_of X G a24, (fun_mk (st := s__law_new_name) l24 c24 k24).binds (ps := ["source", "used"]) fun _ _ _ _ _ _ us hl => match us, hl with | [_, _], _ => rfl⟩
  have D__law_names : Df K mg "_law_names" s__law_names ["source", "many"] := ⟨f25, _, fun_mk (st := s__law_names) l25 c25 k25, PySem.W.mg_of X G a25, (fun_mk (st := s__law_names) l25 c25 k25).binds (ps := ["source", "many"]) fun _ _ _ _ _ _ us hl => match us, hl with | [_, _], _ => rfl⟩
  have D__law_words : Df K mg "_law_words" s__law_words ["source"] := ⟨f26, _, fun_mk (st := s__law_words) l26 c26 k26, PySem.W.mg_of X G a26, (fun_mk (st := s__law_words) l26 c26 k26).binds (ps := ["source"]) fun _ _ _ _ _ _ us hl => match us, hl with | [_], _ => rfl⟩
  have D__law_board : Df K mg "_law_board" s__law_board ["source", "words"] := ⟨f27, _, fun_mk (st := s__law_board) l27 c27 k27, PySem.W.mg_of X G a27, (fun_mk (st := s__law_board) l27 c27 k27).binds (ps := ["source", "words"]) fun _ _ _ _ _ _ us hl => match us, hl with | [_, _], _ => rfl⟩
  have D__law_boards : Df K mg "_law_boards" s__law_boards ["source", "words", "most"] := ⟨f28, _, fun_mk (st := s__law_boards) l28 c28 k28, PySem.W.mg_of X G a28, (fun_mk (st := s__law_boards) l28 c28 k28).binds (ps := ["source", "words", "most"]) fun _ _ _ _ _ _ us hl => match us, hl with | [_, _, _], _ => rfl⟩
  have D__law_glob : Df K mg "_law_glob" s__law_glob ["source", "words"] := ⟨f29, _, fun_mk (st := s__law_glob) l29 c29 k29, PySem.W.mg_of X G a29, (fun_mk (st := s__law_glob) l29 c29 k29).binds (ps := ["source", "words"]) fun _ _ _ _ _ _ us hl => match us, hl with | [_, _], _ => rfl⟩
  have D__law_pattern : Df K mg "_law_pattern" s__law_pattern ["source", "words"] := ⟨f30, _, fun_mk (st := s__law_pattern) l30 c30 k30, PySem.W.mg_of X G a30, (fun_mk (st := s__law_pattern) l30 c30 k30).binds (ps := ["source", "words"]) fun _ _ _ _ _ _ us hl => match us, hl with | [_, _], _ => rfl⟩
  have D__law_fits : Df K mg "_law_fits" s__law_fits ["glob", "board"] := ⟨f31, _, fun_mk (st := s__law_fits) l31 c31 k31, PySem.W.mg_of X G a31, (fun_mk (st := s__law_fits) l31 c31 k31).binds (ps := ["glob", "board"]) fun _ _ _ _ _ _ us hl => match us, hl with | [_, _], _ => rfl⟩
  have D__law_lets : Df K mg "_law_lets" s__law_lets ["pattern", "board"] := ⟨f32, _, fun_mk (st := s__law_lets) l32 c32 k32, PySem.W.mg_of X G a32, (fun_mk (st := s__law_lets) l32 c32 k32).binds (ps := ["pattern", "board"]) fun _ _ _ _ _ _ us hl => match us, hl with | [_, _], _ => rfl⟩
  have D__law_lets_some : Df K mg "_law_lets_some" s__law_lets_some ["pattern", "boards"] := ⟨f33, _, fun_mk (st := s__law_lets_some) l33 c33 k33, PySem.W.mg_of X G a33, (fun_mk (st := s__law_lets_some) l33 c33 k33).binds (ps := ["pattern", "boards"]) fun _ _ _ _ _ _ us hl => match us, hl with | [_, _], _ => rfl⟩
  have D__law_is_int : Df K mg "_law_is_int" s__law_is_int ["value"] := ⟨f34, _, fun_mk (st := s__law_is_int) l34 c34 k34, PySem.W.mg_of X G a34, (fun_mk (st := s__law_is_int) l34 c34 k34).binds (ps := ["value"]) fun _ _ _ _ _ _ us hl => match us, hl with | [_], _ => rfl⟩
  have D__law_same : Df K mg "_law_same" s__law_same ["actual", "due"] := ⟨f35, _, fun_mk (st := s__law_same) l35 c35 k35, PySem.W.mg_of X G a35, (fun_mk (st := s__law_same) l35 c35 k35).binds (ps := ["actual", "due"]) fun _ _ _ _ _ _ us hl => match us, hl with | [_, _], _ => rfl⟩
  have D__law_lines : Df K mg "_law_lines" s__law_lines ["source", "names"] := ⟨f36, _, fun_mk (st := s__law_lines) l36 c36 k36, PySem.W.mg_of X G a36, (fun_mk (st := s__law_lines) l36 c36 k36).binds (ps := ["source", "names"]) fun _ _ _ _ _ _ us hl => match us, hl with | [_, _], _ => rfl⟩
  have D__law_all_lines : Df K mg "_law_all_lines" s__law_all_lines ["names"] := ⟨f37, _, fun_mk (st := s__law_all_lines) l37 c37 k37, PySem.W.mg_of X G a37, (fun_mk (st := s__law_all_lines) l37 c37 k37).binds (ps := ["names"]) fun _ _ _ _ _ _ us hl => match us, hl with | [_], _ => rfl⟩
  have D__law_net : Df K mg "_law_net" s__law_net ["source", "many", "words"] := ⟨f38, _, fun_mk (st := s__law_net) l38 c38 k38, PySem.W.mg_of X G a38, (fun_mk (st := s__law_net) l38 c38 k38).binds (ps := ["source", "many", "words"]) fun _ _ _ _ _ _ us hl => match us, hl with | [_, _, _], _ => rfl⟩
  have D__law_kind : Df K mg "_law_kind" s__law_kind ["source", "book", "words"] := ⟨f39, _, fun_mk (st := s__law_kind) l39 c39 k39, PySem.W.mg_of X G a39, (fun_mk (st := s__law_kind) l39 c39 k39).binds (ps := ["source", "book", "words"]) fun _ _ _ _ _ _ us hl => match us, hl with | [_, _, _], _ => rfl⟩
  have D__law_wide : Df K mg "_law_wide" s__law_wide ["book", "kind"] := ⟨f40, _, fun_mk (st := s__law_wide) l40 c40 k40, PySem.W.mg_of X G a40, (fun_mk (st := s__law_wide) l40 c40 k40).binds (ps := ["book", "kind"]) fun _ _ _ _ _ _ us hl => match us, hl with | [_, _], _ => rfl⟩
  have D__law_labels_right : Df K mg "_law_labels_right" s__law_labels_right ["book", "kind", "wide", "labels"] := ⟨f41, _, fun_mk (st := s__law_labels_right) l41 c41 k41, PySem.W.mg_of X G a41, (fun_mk (st := s__law_labels_right) l41 c41 k41).binds (ps := ["book", "kind", "wide", "labels"]) fun _ _ _ _ _ _ us hl => match us, hl with | [_, _, _, _], _ => rfl⟩
  have D__law_least_hops : Df K mg "_law_least_hops" s__law_least_hops ["book", "kind", "wide"] := ⟨f42, _, fun_mk (st := s__law_least_hops) l42 c42 k42, PySem.W.mg_of X G a42, (fun_mk (st := s__law_least_hops) l42 c42 k42).binds (ps := ["book", "kind", "wide"]) fun _ _ _ _ _ _ us hl => match us, hl with | [_, _, _], _ => rfl⟩
  have D__law_bent : Df K mg "_law_bent" s__law_bent ["source", "labels"] := ⟨f43, _, fun_mk (st := s__law_bent) l43 c43 k43, PySem.W.mg_of X G a43, (fun_mk (st := s__law_bent) l43 c43 k43).binds (ps := ["source", "labels"]) fun _ _ _ _ _ _ us hl => match us, hl with | [_, _], _ => rfl⟩
  have D__law_all_labels : Df K mg "_law_all_labels" s__law_all_labels ["source", "book", "least"] := ⟨f44, _, fun_mk (st := s__law_all_labels) l44 c44 k44, PySem.W.mg_of X G a44, (fun_mk (st := s__law_all_labels) l44 c44 k44).binds (ps := ["source", "book", "least"]) fun _ _ _ _ _ _ us hl => match us, hl with | [_, _, _], _ => rfl⟩
  have D__law_above : Df K mg "_law_above" s__law_above ["labels", "hops"] := ⟨f45, _, fun_mk (st := s__law_above) l45 c45 k45, PySem.W.mg_of X G a45, (fun_mk (st := s__law_above) l45 c45 k45).binds (ps := ["labels", "hops"]) fun _ _ _ _ _ _ us hl => match us, hl with | [_, _], _ => rfl⟩
  have C__law_above := ok__law_above (P := l.prog) (w := w) (base := base) D__law_above T 
  have C__law_mix := ok__law_mix (P := l.prog) (w := w) (base := base) D__law_mix T 
  have C__law_draw := ok__law_draw (P := l.prog) (w := w) (base := base) D__law_draw T C__law_mix
  have C__law_pick := ok__law_pick (P := l.prog) (w := w) (base := base) D__law_pick T C__law_draw
  have C__law_bent := ok__law_bent (P := l.prog) (w := w) (base := base) D__law_bent T C__law_draw C__law_pick
  have C__law_all_labels := ok__law_all_labels (P := l.prog) (w := w) (base := base) D__law_all_labels T C__law_bent C__law_pick
  have C__law_is_int := ok__law_is_int (P := l.prog) (w := w) (base := base) D__law_is_int T 
  have C__law_board := ok__law_board (P := l.prog) (w := w) (base := base) D__law_board T C__law_draw C__law_pick
  have C__law_boards := ok__law_boards (P := l.prog) (w := w) (base := base) D__law_boards T C__law_board C__law_draw
  have C__law_kind := ok__law_kind (P := l.prog) (w := w) (base := base) D__law_kind T C__law_boards C__law_pick
  have C__law_labels_right := ok__law_labels_right (P := l.prog) (w := w) (base := base) D__law_labels_right T 
  have C__law_least_hops := ok__law_least_hops (P := l.prog) (w := w) (base := base) D__law_least_hops T 
  have C__law_all_lines := ok__law_all_lines (P := l.prog) (w := w) (base := base) D__law_all_lines T 
  have C__law_lines := ok__law_lines (P := l.prog) (w := w) (base := base) D__law_lines T C__law_draw C__law_pick
  have C__law_new_name := ok__law_new_name (P := l.prog) (w := w) (base := base) D__law_new_name T C__law_draw
  have C__law_names := ok__law_names (P := l.prog) (w := w) (base := base) D__law_names T C__law_new_name
  have C__law_glob := ok__law_glob (P := l.prog) (w := w) (base := base) D__law_glob T C__law_board C__law_pick
  have C__law_pattern := ok__law_pattern (P := l.prog) (w := w) (base := base) D__law_pattern T C__law_draw C__law_glob
  have C__law_shuffled := ok__law_shuffled (P := l.prog) (w := w) (base := base) D__law_shuffled T C__law_draw
  have C__law_net := ok__law_net (P := l.prog) (w := w) (base := base) D__law_net T C__law_all_lines C__law_draw C__law_lines C__law_names C__law_pattern C__law_pick C__law_shuffled
  have C__law_once_in := ok__law_once_in (P := l.prog) (w := w) (base := base) D__law_once_in T C__law_draw
  have C__law_same := ok__law_same (P := l.prog) (w := w) (base := base) D__law_same T C__law_is_int 1
  have C__law_source := ok__law_source (P := l.prog) (w := w) (base := base) D__law_source T C__law_mix
  have C__law_fits := ok__law_fits (P := l.prog) (w := w) (base := base) D__law_fits T 
  have C__law_lets := ok__law_lets (P := l.prog) (w := w) (base := base) D__law_lets T C__law_fits
  have C__law_lets_some := ok__law_lets_some (P := l.prog) (w := w) (base := base) D__law_lets_some T C__law_lets
  have C__law_wide := ok__law_wide (P := l.prog) (w := w) (base := base) D__law_wide T C__law_lets_some
  have C__law_words := ok__law_words (P := l.prog) (w := w) (base := base) D__law_words T C__law_draw C__law_names
  have C_book_patterns := ok_book_patterns (P := l.prog) (w := w) (base := base) D_book_patterns T 
  have C_add_place := ok_add_place (P := l.prog) (w := w) (base := base) D_add_place T 
  have C_follows := ok_follows (P := l.prog) (w := w) (base := base) D_follows T C_add_place
  have C_standing := ok_standing (P := l.prog) (w := w) (base := base) D_standing T C_add_place C_follows
  have C_fits := ok_fits (P := l.prog) (w := w) (base := base) D_fits T C_standing
  have C_items_of := ok_items_of (P := l.prog) (w := w) (base := base) D_items_of T 
  have C_lets := ok_lets (P := l.prog) (w := w) (base := base) D_lets T C_fits C_items_of
  have C_lets_one := ok_lets_one (P := l.prog) (w := w) (base := base) D_lets_one T C_lets
  have C_sight := ok_sight (P := l.prog) (w := w) (base := base) D_sight T C_lets_one
  have C_book_sight := ok_book_sight (P := l.prog) (w := w) (base := base) D_book_sight T C_book_patterns C_sight
  have C_carriers := ok_carriers (P := l.prog) (w := w) (base := base) D_carriers T 
  have C_links_of := ok_links_of (P := l.prog) (w := w) (base := base) D_links_of T C_carriers
  have C_ways_on := ok_ways_on (P := l.prog) (w := w) (base := base) D_ways_on T 
  have C_ways_from := ok_ways_from (P := l.prog) (w := w) (base := base) D_ways_from T C_ways_on
  have C_ways_of := ok_ways_of (P := l.prog) (w := w) (base := base) D_ways_of T C_book_sight C_carriers C_links_of C_ways_from
  have C_hops_of := ok_hops_of (P := l.prog) (w := w) (base := base) D_hops_of T C_ways_of
  have C_keeps_link := ok_keeps_link (P := l.prog) (w := w) (base := base) D_keeps_link T 
  have C_judge_labels := ok_judge_labels (P := l.prog) (w := w) (base := base) D_judge_labels T C_book_sight C_carriers C_keeps_link C_links_of
  exact ok_law (fun_mk (st := s_law) l46 c46 k46) T C__law_above C__law_all_labels C__law_draw C__law_is_int C__law_kind C__law_labels_right C__law_least_hops C__law_net C__law_once_in C__law_same C__law_source C__law_wide C__law_words C_hops_of C_judge_labels
theorem walk {l : PySem.W.OpenLaw} {q : Program} {loose : List Str} {XP : (Str → Option Value) → Heap → Prop} {YP : World → Heap → Prop} {d : DefRec} {K : Params → PySem.W.Frag} (hn : l.most = some 63) (hdf : d.params.defaults = [])
    (hY : ∀ (w : World) (h : Heap), YP w h → (K w.params).In h)
    (F : ∀ (w : World) (mg : Str → Option Value) (fa : Addr) (h : Heap), (K w.params).In h → h.Ns mainGlobals mg → mg d.name = some (.ref fa) →
      ∃ fd : FuncData, (∀ (s : Shared) (u : Value), BindsTo s fd ⟨[u], []⟩ [("script", u)]) ∧ ∀ base : Heap, (K w.params).In base → base.Ns mainGlobals mg → FnOk l.prog w (K w.params) mg base CX0 11 fa fd ["script"] (sp_law (K w.params))) :
    PySem.W.WalkO q loose XP YP l.row.toRowW d [] (fun f vs => PySem.call f vs) :=
  L2.walk_of (n := 63) (k := 11) (x := "script") (CX := fun _ => CX0) (sp := fun w => sp_law (K w.params)) hn (by decide) hdf ⟨rfl, by decide, by decide⟩ hY F (fun _ _ a ns hl _ hS => ⟨a, ns, rfl, hS, hl, fun _ => rfl⟩) fun _ _ _ _ _ z => z
end Z
open PySem PySem.W PyProof.Rows in
set_option maxRecDepth 100000 in
set_option maxHeartbeats 0 in
theorem PySem.Challenge.cw_criermoot_k22_labels_judged_holds : PySem.Challenge.rw_criermoot_k22_labels_judged.Holds := by
  w_on; o_law; k_head; (case hw => w_witness2)
  k_fill
  refine Z.walk (l := PySem.Challenge.rw_criermoot_k22_labels_judged) rfl rfl (fun w h Y => PySem.W.kIn_of Y) ?F
  case F =>
    intro w mg fa h KX G hmg
    refine' Z.all_mk KX G hmg ?a0 ?l0 ?c0 ?k0 ?a1 ?l1 ?c1 ?k1 ?a2 ?l2 ?c2 ?k2 ?a3 ?l3 ?c3 ?k3 ?a4 ?l4 ?c4 ?k4 ?a5 ?l5 ?c5 ?k5 ?a6 ?l6 ?c6 ?k6 ?a7 ?l7 ?c7 ?k7 ?a8 ?l8 ?c8 ?k8 ?a9 ?l9 ?c9 ?k9 ?a10 ?l10 ?c10 ?k10 ?a11 ?l11 ?c11 ?k11 ?a12 ?l12 ?c12 ?k12 ?a13 ?l13 ?c13 ?k13 ?a14 ?l14 ?c14 ?k14 ?a15 ?l15 ?c15 ?k15 ?a16 ?l16 ?c16 ?k16 ?a17 ?l17 ?c17 ?k17 ?a18 ?l18 ?c18 ?k18 ?a19 ?l19 ?c19 ?k19 ?a20 ?l20 ?c20 ?k20 ?a21 ?l21 ?c21 ?k21 ?a22 ?l22 ?c22 ?k22 ?a23 ?l23 ?c23 ?k23 ?a24 ?l24 ?c24 ?k24 ?a25 ?l25 ?c25 ?k25 ?a26 ?l26 ?c26 ?k26 ?a27 ?l27 ?c27 ?k27 ?a28 ?l28 ?c28 ?k28 ?a29 ?l29 ?c29 ?k29 ?a30 ?l30 ?c30 ?k30 ?a31 ?l31 ?c31 ?k31 ?a32 ?l32 ?c32 ?k32 ?a33 ?l33 ?c33 ?k33 ?a34 ?l34 ?c34 ?k34 ?a35 ?l35 ?c35 ?k35 ?a36 ?l36 ?c36 ?k36 ?a37 ?l37 ?c37 ?k37 ?a38 ?l38 ?c38 ?k38 ?a39 ?l39 ?c39 ?k39 ?a40 ?l40 ?c40 ?k40 ?a41 ?l41 ?c41 ?k41 ?a42 ?l42 ?c42 ?k42 ?a43 ?l43 ?c43 ?k43 ?a44 ?l44 ?c44 ?k44 ?a45 ?l45 ?c45 ?k45 ?a46 ?l46 ?c46 ?k46 ?z_abs ?z_all ?z_any ?z_bool ?z_dict ?z_int ?z_isinstance ?z_len ?z_list ?z_max ?z_min ?z_range ?z_reversed ?z_sorted ?z_str ?z_tuple ?z_zip
    (case a0 => k_is)
    (case l0 => k_is)
    (case c0 => k_is)
    (case k0 => k_is)
    (case a1 => k_is)
    (case l1 => k_is)
    (case c1 => k_is)
    (case k1 => k_is)
    (case a2 => k_is)
    (case l2 => k_is)
    (case c2 => k_is)
    (case k2 => k_is)
    (case a3 => k_is)
    (case l3 => k_is)
    (case c3 => k_is)
    (case k3 => k_is)
    (case a4 => k_is)
    (case l4 => k_is)
    (case c4 => k_is)
    (case k4 => k_is)
    (case a5 => k_is)
    (case l5 => k_is)
    (case c5 => k_is)
    (case k5 => k_is)
    (case a6 => k_is)
    (case l6 => k_is)
    (case c6 => k_is)
    (case k6 => k_is)
    (case a7 => k_is)
    (case l7 => k_is)
    (case c7 => k_is)
    (case k7 => k_is)
    (case a8 => k_is)
    (case l8 => k_is)
    (case c8 => k_is)
    (case k8 => k_is)
    (case a9 => k_is)
    (case l9 => k_is)
    (case c9 => k_is)
    (case k9 => k_is)
    (case a10 => k_is)
    (case l10 => k_is)
    (case c10 => k_is)
    (case k10 => k_is)
    (case a11 => k_is)
    (case l11 => k_is)
    (case c11 => k_is)
    (case k11 => k_is)
    (case a12 => k_is)
    (case l12 => k_is)
    (case c12 => k_is)
    (case k12 => k_is)
    (case a13 => k_is)
    (case l13 => k_is)
    (case c13 => k_is)
    (case k13 => k_is)
    (case a14 => k_is)
    (case l14 => k_is)
    (case c14 => k_is)
    (case k14 => k_is)
    (case a15 => k_is)
    (case l15 => k_is)
    (case c15 => k_is)
    (case k15 => k_is)
    (case a16 => k_is)
    (case l16 => k_is)
    (case c16 => k_is)
    (case k16 => k_is)
    (case a17 => k_is)
    (case l17 => k_is)
    (case c17 => k_is)
    (case k17 => k_is)
    (case a18 => k_is)
    (case l18 => k_is)
    (case c18 => k_is)
    (case k18 => k_is)
    (case a19 => k_is)
    (case l19 => k_is)
    (case c19 => k_is)
    (case k19 => k_is)
    (case a20 => k_is)
    (case l20 => k_is)
    (case c20 => k_is)
    (case k20 => k_is)
    (case a21 => k_is)
    (case l21 => k_is)
    (case c21 => k_is)
    (case k21 => k_is)
    (case a22 => k_is)
    (case l22 => k_is)
    (case c22 => k_is)
    (case k22 => k_is)
    (case a23 => k_is)
    (case l23 => k_is)
    (case c23 => k_is)
    (case k23 => k_is)
    (case a24 => k_is)
    (case l24 => k_is)
    (case c24 => k_is)
    (case k24 => k_is)
    (case a25 => k_is)
    (case l25 => k_is)
    (case c25 => k_is)
    (case k25 => k_is)
    (case a26 => k_is)
    (case l26 => k_is)
    (case c26 => k_is)
    (case k26 => k_is)
    (case a27 => k_is)
    (case l27 => k_is)
    (case c27 => k_is)
    (case k27 => k_is)
    (case a28 => k_is)
    (case l28 => k_is)
    (case c28 => k_is)
    (case k28 => k_is)
    (case a29 => k_is)
    (case l29 => k_is)
    (case c29 => k_is)
    (case k29 => k_is)
    (case a30 => k_is)
    (case l30 => k_is)
    (case c30 => k_is)
    (case k30 => k_is)
    (case a31 => k_is)
    (case l31 => k_is)
    (case c31 => k_is)
    (case k31 => k_is)
    (case a32 => k_is)
    (case l32 => k_is)
    (case c32 => k_is)
    (case k32 => k_is)
    (case a33 => k_is)
    (case l33 => k_is)
    (case c33 => k_is)
    (case k33 => k_is)
    (case a34 => k_is)
    (case l34 => k_is)
    (case c34 => k_is)
    (case k34 => k_is)
    (case a35 => k_is)
    (case l35 => k_is)
    (case c35 => k_is)
    (case k35 => k_is)
    (case a36 => k_is)
    (case l36 => k_is)
    (case c36 => k_is)
    (case k36 => k_is)
    (case a37 => k_is)
    (case l37 => k_is)
    (case c37 => k_is)
    (case k37 => k_is)
    (case a38 => k_is)
    (case l38 => k_is)
    (case c38 => k_is)
    (case k38 => k_is)
    (case a39 => k_is)
    (case l39 => k_is)
    (case c39 => k_is)
    (case k39 => k_is)
    (case a40 => k_is)
    (case l40 => k_is)
    (case c40 => k_is)
    (case k40 => k_is)
    (case a41 => k_is)
    (case l41 => k_is)
    (case c41 => k_is)
    (case k41 => k_is)
    (case a42 => k_is)
    (case l42 => k_is)
    (case c42 => k_is)
    (case k42 => k_is)
    (case a43 => k_is)
    (case l43 => k_is)
    (case c43 => k_is)
    (case k43 => k_is)
    (case a44 => k_is)
    (case l44 => k_is)
    (case c44 => k_is)
    (case k44 => k_is)
    (case a45 => k_is)
    (case l45 => k_is)
    (case c45 => k_is)
    (case k45 => k_is)
    (case a46 => k_is)
    (case l46 => k_is)
    (case c46 => k_is)
    (case k46 => k_is)
    (case z_abs => k_is)
    (case z_all => k_is)
    (case z_any => k_is)
    (case z_bool => k_is)
    (case z_dict => k_is)
    (case z_int => k_is)
    (case z_isinstance => k_is)
    (case z_len => k_is)
    (case z_list => k_is)
    (case z_max => k_is)
    (case z_min => k_is)
    (case z_range => k_is)
    (case z_reversed => k_is)
    (case z_sorted => k_is)
    (case z_str => k_is)
    (case z_tuple => k_is)
    (case z_zip => k_is)
