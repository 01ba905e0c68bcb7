import PyProof.Rows.All
import Wide.All
import OpenK.AllK
import Wide.FinOn
import HandS.Base
import HandS.Call
import HandS.List
import HandS.Comp
import HandS.Ends
import HandS.Dict
import HandS.Iter
import HandS.Text
import HandS.Words
import HandS.WordsList
import HandS.Conv
import HandS.Codes
import HandS.IsInst
import HandS.Replace
import HandS.StrMore
import HandS.TupAny
import HandS.WideBits
import HandS.ForExc
import HandS.ExcInit
import HandS.ExcField
import HandS.ExcIs
import KE.KExcIs
import HandS.Sort
import HandS.Deep
import KE.SortData
import KE.DataMinMax
import KE.KSortTupAny
import KE.GoesEnum
import KE.GoesMore
import HandS.Rev
import HandS.ReplaceLit
import PyProof.Rows.StrCut
import PyProof.MinMaxWalk
import HandS.TupMul
import PySem.Challenge.RW_criermoot_k53_routes
set_option Elab.async false
set_option linter.all false
set_option maxRecDepth 100000
namespace Z
open PySem L2

/-! ### heaps -/
/-- all that was tracked is as it was, but for what stands at s -/
def Ext (s : Addr) (H H' : Hp) : Prop := ∀ b o, b ≠ s → H b = some o → H' b = some o
theorem Ext.refl (s : Addr) (H : Hp) : Ext s H H := fun _ _ _ h => h
theorem Ext.trans {s : Addr} {H H1 H2 : Hp} (a : Ext s H H1) (b : Ext s H1 H2) : Ext s H H2 := fun c o n h => b c o n (a c o n h)
theorem Ext.of {s : Addr} {H H' : Hp} (a : Same H H') : Ext s H H' := fun c o _ h => a c o h
theorem Ext.new {s p : Addr} {H : Hp} {o : HO} (n : H p = none) : Ext s H (upd H p o) := fun b u _ h => by
  rw [upd_ne (ne_of_none h n)]; exact h
theorem Ext.put {s : Addr} {H : Hp} {o : HO} : Ext s H (upd H s o) := fun b u n h => by
  rw [upd_ne n]; exact h
theorem same_new {p : Addr} {H : Hp} {o : HO} (n : H p = none) : Same H (upd H p o) := fun b u h => by
  rw [upd_ne (ne_of_none h n)]; exact h
theorem Ext.seqT {K : PySem.W.Frag} {s a : Addr} {H H' : Hp} {xs ys : List V} (x : Ext s H H') (hs : H s = some (.lst ys)) (h : SqT K H a xs) : SqT K H' a xs := by
  rcases h with (h | ⟨o, h⟩) | h
  · exact .inl (.inl (x _ _ (fun e => by rw [e, hs] at h; cases h) h))
  · exact .inl (.inr ⟨o, x _ _ (fun e => by rw [e, hs] at h; cases h) h⟩)
  · exact .inr h
theorem Ext.seqL {K : PySem.W.Frag} {s a : Addr} {H H' : Hp} {xs : List V} (x : Ext s H H') (n : a ≠ s) (h : SqL K H a xs) : SqL K H' a xs := by
  rcases h with (h | ⟨o, h⟩) | h
  · exact .inl (.inl (x _ _ n h))
  · exact .inl (.inr ⟨o, x _ _ n h⟩)
  · exact .inr h

theorem and_nn {x : Int} (hx : 0 ≤ x) (k : Nat) : 0 ≤ Builtin.bitAnd x (1 * 2 ^ k - 1) := by
  rw [Int.one_mul, Bits.bitAnd_mask k hx]
  exact Int.emod_nonneg _ (Int.ne_of_gt (Int.pow_pos (by decide)))
/-! ### the source of draws -/
def Src (H : Hp) (s a : Addr) (c : Nat) : Prop := ∃ (ns : List Int) (i b e t : Int),
  H s = some (.lst [.ref a, .int i, .int b, .int e, .int t]) ∧ H a = some (.lst (ns.map V.int)) ∧ a ≠ s ∧ ns.length ≤ 63 ∧ 0 ≤ i ∧ i ≤ 63 ∧ 0 ≤ b ∧ 0 ≤ e ∧ e < 2147483647 ∧ 0 ≤ t ∧ t + c < 4000000000000000000
theorem Src.lst {H : Hp} {s a : Addr} {c : Nat} (h : Src H s a c) : ∃ xs, H s = some (.lst xs) := by
  obtain ⟨_, _, _, _, _, h, _⟩ := h; exact ⟨_, h⟩
theorem Src.mono {H : Hp} {s a : Addr} {c d : Nat} (h : Src H s a c) (l : d ≤ c) : Src H s a d := by
  obtain ⟨ns, i, b, e, t, h1, h2, h3, h4, h5, h6, h7, h8, h9, h10, h11⟩ := h
  exact ⟨ns, i, b, e, t, h1, h2, h3, h4, h5, h6, h7, h8, h9, h10, by omega⟩
theorem Src.ext {H H' : Hp} {s a : Addr} {c : Nat} (h : Src H s a c) (x : Same H H') : Src H' s a c := by
  obtain ⟨ns, i, b, e, t, h1, h2, h3⟩ := h
  exact ⟨ns, i, b, e, t, x _ _ h1, x _ _ h2, h3⟩
theorem Src.new {H : Hp} {s a p : Addr} {o : HO} {c : Nat} (h : Src H s a c) (n : H p = none) : Src (upd H p o) s a c := h.ext (same_new n)
theorem Src.ne {H : Hp} {s a p : Addr} {c : Nat} (h : Src H s a c) (n : H p = none) : p ≠ s := by
  obtain ⟨xs, e⟩ := h.lst
  exact (ne_of_none e n).symm
theorem Src.nea {H : Hp} {s a p : Addr} {c : Nat} (h : Src H s a c) (n : H p = none) : p ≠ a := by
  obtain ⟨ns, i, b, e, t, h1, h2, h3⟩ := h
  exact (ne_of_none h2 n).symm
theorem Src.put {H : Hp} {s a p : Addr} {o : HO} {c : Nat} (h : Src H s a c) (n : p ≠ s) (m : p ≠ a) : Src (upd H p o) s a c := by
  obtain ⟨ns, i, b, e', t, h1, h2, h3⟩ := h
  exact ⟨ns, i, b, e', t, by rw [upd_ne n.symm]; exact h1, by rw [upd_ne m.symm]; exact h2, h3⟩

/-! ### defs and their callers -/
section
variable (P : Program) (w : World) (K : PySem.W.Frag) (mg : Str → Option Value) (base : Heap)
/-- a def as callers use it -/
def Cal (x : Str) (ps : List Str) (k : Nat) (sp : Sp) : Prop := ∃ (f : Addr) (fd : FuncData), FnOk P w K mg base CX0 k f fd ps sp ∧ mg x = some (.ref f) ∧ PySem.W.keepIn K (.ref f) = true ∧ Binds K fd ps []
/-- a def as the top has left it -/
def Df (x : Str) (st : Stmt) (ps : List Str) : Prop := ∃ (f : Addr) (fd : FuncData), Fun K x x st f fd ∧ mg x = some (.ref f) ∧ Binds K fd ps []
end
theorem Cal.mono {P : Program} {w : World} {K : PySem.W.Frag} {mg : Str → Option Value} {base : Heap} {x : Str} {ps : List Str} {j k : Nat} {sp : Sp} (C : Cal P w K mg base x ps j sp) (h : j ≤ k) : Cal P w K mg base x ps k sp := by
  obtain ⟨f, fd, G, g, kp, b⟩ := C
  exact ⟨f, fd, G.mono h, g, kp, b⟩

/-! ### the promises of the drawing defs -/
def sp__law_mix : Sp := fun vs H Q _ => ∃ (x y : Int), vs = [.int x, .int y] ∧ 0 ≤ x ∧ x < 9000000000000000000 ∧ 0 ≤ y ∧ y < 9000000000000000000 ∧ ∀ v : Int, 0 ≤ v → v < 2147483647 → Q (.int v) H
def sp__law_source (K : PySem.W.Frag) : Sp := fun vs H Q _ => ∃ (a : Addr) (ns : List Int), vs = [.ref a] ∧ SqL K H a (ns.map V.int) ∧ ns.length ≤ 63 ∧ ∀ (s b : Addr) (H' : Hp), H s = none → Same H H' → Src H' s b 3000000000000000000 → Q (.ref s) H'
def sp__law_draw : Sp := fun vs H Q _ => ∃ (s a : Addr) (m : Int) (c : Nat), vs = [.ref s, .int m] ∧ 0 < m ∧ m < 1073741824 ∧ Src H s a (c + 1) ∧ ∀ (v : Int) (H' : Hp), 0 ≤ v → v < m → Ext s H H' → Src H' s a c → Q (.int v) H'

/-! ### data -/
inductive D where
  | non | bl (b : Bool) | int (i : Int) | str (x : Str) | tup (xs : List D)
mutual
def DV (K : PySem.W.Frag) (H : Hp) : D → V → Prop
  | .non, v => v = .non
  | .bl b, v => v = .bl b
  | .int i, v => v = .int i
  | .str x, v => v = .str x
  | .tup ds, v => ∃ a vs, v = .ref a ∧ SqT K H a vs ∧ DVs K H ds vs
def DVs (K : PySem.W.Frag) (H : Hp) : List D → List V → Prop
  | [], vs => vs = []
  | d :: ds, vs => ∃ v r, vs = v :: r ∧ DV K H d v ∧ DVs K H ds r
end
mutual
theorem DV.ext {K : PySem.W.Frag} {H H' : Hp} (x : ∀ a xs, SqT K H a xs → SqT K H' a xs) : ∀ {d : D} {v : V}, DV K H d v → DV K H' d v
  | .non, _, h => by unfold DV at *; exact h
  | .bl _, _, h => by unfold DV at *; exact h
  | .int _, _, h => by unfold DV at *; exact h
  | .str _, _, h => by unfold DV at *; exact h
  | .tup ds, v, h => by
    unfold DV at *
    obtain ⟨a, vs, e, q, r⟩ := h
    exact ⟨a, vs, e, x _ _ q, DVs.ext x r⟩
theorem DVs.ext {K : PySem.W.Frag} {H H' : Hp} (x : ∀ a xs, SqT K H a xs → SqT K H' a xs) : ∀ {ds : List D} {vs : List V}, DVs K H ds vs → DVs K H' ds vs
  | [], _, h => by unfold DVs at *; exact h
  | d :: ds, vs, h => by
    unfold DVs at *
    obtain ⟨v, r, e, q, t⟩ := h
    exact ⟨v, r, e, DV.ext x q, DVs.ext x t⟩
end
theorem DVs.len {K : PySem.W.Frag} {H : Hp} : ∀ {ds : List D} {vs : List V}, DVs K H ds vs → vs.length = ds.length
  | [], _, h => by unfold DVs at h; subst h; rfl
  | d :: ds, vs, h => by
    unfold DVs at h
    obtain ⟨v, r, e, q, t⟩ := h
    rw [e, List.length_cons, List.length_cons, DVs.len t]
theorem DVs.get {K : PySem.W.Frag} {H : Hp} : ∀ {ds : List D} {vs : List V} {i : Nat} {d : D}, DVs K H ds vs → ds[i]? = some d → ∃ v, vs[i]? = some v ∧ DV K H d v
  | [], _, i, d, h, e => by simp at e
  | x :: ds, vs, i, d, h, e => by
    unfold DVs at h
    obtain ⟨v, r, e1, q, t⟩ := h
    subst e1
    cases i with
    | zero =>
      have : x = d := by simpa using e
      subst this
      exact ⟨v, rfl, q⟩
    | succ i => exact DVs.get (i := i) t (by simpa using e)
theorem DVs.strs {K : PySem.W.Frag} {H : Hp} : ∀ (xs : List Str), DVs K H (xs.map D.str) (xs.map V.str)
  | [] => by unfold DVs; rfl
  | x :: xs => by
    unfold DVs
    exact ⟨_, _, rfl, by unfold DV; rfl, DVs.strs xs⟩
theorem DVs.ints {K : PySem.W.Frag} {H : Hp} : ∀ (xs : List Int), DVs K H (xs.map D.int) (xs.map V.int)
  | [] => by unfold DVs; rfl
  | x :: xs => by
    unfold DVs
    exact ⟨_, _, rfl, by unfold DV; rfl, DVs.ints xs⟩
/-- tuples lie within fewer than n others -/
def DL : Nat → D → Prop
  | 0, _ => False
  | n + 1, .tup xs => xs.length ≤ 1000000 ∧ ∀ x ∈ xs, DL n x
  | _ + 1, _ => True
theorem TyX.ofT {K : PySem.W.Frag} {H : Hp} {a : Addr} {xs : List V} (h : SqT K H a xs) : TyX K H (.ref a) (.type "tuple") := by
  rcases h with (h | ⟨o, h⟩) | ⟨o, _, _, e, c, _⟩
  · exact .base (.tup h)
  · exact .fTuple h
  · exact .kTuple e c
def sp__law_is_int (K : PySem.W.Frag) : Sp := fun vs H Q _ => ∃ i : Int, vs = [.int i] ∧ Q (.bl true) H
/-- of two values with the same data it tells True -/
def sp__law_same (K : PySem.W.Frag) (n : Nat) : Sp := fun vs H Q _ => ∃ (d : D) (v u : V), vs = [v, u] ∧ DV K H d v ∧ DV K H d u ∧ DL n d ∧ Q (.bl true) H

/-! ### texts by their signs -/
open SX (S S_cat S_len S_inj)
theorem S_lst (l : List Nat) : (S l).cps.toList = l := rfl
theorem S_of (x : Str) : x = S x.cps.toList := (SX.S_tl x).symm
theorem S_app (a b : List Nat) : S a ++ S b = S (a ++ b) := S_cat a b
/-- a for over the signs of a text -/
theorem for_str {l : List Nat} {g : TG} {tb : TS} {D : Ends} {σ : St} {H : Hp} (Pv : Nat → St → Hp → Prop) (h0 : Pv 0 σ H)
    (hs : ∀ i c σ H, l[i]? = some c → Pv i σ H → g (.str (S [c])) σ H fun σ2 H2 => tb { D with nx := Pv (i + 1), ct := Pv (i + 1), bk := D.nx } σ2 H2) (hd : ∀ σ H, Pv l.length σ H → D.nx σ H) :
    ∃ W : Nat → Nat → St → Hp → Prop, (∃ m, W 0 m σ H) ∧ ∀ i m σ H, W i m σ H →
      ((Its (S l)).stop i H ∧ D.nx σ H) ∨ ((Its (S l)).go i H ∧ ∃ N : St → Hp → Prop, (∀ σ' H', N σ' H' → ∃ m', m' < m ∧ W (i + 1) m' σ' H') ∧ ∀ x H', (Its (S l)).yld i H x H' → g x σ H' fun σ2 H2 => tb { D with nx := N, ct := N, bk := D.nx } σ2 H2) := by
  refine ⟨fun i m σ H => m = l.length - i ∧ i ≤ l.length ∧ Pv i σ H, ⟨l.length, by simp, Nat.zero_le _, h0⟩, ?_⟩
  rintro i m σ H ⟨rfl, hi, p⟩
  by_cases hlt : i < l.length
  · refine .inr ⟨by show i < l.toArray.size; simpa using hlt, Pv (i + 1), fun σ' H' p' => ⟨l.length - (i + 1), by omega, rfl, hlt, p'⟩, fun x H' y => ?_⟩
    obtain ⟨e, c, hc, y⟩ := y
    subst e y
    exact hs i c σ _ (by simpa using hc) p
  · have e : i = l.length := by omega
    subst e
    exact .inl ⟨by show l.toArray.size ≤ l.length; simp, hd σ H p⟩
/-- a comprehension over the signs of a text -/
theorem lc_str {l : List Nat} {g : TG} {tt : TT} {te : TE} {vs : List Nat} {σ : St} {H1 : Hp} {D : Addr} {Qd : Hp → Prop} (Pv : Nat → Hp → Prop) (h0 : Pv 0 (upd H1 D (.lst [])))
    (hs : ∀ i c H, l[i]? = some c → Pv i H → g (.str (S [c])) (wipe σ vs) H fun σ2 H2 => wipe σ2 vs = wipe σ vs ∧ tt σ2 H2 fun b H3 =>
      if b = true then te σ2 H3 fun y H4 => ∃ acc, H4 D = some (.lst acc) ∧ acc.length < sizeLine ∧ Pv (i + 1) (upd H4 D (.lst (acc ++ [y]))) else Pv (i + 1) H3) (hd : ∀ H, Pv l.length H → Qd H) :
    ∃ W : Nat → Nat → Hp → Prop, (∃ m, W 0 m (upd H1 D (.lst []))) ∧ ∀ i m H, W i m H →
      ((Its (S l)).stop i H ∧ Qd H) ∨ ((Its (S l)).go i H ∧ ∃ Nx : Hp → Prop, (∀ H', Nx H' → ∃ m', m' < m ∧ W (i + 1) m' H') ∧ ∀ x H', (Its (S l)).yld i H x H' → g x (wipe σ vs) H' fun σ2 H2 => wipe σ2 vs = wipe σ vs ∧ tt σ2 H2 fun b H3 =>
        if b = true then te σ2 H3 fun y H4 => ∃ acc, H4 D = some (.lst acc) ∧ acc.length < sizeLine ∧ Nx (upd H4 D (.lst (acc ++ [y]))) else Nx H3) := by
  refine ⟨fun i m H => m = l.length - i ∧ i ≤ l.length ∧ Pv i H, ⟨l.length, by simp, Nat.zero_le _, h0⟩, ?_⟩
  rintro i m H ⟨rfl, hi, p⟩
  by_cases hlt : i < l.length
  · refine .inr ⟨by show i < l.toArray.size; simpa using hlt, Pv (i + 1), fun H' p' => ⟨l.length - (i + 1), by omega, rfl, hlt, p'⟩, fun x H' y => ?_⟩
    obtain ⟨e, c, hc, y⟩ := y
    subst e y
    exact hs i c _ (by simpa using hc) p
  · have e : i = l.length := by omega
    subst e
    exact .inl ⟨by show l.toArray.size ≤ l.length; simp, hd H p⟩
/-- signs of rows -/
def Asc (l : List Nat) : Prop := ∀ x ∈ l, 32 ≤ x ∧ x ≤ 126
theorem Asc.nil : Asc [] := fun _ h => nomatch h
theorem Asc.app {a b : List Nat} (x : Asc a) (y : Asc b) : Asc (a ++ b) := fun c h => (List.mem_append.mp h).elim (x c) (y c)
theorem Asc.by_ {l : List Nat} (h : l.all (fun x => decide (32 ≤ x) && decide (x ≤ 126)) = true) : Asc l := fun x m => by
  have := List.all_eq_true.mp h x m
  simp at this
  exact this
theorem Asc.all128 {l : List Nat} (h : Asc l) : l.all (· < 128) = true := List.all_eq_true.mpr fun x m => decide_eq_true (by have := h x m; omega)
theorem joinNil : ∀ ls : List (List Nat), TL.joinL [] ls = ls.flatten
  | [] => rfl
  | [x] => by simp [TL.joinL]
  | x :: y :: r => by
    have := joinNil (y :: r)
    simp only [TL.joinL] at *
    rw [List.flatten_cons, ← this]
    simp [TL.joinL]
theorem join_nil (ls : List (List Nat)) : Txt.join (S []) (ls.map S) = S ls.flatten := by
  rw [SX.join_S, joinNil]

/-! ### texts, further -/
abbrev tl (x : Str) : List Nat := x.cps.toList
theorem tl_S (l : List Nat) : tl (S l) = l := rfl
theorem S_tl (x : Str) : S (tl x) = x := rfl
theorem tl_app (x y : Str) : tl (x ++ y) = tl x ++ tl y := TL.tl_append x y
theorem tl_len (x : Str) : x.length = (tl x).length := by show x.cps.size = x.cps.toList.length; simp
theorem tl_ext {x y : Str} (h : tl x = tl y) : x = y := TL.ext_tl h
theorem at_str {x : Str} {i : Int} (h0 : 0 ≤ i) (h1 : i < (x.length : Int)) : ∃ c, x.cps[i.toNat]? = some c ∧ (tl x)[i.toNat]? = some c ∧ c ∈ tl x := by
  have h : i.toNat < (tl x).length := by rw [← tl_len]; omega
  refine ⟨(tl x)[i.toNat], ?_, List.getElem?_eq_getElem h, List.getElem_mem h⟩
  have := List.getElem?_eq_getElem h
  rw [← this]; simp [tl]
/-- small letters and digits -/
def Low (l : List Nat) : Prop := ∀ x ∈ l, (97 ≤ x ∧ x ≤ 122) ∨ (48 ≤ x ∧ x ≤ 57)
theorem Low.nil : Low [] := fun _ h => nomatch h
theorem Low.app {a b : List Nat} (x : Low a) (y : Low b) : Low (a ++ b) := fun c h => (List.mem_append.mp h).elim (x c) (y c)
theorem Low.asc {a : List Nat} (x : Low a) : Asc a := fun c h => by have := x c h; omega
theorem low_num (n : Nat) : Low (TL.numL n) := fun c h => .inr (by have := TL.numL_digits n c h; omega)
theorem num_len : ∀ n : Nat, (TL.numL n).length ≤ n + 1 := fun n => by
  induction n using Nat.strongRecOn with
  | ind n ih =>
    by_cases h : n < 10
    · rw [TL.numL_lt h]; simp
    · rw [TL.numL_step (by omega), List.length_append]
      have := ih (n / 10) (by omega)
      simp; omega
/-- a name: a letter, then letters and digits -/
def Nm (l : List Nat) : Prop := (∃ c r, l = c :: r ∧ 97 ≤ c ∧ c ≤ 122) ∧ Low l
theorem Nm.app {a b : List Nat} (x : Nm a) (y : Low b) : Nm (a ++ b) := by
  obtain ⟨⟨c, r, e, h⟩, l⟩ := x
  exact ⟨⟨c, r ++ b, by rw [e]; rfl, h⟩, l.app y⟩
theorem flat_strs (xs : List Str) : (xs.map V.str).all flatV = true := List.all_eq_true.mpr fun x h => by
  obtain ⟨y, _, rfl⟩ := List.mem_map.mp h; rfl
theorem inV_strs (x : Str) (xs : List Str) : inV (V.str x) (xs.map V.str) = decide (x ∈ xs) := by
  unfold inV
  induction xs with
  | nil => rfl
  | cons y ys ih =>
    rw [List.map_cons, List.any_cons, ih]
    by_cases e : x = y
    · subst e; simp [eqV]
    · have : ¬ y = x := fun h => e h.symm
      simp [eqV, e, this]
def sp__law_new_name (K : PySem.W.Frag) : Sp := fun vs H Q _ => ∃ (s a u : Addr) (us : List Str) (c : Nat), vs = [.ref s, .ref u] ∧ SqL K H u (us.map V.str) ∧ u ≠ s ∧ us.length ≤ 60 ∧ Src H s a (c + 8) ∧
  ∀ (x : Str) (H' : Hp), Nm (tl x) → (tl x).length ≤ 70 → Ext s H H' → Src H' s a c → Q (.str x) H'
def sp__law_names (K : PySem.W.Frag) : Sp := fun vs H Q _ => ∃ (s a : Addr) (m c : Nat), vs = [.ref s, .int m] ∧ m ≤ 60 ∧ Src H s a (c + 8 * m) ∧
  ∀ (u : Addr) (us : List Str) (H' : Hp), H u = none → H' u = some (.lst (us.map V.str)) → us.length = m → (∀ x ∈ us, Nm (tl x) ∧ (tl x).length ≤ 70) → Ext s H H' → Src H' s a c → Q (.ref u) H'
def sp__law_row : Sp := fun vs H Q _ => ∃ (s a : Addr) (m : Int) (c : Nat), vs = [.ref s, .int m] ∧ 0 ≤ m ∧ m ≤ 1000 ∧ Src H s a (c + m.toNat) ∧
  ∀ (x : Str) (H' : Hp), Asc (tl x) → (tl x).length = m.toNat → Ext s H H' → Src H' s a c → Q (.str x) H'

/-! ### rules that name the written part themselves (for the blocks of comprehensions) -/
section
variable {X : Cx} {K : PySem.W.Frag}
/-- len of a text -/
theorem call_lenS : CallR X (.builtin "len") (fun xs H Q => ∃ x : Str, xs = [.str x] ∧ x.length ≤ sizeLine ∧ Q (.int x.length) H) := by
  intro pins s σ H xs us Q I r h
  obtain ⟨x, e, hl, q⟩ := h
  exact call_len pins s σ H xs us Q I r ⟨.str x, x.length, e, ⟨hl, rfl⟩, q⟩
theorem call_lenQ (h : X.K = K) : CallR X (.builtin "len") (fun xs H Q => ∃ p ys, xs = [.ref p] ∧ (SqL K H p ys ∨ SqT K H p ys) ∧ Q (.int ys.length) H) := by
  subst h; exact call_len_seq
theorem ix_listQ (h : X.K = K) : IxR X (rIxL K) := by subst h; exact ix_list
theorem ix_tupQ (h : X.K = K) : IxR X (rIxT K) := by subst h; exact ix_tup
theorem in_seqQ (h : X.K = K) : OpR X (compareOp .In) (rIn K false) := by subst h; exact op_in_seq
theorem notIn_seqQ (h : X.K = K) : OpR X (compareOp .NotIn) (rIn K true) := by subst h; exact op_notIn_seq
theorem isiQ (h : X.K = K) : CallR X (.builtin "isinstance") (rIsi K) := by subst h; exact call_isi
end

/-- texts of one sign each -/
def Ones (p : Nat → Prop) (xs : List Str) : Prop := ∀ x ∈ xs, ∃ c, tl x = [c] ∧ p c
theorem Ones.tail {p : Nat → Prop} {x : Str} {xs : List Str} (h : Ones p (x :: xs)) : Ones p xs := fun y m => h y (List.mem_cons_of_mem _ m)
theorem ones_len {p : Nat → Prop} : ∀ {xs : List Str}, (∀ x ∈ xs, ∃ c, tl x = [c] ∧ p c) → (xs.map (·.length)).sum = xs.length
  | [], _ => rfl
  | x :: xs, h => by
    obtain ⟨c, e, _⟩ := h x List.mem_cons_self
    have : x.length = 1 := by rw [tl_len, e]; rfl
    rw [List.map_cons, List.sum_cons, ones_len (Ones.tail h), List.length_cons, this]
    omega
/-- their only signs -/
def heads (xs : List Str) : List Nat := xs.map fun x => (tl x).headD 0
theorem tl_join0 (xs : List Str) : tl (Txt.join (S []) xs) = (xs.map tl).flatten := by
  have e : xs = (xs.map tl).map S := by rw [List.map_map]; exact (List.map_id _).symm
  have h := join_nil (xs.map tl)
  rw [← e] at h
  show tl (Txt.join (S []) xs) = _
  rw [h]
theorem ones_join {p : Nat → Prop} {xs : List Str} (h : ∀ x ∈ xs, ∃ c, tl x = [c] ∧ p c) : tl (Txt.join (S []) xs) = heads xs := by
  rw [tl_join0]
  induction xs with
  | nil => rfl
  | cons x xs ih =>
    obtain ⟨c, e, _⟩ := h x List.mem_cons_self
    rw [List.map_cons, List.flatten_cons, ih (Ones.tail h), e]
    show c :: heads xs = (tl x).headD 0 :: heads xs
    rw [e]; rfl
theorem ones_all {p : Nat → Prop} {xs : List Str} (h : ∀ x ∈ xs, ∃ c, tl x = [c] ∧ p c) : ∀ c ∈ heads xs, p c := fun c m => by
  obtain ⟨x, hx, e⟩ := List.mem_map.mp m
  obtain ⟨d, e2, hd⟩ := h x hx
  rw [e2] at e
  have : d = c := e
  rw [← this]; exact hd
theorem str0 : Str.ofString "" = S [] := rfl
theorem ones_room {p : Nat → Prop} {xs : List Str} (h : ∀ x ∈ xs, ∃ c, tl x = [c] ∧ p c) : (xs.map (·.length)).sum + xs.length * (Str.ofString "").length = xs.length := by
  rw [ones_len h]; show xs.length + xs.length * 0 = xs.length; omega
theorem ones_joinE {p : Nat → Prop} {xs : List Str} (h : ∀ x ∈ xs, ∃ c, tl x = [c] ∧ p c) : tl (Txt.join (Str.ofString "") xs) = heads xs := ones_join h
theorem ones_asc {xs : List Str} (h : ∀ x ∈ xs, ∃ c, tl x = [c] ∧ 32 ≤ c ∧ c ≤ 126) : Asc (heads xs) := fun c m => ones_all (p := fun c => 32 ≤ c ∧ c ≤ 126) h c m
theorem heads_len (xs : List Str) : (heads xs).length = xs.length := List.length_map _

theorem alpha_mem {c : Nat} (h : c ∈ tl (Str.ofString "abcdefghijklmnopqrstuvwxyz")) : 97 ≤ c ∧ c ≤ 122 := by
  have : (tl (Str.ofString "abcdefghijklmnopqrstuvwxyz")).all (fun c => decide (97 ≤ c) && decide (c ≤ 122)) = true := by decide +kernel
  have := List.all_eq_true.mp this c h
  simp at this; exact this
theorem low_mem {c : Nat} (h : c ∈ tl (Str.ofString "abcdefghijklmnopqrstuvwxyz" ++ Str.ofString "0123456789")) : (97 ≤ c ∧ c ≤ 122) ∨ (48 ≤ c ∧ c ≤ 57) := by
  rw [tl_app] at h
  have : (tl (Str.ofString "abcdefghijklmnopqrstuvwxyz") ++ tl (Str.ofString "0123456789")).all (fun c => (decide (97 ≤ c) && decide (c ≤ 122)) || (decide (48 ≤ c) && decide (c ≤ 57))) = true := by decide +kernel
  have := List.all_eq_true.mp this c h
  simp at this; exact this

theorem log_small {i : Nat} (h : i ≤ 1000000) : (Int.natAbs (0 + (i : Int))).log2 < 1920 := by
  rw [Int.zero_add, Int.natAbs_natCast]
  by_cases e : i = 0
  · subst e; decide
  · rw [Nat.log2_lt e]
    exact Nat.lt_of_le_of_lt h (Nat.lt_of_lt_of_le (by decide : 1000000 < 2 ^ 20) (Nat.pow_le_pow_right (by decide) (by decide)))

theorem fold_take {α β : Type} {f : β → α → β} {a : β} {l : List α} {i : Nat} {c : α} (h : l[i]? = some c) : (l.take (i + 1)).foldl f a = f ((l.take i).foldl f a) c := by
  rw [List.take_add_one, h, List.foldl_append]
  rfl
theorem fold_all {α β : Type} {f : β → α → β} {a : β} {l : List α} : (l.take l.length).foldl f a = l.foldl f a := by rw [List.take_length]
theorem in_abc {c : Nat} : decide (c ∈ (Str.ofString "abcdefghijklmnopqrstuvwxyz").cps.toList) = (decide (97 ≤ c) && decide (c ≤ 122)) := by
  have e : (Str.ofString "abcdefghijklmnopqrstuvwxyz").cps.toList = List.range' 97 26 := by decide +kernel
  rw [e, Bool.eq_iff_iff, decide_eq_true_iff, List.mem_range'_1]
  simp only [Bool.and_eq_true, decide_eq_true_eq]
  omega
theorem in_ABC {c : Nat} : decide (c ∈ (Str.ofString "ABCDEFGHIJKLMNOPQRSTUVWXYZ").cps.toList) = (decide (65 ≤ c) && decide (c ≤ 90)) := by
  have e : (Str.ofString "ABCDEFGHIJKLMNOPQRSTUVWXYZ").cps.toList = List.range' 65 26 := by decide +kernel
  rw [e, Bool.eq_iff_iff, decide_eq_true_iff, List.mem_range'_1]
  simp only [Bool.and_eq_true, decide_eq_true_eq]
  omega
theorem in_012 {c : Nat} : decide (c ∈ (Str.ofString "0123456789").cps.toList) = (decide (48 ≤ c) && decide (c ≤ 57)) := by
  have e : (Str.ofString "0123456789").cps.toList = List.range' 48 10 := by decide +kernel
  rw [e, Bool.eq_iff_iff, decide_eq_true_iff, List.mem_range'_1]
  simp only [Bool.and_eq_true, decide_eq_true_eq]
  omega
theorem in_abc012 {c : Nat} : decide (c ∈ (Str.ofString "abcdefghijklmnopqrstuvwxyz0123456789").cps.toList) = ((decide (97 ≤ c) && decide (c ≤ 122)) || (decide (48 ≤ c) && decide (c ≤ 57))) := by
  have e : (Str.ofString "abcdefghijklmnopqrstuvwxyz0123456789").cps.toList = List.range' 97 26 ++ List.range' 48 10 := by decide +kernel
  rw [e, Bool.eq_iff_iff, decide_eq_true_iff, List.mem_append, List.mem_range'_1, List.mem_range'_1]
  simp only [Bool.and_eq_true, Bool.or_eq_true, decide_eq_true_eq]
  omega
/-- literal texts -/
theorem tl_mapS (ws : List Str) : (ws.map tl).map S = ws := by rw [List.map_map]; exact List.map_id _

theorem strs_at (zs : List Str) {v : Int} (h0 : 0 ≤ v) (h1 : v < (zs.length : Int)) : ∃ z, z ∈ zs ∧ atI (zs.map V.str) v = some (.str z) := by
  have h : v.toNat < zs.length := by omega
  exact ⟨zs[v.toNat], List.getElem_mem h, at_of (j := v.toNat) (by omega) (by rw [List.getElem?_map, List.getElem?_eq_getElem h]; rfl)⟩
theorem tl_upper {x : Str} (h : Asc (tl x)) : tl (Txt.upper x) = (tl x).map PyProof.Rows.up1 := congrArg tl (SX.upper_S (a := tl x) h.all128)
theorem asc_upper {x : Str} (h : Asc (tl x)) : Asc (tl (Txt.upper x)) := by
  rw [tl_upper h]
  intro c hc
  obtain ⟨d, hd, e⟩ := List.mem_map.mp hc
  have := h d hd
  unfold PyProof.Rows.up1 at e
  split at e <;> omega
theorem len_upper {x : Str} (h : Asc (tl x)) : (tl (Txt.upper x)).length = (tl x).length := by rw [tl_upper h, List.length_map]
theorem DL.strs {n : Nat} (xs : List Str) (h : xs.length ≤ 1000000) : DL (n + 2) (.tup (xs.map D.str)) := ⟨by rw [List.length_map]; exact h, fun d m => by obtain ⟨x, _, rfl⟩ := List.mem_map.mp m; exact True.intro⟩
theorem DV.strs {K : PySem.W.Frag} {H : Hp} {p : Addr} {xs : List Str} (h : H p = some (.tup (xs.map V.str))) : DV K H (.tup (xs.map D.str)) (.ref p) := by
  unfold DV
  exact ⟨p, _, rfl, SqT.of h, DVs.strs xs⟩
def sp_law (K : PySem.W.Frag) : Sp := fun vs H Q _ => ∃ (a : Addr) (ns : List Int), vs = [.ref a] ∧ SqL K H a (ns.map V.int) ∧ ns.length ≤ 63 ∧ ∀ H', Q (.bl true) H'
end Z
namespace Z
open PySem L2 SX
/-! ### cuts -/
theorem sIx_pos {n d : Nat} {i : Int} (h : 0 ≤ i) : HT.sIx n d (some i) = min i.toNat n := by
  obtain ⟨k, rfl⟩ := Int.eq_ofNat_of_zero_le h
  rw [HT.sIx_nat]; rfl
theorem cutS_to {z : Str} {i : Int} (h : 0 ≤ i) : tl (cutS z none (some i)) = (tl z).take i.toNat := by
  show ((tl z).drop 0).take (HT.sIx z.length z.length (some i) - 0) = _
  rw [sIx_pos h, List.drop_zero, Nat.sub_zero, tl_len]
  by_cases e : i.toNat ≤ (tl z).length
  · rw [Nat.min_eq_left e]
  · rw [Nat.min_eq_right (by omega), List.take_length, List.take_of_length_le (by omega)]
theorem cutS_from {z : Str} {i : Int} (h : 0 ≤ i) : tl (cutS z (some i) none) = (tl z).drop i.toNat := by
  show ((tl z).drop (HT.sIx z.length 0 (some i))).take (z.length - HT.sIx z.length 0 (some i)) = _
  rw [sIx_pos h, tl_len]
  by_cases e : i.toNat ≤ (tl z).length
  · rw [Nat.min_eq_left e, List.take_of_length_le (by rw [List.length_drop]; omega)]
  · rw [Nat.min_eq_right (by omega), List.drop_of_length_le (l := tl z) (i := i.toNat) (by omega), List.drop_of_length_le (Nat.le_refl _), List.take_nil]
theorem cutS_mid {z : Str} {i j : Int} (h : 0 ≤ i) (h2 : 0 ≤ j) : tl (cutS z (some i) (some j)) = ((tl z).drop i.toNat).take (j.toNat - i.toNat) := by
  show ((tl z).drop (HT.sIx z.length 0 (some i))).take (HT.sIx z.length z.length (some j) - HT.sIx z.length 0 (some i)) = _
  rw [sIx_pos h, sIx_pos h2, tl_len]
  by_cases e : i.toNat ≤ (tl z).length
  · rw [Nat.min_eq_left e]
    by_cases f : j.toNat ≤ (tl z).length
    · rw [Nat.min_eq_left f]
    · rw [Nat.min_eq_right (by omega), List.take_of_length_le (by rw [List.length_drop]; omega), List.take_of_length_le (by rw [List.length_drop]; omega)]
  · rw [Nat.min_eq_right (a := i.toNat) (by omega), List.drop_of_length_le (Nat.le_refl _), List.drop_of_length_le (l := tl z) (i := i.toNat) (by omega)]; simp
theorem cutV_to {xs : List V} {i : Int} (h : 0 ≤ i) : cutV xs none (some i) = xs.take i.toNat := by
  show ((xs.drop 0).take (HT.sIx xs.length xs.length (some i) - 0)) = _
  rw [sIx_pos h, List.drop_zero, Nat.sub_zero]
  by_cases e : i.toNat ≤ xs.length
  · rw [Nat.min_eq_left e]
  · rw [Nat.min_eq_right (by omega), List.take_length, List.take_of_length_le (by omega)]
theorem cutV_from {xs : List V} {i : Int} (h : 0 ≤ i) : cutV xs (some i) none = xs.drop i.toNat := by
  show ((xs.drop (HT.sIx xs.length 0 (some i))).take (xs.length - HT.sIx xs.length 0 (some i))) = _
  rw [sIx_pos h]
  by_cases e : i.toNat ≤ xs.length
  · rw [Nat.min_eq_left e, List.take_of_length_le (by rw [List.length_drop]; omega)]
  · rw [Nat.min_eq_right (by omega), List.drop_of_length_le (l := xs) (i := i.toNat) (by omega), List.drop_of_length_le (Nat.le_refl _), List.take_nil]
/-- the text k times -/
def rep (k : Nat) (l : List Nat) : List Nat := (List.replicate k l).flatten
theorem rep_fold (x : Array Nat) : ∀ (k : Nat) (a : Array Nat), ((List.replicate k x).foldl (· ++ ·) a).toList = a.toList ++ rep k x.toList
  | 0, a => by simp [rep]
  | k + 1, a => by
    rw [List.replicate_succ, List.foldl_cons, rep_fold x k]
    simp [rep, List.replicate_succ]
theorem rep_len (k : Nat) (l : List Nat) : (rep k l).length = k * l.length := by
  induction k with
  | zero => simp [rep]
  | succ k ih => unfold rep at *; rw [List.replicate_succ, List.flatten_cons, List.length_append, ih, Nat.succ_mul]; omega
theorem rep_mem {k : Nat} {l : List Nat} {c : Nat} (h : c ∈ rep k l) : c ∈ l := by
  obtain ⟨x, hx, hc⟩ := List.mem_flatten.mp h
  rw [(List.mem_replicate.mp hx).2] at hc; exact hc
section
variable {X : Cx}
/-- s * k -/
theorem op_mul_str : OpR X (binaryOp .Mult) (fun x y H Q => ∃ (z : Str) (k : Int), x = .str z ∧ y = .int k ∧ k ≤ 100000 ∧ (-100000 ≤ k) ∧ (tl z).length * k.toNat ≤ 10000000 ∧ ∀ r : Str, tl r = rep k.toNat (tl z) → Q (.str r) H) := by
  intro pins s σ H x y v u Q I rx ry h
  obtain ⟨z, k, rfl, rfl, h1, h0, hz, q⟩ := h
  obtain ⟨t, rfl⟩ := rx
  obtain ⟨t', rfl⟩ := ry
  have hz' : z.length * k.toNat ≤ 10000000 := by rw [tl_len]; exact hz
  have small := PyProof.Rows.short24 (n := z.length * k.toNat) (Nat.le_trans hz' (by decide))
  refine P.mul_str ?_ (fun a b => ?_) (fun _ _ => small) ?_
  · rw [decide_eq_false (by omega), decide_eq_false (by omega)]; rfl
  · have hk : 1 ≤ k := by omega
    have hm : (z.length : Int) * k ≤ 10000000 := by
      have : ((z.length * k.toNat : Nat) : Int) ≤ 10000000 := by omega
      rw [Int.natCast_mul, Int.toNat_of_nonneg (by omega)] at this; exact this
    have hle : (z.length : Int) ≤ (2 ^ 63 - 1) / k := by
      rw [Int.le_ediv_iff_mul_le (by omega)]
      exact Int.le_trans hm (by decide)
    omega
  · by_cases hk : k < 1
    · rw [if_pos hk]
      refine ⟨by decide, ?_⟩
      exact ⟨.str Str.empty, H, I.tok _, ⟨_, rfl⟩, q _ (by rw [show k.toNat = 0 by omega]; rfl)⟩
    · rw [if_neg hk]
      by_cases hb : (k == 1 || z.length == 0) = true
      · rw [if_pos hb]
        refine ⟨.str z, H, I, ⟨_, rfl⟩, q _ ?_⟩
        rw [Bool.or_eq_true] at hb
        rcases hb with e | e
        · have : k = 1 := by simpa using e
          subst this; simp [rep]
        · have e : z.length = 0 := by simpa using e
          rw [tl_len] at e
          have : tl z = [] := List.length_eq_zero_iff.mp e
          rw [this]
          exact (List.length_eq_zero_iff.mp (by rw [rep_len]; rfl)).symm
      · rw [if_neg hb]
        have hr : tl (⟨(List.replicate k.toNat z.cps).foldl (· ++ ·) #[]⟩ : Str) = rep k.toNat (tl z) := by
          show ((List.replicate k.toNat z.cps).foldl (· ++ ·) #[]).toList = _
          rw [rep_fold]; simp [tl]
        refine ⟨?_, ?_⟩
        · rw [tl_len, hr, rep_len, Nat.mul_comm]
          exact Nat.le_trans hz (by decide)
        · exact ⟨.str _, H, I.tok _, ⟨_, rfl⟩, q _ hr⟩
end
section
variable {X : Cx} {K : PySem.W.Frag}
/-- t + u, of tuples -/
theorem op_cat (hK : X.K = K) : OpR X (binaryOp .Add) (fun x y H Q => ∃ a b xs ys, x = .ref a ∧ y = .ref b ∧ SqT K H a xs ∧ SqT K H b ys ∧ xs.length + ys.length ≤ sizeLine ∧
    ∀ p H', Same H H' → SqT K H' p (xs ++ ys) → Q (.ref p) H') := by
  subst hK
  intro pins s σ H x y v u Q I rx ry h
  obtain ⟨a, b, xs, ys, e1, e2, ha, hb, hz, q⟩ := h
  refine op_catA pins s σ H x y v u Q I rx ry ⟨a, b, xs, ys, e1, e2, ha, hb, hz, fun e => ?_, fun _ e => ?_, fun _ _ p hp => q p _ (same_new hp) (SqT.of upd_same)⟩
  · subst e; exact q b H (Same.refl _) hb
  · subst e; exact q a H (Same.refl _) (by rw [List.append_nil]; exact ha)
/-- t[lo:hi] of a tuple -/
theorem sl_tupS (hK : X.K = K) : SlR X (fun x lo hi H Q => ∃ a xs, x = .ref a ∧ SqT K H a xs ∧ ∀ p H', Same H H' → SqT K H' p (cutV xs lo hi) → Q (.ref p) H') := by
  subst hK
  intro pins s σ H x v vl vu lo hi sl Q I rx hs pl pu h
  obtain ⟨a, xs, e, hx, q⟩ := h
  refine sl_tupA pins s σ H x v vl vu lo hi sl Q I rx hs pl pu ⟨a, xs, e, hx, fun hw => q a H (Same.refl _) ?_, fun _ p hp => q p _ (same_new hp) (SqT.of upd_same)⟩
  have : cutV xs lo hi = xs := by
    show (xs.drop (HT.sIx xs.length 0 lo)).take (HT.sIx xs.length xs.length hi - HT.sIx xs.length 0 lo) = xs
    rw [hw.1, hw.2, List.drop_zero, Nat.sub_zero, List.take_length]
  rw [this]; exact hx
end
theorem _root_.L2.Same.tup {K : PySem.W.Frag} {H H' : Hp} {a : Addr} {xs : List V} (e : Same H H') (h : SqT K H a xs) : SqT K H' a xs := by
  rcases h with (h | ⟨o, h⟩) | h
  · exact .inl (.inl (e _ _ h))
  · exact .inl (.inr ⟨o, e _ _ h⟩)
  · exact .inr h

/-- a comprehension over a range that makes texts by draws (at most d of them for each) -/
theorem lc_strs {j n d : Nat} {te : TE} {vs : List Nat} {σ : St} {H : Hp} {D s a : Addr} {c : Nat} {Qd : Hp → Prop} (p : Str → Prop) (hD : H D = none) (hS : Src H s a (c + n * d)) (hn : n ≤ 100000)
    (hw : ∀ i : Nat, wipe ((wipe σ vs).set j (some (.int (0 + (i : Int))))) vs = wipe σ vs)
    (hs : ∀ (i c' : Nat) (H1 : Hp) (R : VK), i < n → Ext s H H1 → Src H1 s a (c' + d) → (∀ (x : Str) (H2 : Hp), p x → Ext s H1 H2 → Src H2 s a c' → R (.str x) H2) → te ((wipe σ vs).set j (some (.int (0 + (i : Int))))) H1 R)
    (hd : ∀ (xs : List Str) (H' : Hp), H' D = some (.lst (xs.map V.str)) → xs.length = n → (∀ x ∈ xs, p x) → Ext s H H' → Src H' s a c → Qd H') :
    ∃ W : Nat → Nat → Hp → Prop, (∃ m, W 0 m (upd H D (.lst []))) ∧ ∀ i m H, W i m H →
      ((Itr 0 n).stop i H ∧ Qd H) ∨ ((Itr 0 n).go i H ∧ ∃ Nx : Hp → Prop, (∀ H', Nx H' → ∃ m', m' < m ∧ W (i + 1) m' H') ∧ ∀ x H', (Itr 0 n).yld i H x H' → gName j x (wipe σ vs) H' fun σ2 H2 => wipe σ2 vs = wipe σ vs ∧ tYes σ2 H2 fun b H3 =>
        if b = true then te σ2 H3 fun y H4 => ∃ acc, H4 D = some (.lst acc) ∧ acc.length < sizeLine ∧ Nx (upd H4 D (.lst (acc ++ [y]))) else Nx H3) := by
  have Ds : D ≠ s := hS.ne hD
  have Da : D ≠ a := hS.nea hD
  refine lc_range (lo := 0) (n := n) (fun i H' => ∃ xs : List Str, H' D = some (.lst (xs.map V.str)) ∧ xs.length = i ∧ (∀ x ∈ xs, p x) ∧ Ext s H H' ∧ Src H' s a (c + (n - i) * d)) ?_ ?_ ?_
  · exact ⟨[], upd_same, rfl, (fun _ h => by cases h), Ext.new hD, (hS.new hD).mono (by simp)⟩
  · rintro i H' hi ⟨xs, hx, hl, hA, hE, hS'⟩
    refine ⟨hw i, ?_⟩
    show te _ H' _
    have e : c + (n - i) * d = c + (n - (i + 1)) * d + d := by
      rw [show n - i = n - (i + 1) + 1 by omega, Nat.succ_mul]; omega
    refine hs i (c + (n - (i + 1)) * d) H' _ hi hE (by rw [← e]; exact hS') (fun x H2 hp hE2 hS2 => ?_)
    refine ⟨xs.map V.str, hE2 _ _ Ds hx, ?_, xs ++ [x], by rw [upd_same, List.map_append]; rfl, by rw [List.length_append]; simp [hl], fun y hy => ?_, ?_, hS2.put Ds Da⟩
    · rw [List.length_map]; exact Nat.lt_of_lt_of_le (show xs.length < 100000 by omega) (by decide)
    · rcases List.mem_append.mp hy with h | h
      · exact hA y h
      · rw [List.mem_singleton.mp h]; exact hp
    · intro b o hb hH
      rw [upd_ne (ne_of_none hH hD)]; exact hE2 _ _ hb (hE _ _ hb hH)
  · rintro H' ⟨xs, hx, hl, hA, hE, hS'⟩
    exact hd xs H' hx hl hA hE (hS'.mono (by omega))
theorem atI_pos {α : Type} {xs : List α} {v : Int} {x : α} (h0 : 0 ≤ v) (h : xs[v.toNat]? = some x) : atI xs v = some x := by
  have e : v = (v.toNat : Int) := by omega
  rw [e]; exact atI_nat h
/-- any item of a list of texts -/
def sp__law_pick (K : PySem.W.Frag) : Sp := fun vs H Q _ =>
  (∃ (s a r : Addr) (xs : List V) (c : Nat), vs = [.ref s, .ref r] ∧ SqL K H r xs ∧ r ≠ s ∧ xs ≠ [] ∧ xs.length ≤ 100000 ∧ Src H s a (c + 1) ∧ ∀ (v : V) (H' : Hp), v ∈ xs → Ext s H H' → Src H' s a c → Q v H') ∨
  (∃ (s a : Addr) (x : Str) (c : Nat), vs = [.ref s, .str x] ∧ tl x ≠ [] ∧ (tl x).length ≤ 100000 ∧ Src H s a (c + 1) ∧ ∀ (ch : Nat) (H' : Hp), ch ∈ tl x → Ext s H H' → Src H' s a c → Q (.str (S [ch])) H')
def sp__law_once_in : Sp := fun vs H Q _ => ∃ (s a : Addr) (m : Int) (c : Nat), vs = [.ref s, .int m] ∧ 0 < m ∧ m < 1073741824 ∧ Src H s a (c + 1) ∧ ∀ (b : Bool) (H' : Hp), Ext s H H' → Src H' s a c → Q (.bl b) H'
end Z
namespace Z
open PySem L2
/-! ### own errors: raised, caught, asked -/
section
variable (P : Program) (w : World) (K : PySem.W.Frag) (mg : Str → Option Value) (base : Heap)
/-- a def that may raise, as callers use it -/
def CalX (x : Str) (ps : List Str) (k : Nat) (sp : Sp) : Prop := ∃ (f : Addr) (fd : FuncData), FnOk P w K mg base (L2.CX P w) k f fd ps sp ∧ mg x = some (.ref f) ∧ PySem.W.keepIn K (.ref f) = true ∧ Binds K fd ps []
end
/-- an own error class with an __init__ of its own (at fI) -/
structure XOk (K : PySem.W.Frag) (mg : Str → Option Value) (x : Str) (C : Addr) : Prop where
  g : mg x = some (.ref C)
  o : OexC K C
  e : ExcC K C
theorem XOk.xf {K : PySem.W.Frag} {mg : Str → Option Value} {x : Str} {C : Addr} (T : XOk K mg x C) : XfC K C := ⟨T.e.hg, T.e.hk, T.e.hs, T.e.hd⟩
/-- the class's __init__(self, f): self.f = f -/
def sp_init (K : PySem.W.Frag) (C : Addr) (f : Str) : Sp := fun vs H Q _ => ∃ (a : Addr) (v : V), vs = [.ref a, v] ∧ OexC K C ∧ PySem.W.findIn K (.ref C) f = some none ∧ H a = some (exo a C none) ∧
  ∀ dx, H dx = none → dx ≠ a → Q .non (upd (upd H dx (exd dx [(f, v)])) a (exo a C (some dx)))
/-- isinstance(e, c), e the caught error at a -/
def rIsX (K : PySem.W.Frag) (cls : Value) (d : Option Addr) (a : Addr) : List V → Hp → VK → Prop := fun xs H Q => ∃ (D dd : Addr) (c : V) (cv : Value) (b : Bool) (fs : List (Str × V)), cls = .ref D ∧ d = some dd ∧ ExcC K D ∧ xs = [.ref a, c] ∧ H dd = some (.xd fs) ∧ ClsV c cv ∧
  PySem.W.kitOne K cls cv = some b ∧ Q (.bl b) H
def rIsXT (K : PySem.W.Frag) (cls : Value) (d : Option Addr) (a : Addr) : List V → Hp → VK → Prop := fun xs H Q => ∃ (D dd tp : Addr) (cs : List V) (us : List Value) (b : Bool) (fs : List (Str × V)), cls = .ref D ∧ d = some dd ∧ ExcC K D ∧ xs = [.ref a, .ref tp] ∧ H dd = some (.xd fs) ∧
  H tp = some (.tup cs) ∧ Paired ClsV cs us ∧ PySem.W.kitAny K cls us = some b ∧ Q (.bl b) H
section
variable {X : Cx} {a : Addr} {oe : Obj} {cls : Value} {d : Option Addr} {pn : List (Addr × Obj)}
theorem inst_at {pins : List (Addr × Obj)} {σ : St} {H : Hp} {s : Shared} {D dd : Addr} {fs : List (Str × V)} (I : Inv (X.suite a ((a, oe) :: pn)) pins σ H s) (hz : Zc (.ref D) (some dd) oe) (hf : ∃ vs, oe.data = .fields vs) (hd : H dd = some (.xd fs)) :
    ∃ od, PySem.W.InstAt s.heap a oe D (some od) := by
  obtain ⟨hget, _⟩ := I.pin (a, oe) (List.mem_append.mpr (.inl List.mem_cons_self))
  obtain ⟨vs, hv⟩ := hf
  have hx : ObjOk X.prog X.w H s.heap dd (.xd fs) := I.hok dd _ hd
  obtain ⟨mA, hns, hr⟩ := hx
  obtain ⟨od, ho, hl⟩ := lookIn_ns hns
  exact ⟨od, ⟨hget, hz.1, by unfold PySem.W.notCls; rw [hv] <;> rfl, by rw [hz.2]; exact ho⟩⟩
theorem kitx_D {K : PySem.W.Frag} {D x : Addr} {ox : Obj} {od : Option Obj} (C : ExcC K D) : PySem.W.KitX K (.ref x) (.ref D) (fun h => PySem.W.InstAt h x ox D od) := by
  refine PySem.W.kitx_exc ?_ C.hg C.hk C.hs C.ha C.hn C.ht C.hm
  have h := C.hd
  obtain ⟨cd, hc, _⟩ := PySem.W.any_some h
  rw [hc]; rfl
theorem call_isX (hz : Zc cls d oe) (hf : ∃ vs, oe.data = .fields vs) : CallR (X.suite a ((a, oe) :: pn)) (.builtin "isinstance") (rIsX X.K cls d a) := by
  intro pins s σ H xs us Q I r h
  obtain ⟨D, dd, c, cv, b, fs, rfl, rfl, C, rfl, hd, k, e, q⟩ := h
  obtain ⟨u1, u2, rfl, r1, r2⟩ := vals2 r
  have e2 := k.eq r2
  subst e2
  obtain rfl : u1 = Value.ref a := r1
  obtain ⟨od, J⟩ := inst_at I hz hf hd
  exact PySem.W.kia_one (kitx_D C) I.kIn J e (fun z => nomatch z) fun tk => ⟨.bl b, H, I.kept (t' := tk) fun _ _ z => z, rfl, q⟩
theorem call_isXT (hz : Zc cls d oe) (hf : ∃ vs, oe.data = .fields vs) : CallR (X.suite a ((a, oe) :: pn)) (.builtin "isinstance") (rIsXT X.K cls d a) := by
  intro pins s σ H xs us Q I r h
  obtain ⟨D, dd, tp, cs, ws, b, fs, rfl, rfl, C, rfl, hd, hT, k, e, q⟩ := h
  obtain ⟨u1, u2, rfl, r1, r2⟩ := vals2 r
  obtain rfl : u2 = Value.ref tp := r2
  obtain rfl : u1 = Value.ref a := r1
  obtain ⟨od, J⟩ := inst_at I hz hf hd
  obtain ⟨_, its, rv, o, h1, h2, n, h3⟩ := (show ObjOk X.prog X.w H s.heap tp (.tup cs) from I.hok tp _ hT)
  have e3 := ClsV.all k rv
  subst e3
  obtain ⟨oc, od', dt, sl⟩ := o
  simp only at h2 h3
  subst h2 h3
  exact PySem.W.kia_tup (kitx_D C) I.kIn J h1 e (fun z => nomatch z) fun tk => ⟨.bl b, H, I.kept (t' := tk) fun _ _ z => z, rfl, q⟩
end
/-- the heap behind a made error -/
theorem made_same {H : Hp} {a dx : Addr} {o1 o2 o3 o4 : HO} (ha : H a = none) (hd : H dx = none) : Same H (upd (del (upd (upd (upd H a o1) dx o2) a o3) a) dx o4) := fun b u h => by
  rw [upd_ne (ne_of_none h hd), del_ne (ne_of_none h ha), upd_ne (ne_of_none h ha), upd_ne (ne_of_none h hd), upd_ne (ne_of_none h ha)]; exact h
/-- what a raised error tells: behind it all stands that stood -/
theorem paired1 {c : V} {u : Value} (k : ClsV c u) : Paired ClsV [c] [u] := .cons k .nil
end Z
namespace Z
open PySem L2 SX
open PySem.Builtin.Str (occurrences lastOccurrence subAt)
theorem at_one {x : Str} {c hi k : Nat} (h : hi ≤ (tl x).length) : StrLaws.At x (S [c]) hi k ↔ k < hi ∧ (tl x)[k]? = some c := by
  have e := StrLaws.subAt_one x c k
  have l1 : (S [c]).length = 1 := rfl
  unfold StrLaws.At
  constructor
  · rintro ⟨h1, h2⟩
    rw [l1] at h1
    refine ⟨by omega, e.mp ⟨?_, h2⟩⟩
    show k + 1 ≤ x.length
    rw [tl_len]; omega
  · rintro ⟨h1, h2⟩
    have h3 := e.mpr h2
    exact ⟨by rw [l1]; omega, h3.2⟩
theorem find_from (x : Str) (c : Nat) {i : Int} (h : 0 ≤ i) :
    (Txt.find3 x (S [c]) i = -1 ∧ ∀ k : Nat, i ≤ (k : Int) → (tl x)[k]? ≠ some c) ∨ ∃ k : Nat, Txt.find3 x (S [c]) i = (k : Int) ∧ i ≤ (k : Int) ∧ (tl x)[k]? = some c ∧ ∀ j : Nat, i ≤ (j : Int) → j < k → (tl x)[j]? ≠ some c := by
  obtain ⟨n, rfl⟩ := Int.eq_ofNat_of_zero_le h
  have hf : fromIndex x.length (n : Int) = n := by
    unfold fromIndex
    rw [if_neg (by omega), Int.max_eq_right (by omega)]; rfl
  unfold Txt.find3
  rw [hf, StrLaws.occ_eq]
  have hx : x.length = (tl x).length := tl_len x
  rcases StrLaws.occ_first x (S [c]) x.length 1 (Nat.le_refl _) (List.range' n (x.length + 1 - n)) n (fun i hi => (List.mem_range'_1.mp hi).1) with ⟨h0, hn⟩ | ⟨pre, a, post, e, h0, ha, hn⟩
  · refine .inl ⟨by rw [h0], fun k hk hc => ?_⟩
    have hlt := (List.getElem?_eq_some_iff.mp hc).1
    exact hn k (List.mem_range'_1.mpr ⟨by omega, by omega⟩) ((at_one (by omega)).mpr ⟨by omega, hc⟩)
  · have h1 := (at_one (by omega)).mp ha
    have hm : a ∈ List.range' n (x.length + 1 - n) := by rw [e]; simp
    refine .inr ⟨a, ?_, by have := (List.mem_range'_1.mp hm).1; omega, h1.2, fun j hj hl hc => ?_⟩
    · cases hq : (forIn (List.range' n (x.length + 1 - n)) ((#[] : Array Nat), n) (StrLaws.occBody x (S [c]) x.length 1)).run.fst.toList with
      | nil =>
        have : (forIn (List.range' n (x.length + 1 - n)) ((#[] : Array Nat), n) (StrLaws.occBody x (S [c]) x.length 1)).run.fst = #[] := Array.toList_eq_nil_iff.mp hq
        rw [this] at h0; simp at h0
      | cons b r =>
        have hb : (forIn (List.range' n (x.length + 1 - n)) ((#[] : Array Nat), n) (StrLaws.occBody x (S [c]) x.length 1)).run.fst[0]? = some b := by
          rw [← Array.getElem?_toList, hq]; rfl
        rw [hb] at h0
        cases h0; rfl
    · have hjm : j ∈ pre := by
        have hlt := (List.getElem?_eq_some_iff.mp hc).1
        have hjr : j ∈ List.range' n (x.length + 1 - n) := List.mem_range'_1.mpr ⟨by omega, by omega⟩
        have hp : (pre ++ a :: post).Pairwise (· < ·) := by rw [← e]; exact List.pairwise_lt_range'
        rw [e] at hjr
        rcases List.mem_append.mp hjr with q | q
        · exact q
        · rcases List.mem_cons.mp q with q | q
          · omega
          · have := (List.pairwise_cons.mp (List.pairwise_append.mp hp).2.1).1 j q
            omega
      exact hn j hjm ((at_one (by omega)).mpr ⟨by have := (List.getElem?_eq_some_iff.mp hc).1; omega, hc⟩)
theorem rfind_in (x : Str) (c : Nat) {i m : Int} (h : 0 ≤ i) (hm : 0 ≤ m) :
    (Txt.rfindIn x (S [c]) i m = -1 ∧ ∀ k : Nat, i ≤ (k : Int) → (k : Int) < m → (tl x)[k]? ≠ some c) ∨ ∃ k : Nat, Txt.rfindIn x (S [c]) i m = (k : Int) ∧ i ≤ (k : Int) ∧ (k : Int) < m ∧ (tl x)[k]? = some c ∧ ∀ j : Nat, k < j → (j : Int) < m → (tl x)[j]? ≠ some c := by
  obtain ⟨n, rfl⟩ := Int.eq_ofNat_of_zero_le h
  obtain ⟨e, rfl⟩ := Int.eq_ofNat_of_zero_le hm
  have hf : fromIndex x.length (n : Int) = n := by
    unfold fromIndex
    rw [if_neg (by omega), Int.max_eq_right (by omega)]; rfl
  have ht : toIndexW x.length (e : Int) = min e x.length := by
    unfold toIndexW
    rw [if_neg (by omega), Int.max_eq_right (by omega)]; rfl
  have hx : x.length = (tl x).length := tl_len x
  unfold Txt.rfindIn
  rw [hf, ht, StrLaws.last_eq]
  have key := StrLaws.last_run x (S [c]) (min e x.length) (List.range' n (min e x.length + 1 - n)) [] none (fun _ h => nomatch h) (fun _ h => nomatch h) List.pairwise_lt_range'
  rw [List.nil_append] at key
  cases hq : (forIn (List.range' n (min e x.length + 1 - n)) none (StrLaws.lastBody x (S [c]) (min e x.length))).run with
  | none =>
    rw [hq] at key
    refine .inl ⟨rfl, fun k hk hk2 hc => ?_⟩
    have hlt := (List.getElem?_eq_some_iff.mp hc).1
    exact key k (List.mem_range'_1.mpr ⟨by omega, by omega⟩) ((at_one (by omega)).mpr ⟨by omega, hc⟩)
  | some a =>
    rw [hq] at key
    obtain ⟨ha, hl⟩ := key
    have h1 := (at_one (by omega)).mp ha
    have hr : n ≤ a := by
      -- the last place is one of those that were looked at
      have : ∀ (l : List Nat) (st : Option Nat) (b : Nat), (forIn l st (StrLaws.lastBody x (S [c]) (min e x.length))).run = some b → st = some b ∨ b ∈ l := by
        intro l
        induction l with
        | nil => intro st b hb; exact .inl hb
        | cons d l ih =>
          intro st b hb
          rw [List.forIn_cons] at hb
          unfold StrLaws.lastBody at hb
          split at hb
          · rcases ih _ _ hb with q | q
            · exact .inr (by cases q; exact List.mem_cons_self)
            · exact .inr (List.mem_cons_of_mem _ q)
          · rcases ih _ _ hb with q | q
            · exact .inl q
            · exact .inr (List.mem_cons_of_mem _ q)
      rcases this _ _ _ hq with q | q
      · cases q
      · exact (List.mem_range'_1.mp q).1
    refine .inr ⟨a, rfl, by omega, by omega, h1.2, fun j hj hj2 hc => ?_⟩
    have hlt := (List.getElem?_eq_some_iff.mp hc).1
    exact hl j (List.mem_range'_1.mpr ⟨by omega, by omega⟩) hj ((at_one (by omega)).mpr ⟨by omega, hc⟩)

theorem tl_inj : ∀ {a b : List Str}, a.map tl = b.map tl → a = b
  | [], [], _ => rfl
  | [], _ :: _, h => by cases h
  | _ :: _, [], h => by cases h
  | x :: a, y :: b, h => by
    rw [List.map_cons, List.map_cons] at h
    obtain ⟨h1, h2⟩ := List.cons.inj h
    rw [tl_ext h1, tl_inj h2]
theorem DV.strsT {K : PySem.W.Frag} {H : Hp} {p : Addr} {xs : List Str} (h : SqT K H p (xs.map V.str)) : DV K H (.tup (xs.map D.str)) (.ref p) := by
  unfold DV
  exact ⟨p, _, rfl, h, DVs.strs xs⟩
end Z
namespace Z
open PySem PySem.W PySem.Calls PyProof.Rows L2
/-! ### data, as the sorts and comparisons see it -/
mutual
def py : D → PyData
  | .non => .none
  | .bl b => .bool b
  | .int i => .int i
  | .str x => .str x
  | .tup xs => .tuple (pys xs)
def pys : List D → List PyData
  | [] => []
  | d :: ds => py d :: pys ds
end
theorem pys_map : ∀ ds : List D, pys ds = ds.map py
  | [] => by simp [pys]
  | d :: ds => by rw [pys, pys_map ds, List.map_cons]
section
variable {K : Frag} {H : Hp}
mutual
theorem DV.dp : ∀ {d : D} {v : V}, DV K H d v → Dp K H v (py d)
  | .non, _, h => by unfold DV at h; subst h; unfold py; exact .non
  | .bl b, _, h => by unfold DV at h; subst h; unfold py; exact .bl b
  | .int i, _, h => by unfold DV at h; subst h; unfold py; exact .int i
  | .str x, _, h => by unfold DV at h; subst h; unfold py; exact .str x
  | .tup ds, _, h => by
    unfold DV at h
    obtain ⟨a, vs, rfl, q, r⟩ := h
    unfold py
    exact .tup q (DVs.dpa r)
theorem DVs.dpa : ∀ {ds : List D} {vs : List V}, DVs K H ds vs → DpAll K H vs (pys ds)
  | [], _, h => by unfold DVs at h; subst h; unfold pys; exact .nil
  | d :: ds, _, h => by
    unfold DVs at h
    obtain ⟨v, r, rfl, q, t⟩ := h
    unfold pys
    exact .cons (DV.dp q) (DVs.dpa t)
end
end
mutual
theorem py_eqv : ∀ (d e : D), alike (py d) (py e) = true → (PyData.eqv (py d) (py e) = true ↔ d = e)
  | .non, .non, _ => by simp [py, PyData.eqv]
  | .bl b, .bl c, _ => by simp [py, PyData.eqv]
  | .int b, .int c, _ => by simp [py, PyData.eqv]
  | .str b, .str c, _ => by simp [py, PyData.eqv]
  | .tup xs, .tup ys, h => by
    have := pys_eqv xs ys (by simpa [py, alike] using h)
    simp only [py, PyData.eqv, D.tup.injEq]
    exact this
  | .non, .bl _, h | .non, .int _, h | .non, .str _, h | .non, .tup _, h => by simp [py, alike] at h
  | .bl _, .non, h | .bl _, .int _, h | .bl _, .str _, h | .bl _, .tup _, h => by simp [py, alike] at h
  | .int _, .non, h | .int _, .bl _, h | .int _, .str _, h | .int _, .tup _, h => by simp [py, alike] at h
  | .str _, .non, h | .str _, .bl _, h | .str _, .int _, h | .str _, .tup _, h => by simp [py, alike] at h
  | .tup _, .non, h | .tup _, .bl _, h | .tup _, .int _, h | .tup _, .str _, h => by simp [py, alike] at h
theorem pys_eqv : ∀ (d e : List D), alikeAll (pys d) (pys e) = true → (PyData.eqvAll (pys d) (pys e) = true ↔ d = e)
  | [], [], _ => by simp [pys, PyData.eqvAll]
  | [], y :: ys, _ => by simp [pys, PyData.eqvAll]
  | x :: xs, [], _ => by simp [pys, PyData.eqvAll]
  | x :: xs, y :: ys, h => by
    have h' : alike (py x) (py y) = true ∧ alikeAll (pys xs) (pys ys) = true := by simpa [pys, alikeAll] using h
    simp only [pys, PyData.eqvAll, Bool.and_eq_true, List.cons.injEq, py_eqv x y h'.1, pys_eqv xs ys h'.2]
end
/-- compared with another by == -/
def eqD (d e : D) : Bool := PyData.eqv (py d) (py e)
theorem eqD_iff {d e : D} (h : alike (py d) (py e) = true) : eqD d e = true ↔ d = e := py_eqv d e h
def Okd (d : D) : Prop := SeqAt.shaped (py d) = true
def Okl (ds : List D) : Prop := SeqAt.shaped (.list (pys ds)) = true
mutual
def fine : Nat → D → Bool
  | _, .non => true
  | _, .bl _ => true
  | _, .int _ => true
  | _, .str x => PyData.strOk x
  | 0, .tup _ => false
  | n + 1, .tup xs => fines n xs
def fines : Nat → List D → Bool
  | _, [] => true
  | n, d :: ds => fine n d && fines n ds
end
mutual
theorem fine_lay : ∀ {n : Nat} {d : D}, fine n d = true → (py d).canLay0 = true ∧ (py d).depth ≤ n
  | n, .non, _ => by simp [py, PyData.canLay0, PyData.depth]
  | n, .bl _, _ => by simp [py, PyData.canLay0, PyData.depth]
  | n, .int _, _ => by simp [py, PyData.canLay0, PyData.depth]
  | n, .str x, h => by
    have h' : PyData.strOk x = true := by cases n <;> simpa [fine] using h
    refine ⟨by simpa [py, PyData.canLay0] using h', by simp [py, PyData.depth]⟩
  | 0, .tup _, h => by simp [fine] at h
  | n + 1, .tup xs, h => by
    have h' := fines_lay (show fines n xs = true by simpa [fine] using h)
    refine ⟨by simpa [py, PyData.canLay0] using h'.1, ?_⟩
    simp only [py, PyData.depth]
    have := h'.2
    omega
theorem fines_lay : ∀ {n : Nat} {ds : List D}, fines n ds = true → PyData.canLayAll0 (pys ds) = true ∧ PyData.depthAll (pys ds) ≤ n
  | n, [], _ => by simp [pys, PyData.canLayAll0, PyData.depthAll]
  | n, d :: ds, h => by
    have h' : fine n d = true ∧ fines n ds = true := by simpa [fines] using h
    have h1 := fine_lay h'.1
    have h2 := fines_lay h'.2
    refine ⟨by simp [pys, PyData.canLayAll0, h1.1, h2.1], ?_⟩
    simp only [pys, PyData.depthAll]
    have := h1.2
    have := h2.2
    omega
end
theorem fine_ok {n : Nat} {d : D} (h : fine n d = true) (hn : n ≤ 60 := by decide) : Okd d := by
  have := fine_lay h
  unfold Okd SeqAt.shaped
  rw [this.1, decide_eq_true (by omega)]; rfl
theorem fines_ok {n : Nat} {ds : List D} (h : fines n ds = true) (hn : n ≤ 60 := by decide) : Okl ds := by
  have := fines_lay h
  unfold Okl SeqAt.shaped
  have e : (PyData.list (pys ds)).canLay0 = true := by simpa [PyData.canLay0] using this.1
  have f : (PyData.list (pys ds)).depth ≤ 64 := by simp only [PyData.depth]; omega
  rw [e, decide_eq_true f]; rfl
theorem fines_map {α : Type} {f : α → D} {n : Nat} : ∀ {l : List α}, (∀ x ∈ l, fine n (f x) = true) → fines n (l.map f) = true
  | [], _ => by simp [fines]
  | x :: l, h => by
    rw [List.map_cons, fines, h x (by simp), fines_map fun y m => h y (List.mem_cons_of_mem _ m)]; rfl
theorem fine_tup {n : Nat} {ds : List D} (h : fines n ds = true) : fine (n + 1) (.tup ds) = true := by simpa [fine] using h
theorem fine_low {n : Nat} {x : Str} (h : ∀ c ∈ tl x, c < 1114112) : fine n (.str x) = true := by
  have : PyData.strOk x = true := by
    unfold PyData.strOk
    rw [← Array.all_toList, List.all_eq_true]
    exact fun c m => decide_eq_true (h c m)
  cases n <;> simpa [fine] using this
theorem fines_cons {n : Nat} {d : D} {ds : List D} (h : fine n d = true) (t : fines n ds = true) : fines n (d :: ds) = true := by rw [fines, h, t]; rfl
theorem fines_nil {n : Nat} : fines n [] = true := by rw [fines]
theorem fine_int {n : Nat} {i : Int} : fine n (.int i) = true := by cases n <;> simp [fine]
theorem fine_non {n : Nat} : fine n .non = true := by cases n <;> simp [fine]
section
variable {X : Cx}
/-- == and != of data -/
def rEqDD (K : Frag) : R2 := fun x y H Q => ∃ d e, DV K H d x ∧ DV K H e y ∧ Okd d ∧ Okd e ∧ Q (.bl (eqD d e)) H
def rNeDD (K : Frag) : R2 := fun x y H Q => ∃ d e, DV K H d x ∧ DV K H e y ∧ Okd d ∧ Okd e ∧ Q (.bl (!eqD d e)) H
theorem op_eqDD (hu : X.A.units + 64 < cLine) : OpR X (compareOp .Eq) (rEqDD X.K) := by
  intro pins s σ H x y v u Q I rx ry h
  obtain ⟨d, e, hd, he, sd, se, q⟩ := h
  exact op_eqD hu pins s σ H x y v u Q I rx ry ⟨_, _, hd.dp, he.dp, sd, se, q⟩
theorem op_neDD (hu : X.A.units + 64 < cLine) : OpR X (compareOp .NotEq) (rNeDD X.K) := by
  intro pins s σ H x y v u Q I rx ry h
  obtain ⟨d, e, hd, he, sd, se, q⟩ := h
  exact op_neD hu pins s σ H x y v u Q I rx ry ⟨_, _, hd.dp, he.dp, sd, se, q⟩
/-- in and not in over a list of data -/
def rInDD (K : Frag) (neg : Bool) : R2 := fun x y H Q => ∃ (d : D) (a : Addr) (vs : List V) (ds : List D), DV K H d x ∧ y = .ref a ∧ SqL K H a vs ∧ DVs K H ds vs ∧ Okd d ∧ Okl ds ∧ Q (.bl (if neg then !ds.any (fun z => eqD z d) else ds.any fun z => eqD z d)) H
theorem any_pys (d : D) (ds : List D) : ((pys ds).any fun z => PyData.eqv z (py d)) = ds.any fun z => eqD z d := by
  rw [pys_map, List.any_map]; rfl
theorem op_inDD (hu : X.A.units + 65 < cLine) : OpR X (compareOp .In) (rInDD X.K false) := by
  intro pins s σ H x y v u Q I rx ry h
  obtain ⟨d, a, vs, ds, hd, rfl, hs, he, sd, se, q⟩ := h
  exact op_inD hu pins s σ H _ _ v u Q I rx ry ⟨_, _, hd.dp, .lst hs he.dpa, sd, se, by rw [any_pys]; exact q⟩
theorem op_notInDD (hu : X.A.units + 65 < cLine) : OpR X (compareOp .NotIn) (rInDD X.K true) := by
  intro pins s σ H x y v u Q I rx ry h
  obtain ⟨d, a, vs, ds, hd, rfl, hs, he, sd, se, q⟩ := h
  exact op_notInD hu pins s σ H _ _ v u Q I rx ry ⟨_, _, hd.dp, .lst hs he.dpa, sd, se, by rw [any_pys]; exact q⟩
theorem any_eqD {α : Type} {f : α → D} {d : α} {l : List α} (hf : ∀ x ∈ l, f x = f d → x = d) (h : ∀ x ∈ l, alike (py (f x)) (py (f d)) = true) : (l.map f).any (fun z => eqD z (f d)) = true ↔ d ∈ l := by
  rw [List.any_eq_true]
  constructor
  · rintro ⟨z, hz, e⟩
    obtain ⟨x, hx, rfl⟩ := List.mem_map.mp hz
    rw [← hf x hx ((eqD_iff (h x hx)).mp e)]; exact hx
  · intro m
    exact ⟨f d, List.mem_map_of_mem m, (eqD_iff (h d m)).mpr rfl⟩
/-- sorted(xs), xs a list of data -/
def dle {β : Type} (f : β → D) : β → β → Bool := dataLe false fun b => py (f b)
def rSortDD (K : Frag) : List V → Hp → VK → Prop := fun vs H Q => ∃ (a : Addr) (us : List V) (β : Type) (l : List β) (f : β → D), vs = [.ref a] ∧ SqL K H a us ∧ DVs K H (l.map f) us ∧ AllAlike (l.map fun b => py (f b)) ∧ Sortable (l.map fun b => py (f b)) ∧ (∀ b ∈ l, (py (f b)).depth ≤ 60) ∧
  ∀ (ys : List V) (p : Addr), H p = none → DVs K H ((l.mergeSort (dle f)).map f) ys → Q (.ref p) (upd H p (.lst ys))
theorem dvs_each {K : Frag} {H : Hp} {β : Type} {f : β → D} : ∀ {l : List β} {us : List V} {vs : List Value}, DVs K H (l.map f) us → Vals us vs → EachIs (fun u b => ∃ v, RelV v u ∧ DV K H (f b) v) vs l
  | [], _, _, h, r => by
    unfold List.map DVs at h; subst h; cases r; exact .nil
  | b :: l, _, _, h, r => by
    obtain ⟨v, t, rfl, q, h2⟩ := h
    cases r with
    | cons r1 r2 => exact .cons ⟨v, r1, q⟩ (dvs_each h2 r2)
theorem each_dvs {K : Frag} {H : Hp} {β : Type} {f : β → D} : ∀ {l : List β} {vs : List Value}, EachIs (fun u b => ∃ v, RelV v u ∧ DV K H (f b) v) vs l → ∃ us, DVs K H (l.map f) us ∧ Vals us vs
  | [], _, h => by cases h; exact ⟨[], by unfold List.map DVs; rfl, .nil⟩
  | b :: l, _, h => by
    cases h with
    | cons h1 h2 =>
      obtain ⟨v, r1, q⟩ := h1
      obtain ⟨us, d, r2⟩ := each_dvs h2
      exact ⟨v :: us, ⟨v, us, rfl, q, d⟩, .cons r1 r2⟩
theorem each_reads {pins : List (Addr × Obj)} {σ : L2.St} {H : Hp} {s : Shared} (I : Inv X pins σ H s) {β : Type} {f : β → D} {l : List β} {vs : List Value} (h : EachIs (fun u b => ∃ v, RelV v u ∧ DV X.K H (f b) v) vs l) :
    EachIs (fun u b => ∃ as, Reads s.heap u (py (f b)) as) vs l := h.mono fun u b ⟨v, r, q⟩ => Dp.reads I _ _ _ q.dp r
theorem vals_len : ∀ {us : List V} {vs : List Value}, Vals us vs → us.length = vs.length
  | _, _, .nil => rfl
  | _, _, .cons _ r => by rw [List.length_cons, List.length_cons, vals_len r]
theorem hu_big {n : Nat} (h : X.A.units + 65 < cLine) (k : n ≤ 60) : X.A.units + 2 + n < cLine := by omega
theorem cr_sortDD (hu : X.A.units + 65 < cLine) : CallR X (.builtin "sorted") (rSortDD X.K) := by
  intro pins s σ H vs us Q I r h
  obtain ⟨a, xs, β, l, f, rfl, hs, hd, hal, hsb, hdp, q⟩ := h
  obtain ⟨its, rv, hl, hz⟩ := I.list hs
  obtain ⟨u, rfl, ru⟩ := vals1 r
  obtain rfl : u = Value.ref a := ru
  have e := dvs_each hd rv
  have hlen := vals_len rv
  have hlen2 := e.length
  refine PySem.W.sorted_data (enc := fun b => py (f b)) hl.isList e (each_reads I e) hal hsb (by omega) (fun b m => hu_big hu (hdp b m)) fun out ho eo => ?_
  obtain ⟨ys, dy, ry⟩ := each_dvs eo
  have fr : H (s.heap.objs.size + 1) = none := I.hok.fresh (Nat.le_succ _)
  obtain ⟨n, hn⟩ := sortedAll_at s.heap its (List.toArray out)
  refine ⟨.ref _, upd H _ (.lst ys), I.laid (t' := s.toks) (fun b o g => sortedAll_old g) (Nat.le_succ _) ⟨?_, out, n, ry, hn⟩, rfl, q ys _ fr dy⟩
  rw [vals_len ry]; omega
/-- min(xs), max(xs) of data -/
def rMinDD (K : Frag) (mx : Bool) : List V → Hp → VK → Prop := fun vs H Q => ∃ (a : Addr) (us : List V) (β : Type) (l : List β) (f : β → D), vs = [.ref a] ∧ SqL K H a us ∧ DVs K H (l.map f) us ∧ AllAlike (l.map fun b => py (f b)) ∧ (∀ b ∈ l, f b ≠ .non) ∧ (∀ b ∈ l, (py (f b)).depth ≤ 60) ∧ l ≠ [] ∧
  ∀ (m : β) (v : V), m ∈ l → (∀ y ∈ l, (if mx then dataLt (py (f m)) (py (f y)) else dataLt (py (f y)) (py (f m))) = false) → DV K H (f m) v → Q v H
theorem depth_all {β : Type} {g : β → PyData} : ∀ {l : List β}, (∀ b ∈ l, (g b).depth ≤ 60) → PyData.depthAll (l.map g) ≤ 60
  | [], _ => by simp [PyData.depthAll]
  | b :: l, h => by
    have h1 := h b (by simp)
    have h2 := depth_all (l := l) fun c m => h c (List.mem_cons_of_mem _ m)
    rw [List.map_cons, PyData.depthAll]; omega
theorem lt_irr (x : PyData) : dataLt x x = false := lex_irrefl _
theorem minD_mem (x : PyData) : ∀ xs : List PyData, minD x xs ∈ x :: xs := by
  intro xs
  unfold minD
  suffices h : ∀ (xs : List PyData) (a : PyData) (L : List PyData), a ∈ L → (∀ y ∈ xs, y ∈ L) → xs.foldl (fun a y => if dataLt y a then y else a) a ∈ L from h xs x (x :: xs) (by simp) (fun y m => List.mem_cons_of_mem _ m)
  intro xs
  induction xs with
  | nil => intro a L h _; exact h
  | cons y ys ih =>
    intro a L h k
    rw [List.foldl_cons]
    refine ih _ L ?_ fun z m => k z (List.mem_cons_of_mem _ m)
    split
    · exact k y (by simp)
    · exact h
def pyLe (a b : PyData) : Bool := !dataLt b a
theorem pyLe_total : TotalLe pyLe := sortLe_total (listOrd itemOrd) false keyToks
theorem lt_of_pyLe {a b : PyData} (h : pyLe a b = true) : dataLt b a = false := by unfold pyLe at h; simpa using h
theorem pyLe_of {a b : PyData} (h : dataLt b a = false) : pyLe a b = true := by unfold pyLe; rw [h]; rfl
theorem pyLe_lt {a b : PyData} (h : dataLt a b = true) : pyLe a b = true := (pyLe_total.total a b).elim id fun k => by
  have := lt_of_pyLe k
  rw [this] at h; cases h
theorem minD_le : ∀ (xs : List PyData) (x : PyData), ∀ y ∈ x :: xs, pyLe (minD x xs) y = true := by
  intro xs
  suffices h : ∀ (xs : List PyData) (a : PyData) (L : List PyData), (∀ y ∈ L, pyLe a y = true) → ∀ y, y ∈ L ∨ y ∈ xs → pyLe (xs.foldl (fun a y => if dataLt y a then y else a) a) y = true from fun x y m => h xs x [x] (fun z m => by rw [List.mem_singleton.mp m]; exact pyLe_total.refl x) y (by
    rcases List.mem_cons.mp m with e | e
    · exact .inl (by rw [e]; simp)
    · exact .inr e)
  intro xs
  induction xs with
  | nil => intro a L h y m; exact h y (m.resolve_right (by simp))
  | cons z zs ih =>
    intro a L h y m
    rw [List.foldl_cons]
    refine ih _ (z :: L) ?_ y ?_
    · intro w mw
      by_cases c : dataLt z a = true
      · rw [if_pos c]
        rcases List.mem_cons.mp mw with e | e
        · rw [e]; exact pyLe_total.refl z
        · exact pyLe_total.trans _ _ _ (pyLe_lt c) (h w e)
      · rw [if_neg c]
        rcases List.mem_cons.mp mw with e | e
        · rw [e]; exact pyLe_of (by simpa using c)
        · exact h w e
    · rcases m with m | m
      · exact .inl (List.mem_cons_of_mem _ m)
      · rcases List.mem_cons.mp m with e | e
        · exact .inl (by rw [e]; simp)
        · exact .inr e
theorem maxD_mem (x : PyData) : ∀ xs : List PyData, maxD x xs ∈ x :: xs := by
  intro xs
  unfold maxD
  suffices h : ∀ (xs : List PyData) (a : PyData) (L : List PyData), a ∈ L → (∀ y ∈ xs, y ∈ L) → xs.foldl (fun a y => if dataLt a y then y else a) a ∈ L from h xs x (x :: xs) (by simp) (fun y m => List.mem_cons_of_mem _ m)
  intro xs
  induction xs with
  | nil => intro a L h _; exact h
  | cons y ys ih =>
    intro a L h k
    rw [List.foldl_cons]
    refine ih _ L ?_ fun z m => k z (List.mem_cons_of_mem _ m)
    split
    · exact k y (by simp)
    · exact h
theorem maxD_le : ∀ (xs : List PyData) (x : PyData), ∀ y ∈ x :: xs, pyLe y (maxD x xs) = true := by
  intro xs
  suffices h : ∀ (xs : List PyData) (a : PyData) (L : List PyData), (∀ y ∈ L, pyLe y a = true) → ∀ y, y ∈ L ∨ y ∈ xs → pyLe y (xs.foldl (fun a y => if dataLt a y then y else a) a) = true from fun x y m => h xs x [x] (fun z m => by rw [List.mem_singleton.mp m]; exact pyLe_total.refl x) y (by
    rcases List.mem_cons.mp m with e | e
    · exact .inl (by rw [e]; simp)
    · exact .inr e)
  intro xs
  induction xs with
  | nil => intro a L h y m; exact h y (m.resolve_right (by simp))
  | cons z zs ih =>
    intro a L h y m
    rw [List.foldl_cons]
    refine ih _ (z :: L) ?_ y ?_
    · intro w mw
      by_cases c : dataLt a z = true
      · rw [if_pos c]
        rcases List.mem_cons.mp mw with e | e
        · rw [e]; exact pyLe_total.refl z
        · exact pyLe_total.trans _ _ _ (h w e) (pyLe_lt c)
      · rw [if_neg c]
        rcases List.mem_cons.mp mw with e | e
        · rw [e]; exact pyLe_of (by simpa using c)
        · exact h w e
    · rcases m with m | m
      · exact .inl (List.mem_cons_of_mem _ m)
      · rcases List.mem_cons.mp m with e | e
        · exact .inl (by rw [e]; simp)
        · exact .inr e
theorem each_get {β : Type} {R : Value → β → Prop} : ∀ {vs : List Value} {l : List β} {i : Nat} {v : Value}, EachIs R vs l → vs[i]? = some v → ∃ b, l[i]? = some b ∧ R v b
  | _, _, _, _, .nil, h => by simp at h
  | _, _, 0, _, .cons h1 _, h => by cases (show some _ = some _ from h); exact ⟨_, rfl, h1⟩
  | _, _, i + 1, _, .cons _ t, h => each_get (i := i) t (by simpa using h)
theorem min_pick {pins : List (Addr × Obj)} {σ : L2.St} {H : Hp} {s : Shared} (I : Inv X pins σ H s) {β : Type} {l : List β} {f : β → D} {its : List Value} (e : EachIs (fun u b => ∃ v, RelV v u ∧ DV X.K H (f b) v) its l) (hal : AllAlike (l.map fun b => py (f b))) {i : Nat} {v : Value} {h' : Heap} {m : PyData} {bs : List Addr}
    (hv : its[i]? = some v) (hr : Reads h' v m bs) (kp : ∀ b o, s.heap.get? b = some o → h'.get? b = some o) (hm : m ∈ l.map fun b => py (f b)) : ∃ b w, b ∈ l ∧ RelV w v ∧ DV X.K H (f b) w ∧ py (f b) = m := by
  obtain ⟨b, hb, w, rw', dw⟩ := each_get e hv
  have mb := List.mem_of_getElem? hb
  obtain ⟨as, r1⟩ := Dp.reads I _ _ _ dw.dp rw'
  have r2 : Reads h' v (py (f b)) as := PyProof.Rows.Reads.keeps kp r1
  exact ⟨b, w, mb, rw', dw, alike_unique _ _ _ _ _ (hal _ (List.mem_map_of_mem mb) _ hm) r2 hr⟩
theorem cr_minDD (hu : X.A.units + 65 < cLine) (hc : X.calm = true) : CallR X (.builtin "min") (rMinDD X.K false) := by
  intro pins s σ H vs us Q I r h
  obtain ⟨a, xs, β, l, f, rfl, hs, hd, hal, hnn, hdp, hne, q⟩ := h
  obtain ⟨its, rv, hl, hz⟩ := I.list hs
  obtain ⟨u, rfl, ru⟩ := vals1 r
  obtain rfl : u = Value.ref a := ru
  have e := dvs_each hd rv
  obtain ⟨b0, l', rfl⟩ : ∃ b0 l', l = b0 :: l' := by
    cases l with
    | nil => exact absurd rfl hne
    | cons b r => exact ⟨b, r, rfl⟩
  obtain ⟨as, hra⟩ := Dp.readsAll I _ _ _ hd.dpa rv
  have ep : pys ((b0 :: l').map f) = py (f b0) :: l'.map (fun b => py (f b)) := by rw [pys_map, List.map_map]; rfl
  rw [ep] at hra
  have hal' : AllAlike (py (f b0) :: l'.map (fun b => py (f b))) := hal
  refine min_list_data (I.ok.hd hc) hl.isList (vs := its.toArray) (by simpa using hra) ⟨fun x mx y my => hal' x mx y my, fun x mx => ?_⟩ ?_ fun i v h' tk bs hv hr kp => ?_
  · obtain ⟨b, hb, rfl⟩ := List.mem_map.mp (show x ∈ (b0 :: l').map (fun b => py (f b)) from mx)
    intro e0
    refine hnn b hb ?_
    cases hf : f b with
    | non => rfl
    | _ => rw [hf] at e0; simp [py] at e0
  · have := depth_all hdp
    rw [List.map_cons] at this
    omega
  · obtain ⟨b, w, mb, rw', dw, em⟩ := min_pick I e hal (by simpa using hv) hr kp (minD_mem _ _)
    refine ⟨w, H, I.kept kp, rw', q b w mb (fun y my => ?_) dw⟩
    have := minD_le (l'.map fun b => py (f b)) (py (f b0)) (py (f y)) (List.mem_map_of_mem (f := fun b => py (f b)) my)
    rw [← em] at this
    exact lt_of_pyLe this
theorem cr_maxDD (hu : X.A.units + 65 < cLine) (hc : X.calm = true) : CallR X (.builtin "max") (rMinDD X.K true) := by
  intro pins s σ H vs us Q I r h
  obtain ⟨a, xs, β, l, f, rfl, hs, hd, hal, hnn, hdp, hne, q⟩ := h
  obtain ⟨its, rv, hl, hz⟩ := I.list hs
  obtain ⟨u, rfl, ru⟩ := vals1 r
  obtain rfl : u = Value.ref a := ru
  have e := dvs_each hd rv
  obtain ⟨b0, l', rfl⟩ : ∃ b0 l', l = b0 :: l' := by
    cases l with
    | nil => exact absurd rfl hne
    | cons b r => exact ⟨b, r, rfl⟩
  obtain ⟨as, hra⟩ := Dp.readsAll I _ _ _ hd.dpa rv
  have ep : pys ((b0 :: l').map f) = py (f b0) :: l'.map (fun b => py (f b)) := by rw [pys_map, List.map_map]; rfl
  rw [ep] at hra
  have hal' : AllAlike (py (f b0) :: l'.map (fun b => py (f b))) := hal
  refine max_list_data (I.ok.hd hc) hl.isList (vs := its.toArray) (by simpa using hra) ⟨fun x mx y my => hal' x mx y my, fun x mx => ?_⟩ ?_ fun i v h' tk bs hv hr kp => ?_
  · obtain ⟨b, hb, rfl⟩ := List.mem_map.mp (show x ∈ (b0 :: l').map (fun b => py (f b)) from mx)
    intro e0
    refine hnn b hb ?_
    cases hf : f b with
    | non => rfl
    | _ => rw [hf] at e0; simp [py] at e0
  · have := depth_all hdp
    rw [List.map_cons] at this
    omega
  · obtain ⟨b, w, mb, rw', dw, em⟩ := min_pick I e hal (by simpa using hv) hr kp (maxD_mem _ _)
    refine ⟨w, H, I.kept kp, rw', q b w mb (fun y my => ?_) dw⟩
    have := maxD_le (l'.map fun b => py (f b)) (py (f b0)) (py (f y)) (List.mem_map_of_mem (f := fun b => py (f b)) my)
    rw [← em] at this
    exact lt_of_pyLe this
/-- what a sorted list of data is -/
theorem dle_total {β : Type} (f : β → D) : TotalLe (dle f) := sortLe_total (listOrd itemOrd) false fun b => keyToks (py (f b))
theorem sort_perm {β : Type} (f : β → D) (l : List β) : (l.mergeSort (dle f)).Perm l := List.mergeSort_perm l _
theorem sort_pw {β : Type} (f : β → D) (l : List β) : (l.mergeSort (dle f)).Pairwise fun a b => dle f a b = true := sort_pairwise (dle_total f) l
theorem dle_str {β : Type} {f : β → Str} {a b : β} : dle (fun b => D.str (f b)) a b = !decide (tl (f b) < tl (f a)) := by
  show (!dataLt (py (.str (f b))) (py (.str (f a)))) = _
  rw [py, py, dataLt_str]
/-- the same, the written part named -/
theorem op_eqDDQ {K : Frag} (h : X.K = K) (hu : X.A.units + 65 < cLine) : OpR X (compareOp .Eq) (rEqDD K) := by subst h; exact op_eqDD (by omega)
theorem op_neDDQ {K : Frag} (h : X.K = K) (hu : X.A.units + 65 < cLine) : OpR X (compareOp .NotEq) (rNeDD K) := by subst h; exact op_neDD (by omega)
theorem op_inDDQ {K : Frag} (h : X.K = K) (hu : X.A.units + 65 < cLine) : OpR X (compareOp .In) (rInDD K false) := by subst h; exact op_inDD hu
theorem op_notInDDQ {K : Frag} (h : X.K = K) (hu : X.A.units + 65 < cLine) : OpR X (compareOp .NotIn) (rInDD K true) := by subst h; exact op_notInDD hu
theorem cr_sortDDQ {K : Frag} (h : X.K = K) (hu : X.A.units + 65 < cLine) : CallR X (.builtin "sorted") (rSortDD K) := by subst h; exact cr_sortDD hu
theorem cr_minDDQ {K : Frag} (h : X.K = K) (hu : X.A.units + 65 < cLine) (hc : X.calm = true) : CallR X (.builtin "min") (rMinDD K false) := by subst h; exact cr_minDD hu hc
theorem cr_maxDDQ {K : Frag} (h : X.K = K) (hu : X.A.units + 65 < cLine) (hc : X.calm = true) : CallR X (.builtin "max") (rMinDD K true) := by subst h; exact cr_maxDD hu hc
theorem aa_of {β : Type} {f : β → D} {l : List β} (h : ∀ b c, alike (py (f b)) (py (f c)) = true) : AllAlike (l.map fun b => py (f b)) := AllAlike.of h
theorem aa_str {β : Type} {f : β → Str} {l : List β} : AllAlike (l.map fun b => py (.str (f b))) := aa_of fun _ _ => by simp [py, alike]
theorem aa_int {β : Type} {f : β → Int} {l : List β} : AllAlike (l.map fun b => py (.int (f b))) := aa_of fun _ _ => by simp [py, alike]
theorem so_str {β : Type} {f : β → Str} {l : List β} : Sortable (l.map fun b => py (.str (f b))) := Sortable.others fun b => ⟨by simp [py], fun _ => by simp [py]⟩
theorem so_tup {β : Type} {f : β → D} {l : List β} (h : ∀ b, ∃ x r, f b = .tup (x :: r)) : Sortable (l.map fun b => py (f b)) := Sortable.tuples fun b => by
  obtain ⟨x, r, e⟩ := h b
  exact ⟨py x, pys r, by rw [e, py, pys]⟩
theorem lt_of_dl {x y : Str} (h : (if false = true then dataLt (py (.str y)) (py (.str x)) else dataLt (py (.str x)) (py (.str y))) = false) : ¬ tl x < tl y := by
  simp only [Bool.false_eq_true, if_false, py] at h
  rw [dataLt_str] at h
  exact of_decide_eq_false h
theorem room65 {k : Nat} {A : Around} (r : Room k A) : A.units + 65 < cLine := by have := r.un; omega
end
end Z
namespace Z
open PySem L2 SX
def top (i : Nat) : Stmt := PySem.Challenge.pw_criermoot_k53_routes.main.body.getD i (.Pass ⟨0, 0, 0, 0⟩)
abbrev s_neighbours : Stmt := top 1
abbrev N_neighbours : List Str := ["book", "name", "after", "before", "line"]
theorem sc_neighbours : FnScope ["book", "name", "after", "before", "line"] ["book", "name"] (defScope s_neighbours) := ⟨rfl, rfl, rfl, by decide +kernel, rfl, by decide +kernel, by decide +kernel⟩
abbrev s_distances : Stmt := top 3
abbrev N_distances : List Str := ["book", "site", "found", "level", "behind", "name", "other"]
theorem sc_distances : FnScope ["book", "site", "found", "level", "behind", "name", "other"] ["book", "site"] (defScope s_distances) := ⟨rfl, rfl, rfl, by decide +kernel, rfl, by decide +kernel, by decide +kernel⟩
abbrev s_distance : Stmt := top 4
abbrev N_distance : List Str := ["book", "site", "other"]
theorem sc_distance : FnScope ["book", "site", "other"] ["book", "site", "other"] (defScope s_distance) := ⟨rfl, rfl, rfl, by decide +kernel, rfl, by decide +kernel, by decide +kernel⟩
abbrev s_next_site : Stmt := top 5
abbrev N_next_site : List Str := ["book", "here", "goal", "found", "nearer", "name"]
theorem sc_next_site : FnScope ["book", "here", "goal", "found", "nearer", "name"] ["book", "here", "goal"] (defScope s_next_site) := ⟨rfl, rfl, rfl, by decide +kernel, rfl, by decide +kernel, by decide +kernel⟩
abbrev s__law_mix : Stmt := top 7
abbrev N__law_mix : List Str := ["seed", "turn", "number"]
theorem sc__law_mix : FnScope ["seed", "turn", "number"] ["seed", "turn"] (defScope s__law_mix) := ⟨rfl, rfl, rfl, by decide +kernel, rfl, by decide +kernel, by decide +kernel⟩
abbrev s__law_source : Stmt := top 8
abbrev N__law_source : List Str := ["script", "seed", "k"]
theorem sc__law_source : FnScope ["script", "seed", "k"] ["script"] (defScope s__law_source) := ⟨rfl, rfl, rfl, by decide +kernel, rfl, by decide +kernel, by decide +kernel⟩
abbrev s__law_draw : Stmt := top 9
abbrev N__law_draw : List Str := ["source", "many", "cell", "value"]
theorem sc__law_draw : FnScope ["source", "many", "cell", "value"] ["source", "many"] (defScope s__law_draw) := ⟨rfl, rfl, rfl, by decide +kernel, rfl, by decide +kernel, by decide +kernel⟩
abbrev s__law_pick : Stmt := top 10
abbrev N__law_pick : List Str := ["source", "row"]
theorem sc__law_pick : FnScope ["source", "row"] ["source", "row"] (defScope s__law_pick) := ⟨rfl, rfl, rfl, by decide +kernel, rfl, by decide +kernel, by decide +kernel⟩
abbrev s__law_once_in : Stmt := top 11
abbrev N__law_once_in : List Str := ["source", "many"]
theorem sc__law_once_in : FnScope ["source", "many"] ["source", "many"] (defScope s__law_once_in) := ⟨rfl, rfl, rfl, by decide +kernel, rfl, by decide +kernel, by decide +kernel⟩
abbrev s__law_shuffled : Stmt := top 12
abbrev N__law_shuffled : List Str := ["source", "row", "left", "done", "k"]
theorem sc__law_shuffled : FnScope ["source", "row", "left", "done", "k"] ["source", "row"] (defScope s__law_shuffled) := ⟨rfl, rfl, rfl, by decide +kernel, rfl, by decide +kernel, by decide +kernel⟩
abbrev s__law_new_name : Stmt := top 13
abbrev N__law_new_name : List Str := ["source", "used", "letters", "size", "name", "k", "tried"]
theorem sc__law_new_name : FnScope ["source", "used", "letters", "size", "name", "k", "tried"] ["source", "used"] (defScope s__law_new_name) := ⟨rfl, rfl, rfl, by decide +kernel, rfl, by decide +kernel, by decide +kernel⟩
abbrev s__law_names : Stmt := top 14
abbrev N__law_names : List Str := ["source", "many", "used", "k"]
theorem sc__law_names : FnScope ["source", "many", "used", "k"] ["source", "many"] (defScope s__law_names) := ⟨rfl, rfl, rfl, by decide +kernel, rfl, by decide +kernel, by decide +kernel⟩
abbrev s__law_words : Stmt := top 15
abbrev N__law_words : List Str := ["source"]
theorem sc__law_words : FnScope ["source"] ["source"] (defScope s__law_words) := ⟨rfl, rfl, rfl, by decide +kernel, rfl, by decide +kernel, by decide +kernel⟩
abbrev s__law_board : Stmt := top 16
abbrev N__law_board : List Str := ["source", "words", "size", "k"]
theorem sc__law_board : FnScope ["source", "words", "size", "k"] ["source", "words"] (defScope s__law_board) := ⟨rfl, rfl, rfl, by decide +kernel, rfl, by decide +kernel, by decide +kernel⟩
abbrev s__law_glob : Stmt := top 17
abbrev N__law_glob : List Str := ["source", "words", "word", "menu"]
theorem sc__law_glob : FnScope ["source", "words", "word", "menu"] ["source", "words"] (defScope s__law_glob) := ⟨rfl, rfl, rfl, by decide +kernel, rfl, by decide +kernel, by decide +kernel⟩
abbrev s__law_pattern : Stmt := top 18
abbrev N__law_pattern : List Str := ["source", "words", "many", "items", "k"]
theorem sc__law_pattern : FnScope ["source", "words", "many", "items", "k"] ["source", "words"] (defScope s__law_pattern) := ⟨rfl, rfl, rfl, by decide +kernel, rfl, by decide +kernel, by decide +kernel⟩
abbrev s__law_is_int : Stmt := top 19
abbrev N__law_is_int : List Str := ["value"]
theorem sc__law_is_int : FnScope ["value"] ["value"] (defScope s__law_is_int) := ⟨rfl, rfl, rfl, by decide +kernel, rfl, by decide +kernel, by decide +kernel⟩
abbrev s__law_same : Stmt := top 20
abbrev N__law_same : List Str := ["actual", "due", "k"]
theorem sc__law_same : FnScope ["actual", "due", "k"] ["actual", "due"] (defScope s__law_same) := ⟨rfl, rfl, rfl, by decide +kernel, rfl, by decide +kernel, by decide +kernel⟩
abbrev s__law_lines : Stmt := top 21
abbrev N__law_lines : List Str := ["source", "names", "pairs", "k", "one", "two"]
theorem sc__law_lines : FnScope ["source", "names", "pairs", "k", "one", "two"] ["source", "names"] (defScope s__law_lines) := ⟨rfl, rfl, rfl, by decide +kernel, rfl, by decide +kernel, by decide +kernel⟩
abbrev s__law_feeds : Stmt := top 22
abbrev N__law_feeds : List Str := ["source", "lines", "words", "wide", "feeds", "pair", "way", "giver", "taker", "pattern", "hops", "size"]
theorem sc__law_feeds : FnScope ["source", "lines", "words", "wide", "feeds", "pair", "way", "giver", "taker", "pattern", "hops", "size"] ["source", "lines", "words", "wide"] (defScope s__law_feeds) := ⟨rfl, rfl, rfl, by decide +kernel, rfl, by decide +kernel, by decide +kernel⟩
abbrev s__law_sites : Stmt := top 23
abbrev N__law_sites : List Str := ["source", "names", "words", "window", "offsets", "rows", "greatest", "k", "lot", "memory", "term"]
theorem sc__law_sites : FnScope ["source", "names", "words", "window", "offsets", "rows", "greatest", "k", "lot", "memory", "term"] ["source", "names", "words", "window", "offsets"] (defScope s__law_sites) := ⟨rfl, rfl, rfl, by decide +kernel, rfl, by decide +kernel, by decide +kernel⟩
abbrev s__law_book : Stmt := top 24
abbrev N__law_book : List Str := ["source", "many", "words", "names", "window", "offsets", "first", "waits", "lines", "feeds", "sites", "k"]
theorem sc__law_book : FnScope ["source", "many", "words", "names", "window", "offsets", "first", "waits", "lines", "feeds", "sites", "k"] ["source", "many", "words"] (defScope s__law_book) := ⟨rfl, rfl, rfl, by decide +kernel, rfl, by decide +kernel, by decide +kernel⟩
abbrev s__law_over_lines : Stmt := top 25
abbrev N__law_over_lines : List Str := ["book", "lines", "feeds", "feed"]
theorem sc__law_over_lines : FnScope ["book", "lines", "feeds", "feed"] ["book", "lines"] (defScope s__law_over_lines) := ⟨rfl, rfl, rfl, by decide +kernel, rfl, by decide +kernel, by decide +kernel⟩
abbrev s__law_thinned : Stmt := top 26
abbrev N__law_thinned : List Str := ["source", "book", "wide", "pair"]
theorem sc__law_thinned : FnScope ["source", "book", "wide", "pair"] ["source", "book"] (defScope s__law_thinned) := ⟨rfl, rfl, rfl, by decide +kernel, rfl, by decide +kernel, by decide +kernel⟩
abbrev s__law_one_line_turned : Stmt := top 27
abbrev N__law_one_line_turned : List Str := ["source", "book", "names", "one", "two", "pair", "lines", "site", "line"]
theorem sc__law_one_line_turned : FnScope ["source", "book", "names", "one", "two", "pair", "lines", "site", "line"] ["source", "book"] (defScope s__law_one_line_turned) := ⟨rfl, rfl, rfl, by decide +kernel, rfl, by decide +kernel, by decide +kernel⟩
abbrev s__law_spread : Stmt := top 28
abbrev N__law_spread : List Str := ["book", "start", "far", "step", "pair", "way"]
theorem sc__law_spread : FnScope ["book", "start", "far", "step", "pair", "way"] ["book", "start"] (defScope s__law_spread) := ⟨rfl, rfl, rfl, by decide +kernel, rfl, by decide +kernel, by decide +kernel⟩
abbrev s__law_onward : Stmt := top 29
abbrev N__law_onward : List Str := ["book", "far", "here", "near", "good", "name", "pair"]
theorem sc__law_onward : FnScope ["book", "far", "here", "near", "good", "name", "pair"] ["book", "far", "here"] (defScope s__law_onward) := ⟨rfl, rfl, rfl, by decide +kernel, rfl, by decide +kernel, by decide +kernel⟩
abbrev s__law_route_right : Stmt := top 30
abbrev N__law_route_right : List Str := ["book", "here", "goal", "far", "place", "step", "due"]
theorem sc__law_route_right : FnScope ["book", "here", "goal", "far", "place", "step", "due"] ["book", "here", "goal"] (defScope s__law_route_right) := ⟨rfl, rfl, rfl, by decide +kernel, rfl, by decide +kernel, by decide +kernel⟩
abbrev s_law : Stmt := top 31
abbrev N_law : List Str := ["script", "source", "words", "many", "book", "other", "names", "goal", "here", "site"]
theorem sc_law : FnScope ["script", "source", "words", "many", "book", "other", "names", "goal", "here", "site"] ["script"] (defScope s_law) := ⟨rfl, rfl, rfl, by decide +kernel, rfl, by decide +kernel, by decide +kernel⟩
structure Tx (mg : Str → Option Value) : Prop where
  n_abs : mg "abs" = none
  n_bool : mg "bool" = none
  n_int : mg "int" = none
  n_isinstance : mg "isinstance" = none
  n_len : mg "len" = none
  n_list : mg "list" = none
  n_max : mg "max" = none
  n_min : mg "min" = none
  n_range : mg "range" = none
  n_sorted : mg "sorted" = none
  n_str : mg "str" = none
  n_tuple : mg "tuple" = none
end Z
namespace Z
open PySem PySem.Spec PyProof.Rows L2 SX
/-! ### enumerate(text) -/
def ItEs (x : Str) : It := ⟨fun i _ => i < x.cps.size, fun i H v H' => ∃ (T : Addr) (c : Nat), v = .ref T ∧ H T = none ∧ H' = upd H T (.tup [.int (i : Nat), .str ⟨#[c]⟩]) ∧ x.cps[i]? = some c, fun i _ => i = x.cps.size⟩
theorem turn_enumS {P : Program} {w : World} {K : PySem.W.Frag} {elts : List Expr} {kk : Nat} {tpos : Pos} (x : Str) (t : Tok) (e it : Addr) :
    Turn P w K (.Tuple elts kk tpos) (ItEs x) [e, it] e (fun i h => (∃ old, IsEnum h e it ((i : Nat) : Int) old) ∧ h.IsStrIter it (strIterType x) x t i ∧ e ≠ it) where
  mem := by simp
  obj := fun i h st b hb => by
    obtain ⟨⟨old, he⟩, ⟨o, ho, hc, hd⟩, _⟩ := st
    have e' : b = e ∨ b = it := by simpa using hb
    rcases e' with z | z
    · rw [z]; exact ⟨_, he, fun v q => nomatch q⟩
    · rw [z]; exact ⟨o, ho, fun v q => by rw [hd] at q; cases q⟩
  keep := fun i h h' st k => by
    obtain ⟨⟨old, he⟩, ⟨o, ho, r⟩, hne⟩ := st
    exact ⟨⟨old, k e (by simp) _ he⟩, ⟨o, k it (by simp) o ho, r⟩, hne⟩
  item := by
    intro X hP hw hK hc i pins s σ H E I hf st hg
    subst hP hw hK
    obtain ⟨⟨old, he⟩, hit, hne⟩ := st
    have hel : e < s.heap.objs.size := Heap.lt_size he
    have hil : it < s.heap.objs.size := by obtain ⟨_, q, _⟩ := hit; exact Heap.lt_size q
    have D := Draws.text (prog := X.prog) (w := X.w) (A := X.A.in1) (I.ok.hd hc) it x t
    refine wpAny_pyNext_enum_itemC D he hit hg hne (by simp [hne]) fun v h' tk hv ho hit' hT hsz hk => ?_
    obtain ⟨c, u, hcx, rfl⟩ := hv
    refine ⟨_, rfl, wpAny_letOwnedTupleGo_enum (s := { s with heap := h', toks := tk + 1 }) ho fun h'' he' sb => ?_⟩
    have hT2 : h''.get? s.heap.objs.size = some { cls := .type "tuple", data := .seq #[.int i tk, .str ⟨#[c]⟩ u] } := (sb.2 _ (Nat.ne_of_gt hel)).trans hT
    have new : ObjOk X.prog X.w (upd H s.heap.objs.size (.tup [.int (i : Nat), .str ⟨#[c]⟩])) h'' s.heap.objs.size (.tup [.int (i : Nat), .str ⟨#[c]⟩]) :=
      ⟨by show 2 ≤ sizeLine; decide, [.int i tk, .str ⟨#[c]⟩ u], .cons ⟨_, rfl⟩ (.cons ⟨_, rfl⟩ .nil), ⟨_, hT2, rfl, _, rfl⟩⟩
    have I1 : Inv X pins σ (upd H s.heap.objs.size (.tup [.int (i : Nat), .str ⟨#[c]⟩])) { s with heap := h'', toks := tk + 1 } :=
      I.turnedNew (ch := [e, it]) (fun b ob hb q => (sb.2 b (fun z => hb (by simp [z]))).trans (hk b ob (fun z => hb (by simp [z])) (fun z => hb (by simp [z])) q)) hf (Nat.le_refl _) new
    refine ⟨.ref s.heap.objs.size, _, I1, rfl, ⟨_, c, rfl, I.hok.fresh (Nat.le_refl _), rfl, hcx⟩, ⟨⟨.str ⟨#[c]⟩ u, ?_⟩, ?_, hne⟩, fun b hb => ?_⟩
    · have e1 : ((i + 1 : Nat) : Int) = (i : Int) + 1 := by omega
      rw [e1]; exact he'
    · obtain ⟨o, q, r⟩ := hit'
      exact ⟨o, (sb.2 it (Ne.symm hne)).trans q, r⟩
    · have hb' : b < s.heap.objs.size := by
        have e' : b = e ∨ b = it := by simpa using hb
        rcases e' with z | z
        · rw [z]; exact hel
        · rw [z]; exact hil
      rw [upd_ne (Nat.ne_of_lt hb')]
      exact (hf b hb).1
  done := by
    intro X hP hw hK hc i pins s σ H E I hf st hg
    subst hP hw hK
    obtain ⟨⟨old, he⟩, hit, hne⟩ := st
    obtain ⟨f0, f1, f2, f3, f4, f5⟩ := hf it (by simp)
    have hg' : i = x.cps.size := hg
    subst hg'
    have D := Draws.text (prog := X.prog) (w := X.w) (A := X.A.in1) (I.ok.hd hc) it x t
    exact wpAny_pyNext_enum_endD D he hit fun h' eb => ⟨rfl, I.turned (t' := s.toks) (fun b o hb q => eb b o hb q) f0 f1 f3 f4 f5⟩
  self := fun A i s Q E st h => let ⟨⟨_, he⟩, _⟩ := st; wpAny_pyIter_enum he h
def iEnumS (ta : TA) : TI := fun σ H R => ta σ H fun vs H1 => ∃ x : Str, vs = [.str x] ∧ R (ItEs x) H1
theorem pi_enumS {X : Cx} {e : Expr} {ta : TA} {p pos tpos : Pos} {elts : List Expr} {kk : Nat} (hg : Gl X "enumerate") (hm : X.mg "enumerate" = none) (ha : PA X [e] ta) (hs : starEach [e] X.env = [(false, eval e X.env)] := by rfl) :
    PI X (.Tuple elts kk tpos) (.Call (.Name "enumerate" p) [e] [] pos) (iEnumS ta) := by
  refine ⟨fun pins s σ H R I h => ?_⟩
  refine Call_ (ld_blt I hg hm boot_enumerate (PyProof.Rows.callWith_type1 (thn (ha.run pos pins s σ H _ I h) fun us s1 ⟨vs, H1, I1, r1, q1⟩ => ?_) hs rfl))
  obtain ⟨x, ex, q⟩ := q1
  subst ex
  cases r1 with
  | cons r rr =>
    cases rr
    obtain ⟨t, rfl⟩ := r
    refine call_enumerate_str fun h' he hit hsz hk => wpAny_pyIter_enum he ?_
    have I2 : Inv X pins σ H1 { s1 with heap := h' } := I1.kept (t' := s1.toks) hk
    refine ⟨s1.heap.objs.size + 1, [s1.heap.objs.size + 1, s1.heap.objs.size], _, _, H1, rfl, I2, turn_enumS x t (s1.heap.objs.size + 1) s1.heap.objs.size, ⟨⟨.none, he⟩, hit, Nat.succ_ne_self _⟩, fun b hb => ?_, q⟩
    have e' : b = s1.heap.objs.size + 1 ∨ b = s1.heap.objs.size := by simpa using hb
    have hle : s1.heap.objs.size ≤ b := by
      rcases e' with z | z
      · rw [z]; exact Nat.le_add_right _ _
      · rw [z]; exact Nat.le_refl _
    exact I1.fpOk hle (I1.hok.fresh hle)
theorem for_enumS {l : List Nat} {g : TG} {tb : TS} {D : Ends} {σ : L2.St} {H : Hp} (Pv : Nat → L2.St → Hp → Prop) (h0 : Pv 0 σ H)
    (hs : ∀ i c T σ H, l[i]? = some c → Pv i σ H → H T = none → g (.ref T) σ (upd H T (.tup [.int (i : Nat), .str (S [c])])) fun σ2 H2 => tb { D with nx := Pv (i + 1), ct := Pv (i + 1), bk := D.nx } σ2 H2) (hd : ∀ σ H, Pv l.length σ H → D.nx σ H) :
    ∃ W : Nat → Nat → L2.St → Hp → Prop, (∃ m, W 0 m σ H) ∧ ∀ i m σ H, W i m σ H →
      ((ItEs (S l)).stop i H ∧ D.nx σ H) ∨ ((ItEs (S l)).go i H ∧ ∃ N : L2.St → Hp → Prop, (∀ σ' H', N σ' H' → ∃ m', m' < m ∧ W (i + 1) m' σ' H') ∧ ∀ x H', (ItEs (S l)).yld i H x H' → g x σ H' fun σ2 H2 => tb { D with nx := N, ct := N, bk := D.nx } σ2 H2) := by
  refine ⟨fun i m σ H => m = l.length - i ∧ i ≤ l.length ∧ Pv i σ H, ⟨l.length, by simp, Nat.zero_le _, h0⟩, ?_⟩
  rintro i m σ H ⟨rfl, hi, p⟩
  by_cases hlt : i < l.length
  · refine .inr ⟨by show i < l.toArray.size; simpa using hlt, Pv (i + 1), fun σ' H' p' => ⟨l.length - (i + 1), by omega, rfl, hlt, p'⟩, fun x H' y => ?_⟩
    obtain ⟨T, c, rfl, hT, rfl, hc⟩ := y
    exact hs i c T _ _ (by simpa using hc) p hT
  · have e : i = l.length := by omega
    subst e
    exact .inl ⟨by show l.length = l.toArray.size; simp, hd σ H p⟩
end Z
namespace Z
open PySem L2 SX
/-! ### where a beginning stands in a glob -/
abbrev nts (l : List Nat) : List V := l.map fun k : Nat => V.int (k : Int)
def st0 (g : List Nat) : Nat → Prop
  | 0 => True
  | i + 1 => g[i]? = some 42 ∧ st0 g i
def nxt (g : List Nat) (M : Nat → Prop) (c : Nat) : Nat → Prop
  | 0 => False
  | i + 1 => (g[i]? = some 42 ∧ (nxt g M c i ∨ M (i + 1))) ∨ (g[i]? ≠ some 42 ∧ M i ∧ (g[i]? = some 63 ∨ g[i]? = some c))
def stand (g b : List Nat) : Nat → Prop := b.foldl (fun M c => nxt g M c) (st0 g)
/-- closed along stars -/
def closed (g : List Nat) (M : Nat → Prop) : Prop := ∀ y, M y → g[y]? = some 42 → M (y + 1)
def within (g : List Nat) (M : Nat → Prop) : Prop := ∀ y, M y → y ≤ g.length
theorem st0_closed (g : List Nat) : closed g (st0 g) := fun _ h e => ⟨e, h⟩
theorem st0_within (g : List Nat) : within g (st0 g) := fun y h => by
  cases y with
  | zero => omega
  | succ i => have := (List.getElem?_eq_some_iff.mp h.1).1; omega
theorem nxt_closed (g : List Nat) (M : Nat → Prop) (c : Nat) : closed g (nxt g M c) := fun _ h e => .inl ⟨e, .inl h⟩
theorem nxt_within (g : List Nat) (M : Nat → Prop) (c : Nat) : within g (nxt g M c) := fun y h => by
  cases y with
  | zero => omega
  | succ i =>
    rcases h with ⟨h, _⟩ | ⟨_, _, h | h⟩ <;> (have := (List.getElem?_eq_some_iff.mp h).1; omega)
theorem stand_nil (g : List Nat) : stand g [] = st0 g := rfl
theorem stand_snoc (g b : List Nat) (c : Nat) : stand g (b ++ [c]) = nxt g (stand g b) c := by unfold stand; rw [List.foldl_append]; rfl
theorem stand_ok (g b : List Nat) : closed g (stand g b) ∧ within g (stand g b) := by
  unfold stand
  rw [← List.reverse_reverse b, List.foldl_reverse]
  cases b.reverse with
  | nil => exact ⟨st0_closed g, st0_within g⟩
  | cons c r => exact ⟨nxt_closed g _ c, nxt_within g _ c⟩
/-- the places, ascending -/
def Asd (ps : List Nat) (M : Nat → Prop) : Prop := ps.Pairwise (· < ·) ∧ ∀ y, y ∈ ps ↔ M y
theorem asd_one : ∀ {a b : List Nat}, a.Pairwise (· < ·) → b.Pairwise (· < ·) → (∀ y, y ∈ a ↔ y ∈ b) → a = b
  | [], [], _, _, _ => rfl
  | [], y :: b, _, _, h => by have := (h y).mpr (by simp); cases this
  | x :: a, [], _, _, h => by have := (h x).mp (by simp); cases this
  | x :: a, y :: b, pa, pb, h => by
    have ha := List.pairwise_cons.mp pa
    have hb := List.pairwise_cons.mp pb
    have e : x = y := by
      have h1 := (h x).mp (by simp)
      have h2 := (h y).mpr (by simp)
      rcases List.mem_cons.mp h1 with e | e
      · exact e
      · rcases List.mem_cons.mp h2 with f | f
        · exact f.symm
        · have := hb.1 x e; have := ha.1 y f; omega
    subst e
    rw [asd_one ha.2 hb.2 fun z => ?_]
    constructor
    · intro hz
      rcases List.mem_cons.mp ((h z).mp (List.mem_cons_of_mem _ hz)) with e | e
      · subst e; have := ha.1 z hz; omega
      · exact e
    · intro hz
      rcases List.mem_cons.mp ((h z).mpr (List.mem_cons_of_mem _ hz)) with e | e
      · subst e; have := hb.1 z hz; omega
      · exact e
theorem Asd.one {a b : List Nat} {M : Nat → Prop} (x : Asd a M) (y : Asd b M) : a = b := asd_one x.1 y.1 fun z => (x.2 z).trans (y.2 z).symm
theorem Asd.congr {a : List Nat} {M N : Nat → Prop} (x : Asd a M) (h : ∀ y, M y ↔ N y) : Asd a N := ⟨x.1, fun y => (x.2 y).trans (h y)⟩
theorem Asd.len {a : List Nat} {M : Nat → Prop} {g : List Nat} (x : Asd a M) (w : within g M) : a.length ≤ g.length + 1 := by
  have : ∀ (n : Nat) (l : List Nat), l.Pairwise (· < ·) → (∀ y ∈ l, y < n) → l.length ≤ n := by
    intro n
    induction n with
    | zero => intro l _ h; cases l with
      | nil => simp
      | cons y r => have := h y (by simp); omega
    | succ n ih =>
      intro l p h
      rcases List.eq_nil_or_concat l with e | ⟨r, z, e⟩
      · subst e; simp
      · subst e
        rw [List.concat_eq_append] at p h ⊢
        have h2 := ih r (List.pairwise_append.mp p).1 (fun y hy => by
          have := (List.pairwise_append.mp p).2.2 y hy z (by simp)
          have := h z (by simp)
          omega)
        rw [List.length_append]; simp; exact h2
  exact this (g.length + 1) a x.1 fun y hy => by have := w y ((x.2 y).mp hy); omega
/-- a row of stars behind x -/
def isRun (g : List Nat) (x k : Nat) : Prop := (∀ j, j < k → g[x + j]? = some 42) ∧ g[x + k]? ≠ some 42
/-- places that are built up: L so far, m the greatest one that was put in, A what was put in -/
structure Up (g L : List Nat) (m : Nat) (A : Nat → Prop) : Prop where
  asc : L.Pairwise (· < ·)
  cl : ∀ y ∈ L, g[y]? = some 42 → y + 1 ∈ L
  gap : ∀ y z, m ≤ y → y ≤ z → z ∈ L → y ∈ L
  has : ∀ y, A y → y ∈ L
  only : ∀ (N : Nat → Prop), closed g N → (∀ y, A y → N y) → ∀ y ∈ L, N y
theorem Up.nil (g : List Nat) : Up g [] 0 (fun _ => False) := ⟨.nil, (fun _ h => by cases h), (fun _ _ _ _ h => by cases h), (fun _ h => h.elim), (fun _ _ _ _ h => by cases h)⟩
theorem Up.stay {g L : List Nat} {m x z : Nat} {A : Nat → Prop} (u : Up g L m A) (hm : m ≤ x) (hz : z ∈ L) (hx : x ≤ z) : Up g L x (fun y => A y ∨ y = x) :=
  ⟨u.asc, u.cl, fun y z a b c => u.gap y z (by omega) b c, fun y h => h.elim (u.has y) fun e => by subst e; exact u.gap _ _ hm hx hz, fun N c h => u.only N c fun y a => h y (.inl a)⟩
theorem run_mem {x k y : Nat} : y ∈ List.range' x (k + 1) ↔ x ≤ y ∧ y ≤ x + k := by rw [List.mem_range'_1]; omega
theorem Up.more {g L : List Nat} {m x k : Nat} {A : Nat → Prop} (u : Up g L m A) (hl : ∀ y ∈ L, y < x) (hr : isRun g x k) : Up g (L ++ List.range' x (k + 1)) x (fun y => A y ∨ y = x) := by
  refine ⟨?_, ?_, ?_, ?_, ?_⟩
  · exact List.pairwise_append.mpr ⟨u.asc, List.pairwise_lt_range', fun a ha b hb => by have := hl a ha; have := (run_mem.mp hb).1; omega⟩
  · intro y hy e
    rcases List.mem_append.mp hy with h | h
    · exact List.mem_append_left _ (u.cl y h e)
    · refine List.mem_append_right _ (run_mem.mpr ?_)
      have := run_mem.mp h
      by_cases q : y = x + k
      · subst q; exact absurd e hr.2
      · omega
  · intro y z hy hyz hz
    rcases List.mem_append.mp hz with h | h
    · have := hl z h; omega
    · have := run_mem.mp h
      exact List.mem_append_right _ (run_mem.mpr ⟨by omega, by omega⟩)
  · intro y h
    rcases h with h | e
    · exact List.mem_append_left _ (u.has y h)
    · subst e; exact List.mem_append_right _ (run_mem.mpr ⟨Nat.le_refl _, by omega⟩)
  · intro N c h y hy
    rcases List.mem_append.mp hy with q | q
    · exact u.only N c (fun z a => h z (.inl a)) y q
    · obtain ⟨q1, q2⟩ := run_mem.mp q
      have : ∀ j, j ≤ k → N (x + j) := by
        intro j
        induction j with
        | zero => intro _; exact h x (.inr rfl)
        | succ j ih => intro hj; exact c _ (ih (by omega)) (hr.1 j (by omega))
      have := this (y - x) (by omega)
      rwa [show x + (y - x) = y by omega] at this
theorem Up.congr {g L : List Nat} {m : Nat} {A B : Nat → Prop} (u : Up g L m A) (h : ∀ y, A y ↔ B y) : Up g L m B :=
  ⟨u.asc, u.cl, u.gap, fun y b => u.has y ((h y).mpr b), fun N c q => u.only N c fun y a => q y ((h y).mp a)⟩
/-- what is put in by the places of M that are taken -/
def puts (g : List Nat) (c : Nat) (T : Nat → Prop) (y : Nat) : Prop := (T y ∧ ∃ i, y = i + 1 ∧ g[i]? = some 42) ∨ ∃ i, y = i + 1 ∧ T i ∧ (g[i]? = some 63 ∨ g[i]? = some c)
theorem puts_next {g : List Nat} {M : Nat → Prop} {c : Nat} (hc : c ≠ 42) (cl : closed g M) {L : List Nat} {m : Nat} (u : Up g L m (puts g c M)) : Asd L (nxt g M c) := by
  refine ⟨u.asc, fun y => ⟨fun hy => u.only _ (nxt_closed g M c) (fun y p => ?_) y hy, ?_⟩⟩
  · rcases p with ⟨t, i, rfl, e⟩ | ⟨i, rfl, t, e⟩
    · exact .inl ⟨e, .inr t⟩
    · refine .inr ⟨fun q => ?_, t, e⟩
      rcases e with e | e <;> rw [e] at q
      · cases q
      · exact hc (Option.some.inj q)
  · intro h
    induction y with
    | zero => exact h.elim
    | succ i ih =>
      rcases h with ⟨e, h | h⟩ | ⟨_, t, e⟩
      · exact u.cl i (ih h) e
      · exact u.has _ (.inl ⟨h, i, rfl, e⟩)
      · exact u.has _ (.inr ⟨i, rfl, t, e⟩)
theorem start_asd {g L : List Nat} {m : Nat} (u : Up g L m (fun y => y = 0)) : Asd L (st0 g) := by
  refine ⟨u.asc, fun y => ⟨fun hy => u.only _ (st0_closed g) (fun y e => by subst e; exact True.intro) y hy, ?_⟩⟩
  intro h
  induction y with
  | zero => exact u.has 0 rfl
  | succ i ih => exact u.cl i (ih h.2) h.1
/-! ### promises -/
def sp_add_place : Sp := fun vs H Q _ => ∃ (g : Str) (p : Addr) (x : Nat) (L : List Nat) (m : Nat) (A : Nat → Prop), vs = [.str g, .ref p, .int (x : Int)] ∧ H p = some (.lst (nts L)) ∧ Up (tl g) L m A ∧ m ≤ x ∧ x ≤ (tl g).length ∧ (∀ y ∈ L, y ≤ (tl g).length) ∧ (tl g).length ≤ 10000 ∧
  ∀ (L' : List Nat) (H' : Hp), H' p = some (.lst (nts L')) → (∀ b, b ≠ p → H' b = H b) → Up (tl g) L' x (fun y => A y ∨ y = x) → (∀ y ∈ L', y ≤ (tl g).length) → Q .non H'
def sp_follows (K : PySem.W.Frag) : Sp := fun vs H Q _ => ∃ (g : Str) (a : Addr) (c : Nat) (ps : List Nat) (M : Nat → Prop), vs = [.str g, .ref a, .str (S [c])] ∧ SqT K H a (nts ps) ∧ Asd ps M ∧ closed (tl g) M ∧ within (tl g) M ∧ c ≠ 42 ∧ (tl g).length ≤ 10000 ∧
  ∀ (q : Addr) (qs : List Nat) (H' : Hp), Same H H' → H' q = some (.tup (nts qs)) → Asd qs (nxt (tl g) M c) → Q (.ref q) H'
def sp_standing (K : PySem.W.Frag) : Sp := fun vs H Q _ => ∃ (g b : Str), vs = [.str g, .str b] ∧ (∀ c ∈ tl b, c ≠ 42) ∧ (tl g).length ≤ 10000 ∧
  ∀ (q : Addr) (qs : List Nat) (H' : Hp), Same H H' → H' q = some (.tup (nts qs)) → Asd qs (stand (tl g) (tl b)) → Q (.ref q) H'
open Classical in
def sp_fits (K : PySem.W.Frag) : Sp := fun vs H Q _ => ∃ (g b : Str), vs = [.str g, .str b] ∧ (∀ c ∈ tl b, c ≠ 42) ∧ (tl g).length ≤ 10000 ∧
  ∀ (H' : Hp), Same H H' → Q (.bl (decide (stand (tl g) (tl b) (tl g).length))) H'
theorem inV_nts (n : Nat) (l : List Nat) : inV (V.int (n : Int)) (nts l) = decide (n ∈ l) := by
  unfold inV nts
  induction l with
  | nil => rfl
  | cons y ys ih =>
    rw [List.map_cons, List.any_cons, ih]
    by_cases e : n = y
    · subst e; simp [eqV]
    · have : ¬ (y : Int) = (n : Int) := fun h => e (by omega)
      simp [eqV, e, this]
theorem flat_nts (xs : List Nat) : (nts xs).all flatV = true := List.all_eq_true.mpr fun x h => by
  obtain ⟨y, _, rfl⟩ := List.mem_map.mp h; rfl
theorem DVs.nats {K : PySem.W.Frag} {H : Hp} (xs : List Nat) : DVs K H (xs.map fun k : Nat => D.int (k : Int)) (nts xs) := by
  have := DVs.ints (K := K) (H := H) (xs.map fun k : Nat => (k : Int))
  rwa [List.map_map, List.map_map] at this
theorem DV.nats {K : PySem.W.Frag} {H : Hp} {p : Addr} {xs : List Nat} (h : SqT K H p (nts xs)) : DV K H (.tup (xs.map fun k : Nat => D.int (k : Int))) (.ref p) := by
  unfold DV
  exact ⟨p, _, rfl, h, DVs.nats xs⟩
theorem DL.nats {n : Nat} (xs : List Nat) (h : xs.length ≤ 1000000) : DL (n + 2) (.tup (xs.map fun k : Nat => D.int (k : Int))) := ⟨by rw [List.length_map]; exact h, fun d m => by obtain ⟨x, _, rfl⟩ := List.mem_map.mp m; exact True.intro⟩
end Z
namespace Z
open PySem L2 SX
/-! ### patterns -/
def parts (p : List Nat) : List (List Nat) := TL.spl [44] 0 [] p
theorem spl_bound (c0 : Nat) : ∀ (l acc : List Nat), (∀ q ∈ TL.spl [c0] 0 acc l, q.length ≤ acc.length + l.length) ∧ (TL.spl [c0] 0 acc l).length ≤ l.length + 1
  | [], acc => by
    rw [TL.spl_nil]
    exact ⟨fun q h => by rw [List.mem_singleton.mp h]; exact Nat.le_refl _, Nat.le_refl _⟩
  | c :: r, acc => by
    cases h : TL.pre [c0] (c :: r) with
    | true =>
      rw [TL.spl_hit h]
      have ih := spl_bound c0 r []
      refine ⟨fun q hq => ?_, ?_⟩
      · rcases List.mem_cons.mp hq with e | e
        · subst e; omega
        · have := ih.1 q e; rw [List.length_nil] at this; rw [List.length_cons]; omega
      · have := ih.2; show (TL.spl [c0] 0 [] r).length + 1 ≤ r.length + 1 + 1; omega
    | false =>
      rw [TL.spl_miss h]
      have ih := spl_bound c0 r (acc ++ [c])
      refine ⟨fun q hq => ?_, ?_⟩
      · have := ih.1 q hq; rw [List.length_append] at this; rw [List.length_cons]; simp at this; omega
      · rw [List.length_cons]; have := ih.2; omega
theorem parts_len {p q : List Nat} (h : q ∈ parts p) : q.length ≤ p.length := by have := (spl_bound 44 p []).1 q h; rw [List.length_nil] at this; omega
theorem parts_num (p : List Nat) : (parts p).length ≤ p.length + 1 := (spl_bound 44 p []).2
/-- an item: its sign, its glob -/
def isBar (it : List Nat) : Bool := decide (it.take 1 = [33])
def globOf (it : List Nat) : List Nat := if isBar it = true then it.drop 1 else it
theorem globOf_len (it : List Nat) : (globOf it).length ≤ it.length := by
  unfold globOf; split
  · rw [List.length_drop]; omega
  · exact Nat.le_refl _
def fit (g b : List Nat) : Prop := stand g b g.length
open Classical in
noncomputable def letsL (its : List (List Nat)) (b : List Nat) : Bool := its.foldl (fun ans it => if fit (globOf it) b then !isBar it else ans) false
open Classical in
theorem lets_skip (b : List Nat) : ∀ (its : List (List Nat)) (v : Bool), (∀ it ∈ its, ¬ fit (globOf it) b) → its.foldl (fun ans it => if fit (globOf it) b then !isBar it else ans) v = v
  | [], _, _ => rfl
  | x :: r, v, h => by rw [List.foldl_cons, if_neg (h x (by simp))]; exact lets_skip b r v fun y hy => h y (List.mem_cons_of_mem _ hy)
theorem lets_last {its : List (List Nat)} {b : List Nat} {i : Nat} {it : List Nat} (h : its[i]? = some it) (hf : fit (globOf it) b) (hn : ∀ (j : Nat) (y : List Nat), i < j → its[j]? = some y → ¬ fit (globOf y) b) : letsL its b = !isBar it := by
  classical
  unfold letsL
  have e : its = its.take i ++ it :: its.drop (i + 1) := by
    obtain ⟨h1, h2⟩ := List.getElem?_eq_some_iff.mp h
    rw [← h2, List.getElem_cons_drop, List.take_append_drop]
  rw [e, List.foldl_append, List.foldl_cons, if_pos hf]
  refine lets_skip b _ _ fun y hy => ?_
  obtain ⟨j, hj, e2⟩ := List.getElem_of_mem hy
  refine hn (i + 1 + j) y (by omega) ?_
  have := List.getElem?_eq_getElem hj
  rw [List.getElem?_drop, e2] at this
  exact this
theorem lets_none {its : List (List Nat)} {b : List Nat} (hn : ∀ (j : Nat) (y : List Nat), its[j]? = some y → ¬ fit (globOf y) b) : letsL its b = false := by
  classical
  unfold letsL
  refine lets_skip b _ _ fun y hy => ?_
  obtain ⟨j, hj, e⟩ := List.getElem_of_mem hy
  exact hn j y (by rw [List.getElem?_eq_getElem hj, e])
def Clean (b : List Nat) : Prop := ∀ c ∈ b, c ≠ 42
theorem bar_starts (x : Str) : Txt.startswith x (Str.ofString "!") = isBar (tl x) := by
  have e := StrLaws.subAt_one x 33 0
  have e0 : ((tl x)[0]? = some 33) ↔ (tl x).take 1 = [33] := by
    cases tl x with
    | nil => simp
    | cons y r => simp
  unfold Txt.startswith isBar
  rw [Bool.eq_iff_iff, Bool.and_eq_true, decide_eq_true_iff, decide_eq_true_iff, ← e0]
  exact e
theorem bar_cut (x : Str) : decide (V.str (cutS x none (some 1)) = V.str (Str.ofString "!")) = isBar (tl x) := by
  unfold isBar
  rw [Bool.eq_iff_iff, decide_eq_true_iff, decide_eq_true_iff]
  have e : tl (cutS x none (some 1)) = (tl x).take 1 := cutS_to (by decide)
  constructor
  · intro h
    have h2 := congrArg tl (V.str.inj h)
    rw [e] at h2; exact h2
  · intro h
    exact congrArg V.str (tl_ext (by rw [e, h]; rfl))
/-- the law's places: those that lie ahead of a star, too -/
def Lax (g : List Nat) (N M : Nat → Prop) : Prop := ∀ y, M y ↔ (N y ∨ (g[y]? = some 42 ∧ N (y + 1)))
theorem lax_start (g : List Nat) : Lax g (st0 g) (st0 g) := fun y => ⟨.inl, fun h => h.elim id fun k => k.2.2⟩
/-- what the law puts in, ahead of its last loop -/
def lawA (g : List Nat) (M : Nat → Prop) (c : Nat) (y : Nat) : Prop := (M y ∧ g[y]? = some 42) ∨ ∃ i, y = i + 1 ∧ M i ∧ (g[i]? = some 63 ∨ g[i]? = some c)
def lawB (g : List Nat) (A : Nat → Prop) : Nat → Prop
  | 0 => A 0
  | i + 1 => A (i + 1) ∨ (lawB g A i ∧ g[i]? = some 42)
theorem lax_next {g : List Nat} {N M : Nat → Prop} {c : Nat} (hc : c ≠ 42) (cl : closed g N) (l : Lax g N M) : Lax g (nxt g N c) (lawB g (lawA g M c)) := by
  have ns : ∀ i : Nat, (g[i]? = some 63 ∨ g[i]? = some c) → g[i]? ≠ some 42 := fun i h e => by
    rcases h with h | h <;> rw [h] at e
    · cases e
    · exact hc (Option.some.inj e)
  have bA : ∀ y, lawA g M c y → lawB g (lawA g M c) y := fun y h => by
    cases y with
    | zero => exact h
    | succ i => exact .inl h
  have fA : ∀ y, lawA g M c y → nxt g N c y ∨ (g[y]? = some 42 ∧ nxt g N c (y + 1)) := fun y h => by
    rcases h with ⟨m, e⟩ | ⟨i, rfl, m, k⟩
    · refine .inr ⟨e, .inl ⟨e, .inr ?_⟩⟩
      rcases (l y).mp m with n | ⟨_, n⟩
      · exact cl y n e
      · exact n
    · refine .inl (.inr ⟨ns i k, ?_, k⟩)
      rcases (l i).mp m with n | ⟨q, _⟩
      · exact n
      · exact absurd q (ns i k)
  have back : ∀ y, nxt g N c y → lawB g (lawA g M c) y := fun y => by
    induction y with
    | zero => intro h; exact h.elim
    | succ i ih =>
      rintro (⟨e, h | h⟩ | ⟨_, n, k⟩)
      · exact .inr ⟨ih h, e⟩
      · exact .inr ⟨bA i (.inl ⟨(l i).mpr (.inr ⟨e, h⟩), e⟩), e⟩
      · exact .inl (.inr ⟨i, rfl, (l i).mpr (.inl n), k⟩)
  intro y
  constructor
  · induction y with
    | zero => intro h; exact fA 0 h
    | succ i ih =>
      rintro (h | ⟨h, e⟩)
      · exact fA _ h
      · rcases ih h with n | ⟨_, n⟩
        · exact .inl (.inl ⟨e, .inl n⟩)
        · exact .inl n
  · rintro (h | ⟨e, h⟩)
    · exact back y h
    · rcases h with ⟨_, h | h⟩ | ⟨q, _⟩
      · exact back y h
      · exact bA y (.inl ⟨(l y).mpr (.inr ⟨e, h⟩), e⟩)
      · exact absurd e q
/-! ### promises -/
def itemV (it : List Nat) : List V := [.int (if isBar it = true then 0 else 1), .str (S (globOf it))]
def sp_items_of (K : PySem.W.Frag) : Sp := fun vs H Q _ => ∃ (p : Str), vs = [.str p] ∧ (tl p).length ≤ 3000 ∧
  ∀ (q : Addr) (ts : List Addr) (H' : Hp), Same H H' → H' q = some (.tup (ts.map V.ref)) → ts.length = (parts (tl p)).length → (∀ (i : Nat) (t : Addr) (it : List Nat), ts[i]? = some t → (parts (tl p))[i]? = some it → H' t = some (.tup (itemV it))) → Q (.ref q) H'
def sp_lets (K : PySem.W.Frag) : Sp := fun vs H Q _ => ∃ (p b : Str), vs = [.str p, .str b] ∧ (tl p).length ≤ 3000 ∧ Clean (tl b) ∧ ∀ H', Same H H' → Q (.bl (letsL (parts (tl p)) (tl b))) H'
def sp_lets_one (K : PySem.W.Frag) : Sp := fun vs H Q _ => ∃ (p : Str) (a : Addr) (bs : List Str), vs = [.str p, .ref a] ∧ SqT K H a (bs.map V.str) ∧ (tl p).length ≤ 3000 ∧ bs.length ≤ 1000 ∧ (∀ b ∈ bs, Clean (tl b)) ∧ ∀ H', Same H H' → Q (.bl (bs.any fun b => letsL (parts (tl p)) (tl b))) H'
open Classical in
def sp__law_fits (K : PySem.W.Frag) : Sp := fun vs H Q _ => ∃ (g b : Str), vs = [.str g, .str b] ∧ Clean (tl b) ∧ (tl g).length ≤ 10000 ∧ ∀ (H' : Hp), Same H H' → Q (.bl (decide (fit (tl g) (tl b)))) H'
def sp__law_lets (K : PySem.W.Frag) : Sp := sp_lets K
def sp__law_lets_some (K : PySem.W.Frag) : Sp := sp_lets_one K
theorem split_bar (p : Str) : Txt.split p (Str.ofString ",") = (parts (tl p)).map S := split_S (a := tl p) (b := [44]) (by decide) (by decide)

/-! ### lists of truth values -/
def Bs (bs : List Bool) (n : Nat) (M : Nat → Prop) : Prop := bs.length = n + 1 ∧ ∀ y, bs[y]? = some true ↔ M y
theorem Bs.set {bs : List Bool} {n k : Nat} {M : Nat → Prop} (h : Bs bs n M) (hk : k ≤ n) : Bs (bs.set k true) n (fun y => M y ∨ y = k) := by
  refine ⟨by rw [List.length_set]; exact h.1, fun y => ?_⟩
  rw [List.getElem?_set]
  by_cases e : k = y
  · subst e
    rw [if_pos rfl, if_pos (by have := h.1; omega)]
    exact ⟨fun _ => .inr rfl, fun _ => rfl⟩
  · rw [if_neg e]
    exact ⟨fun q => .inl ((h.2 y).mp q), fun q => q.elim (h.2 y).mpr fun z => absurd z.symm e⟩
theorem Bs.congr {bs : List Bool} {n : Nat} {M N : Nat → Prop} (h : Bs bs n M) (e : ∀ y, M y ↔ N y) : Bs bs n N := ⟨h.1, fun y => (h.2 y).trans (e y)⟩
theorem Bs.get {bs : List Bool} {n k : Nat} {M : Nat → Prop} (h : Bs bs n M) (hk : k ≤ n) : ∃ b : Bool, bs[k]? = some b ∧ (b = true ↔ M k) := by
  have hl : k < bs.length := by have := h.1; omega
  refine ⟨bs[k], List.getElem?_eq_getElem hl, ?_⟩
  rw [← h.2 k, List.getElem?_eq_getElem hl]
  exact ⟨fun e => by rw [e], fun e => Option.some.inj e⟩
theorem atI_bl {bs : List Bool} {k : Nat} {b : Bool} {z : Int} (hz : z = (k : Int)) (h : bs[k]? = some b) : atI (bs.map V.bl) z = some (.bl b) := at_of hz (by rw [List.getElem?_map, h]; rfl)
theorem ixN_pos {n k : Nat} {z : Int} (hz : z = (k : Int)) (h : k < n) : ixN n z = some k := by
  subst hz
  unfold ixN
  rw [if_pos (by omega), if_pos (by omega)]; rfl
theorem map_set_bl (bs : List Bool) (k : Nat) : (bs.map V.bl).set k (.bl true) = (bs.set k true).map V.bl := by rw [List.map_set]
theorem bs_false (n : Nat) : Bs (List.replicate (n + 1) false) n (fun _ => False) := by
  refine ⟨List.length_replicate, fun y => ⟨fun h => ?_, fun h => h.elim⟩⟩
  rw [List.getElem?_replicate] at h
  split at h <;> cases h
theorem flatten_one (n : Nat) : (List.replicate n [V.bl false]).flatten = (List.replicate n false).map V.bl := by
  induction n with
  | zero => rfl
  | succ n ih => rw [List.replicate_succ, List.flatten_cons, ih, List.replicate_succ, List.map_cons]; rfl
end Z
namespace Z
open PySem L2 SX
def sp13 (f n : Nat) : Sp := fun vs H Q _ => ∃ (s a : Addr) (c : Nat), vs = [.ref s] ∧ Src H s a (c + f) ∧ ∀ (x : Str) (H' : Hp), (tl x).length ≤ n → Ext s H H' → Src H' s a c → Q (.str x) H'
def sp13_bent : Sp := fun vs H Q _ => ∃ (s a : Addr) (x : Str) (c : Nat), vs = [.ref s, .str x] ∧ (tl x).length ≤ 1000 ∧ Src H s a (c + 10) ∧ ∀ (y : Str) (H' : Hp), (tl y).length ≤ (tl x).length + 3 → Ext s H H' → Src H' s a c → Q (.str y) H'
theorem ext_free {H H1 : Hp} {s a u : Addr} {c : Nat} (x : Ext s H H1) (S : Src H1 s a c) (h : H1 u = none) : H u = none := by
  cases e : H u with
  | none => rfl
  | some o =>
    by_cases q : u = s
    · subst q
      obtain ⟨xs, e2⟩ := S.lst
      rw [h] at e2; cases e2
    · have := x _ _ q e
      rw [h] at this; cases this
theorem joinL_len {s : List Nat} {n : Nat} : ∀ {ls : List (List Nat)}, (∀ l ∈ ls, l.length ≤ n) → (TL.joinL s ls).length ≤ ls.length * (n + s.length)
  | [], _ => by simp [TL.joinL]
  | [x], h => by have := h x (by simp); show x.length ≤ 1 * (n + s.length); omega
  | x :: y :: r, h => by
    have ih := joinL_len (s := s) (ls := y :: r) (fun l m => h l (List.mem_cons_of_mem _ m))
    have := h x (by simp)
    show (x ++ (s ++ TL.joinL s (y :: r))).length ≤ ((y :: r).length + 1) * (n + s.length)
    rw [List.length_append, List.length_append, Nat.succ_mul]
    omega
theorem tl_joinS (s : Str) (xs : List Str) : tl (Txt.join s xs) = TL.joinL (tl s) (xs.map tl) := by
  have h := join_S (tl s) (xs.map tl)
  rw [tl_mapS] at h
  exact congrArg tl h
theorem sum_len {n : Nat} : ∀ {xs : List Str}, (∀ x ∈ xs, (tl x).length ≤ n) → (xs.map (·.length)).sum ≤ xs.length * n
  | [], _ => by simp
  | x :: xs, h => by
    have := h x (by simp)
    have ih := sum_len (n := n) (xs := xs) (fun y m => h y (List.mem_cons_of_mem _ m))
    rw [List.map_cons, List.sum_cons, List.length_cons, Nat.succ_mul, tl_len]; omega
theorem cut_le (x : Str) (i j : Option Int) : (tl (cutS x i j)).length ≤ (tl x).length := by
  show ((List.drop _ (tl x)).take _).length ≤ _
  rw [List.length_take, List.length_drop]; omega
theorem len_mem {n : Nat} {xs : List Str} {w : V} (h : ∀ x ∈ xs, (tl x).length ≤ n) (m : w ∈ xs.map V.str) : ∃ x, w = V.str x ∧ (tl x).length ≤ n := by
  obtain ⟨x, hx, rfl⟩ := List.mem_map.mp m
  exact ⟨x, rfl, h x hx⟩
end Z
namespace Z
open PySem L2 SX
/-! ### patterns: scanning and splitting -/
def okc (c : Nat) : Bool := decide (c ∈ tl (Str.ofString "abcdefghijklmnopqrstuvwxyz0123456789.*?"))
theorem okc_44 : okc 44 = false := by decide +kernel
theorem okc_33 : okc 33 = false := by decide +kernel
def step (a c : Nat) : Bool := (decide (c = 33) && decide (a = 44)) || (decide (c = 44) && (decide (a ≠ 44) && decide (a ≠ 33))) || okc c
/-- all signs may follow each other, behind a -/
def runs : Nat → List Nat → Bool
  | _, [] => true
  | a, c :: r => step a c && runs c r
def lastOf : Nat → List Nat → Nat
  | a, [] => a
  | _, c :: r => lastOf c r
def globP (it : List Nat) : List Nat := if decide (it.take 1 = [33]) = true then it.drop 1 else it
def goodItem (it : List Nat) : Bool := decide (globP it ≠ []) && (globP it).all okc
/-- an item so far: what stands behind its ! is of glob signs -/
def part1 (acc : List Nat) : Bool := (globP acc).all okc
theorem runs_app (a : Nat) (l m : List Nat) : runs a (l ++ m) = (runs a l && runs (lastOf a l) m) := by
  induction l generalizing a with
  | nil => simp [runs, lastOf]
  | cons c r ih => show (step a c && runs c (r ++ m)) = ((step a c && runs c r) && runs (lastOf c r) m); rw [ih, Bool.and_assoc]
theorem last_app (a c : Nat) (l : List Nat) : lastOf a (l ++ [c]) = c := by
  induction l generalizing a with
  | nil => rfl
  | cons d r ih => exact ih d
theorem globP_app {acc : List Nat} {c : Nat} (h : acc ≠ []) : globP (acc ++ [c]) = globP acc ++ [c] := by
  cases acc with
  | nil => exact absurd rfl h
  | cons d r =>
    unfold globP
    show (if decide ([d] = [33]) = true then r ++ [c] else d :: (r ++ [c])) = (if decide ([d] = [33]) = true then r else d :: r) ++ [c]
    split <;> rfl
/-- the last sign ahead, as the scan sees it: the accumulated item behind a comma -/
theorem good_last {acc : List Nat} (h : part1 acc = true) : goodItem acc = (decide (lastOf 44 acc ≠ 44) && decide (lastOf 44 acc ≠ 33)) := by
  rcases List.eq_nil_or_concat acc with e | ⟨l, c, e⟩
  · subst e; decide
  · rw [List.concat_eq_append] at e
    subst e
    rw [last_app]
    unfold goodItem
    rw [show (globP (l ++ [c])).all okc = true from h, Bool.and_true]
    by_cases hl : l = []
    · subst hl
      by_cases e33 : c = 33
      · subst e33; decide
      · have g : globP ([] ++ [c]) = [c] := by
          unfold globP
          rw [if_neg (by simp [e33])]; rfl
        have oc : okc c = true := by
          have h' : (globP ([] ++ [c])).all okc = true := h
          rw [g] at h'
          simpa using h'
        have e44 : c ≠ 44 := fun e => by rw [e, okc_44] at oc; cases oc
        rw [g, decide_eq_true (show [c] ≠ [] by simp), decide_eq_true e44, decide_eq_true e33]; rfl
    · have g := globP_app (c := c) hl
      have h' : (globP (l ++ [c])).all okc = true := h
      rw [g, List.all_append] at h'
      have oc : okc c = true := by
        have := (Bool.and_eq_true_iff.mp h').2
        simpa using this
      have e44 : c ≠ 44 := fun e => by rw [e, okc_44] at oc; cases oc
      have e33 : c ≠ 33 := fun e => by rw [e, okc_33] at oc; cases oc
      rw [g, decide_eq_true (show globP l ++ [c] ≠ [] by simp), decide_eq_true e44, decide_eq_true e33]; rfl
theorem part_step {acc : List Nat} {c : Nat} (h : part1 acc = true) (hc : c ≠ 44) : part1 (acc ++ [c]) = step (lastOf 44 acc) c := by
  unfold step
  rw [decide_eq_false hc, Bool.false_and, Bool.or_false]
  by_cases hl : acc = []
  · subst hl
    by_cases e33 : c = 33
    · subst e33; decide
    · have g : globP ([] ++ [c]) = [c] := by
        unfold globP
        rw [if_neg (by simp [e33])]; rfl
      unfold part1
      rw [g, decide_eq_false e33, Bool.false_and, Bool.false_or]
      simp
  · unfold part1
    rw [globP_app hl, List.all_append, show (globP acc).all okc = true from h]
    have l44 : lastOf 44 acc ≠ 44 := by
      rcases List.eq_nil_or_concat acc with e | ⟨l, d, e⟩
      · exact absurd e hl
      · rw [List.concat_eq_append] at e
        subst e
        rw [last_app]
        intro e
        subst e
        by_cases hl2 : l = []
        · subst hl2
          revert h; decide +kernel
        · have h' : (globP (l ++ [44])).all okc = true := h
          rw [globP_app hl2, List.all_append] at h'
          have := (Bool.and_eq_true_iff.mp h').2
          simp [okc_44] at this
    rw [decide_eq_false l44, Bool.and_false, Bool.false_or]
    simp
theorem bad_part (l : List Nat) : ∀ acc : List Nat, part1 acc = false → (TL.spl [44] 0 acc l).all goodItem = false := by
  induction l with
  | nil =>
    intro acc h
    rw [TL.spl_nil]
    show (goodItem acc && true) = false
    unfold goodItem
    rw [show (globP acc).all okc = false from h, Bool.and_false]; rfl
  | cons c r ih =>
    intro acc h
    by_cases hc : c = 44
    · subst hc
      rw [TL.spl_hit (show TL.pre [44] (44 :: r) = true by show ([44] == [44]) = true; rfl)]
      show (goodItem acc && _) = false
      unfold goodItem
      rw [show (globP acc).all okc = false from h, Bool.and_false, Bool.false_and]
    · rw [TL.spl_miss (show TL.pre [44] (c :: r) = false by show ([c] == [44]) = false; simp [hc])]
      refine ih _ ?_
      have hl : acc ≠ [] := fun e => by rw [e] at h; revert h; decide
      unfold part1
      rw [globP_app hl, List.all_append, show (globP acc).all okc = false from h, Bool.false_and]
theorem spl_good (l : List Nat) : ∀ acc : List Nat, part1 acc = true → (TL.spl [44] 0 acc l).all goodItem = (runs (lastOf 44 acc) l && (decide (lastOf (lastOf 44 acc) l ≠ 44) && decide (lastOf (lastOf 44 acc) l ≠ 33))) := by
  induction l with
  | nil =>
    intro acc h
    rw [TL.spl_nil]
    show (goodItem acc && true) = _
    rw [Bool.and_true, good_last h]; rfl
  | cons c r ih =>
    intro acc h
    by_cases hc : c = 44
    · subst hc
      rw [TL.spl_hit (show TL.pre [44] (44 :: r) = true by show ([44] == [44]) = true; rfl)]
      show (goodItem acc && (TL.spl [44] 0 [] r).all goodItem) = ((step (lastOf 44 acc) 44 && runs 44 r) && _)
      rw [ih [] (by decide), good_last h]
      have : step (lastOf 44 acc) 44 = (decide (lastOf 44 acc ≠ 44) && decide (lastOf 44 acc ≠ 33)) := by
        unfold step
        rw [okc_44]; simp
      rw [this]
      show (_ && (runs 44 r && (decide (lastOf 44 r ≠ 44) && decide (lastOf 44 r ≠ 33)))) = _
      rw [show lastOf (lastOf 44 acc) (44 :: r) = lastOf 44 r from rfl]
      simp only [Bool.and_assoc]
    · rw [TL.spl_miss (show TL.pre [44] (c :: r) = false by show ([c] == [44]) = false; simp [hc])]
      by_cases hs : step (lastOf 44 acc) c = true
      · rw [ih (acc ++ [c]) (by rw [part_step h hc]; exact hs), last_app]
        show _ = ((step (lastOf 44 acc) c && runs c r) && _)
        rw [hs, Bool.true_and]; rfl
      · have hs' : step (lastOf 44 acc) c = false := Bool.eq_false_iff.mpr hs
        show _ = ((step (lastOf 44 acc) c && runs c r) && _)
        rw [hs', Bool.false_and, Bool.false_and]
        have np : part1 (acc ++ [c]) = false := by rw [part_step h hc]; exact hs'
        exact bad_part r _ np
theorem spl_count (l : List Nat) : ∀ acc : List Nat, (TL.spl [44] 0 acc l).length = l.count 44 + 1 := by
  induction l with
  | nil => intro acc; rw [TL.spl_nil]; rfl
  | cons c r ih =>
    intro acc
    by_cases hc : c = 44
    · subst hc
      rw [TL.spl_hit (show TL.pre [44] (44 :: r) = true by show ([44] == [44]) = true; rfl), List.count_cons_self]
      show (TL.spl [44] 0 [] r).length + 1 = _
      rw [ih]
    · rw [TL.spl_miss (show TL.pre [44] (c :: r) = false by show ([c] == [44]) = false; simp [hc]), ih, List.count_cons_of_ne hc]
/-- a pattern, as the law splits it -/
def isPat (l : List Nat) : Bool := decide (l.length ≤ 60) && (decide ((TL.spl [44] 0 [] l).length ≤ 8) && (TL.spl [44] 0 [] l).all goodItem)
def endOk (a : Nat) : Bool := decide (a ≠ 44) && decide (a ≠ 33)
theorem isPat_eq (l : List Nat) : isPat l = (decide (l.length ≤ 60) && (decide (l.count 44 ≤ 7) && (runs 44 l && endOk (lastOf 44 l)))) := by
  unfold isPat endOk
  rw [spl_good l [] (by decide), spl_count]
  rw [show decide (l.count 44 + 1 ≤ 8) = decide (l.count 44 ≤ 7) by rw [decide_eq_decide]; omega]
  rfl
/-- the beginning of some pattern, as the law asks it -/
def isBeg (l : List Nat) : Bool := isPat l || isPat (l ++ [97])
theorem isBeg_eq (l : List Nat) : isBeg l = (runs 44 l && (decide (l.count 44 ≤ 7) && (decide (l.length ≤ 59) || (decide (l.length ≤ 60) && endOk (lastOf 44 l))))) := by
  unfold isBeg
  rw [isPat_eq, isPat_eq, runs_app, last_app, List.length_append, List.count_append]
  rw [show runs (lastOf 44 l) [97] = true by show (step _ 97 && true) = true; unfold step; rw [show okc 97 = true by decide +kernel]; simp, show endOk 97 = true by decide]
  rw [show List.count 44 [97] = 0 by decide, Nat.add_zero, Bool.and_true, Bool.and_true]
  rw [show decide (l.length + [97].length ≤ 60) = decide (l.length ≤ 59) by rw [decide_eq_decide]; show l.length + 1 ≤ 60 ↔ _; omega]
  cases runs 44 l <;> cases decide (l.count 44 ≤ 7) <;> cases decide (l.length ≤ 59) <;> cases decide (l.length ≤ 60) <;> cases endOk (lastOf 44 l) <;> rfl
/-- a sign behind a, behind k commas, at the place n -/
def may (c a k n : Nat) : Bool := if c = 33 then decide (a = 44) && decide (n < 59) else if c = 44 then (decide (a ≠ 44) && decide (a ≠ 33)) && (decide (k < 7) && decide (n < 59)) else okc c && decide (n < 60)
theorem isBeg_snoc (l : List Nat) (c : Nat) : isBeg (l ++ [c]) = (isBeg l && may c (lastOf 44 l) (l.count 44) l.length) := by
  rw [isBeg_eq, isBeg_eq, runs_app, last_app, List.length_append, List.count_append]
  show ((runs 44 l && (step (lastOf 44 l) c && true)) && (decide (l.count 44 + List.count 44 [c] ≤ 7) && (decide (l.length + 1 ≤ 59) || (decide (l.length + 1 ≤ 60) && endOk c)))) = _
  unfold may step
  by_cases h33 : c = 33
  · subst h33
    rw [if_pos rfl, show List.count 44 [33] = 0 by decide, okc_33, show endOk 33 = false by decide, decide_eq_true (rfl : (33 : Nat) = 33), decide_eq_false (show ¬ (33 : Nat) = 44 by decide)]
    by_cases hn : l.length < 59
    · rw [decide_eq_true (show l.length + 1 ≤ 59 by omega), decide_eq_true (show l.length ≤ 59 by omega), decide_eq_true hn]
      cases runs 44 l <;> cases decide (lastOf 44 l = 44) <;> cases decide (l.count 44 ≤ 7) <;> simp
    · rw [decide_eq_false (show ¬ l.length + 1 ≤ 59 by omega), decide_eq_false hn]
      simp
  · rw [if_neg h33]
    by_cases h44 : c = 44
    · subst h44
      rw [if_pos rfl, show List.count 44 [44] = 1 by decide, okc_44, show endOk 44 = false by decide, decide_eq_true (rfl : (44 : Nat) = 44), decide_eq_false h33]
      rw [show decide (l.count 44 + 1 ≤ 7) = decide (l.count 44 < 7) by rw [decide_eq_decide]; omega]
      by_cases hn : l.length < 59
      · rw [decide_eq_true (show l.length + 1 ≤ 59 by omega), decide_eq_true (show l.length ≤ 59 by omega), decide_eq_true hn]
        by_cases hk : l.count 44 < 7
        · rw [decide_eq_true hk, decide_eq_true (show l.count 44 ≤ 7 by omega)]; simp
        · rw [decide_eq_false hk]; simp
      · rw [decide_eq_false (show ¬ l.length + 1 ≤ 59 by omega), decide_eq_false hn]
        simp
    · rw [if_neg h44, show List.count 44 [c] = 0 by rw [List.count_cons_of_ne h44]; rfl, decide_eq_false h33, decide_eq_false h44, Nat.add_zero]
      have : endOk c = true := by unfold endOk; rw [decide_eq_true h44, decide_eq_true h33]; rfl
      rw [this]
      by_cases hn : l.length < 60
      · rw [decide_eq_true (show l.length + 1 ≤ 60 by omega), decide_eq_true (show l.length ≤ 59 by omega), decide_eq_true hn]
        cases runs 44 l <;> cases okc c <;> cases decide (l.count 44 ≤ 7) <;> simp
      · rw [decide_eq_false (show ¬ l.length + 1 ≤ 59 by omega), decide_eq_false (show ¬ l.length + 1 ≤ 60 by omega), decide_eq_false hn]
        simp
theorem isPat_of_beg {l : List Nat} (h : isBeg l = true) : isPat l = endOk (lastOf 44 l) := by
  rw [isPat_eq]
  rw [isBeg_eq] at h
  simp only [Bool.and_eq_true, Bool.or_eq_true] at h
  obtain ⟨h1, h2, h3⟩ := h
  rw [h1, h2]
  have : l.length ≤ 60 := by rcases h3 with h | h
                             · have := of_decide_eq_true h; omega
                             · exact of_decide_eq_true h.1
  rw [decide_eq_true this]; rfl
theorem eqL {x y : Str} : V.str x = V.str y ↔ tl x = tl y := ⟨fun h => by injection h with h; rw [h], fun h => by rw [tl_ext h]⟩
theorem split_comma (x : Str) : Txt.split x (Str.ofString ",") = (TL.spl [44] 0 [] (tl x)).map S := split_S (a := tl x) (b := [44]) (by decide) (by decide)
def sp_isPat : Sp := fun vs H Q _ => ∃ (x : Str), vs = [.str x] ∧ (tl x).length ≤ 2000 ∧ ∀ H', Same H H' → Q (.bl (isPat (tl x))) H'
def sp_may_stand : Sp := fun vs H Q _ => ∃ (c a k n : Nat), vs = [.str (S [c]), .str (S [a]), .int (k : Int), .int (n : Int)] ∧ Q (.bl (may c a k n)) H
/-- where a text is wrong -/
def wrongAt (l : List Nat) (o : Option Nat) : Prop := match o with
  | some k => (∀ j, j < k → j < l.length → isBeg (l.take (j + 1)) = true) ∧ ((k < l.length ∧ isBeg (l.take (k + 1)) = false) ∨ (k = l.length ∧ isPat l = false))
  | none => (∀ j, j < l.length → isBeg (l.take (j + 1)) = true) ∧ isPat l = true
theorem wrongAt_one {l : List Nat} {o p : Option Nat} (x : wrongAt l o) (y : wrongAt l p) : o = p := by
  have key : ∀ (k m : Nat), wrongAt l (some k) → wrongAt l (some m) → ¬ k < m := fun k m x y h => by
    obtain ⟨_, x2⟩ := x
    obtain ⟨y1, y2⟩ := y
    have ml : m ≤ l.length := by rcases y2 with h | h <;> omega
    rcases x2 with x2 | x2
    · have := y1 k h x2.1
      rw [x2.2] at this; cases this
    · omega
  have mix : ∀ k : Nat, wrongAt l (some k) → wrongAt l none → False := fun k x y => by
    obtain ⟨_, x2⟩ := x
    obtain ⟨y1, y2⟩ := y
    rcases x2 with x2 | x2
    · have := y1 k x2.1
      rw [x2.2] at this; cases this
    · rw [x2.2] at y2; cases y2
  cases o with
  | none => cases p with
    | none => rfl
    | some m => exact (mix m y x).elim
  | some k => cases p with
    | none => exact (mix k x y).elim
    | some m =>
      have h1 := key k m x y
      have h2 := key m k y x
      rw [show k = m by omega]
def optV : Option Nat → V
  | none => .non
  | some k => .int (k : Int)
def sp_wrong_place : Sp := fun vs H Q _ => ∃ (x : Str), vs = [.str x] ∧ (tl x).length ≤ 2000 ∧ ∀ o H', wrongAt (tl x) o → Same H H' → Q (optV o) H'
def sgnI (it : List Nat) : Int := if decide (it.take 1 = [33]) = true then 0 else 1
def itemP (it : List Nat) : List V := [.int (sgnI it), .str (S (globP it))]
def itemD (it : List Nat) : D := .tup [.int (sgnI it), .str (S (globP it))]
def sp_sign_and_glob : Sp := fun vs H Q _ => ∃ (x : Str), vs = [.str x] ∧ (tl x).length ≤ 2000 ∧ ∀ (t : Addr), H t = none → Q (.ref t) (upd H t (.tup (itemP (tl x))))
def dueD (l : List Nat) : Option Nat → D
  | some k => .tup [.str (Str.ofString "bad"), .int (k : Int)]
  | none => .tup [.str (Str.ofString "read"), .tup ((TL.spl [44] 0 [] l).map itemD)]
def sp_due (K : PySem.W.Frag) : Sp := fun vs H Q _ => ∃ (x : Str), vs = [.str x] ∧ (tl x).length ≤ 1000 ∧ ∀ o v H', wrongAt (tl x) o → DV K H' (dueD (tl x) o) v → Same H H' → Q v H'
theorem DVs.items {K : PySem.W.Frag} {H : Hp} : ∀ {its : List (List Nat)} {ts : List Addr}, ts.length = its.length → (∀ (k : Nat) (t : Addr) (it : List Nat), ts[k]? = some t → its[k]? = some it → H t = some (.tup (itemP it))) → DVs K H (its.map itemD) (ts.map V.ref)
  | [], [], _, _ => by unfold DVs; rfl
  | [], _ :: _, h, _ => by simp at h
  | _ :: _, [], h, _ => by simp at h
  | it :: its, t :: ts, h, f => by
    refine ⟨.ref t, ts.map V.ref, rfl, ?_, DVs.items (by simpa using h) fun k t' it' h1 h2 => f (k + 1) t' it' (by simpa using h1) (by simpa using h2)⟩
    exact ⟨t, _, rfl, SqT.of (f 0 t it rfl rfl), _, _, rfl, by unfold DV; rfl, _, _, rfl, by unfold DV; rfl, rfl⟩
def sp_write_pattern (K : PySem.W.Frag) : Sp := fun vs H Q _ => ∃ (a : Addr) (ts : List Addr) (its : List (List Nat)), vs = [.ref a] ∧ SqT K H a (ts.map V.ref) ∧ ts.length = its.length ∧ its.length ≤ 100 ∧ (∀ it ∈ its, it.length ≤ 1000) ∧ (∀ (k : Nat) (t : Addr) (it : List Nat), ts[k]? = some t → its[k]? = some it → SqT K H t (itemP it)) ∧
  ∀ (y : Str) (H' : Hp), tl y = TL.joinL [44] its → Same H H' → Q (.str y) H'
theorem join_spl (l : List Nat) : ∀ acc : List Nat, TL.joinL [44] (TL.spl [44] 0 acc l) = acc ++ l := by
  induction l with
  | nil => intro acc; rw [TL.spl_nil, List.append_nil]; rfl
  | cons c r ih =>
    intro acc
    by_cases hc : c = 44
    · subst hc
      rw [TL.spl_hit (show TL.pre [44] (44 :: r) = true by show ([44] == [44]) = true; rfl)]
      have e := ih []
      have ne : TL.spl [44] 0 [] r ≠ [] := fun h => by
        have := spl_count r []
        rw [h] at this; cases this
      show TL.joinL [44] (acc :: TL.spl [44] 0 [] r) = _
      cases hs : TL.spl [44] 0 [] r with
      | nil => exact absurd hs ne
      | cons y ys =>
        show acc ++ ([44] ++ TL.joinL [44] (y :: ys)) = _
        rw [← hs, e]; rfl
    · rw [TL.spl_miss (show TL.pre [44] (c :: r) = false by show ([c] == [44]) = false; simp [hc]), ih, List.append_assoc]; rfl
theorem DVs.items_inv {K : PySem.W.Frag} {H : Hp} : ∀ {its : List (List Nat)} {vs : List V}, DVs K H (its.map itemD) vs → ∃ ts : List Addr, vs = ts.map V.ref ∧ ts.length = its.length ∧ ∀ (k : Nat) (t : Addr) (it : List Nat), ts[k]? = some t → its[k]? = some it → SqT K H t (itemP it)
  | [], vs, h => by unfold DVs at h; subst h; exact ⟨[], rfl, rfl, fun k t it h1 h2 => by simp at h1⟩
  | it :: its, vs, h => by
    obtain ⟨v, r, rfl, h1, h2⟩ := h
    obtain ⟨ts, rfl, hl, hk⟩ := DVs.items_inv h2
    unfold itemD DV at h1
    obtain ⟨a, xs, rfl, hS, h3⟩ := h1
    obtain ⟨v1, r1, rfl, e1, h4⟩ := h3
    obtain ⟨v2, r2, rfl, e2, h5⟩ := h4
    unfold DV at e1 e2
    unfold DVs at h5
    subst e1 e2 h5
    refine ⟨a :: ts, rfl, by rw [List.length_cons, hl, List.length_cons], fun k t it' g1 g2 => ?_⟩
    cases k with
    | zero =>
      have ea : a = t := Option.some.inj g1
      have ei : it = it' := Option.some.inj g2
      subst ea ei
      exact hS
    | succ k => exact hk k t it' (by simpa using g1) (by simpa using g2)
def sp_read_pattern (K : PySem.W.Frag) (C : Addr) : Sp := fun vs H Q E => ∃ (x : Str), vs = [.str x] ∧ (tl x).length ≤ 1000 ∧
  (∀ (u : Addr) (ts : List Addr) (H1 : Hp), wrongAt (tl x) none → Same H H1 → H1 u = some (.tup (ts.map V.ref)) → ts.length = (TL.spl [44] 0 [] (tl x)).length → (∀ (i : Nat) (t : Addr) (it : List Nat), ts[i]? = some t → (TL.spl [44] 0 [] (tl x))[i]? = some it → H1 t = some (.tup (itemP it))) → Q (.ref u) H1) ∧
  (∀ (k : Nat) (dd : Addr) (H1 : Hp), wrongAt (tl x) (some k) → Same H H1 → H1 dd = some (.xd [("at", .int (k : Int))]) → E (.ref C) (some dd) H1)
end Z
namespace Z
open PySem PySem.Spec PyProof.Rows L2 SX
/-! ### name = text[..]; text = text.replace(name, ''): the token of the name is known -/
theorem nsSet_det {M : Model} {Γ : PySem.Ctx} {E : Value → Pos → Shared → Prop} {p : Pos} {s : Shared} {a : Addr} {m : Str → Option Value} (hn : s.heap.Ns a m) (name : Str) (v : Value) :
    ∃ h', h'.Ns a (fun x => if x = name then some v else m x) ∧ ∀ Q, Sem.wp M Γ (nsSet a name v) Q E p s ↔ Q () p { s with heap := h', toks := s.toks + 1 } := by
  have key : ∃ h', ∀ Q, Sem.wp M Γ (nsSet a name v) Q E p s ↔ Q () p { s with heap := h', toks := s.toks + 1 } := by
    obtain ⟨o, es, ep, ho, hd, hk, hm⟩ := hn
    have hany : es.any (·.refKey) = false := by
      rw [Array.any_eq_false']
      intro e he
      obtain ⟨n, t, h⟩ := hk e he
      simp [DictEntry.refKey, h]
    apply Exists.intro
    intro Q
    simp only [nsSet, strHash, Sem.wp_bind', Sem.wp_cmd_ask, Sem.wp_pure', Sem.wp_cmd_mkText]
    rw [Sem.wp_loadPart_of M Γ E p { s with toks := s.toks + 1 } (o := o) _ ho]
    simp only [hd, aRefKeyMayBeTheName_eq, aRefKeyMayBeTheNameByArray, hany, Bool.and_false, Bool.false_eq_true, if_false, Sem.wp_cmd_updatePart]
    exact ⟨fun h => h.2, fun h => ⟨by rw [ho]; rfl, h⟩⟩
  obtain ⟨h', hq⟩ := key
  refine ⟨h', ?_, hq⟩
  have := (hq _).mp (Sem.wp_nsSet M Γ E p s hn name v (fun _ _ s' => ∃ h2 : Heap, h2.Ns a (fun x => if x = name then some v else m x) ∧ s' = { s with heap := h2, toks := s.toks + 1 }) (fun h2 a1 _ => ⟨h2, a1, rfl⟩))
  obtain ⟨h2, a1, e⟩ := this
  have e2 : h' = h2 := congrArg Shared.heap e
  rw [e2]; exact a1
theorem store_det {M : Model} {A : Around} {E : Value → Shared → Prop} {s : Shared} {env : Env} {name : Str} {m : Str → Option Value} {v : Value} {Q : Unit → Shared → Prop} (hl : env.kindOf name = some .local) (hn : s.heap.Ns env.locals m)
    (hp : (env.scope.kind == .class || (env.scope.kind == .module && env.locals != env.globals)) = false) (h : wpAny M A (storeName env name v) Q E s) :
    wpAny M A (storeName env name v) (fun u s' => Q u s' ∧ s'.heap.Ns env.locals (fun x => if x = name then some v else m x) ∧ s'.toks = s.toks + 1) E s := by
  rw [storeName_local hl hp] at h ⊢
  intro Γ p hΓ
  obtain ⟨h', a1, hq⟩ := nsSet_det (M := M) (Γ := Γ) (E := fun e _ s' => E e s') (p := p) hn name v
  have h1 := (hq _).mp (h Γ p hΓ)
  exact (hq _).mpr ⟨h1, a1, rfl⟩
section
variable {X : Cx}
def tRepS (l o : Nat) (tb : TE) (u : TS) : TS := fun D σ H => ∃ z : Str, σ[l]? = some (some (.str z)) ∧ tb σ H fun y H1 => ∃ (i : Int) (c : Nat), y = .int i ∧ 0 ≤ i ∧ i < 2 ^ 63 ∧ i < z.length ∧ z.cps[i.toNat]? = some c ∧ z.length ≤ 1000000 ∧
  u D ((σ.set o (some (.str ⟨#[c]⟩))).set l (some (.str (Txt.replace z ⟨#[c]⟩ (Str.ofString ""))))) H1
theorem psst_rep {l o j : Nat} {nl no : Str} {eb : Expr} {rest : List Stmt} {tb : TE} {u : TS} {p1 p2 p3 p4 p5 p6 p7 p8 c1 ap pos : Pos} (hN : X.N.Nodup) (hl : X.N[l]? = some nl) (ho : X.N[o]? = some no) (hlo : o ≠ l)
    (kl : X.env.scope.names.lookup nl = some .local) (ko : X.env.scope.names.lookup no = some .local) (hb : PE X eb tb) (hs : PlainIxT eb) (h2 : PSsT X rest u)
    (hs1 : swapsWith (.Subscript (.Name nl p2) eb p3) (some (.Name no p1)) p4.line X.env = pure false := by rfl)
    (hs2 : swapsWith (.Call (.Attribute (.Name nl p6) "replace" ap) [.Name no p7, .Constant (.str (Str.ofString "")) j c1] [] pos) (some (.Name nl p5)) p8.line X.env = pure false := by rfl)
    (hst : starEach [.Name no p7, .Constant (.str (Str.ofString "")) j c1] X.env = [(false, eval (.Name no p7) X.env), (false, eval (.Constant (.str (Str.ofString "")) j c1) X.env)] := by rfl)
    (hbase : attributeBase (.Name nl p6) "replace" X.env (eval (.Name nl p6) X.env) = eval (.Name nl p6) X.env := by rfl) (hline : (ap.endLine == pos.line) = true := by rfl)
    (hd : (nl == ("__debug__" : Str)) = false := by decide) (hc : (nl == ("__classdict__" : Str)) = false := by decide) (hd' : (no == ("__debug__" : Str)) = false := by decide) :
    PSsT X (.Assign [.Name no p1] (.Subscript (.Name nl p2) eb p3) p4 :: .Assign [.Name nl p5] (.Call (.Attribute (.Name nl p6) "replace" ap) [.Name no p7, .Constant (.str (Str.ofString "")) j c1] [] pos) p8 :: rest) (tRepS l o tb u) := by
  intro pins s σ H D h0 I h
  obtain ⟨z, hz, h⟩ := h
  refine wpAny_execs_cons (wpAny_Assign_Name (Subscript_ (raw_name hl (.inl kl) I hz (fun uz rz => ?_) hd hc)) hs1)
  obtain ⟨tz, rfl⟩ := rz
  refine wpAny_mono (PySem.wpAny_toks (hb.run pins s σ H _ I h)) (fun ub s2 q => ?_) (fun _ _ x => x.2)
  obtain ⟨hk, y, H1, I2, ry, i, c, rfl, i0, i63, il, hcc, hzl, q⟩ := q
  obtain ⟨ti, rfl⟩ := ry
  have e := PySem.StrLaws.seqIndex_nonneg i0 il
  have n0 : s2.toks ≠ 0 := by omega
  refine tail_any (typeIs_str s2 z tz) slot_str_getitem.lookup (getItem_str (c := c) (by
    have e1 : decide (i < -(2 ^ 63 : Int)) = false := decide_eq_false (by omega)
    have e2 : decide (i ≥ 2 ^ 63) = false := decide_eq_false (by omega)
    rw [e1, e2] <;> rfl) (by rw [e]; exact hcc) ?_) (hs _ _)
  have I2' := I2.tok (s2.toks + 1)
  obtain ⟨m, hn, _⟩ := id I2'.loc
  have hp : (X.env.scope.kind == .class || (X.env.scope.kind == .module && X.env.locals != X.env.globals)) = false := by rw [I2.ok.kind]; rfl
  have st := store_ok (M := model X.prog X.w) (A := X.A) (E := X.xe) (v := V.str ⟨#[c]⟩) (u := Value.str ⟨#[c]⟩ s2.toks) (Q := fun _ s' => Inv X pins (σ.set o (some (V.str ⟨#[c]⟩))) H1 s') I2' hN ho (.inl ko) ⟨_, rfl⟩ (fun s' I' => I') (.inr ko)
  refine wpAny_mono (store_det ko hn hp st) (fun _ s3 q3 => ?_) (fun _ _ x => x)
  obtain ⟨I3, hn3, ht3⟩ := q3
  have ht3' : s3.toks = s2.toks + 1 + 1 := ht3
  have hz3 : (σ.set o (some (V.str ⟨#[c]⟩)))[l]? = some (some (.str z)) := by rw [List.getElem?_set_ne hlo]; exact hz
  have B : wpAny (model X.prog X.w) X.A (exec (.Assign [.Name nl p5] (.Call (.Attribute (.Name nl p6) "replace" ap) [.Name no p7, .Constant (.str (Str.ofString "")) j c1] [] pos) p8) X.env) (fun f s4 => f = .next ∧ Inv X pins ((σ.set o (some (V.str ⟨#[c]⟩))).set l (some (.str (Txt.replace z ⟨#[c]⟩ (Str.ofString ""))))) H1 s4) X.xe s3 := by
    refine wpAny_Assign_Name (PySem.Call_method2 hbase hst hline (raw_name hl (.inl kl) I3 hz3 (fun uz2 rz2 => ?_) hd hc)) hs2
    obtain ⟨tz2, rfl⟩ := rz2
    refine ⟨"str", _, PySem.F.plainAttrs_str, PySem.F.slot_str_replace, PySem.F.type_str_replace, typeIs_str _ _ _, (fun _ e => nomatch e), Calls.callWith_builtin rfl (Calls.evalArgs_plain (Calls.spliced_cons ?_))⟩
    refine wpAny_Name (wpAny_loadName_local I3.ok.kind ko hn3 (if_pos rfl) ?_) hd'
    refine Calls.spliced_cons (Calls.Constant_str (Calls.spliced_nil ?_))
    have n1 : s3.toks ≠ 0 := by omega
    have n2 : s2.toks ≠ s3.toks := by omega
    refine PySem.SC.replace (u := s2.toks) (v := s3.toks) n0 n1 n2 ?_ ?_ fun t' k => ?_
    · rfl
    · show z.length + (z.length + 1) * 0 ≤ _; omega
    exact store_ok (v := V.str (Txt.replace z ⟨#[c]⟩ (Str.ofString ""))) (u := Value.str (Txt.replace z ⟨#[c]⟩ (Str.ofString "")) t') (I3.tok k) hN hl (.inl kl) ⟨_, rfl⟩ (fun s' I' => ⟨rfl, I'⟩) (.inr kl)
  refine wpAny_execs_cons (wpAny_mono (PySem.wpAny_toks B) (fun f s4 q4 => ?_) (fun _ _ x => x.2))
  obtain ⟨hk4, rfl, I4⟩ := q4
  exact h2 pins s4 _ H1 D (by omega) I4 q
end
end Z
namespace Z
open PySem L2 SX
/-! ### items that are joined, and split again -/
theorem spl_no {it : List Nat} : (44 ∉ it) → ∀ acc : List Nat, TL.spl [44] 0 acc it = [acc ++ it] := by
  induction it with
  | nil => intro _ acc; rw [TL.spl_nil, List.append_nil]
  | cons c r ih =>
    intro h acc
    have hc : c ≠ 44 := fun e => h (by rw [e]; exact List.mem_cons_self)
    rw [TL.spl_miss (show TL.pre [44] (c :: r) = false by show ([c] == [44]) = false; simp [hc]), ih (fun m => h (List.mem_cons_of_mem _ m)), List.append_assoc]; rfl
theorem spl_cut {it m : List Nat} : (44 ∉ it) → ∀ acc : List Nat, TL.spl [44] 0 acc (it ++ 44 :: m) = (acc ++ it) :: TL.spl [44] 0 [] m := by
  induction it with
  | nil =>
    intro _ acc
    rw [List.nil_append, TL.spl_hit (show TL.pre [44] (44 :: m) = true by show ([44] == [44]) = true; rfl), List.append_nil]; rfl
  | cons c r ih =>
    intro h acc
    have hc : c ≠ 44 := fun e => h (by rw [e]; exact List.mem_cons_self)
    show TL.spl [44] 0 acc (c :: (r ++ 44 :: m)) = _
    rw [TL.spl_miss (show TL.pre [44] (c :: (r ++ 44 :: m)) = false by show ([c] == [44]) = false; simp [hc]), ih (fun m => h (List.mem_cons_of_mem _ m)), List.append_assoc]; rfl
theorem spl_join : ∀ {its : List (List Nat)}, its ≠ [] → (∀ it ∈ its, 44 ∉ it) → TL.spl [44] 0 [] (TL.joinL [44] its) = its
  | [], h, _ => absurd rfl h
  | [x], _, h => by
    show TL.spl [44] 0 [] x = [x]
    rw [spl_no (h x (by simp))]; rfl
  | x :: y :: r, _, h => by
    show TL.spl [44] 0 [] (x ++ ([44] ++ TL.joinL [44] (y :: r))) = _
    rw [show x ++ ([44] ++ TL.joinL [44] (y :: r)) = x ++ 44 :: TL.joinL [44] (y :: r) from rfl, spl_cut (h x (by simp)), spl_join (by simp) (fun z m => h z (List.mem_cons_of_mem _ m))]; rfl
/-- a text whose items are right -/
def GP (l : List Nat) : Prop := (TL.spl [44] 0 [] l).all goodItem = true
def okG (l : List Nat) : Prop := l ≠ [] ∧ ∀ c ∈ l, okc c = true
theorem good_no {it : List Nat} (h : goodItem it = true) : 44 ∉ it := fun m => by
  unfold goodItem at h
  have h2 := List.all_eq_true.mp (Bool.and_eq_true_iff.mp h).2
  unfold globP at h2
  by_cases e : it.take 1 = [33]
  · rw [if_pos (decide_eq_true e)] at h2
    cases it with
    | nil => cases m
    | cons c r =>
      have : c = 33 := by simpa using e
      subst this
      rcases List.mem_cons.mp m with q | q
      · cases q
      · have := h2 44 q; rw [okc_44] at this; cases this
  · rw [if_neg (fun q => e (of_decide_eq_true q))] at h2
    have := h2 44 m; rw [okc_44] at this; cases this
theorem okG.no33 {g : List Nat} (h : okG g) : ¬ g.take 1 = [33] := fun e => by
  cases g with
  | nil => exact h.1 rfl
  | cons c r =>
    have : c = 33 := by simpa using e
    subst this
    have := h.2 33 (by simp); rw [okc_33] at this; cases this
theorem good_glob {g : List Nat} (h : okG g) : goodItem g = true ∧ goodItem (33 :: g) = true := by
  have ha : g.all okc = true := List.all_eq_true.mpr h.2
  constructor
  · unfold goodItem globP
    rw [if_neg (fun q => h.no33 (of_decide_eq_true q)), ha, decide_eq_true h.1]; rfl
  · have e : globP (33 :: g) = g := by unfold globP; rw [if_pos (decide_eq_true (by simp))]; rfl
    unfold goodItem
    rw [e, ha, decide_eq_true h.1]; rfl
theorem GP.join {its : List (List Nat)} (ne : its ≠ []) (h : ∀ it ∈ its, goodItem it = true) : GP (TL.joinL [44] its) := by
  unfold GP
  rw [spl_join ne fun it m => good_no (h it m)]
  exact List.all_eq_true.mpr h
theorem lastOf_app (m : List Nat) : ∀ (l : List Nat) (a : Nat), lastOf a (l ++ m) = lastOf (lastOf a l) m
  | [], _ => rfl
  | c :: r, _ => lastOf_app m r c
theorem runs_ok {m : List Nat} : ∀ a : Nat, (∀ c ∈ m, okc c = true) → runs a m = true := by
  induction m with
  | nil => intro a _; rfl
  | cons c r ih =>
    intro a h
    show (step a c && runs c r) = true
    rw [ih c (fun d hd => h d (List.mem_cons_of_mem _ hd))]
    unfold step
    rw [h c (by simp)]; simp
theorem last_ok {m : List Nat} : ∀ a : Nat, (∀ c ∈ m, okc c = true) → m ≠ [] → endOk (lastOf a m) = true := by
  induction m with
  | nil => intro a _ h; exact absurd rfl h
  | cons c r ih =>
    intro a h _
    show endOk (lastOf c r) = true
    by_cases e : r = []
    · subst e
      show endOk c = true
      have hc := h c (by simp)
      unfold endOk
      rw [decide_eq_true (show c ≠ 44 from fun e => by rw [e, okc_44] at hc; cases hc), decide_eq_true (show c ≠ 33 from fun e => by rw [e, okc_33] at hc; cases hc)]; rfl
    · exact ih c (fun d hd => h d (List.mem_cons_of_mem _ hd)) e
theorem GP_iff {l : List Nat} : GP l ↔ (runs 44 l && endOk (lastOf 44 l)) = true := by
  unfold GP
  rw [spl_good l [] (by decide)]; rfl
theorem GP.app {l m : List Nat} (h : GP l) (hm : ∀ c ∈ m, okc c = true) : GP (l ++ m) := by
  by_cases e : m = []
  · subst e; rw [List.append_nil]; exact h
  rw [GP_iff] at h ⊢
  obtain ⟨h1, h2⟩ := Bool.and_eq_true_iff.mp h
  rw [runs_app, lastOf_app, h1, runs_ok _ hm, last_ok _ hm e]; rfl
/-- the other sign -/
def turnI (it : List Nat) : List Nat := if isBar it = true then it.drop 1 else 33 :: it
def oppI (l : List Nat) : List (List Nat) := [42] :: (parts l).map turnI
def oppL (l : List Nat) : List Nat := TL.joinL [44] (oppI l)
theorem globOf_nb {x : List Nat} (h : isBar x = false) : globOf x = x := by unfold globOf; rw [if_neg (by rw [h]; exact Bool.false_ne_true)]
theorem turn_good {it : List Nat} (h : goodItem it = true) : goodItem (turnI it) = true ∧ globOf (turnI it) = globOf it ∧ isBar (turnI it) = !isBar it := by
  have hg : okG (globOf it) := by
    unfold goodItem at h
    obtain ⟨h1, h2⟩ := Bool.and_eq_true_iff.mp h
    exact ⟨of_decide_eq_true h1, List.all_eq_true.mp h2⟩
  unfold turnI
  by_cases e : isBar it = true
  · have eg : globOf it = it.drop 1 := by unfold globOf; rw [if_pos e]
    rw [if_pos e, ← eg]
    have nb : isBar (globOf it) = false := by unfold isBar; exact decide_eq_false hg.no33
    exact ⟨(good_glob hg).1, globOf_nb nb, by rw [nb, e]; rfl⟩
  · have e' : isBar it = false := by simpa using e
    have eg : globOf it = it := by unfold globOf; rw [if_neg e]
    rw [if_neg e]
    have hb : isBar (33 :: it) = true := by unfold isBar; exact decide_eq_true (by simp)
    rw [eg] at hg
    refine ⟨(good_glob hg).2, ?_, by rw [hb, e']; rfl⟩
    rw [eg]; unfold globOf; rw [if_pos hb]; rfl
theorem GP.good {l it : List Nat} (h : GP l) (m : it ∈ parts l) : goodItem it = true := List.all_eq_true.mp h it m
theorem opp_good {l : List Nat} (h : GP l) : ∀ it ∈ oppI l, goodItem it = true := fun it m => by
  rcases List.mem_cons.mp m with e | m
  · subst e; decide +kernel
  · obtain ⟨x, hx, rfl⟩ := List.mem_map.mp m
    exact (turn_good (h.good hx)).1
theorem opp_parts {l : List Nat} (h : GP l) : parts (oppL l) = oppI l := spl_join (by unfold oppI; simp) fun it m => good_no (opp_good h it m)
theorem isPat_opp {l : List Nat} (h : GP l) : isPat (oppL l) = (decide ((oppL l).length ≤ 60) && decide ((parts l).length ≤ 7)) := by
  unfold isPat
  have e : TL.spl [44] 0 [] (oppL l) = oppI l := opp_parts h
  rw [e, List.all_eq_true.mpr (opp_good h), Bool.and_true]
  rw [show decide ((oppI l).length ≤ 8) = decide ((parts l).length ≤ 7) by
    rw [decide_eq_decide]; unfold oppI; rw [List.length_cons, List.length_map]; omega]
theorem fit_star (b : List Nat) : fit [42] b := by
  have key : ∀ (b : List Nat) (M : Nat → Prop), M 1 → (b.foldl (fun M c => nxt [42] M c) M) 1 := by
    intro b
    induction b with
    | nil => intro M h; exact h
    | cons c r ih => intro M h; exact ih _ (.inl ⟨rfl, .inr h⟩)
  exact key b _ ⟨rfl, True.intro⟩
open Classical in
theorem lets_opp {l b : List Nat} (h : GP l) : letsL (oppI l) b = !letsL (parts l) b := by
  have key : ∀ (its : List (List Nat)) (v : Bool), (∀ it ∈ its, goodItem it = true) →
      (its.map turnI).foldl (fun ans it => if fit (globOf it) b then !isBar it else ans) (!v) = !(its.foldl (fun ans it => if fit (globOf it) b then !isBar it else ans) v) := by
    intro its
    induction its with
    | nil => intro v _; rfl
    | cons x r ih =>
      intro v hg
      obtain ⟨_, t2, t3⟩ := turn_good (hg x (by simp))
      rw [List.map_cons, List.foldl_cons, List.foldl_cons, t2, t3, ← ih _ (fun y hy => hg y (List.mem_cons_of_mem _ hy))]
      congr 1
      by_cases hf : fit (globOf x) b
      · rw [if_pos hf, if_pos hf]
      · rw [if_neg hf, if_neg hf]
  have := key (parts l) false fun it m => h.good m
  unfold letsL
  unfold oppI
  rw [List.foldl_cons]
  have g42 : globOf [42] = [42] := by decide +kernel
  rw [g42, if_pos (fit_star b), show (!isBar [42]) = !false by decide +kernel]
  exact this
theorem isBeg_take {l : List Nat} (h : isBeg l = true) (k : Nat) : isBeg (l.take k) = true := by
  have key : ∀ (m : Nat), m ≤ l.length → isBeg (l.take (l.length - m)) = true := by
    intro m
    induction m with
    | zero => intro _; rw [Nat.sub_zero, List.take_length]; exact h
    | succ m ih =>
      intro hm
      have h1 := ih (by omega)
      have e : l.length - m = l.length - (m + 1) + 1 := by omega
      have hi : l.length - (m + 1) < l.length := by omega
      rw [e, List.take_add_one, List.getElem?_eq_getElem hi] at h1
      have h2 : isBeg (l.take (l.length - (m + 1)) ++ [l[l.length - (m + 1)]]) = true := h1
      rw [isBeg_snoc] at h2
      exact (Bool.and_eq_true_iff.mp h2).1
  by_cases hk : k ≤ l.length
  · have := key (l.length - k) (by omega)
    rw [show l.length - (l.length - k) = k by omega] at this; exact this
  · rw [List.take_of_length_le (by omega)]; exact h
theorem pat_wrong {l : List Nat} {o : Option Nat} (w : wrongAt l o) : decide (optV o = V.non) = isPat l := by
  cases o with
  | none => rw [w.2]; rfl
  | some k =>
    cases e : isPat l with
    | false => exact decide_eq_false (fun h => by cases h)
    | true =>
      have hb : isBeg l = true := by unfold isBeg; rw [e]; rfl
      have := wrongAt_one w (p := none) ⟨fun j _ => isBeg_take hb _, e⟩
      cases this
def sp_is_pattern : Sp := fun vs H Q _ => ∃ (x : Str), vs = [.str x] ∧ (tl x).length ≤ 2000 ∧ ∀ H', Same H H' → Q (.bl (isPat (tl x))) H'
def oppD (l : List Nat) : D := if isPat (oppL l) = true then .tup [.str (Str.ofString "told"), .str (S (oppL l))] else .tup [.str (Str.ofString "large"), .str (Str.ofString "pattern")]
def sp_opp (K : PySem.W.Frag) : Sp := fun vs H Q _ => ∃ (x : Str), vs = [.str x] ∧ (tl x).length ≤ 200 ∧ GP (tl x) ∧ ∀ v H', DV K H' (oppD (tl x)) v → Same H H' → Q v H'
def sp_opposite (K : PySem.W.Frag) (C : Addr) : Sp := fun vs H Q E => ∃ (x : Str), vs = [.str x] ∧ (tl x).length ≤ 200 ∧ GP (tl x) ∧ (isPat (oppL (tl x)) = true → ∀ H', Same H H' → Q (.str (S (oppL (tl x)))) H') ∧
  (isPat (oppL (tl x)) = false → ∀ (dd : Addr) (H1 : Hp), Same H H1 → H1 dd = some (.xd [("part", .str (Str.ofString "pattern"))]) → E (.ref C) (some dd) H1)
def sp_write_patternL (K : PySem.W.Frag) : Sp := fun vs H Q _ => ∃ (a : Addr) (ts : List Addr) (its : List (List Nat)), vs = [.ref a] ∧ SqL K H a (ts.map V.ref) ∧ ts.length = its.length ∧ its.length ≤ 1000 ∧ (∀ it ∈ its, it.length ≤ 1000) ∧ (∀ (k : Nat) (t : Addr) (it : List Nat), ts[k]? = some t → its[k]? = some it → SqT K H t (itemP it)) ∧
  ∀ (y : Str) (H' : Hp), tl y = TL.joinL [44] its → Same H H' → Q (.str y) H'
def sp_sight (K : PySem.W.Frag) : Sp := fun vs H Q _ => ∃ (a b : Addr) (ps bs : List Str), vs = [.ref a, .ref b] ∧ SqT K H a (ps.map V.str) ∧ SqT K H b (bs.map V.str) ∧ (∀ p ∈ ps, (tl p).length ≤ 3000) ∧ ps.length ≤ 1000 ∧ bs.length ≤ 1000 ∧ (∀ b ∈ bs, Clean (tl b)) ∧
  ∀ (t : Addr) (H' : Hp), Same H H' → SqT K H' t ((ps.map fun p => if (bs.any fun b => letsL (parts (tl p)) (tl b)) = true then (1 : Int) else 0).map V.int) → Q (.ref t) H'
def sp_lets_someL (K : PySem.W.Frag) : Sp := fun vs H Q _ => ∃ (p : Str) (a : Addr) (bs : List Str), vs = [.str p, .ref a] ∧ SqL K H a (bs.map V.str) ∧ (tl p).length ≤ 3000 ∧ bs.length ≤ 1000 ∧ (∀ b ∈ bs, Clean (tl b)) ∧ ∀ H', Same H H' → Q (.bl (bs.any fun b => letsL (parts (tl p)) (tl b))) H'
def sp_pattern_right (K : PySem.W.Frag) : Sp := fun vs H Q _ => ∃ (p : Str) (a : Addr) (bs : List Str), vs = [.str p, .ref a] ∧ SqL K H a (bs.map V.str) ∧ (tl p).length ≤ 200 ∧ GP (tl p) ∧ bs.length ≤ 1000 ∧ (∀ b ∈ bs, Clean (tl b)) ∧ ∀ H', Same H H' → Q (.bl true) H'
/-! ### signs, boards, globs, patterns, as they are drawn -/
abbrev sgs (cs : List Nat) : List V := cs.map fun c => V.str (S [c])
def No42 (l : List Nat) : Prop := ∀ c ∈ l, c ≠ 42
theorem No42.app {a b : List Nat} (x : No42 a) (y : No42 b) : No42 (a ++ b) := fun c h => (List.mem_append.mp h).elim (x c) (y c)
def Sgns (cs : List Nat) : Prop := cs.length = 4 ∧ ∀ c ∈ cs, (97 ≤ c ∧ c ≤ 122) ∨ (48 ≤ c ∧ c ≤ 57)
theorem okc_low {c : Nat} (h : (97 ≤ c ∧ c ≤ 122) ∨ (48 ≤ c ∧ c ≤ 57)) : okc c = true := by
  have e : tl (Str.ofString "abcdefghijklmnopqrstuvwxyz0123456789.*?") = List.range' 97 26 ++ List.range' 48 10 ++ [46, 42, 63] := by decide +kernel
  unfold okc
  rw [e]
  refine decide_eq_true (List.mem_append_left _ (List.mem_append.mpr ?_))
  rw [List.mem_range'_1, List.mem_range'_1]
  omega
def Wds (us : List Str) : Prop := us ≠ [] ∧ us.length ≤ 9 ∧ ∀ x ∈ us, Nm (tl x) ∧ (tl x).length ≤ 8
/-- tuples stay -/
def TK (K : PySem.W.Frag) (H H' : Hp) : Prop := ∀ a xs, SqT K H a xs → SqT K H' a xs
theorem TK.same {K : PySem.W.Frag} {H H' : Hp} (h : Same H H') : TK K H H' := fun _ _ q => h.tup q
theorem TK.ext {K : PySem.W.Frag} {H H' : Hp} {s a : Addr} {c : Nat} (h : Ext s H H') (S : Src H s a c) : TK K H H' := fun _ _ q => h.seqT S.lst.choose_spec q
theorem TK.trans {K : PySem.W.Frag} {H H1 H2 : Hp} (x : TK K H H1) (y : TK K H1 H2) : TK K H H2 := fun a xs q => y a xs (x a xs q)
/-- signs of boards -/
def Bdc (l : List Nat) : Prop := ∀ c ∈ l, (97 ≤ c ∧ c ≤ 122) ∨ (48 ≤ c ∧ c ≤ 57) ∨ c = 46
theorem Low.bdc {l : List Nat} (h : Low l) : Bdc l := fun c m => (h c m).elim .inl fun q => .inr (.inl q)
theorem Bdc.clean {l : List Nat} (h : Bdc l) : Clean l := fun c m => by have := h c m; omega
theorem Bdc.okc {l : List Nat} (h : Bdc l) : ∀ c ∈ l, okc c = true := fun c m => by
  rcases h c m with q | q | q
  · exact okc_low (.inl q)
  · exact okc_low (.inr q)
  · subst q; decide +kernel
theorem Low.okc {l : List Nat} (h : Low l) : ∀ c ∈ l, Z.okc c = true := h.bdc.okc
theorem Nm.ne {l : List Nat} (h : Nm l) : l ≠ [] := fun e => by obtain ⟨⟨c, r, e2, _⟩, _⟩ := h; rw [e] at e2; cases e2
theorem joinL_mem {s : List Nat} : ∀ {ls : List (List Nat)} {c : Nat}, c ∈ TL.joinL s ls → c ∈ s ∨ ∃ l ∈ ls, c ∈ l
  | [], c, h => by cases h
  | [x], c, h => .inr ⟨x, by simp, h⟩
  | x :: y :: r, c, h => by
    have h' : c ∈ x ++ (s ++ TL.joinL s (y :: r)) := h
    rcases List.mem_append.mp h' with q | q
    · exact .inr ⟨x, by simp, q⟩
    · rcases List.mem_append.mp q with q | q
      · exact .inl q
      · rcases joinL_mem q with q | ⟨l, m, q⟩
        · exact .inl q
        · exact .inr ⟨l, List.mem_cons_of_mem _ m, q⟩
theorem joinL_ne {s : List Nat} {ls : List (List Nat)} (h : ls ≠ []) (hx : ∀ l ∈ ls, l ≠ []) : TL.joinL s ls ≠ [] := fun e => by
  match ls, h with
  | [x], _ => exact hx x (by simp) e
  | x :: y :: r, _ =>
    have e' : x ++ (s ++ TL.joinL s (y :: r)) = [] := e
    exact hx x (by simp) (List.append_eq_nil_iff.mp e').1
def sp8__law_new_name (K : PySem.W.Frag) : Sp := fun vs H Q _ => ∃ (s a u : Addr) (us : List Str) (c : Nat), vs = [.ref s, .ref u] ∧ SqL K H u (us.map V.str) ∧ u ≠ s ∧ us.length ≤ 9 ∧ Src H s a (c + 8) ∧
  ∀ (x : Str) (H' : Hp), Nm (tl x) → (tl x).length ≤ 8 → Ext s H H' → Src H' s a c → Q (.str x) H'
def sp8__law_names (K : PySem.W.Frag) : Sp := fun vs H Q _ => ∃ (s a : Addr) (m c : Nat), vs = [.ref s, .int m] ∧ m ≤ 9 ∧ Src H s a (c + 8 * m) ∧
  ∀ (u : Addr) (us : List Str) (H' : Hp), H u = none → H' u = some (.lst (us.map V.str)) → us.length = m → (∀ x ∈ us, Nm (tl x) ∧ (tl x).length ≤ 8) → Ext s H H' → Src H' s a c → Q (.ref u) H'
def sp2__law_words (K : PySem.W.Frag) : Sp := fun vs H Q _ => ∃ (s a : Addr) (c : Nat), vs = [.ref s] ∧ Src H s a (c + 100) ∧
  ∀ (u : Addr) (us : List Str) (H' : Hp), H u = none → H' u = some (.lst (us.map V.str)) → Wds us → Ext s H H' → Src H' s a c → Q (.ref u) H'
def sp2__law_board (K : PySem.W.Frag) : Sp := fun vs H Q _ => ∃ (s a u : Addr) (us : List Str) (c : Nat), vs = [.ref s, .ref u] ∧ SqL K H u (us.map V.str) ∧ u ≠ s ∧ Wds us ∧ Src H s a (c + 10) ∧
  ∀ (x : Str) (H' : Hp), Bdc (tl x) → tl x ≠ [] → (tl x).length ≤ 30 → Ext s H H' → Src H' s a c → Q (.str x) H'
def sp2__law_boards (K : PySem.W.Frag) : Sp := fun vs H Q _ => ∃ (s a u : Addr) (us : List Str) (m : Int) (c : Nat), vs = [.ref s, .ref u, .int m] ∧ SqL K H u (us.map V.str) ∧ u ≠ s ∧ Wds us ∧ 0 < m ∧ m ≤ 10 ∧ Src H s a (c + 200) ∧
  ∀ (t : Addr) (bs : List Str) (H' : Hp), H' t = some (.tup (bs.map V.str)) → bs.length ≤ 10 → (∀ x ∈ bs, Bdc (tl x) ∧ (tl x).length ≤ 30) → Ext s H H' → Src H' s a c → Q (.ref t) H'
def sp2__law_glob (K : PySem.W.Frag) : Sp := fun vs H Q _ => ∃ (s a u : Addr) (us : List Str) (c : Nat), vs = [.ref s, .ref u] ∧ SqL K H u (us.map V.str) ∧ u ≠ s ∧ Wds us ∧ Src H s a (c + 20) ∧
  ∀ (x : Str) (H' : Hp), okG (tl x) → (tl x).length ≤ 40 → Ext s H H' → Src H' s a c → Q (.str x) H'
def sp2__law_pattern (K : PySem.W.Frag) : Sp := fun vs H Q _ => ∃ (s a u : Addr) (us : List Str) (c : Nat), vs = [.ref s, .ref u] ∧ SqL K H u (us.map V.str) ∧ u ≠ s ∧ Wds us ∧ Src H s a (c + 200) ∧
  ∀ (x : Str) (H' : Hp), GP (tl x) → (tl x).length ≤ 130 → Ext s H H' → Src H' s a c → Q (.str x) H'
def sp__law_shuffled (K : PySem.W.Frag) : Sp := fun vs H Q _ => ∃ (s a r : Addr) (xs : List V) (c : Nat), vs = [.ref s, .ref r] ∧ SqL K H r xs ∧ r ≠ s ∧ xs.length ≤ 1000 ∧ Src H s a (c + xs.length) ∧
  ∀ (d : Addr) (ys : List V) (H' : Hp), H d = none → H' d = some (.lst ys) → ys.length = xs.length → (∀ y ∈ ys, y ∈ xs) → Ext s H H' → Src H' s a c → Q (.ref d) H'
def sp2__law_signs : Sp := fun vs H Q _ => ∃ (s a : Addr) (c : Nat), vs = [.ref s] ∧ Src H s a (c + 10) ∧
  ∀ (u : Addr) (cs : List Nat) (H' : Hp), H u = none → H' u = some (.lst (sgs cs)) → Sgns cs → Ext s H H' → Src H' s a c → Q (.ref u) H'
def sp2__law_free_glob (K : PySem.W.Frag) : Sp := fun vs H Q _ => ∃ (s a u : Addr) (cs : List Nat) (m : Int) (c : Nat), vs = [.ref s, .ref u, .int m] ∧ SqL K H u (sgs cs) ∧ u ≠ s ∧ Sgns cs ∧ 0 < m ∧ m ≤ 60 ∧ Src H s a (c + 100) ∧
  ∀ (g : Str) (H' : Hp), okG (tl g) → ((tl g).length : Int) ≤ m → Ext s H H' → Src H' s a c → Q (.str g) H'
def sp__law_put : Sp := fun vs H Q _ => ∃ (t : Str) (c : Nat), vs = [.str t, .str (S [c])] ∧ c ≠ 42 ∧ No42 (tl t) ∧ (tl t).length ≤ 9000 ∧ ∀ (y : Str) (H' : Hp), Same H H' → No42 (tl y) → (tl y).length ≤ (tl t).length + 1 → Q (.str y) H'
def sp__law_drawn (K : PySem.W.Frag) : Sp := fun vs H Q _ => ∃ (s a u w : Addr) (cs : List Nat) (us : List Str) (c : Nat), vs = [.ref s, .ref u, .ref w] ∧ SqL K H u (sgs cs) ∧ u ≠ s ∧ Sgns cs ∧ SqL K H w (us.map V.str) ∧ w ≠ s ∧ Wds us ∧ Src H s a (c + 2000) ∧
  ∀ (x : Str) (H' : Hp), GP (tl x) → (tl x).length ≤ 200 → Ext s H H' → Src H' s a c → Q (.str x) H'
def sp__law_board_for (K : PySem.W.Frag) : Sp := fun vs H Q _ => ∃ (s a u : Addr) (p : Str) (cs : List Nat) (c : Nat), vs = [.ref s, .str p, .ref u] ∧ (tl p).length ≤ 200 ∧ H u = some (.lst (sgs cs)) ∧ u ≠ s ∧ Sgns cs ∧ Src H s a (c + 2000) ∧
  ∀ (y : Str) (H' : Hp), No42 (tl y) → (tl y).length ≤ 500 → Ext s H H' → Src H' s a c → Q (.str y) H'
theorem strike_len (c : Nat) : ∀ {l : List Nat}, l.Nodup → l.length ≤ (l.filter (· != c)).length + 1
  | [], _ => by simp
  | x :: r, h => by
    have hh := List.nodup_cons.mp h
    by_cases e : x = c
    · subst e
      have : r.filter (· != x) = r := List.filter_eq_self.mpr fun y hy => by
        have : y ≠ x := fun e => hh.1 (e ▸ hy)
        simp [this]
      rw [List.filter_cons_of_neg (by simp), this, List.length_cons]; exact Nat.le_refl _
    · rw [List.filter_cons_of_pos (by simp [e]), List.length_cons, List.length_cons]
      have := strike_len c hh.2
      omega
theorem tl_strike (z : Str) (c : Nat) : tl (Txt.replace z ⟨#[c]⟩ (Str.ofString "")) = (tl z).filter (· != c) := PyProof.Rows.replace_strikes z c
theorem cut_mem (x : Str) (i j : Option Int) : ∀ c ∈ tl (cutS x i j), c ∈ tl x := fun c h => by
  have h' : c ∈ (List.drop _ (tl x)).take _ := h
  exact List.mem_of_mem_drop (List.mem_of_mem_take h')
/-- what is stripped at the end is a piece -/
theorem rstrip_sub (x y : Str) : (∀ c ∈ tl (Txt.rstripChars x y), c ∈ tl x) ∧ (tl (Txt.rstripChars x y)).length ≤ (tl x).length := by
  have e : ∃ i j, tl (Txt.rstripChars x y) = ((tl x).drop i).take (j - i) := by
    have h := PyProof.Rows.stripBy_eq y.cps.contains false true x
    apply Exists.intro; apply Exists.intro
    refine (congrArg tl h).trans ?_
    show (x.cps.extract _ _).toList = _
    rw [Array.toList_extract]
  obtain ⟨i, j, e⟩ := e
  rw [e]
  exact ⟨fun c m => List.mem_of_mem_drop (List.mem_of_mem_take m), by rw [List.length_take, List.length_drop]; omega⟩
/-- a walk over the signs of a text behind a token -/
theorem pit_str {X : Cx} {tg e : Expr} {te : TE} (he : PET X e te) : PIT X tg e (iStr te) := by
  intro pins s σ H R h0 I h
  refine thn (he pins s σ H _ h0 I h) fun v s1 hh => ?_
  obtain ⟨y, H1, I1, r1, x, rfl, q⟩ := hh
  obtain ⟨t, rfl⟩ := r1
  have J := fun (ty : String) (hty : ty = "str_ascii_iterator" ∨ ty = "str_iterator") => pi_one (tk := s1.toks) I1 (tg := tg) (R := R) ⟨.type ty, none, .fields #[.str x t, .int 0 0], #[]⟩ (turn_str _ x t ty hty) ⟨_, Heap.get?_push_size _ rfl, rfl, rfl⟩ q
  by_cases ha : x.cps.all (· < 128) = true
  · exact wpAny_pyIter_ascii ha (J _ (.inl rfl))
  · exact wpAny_pyIter_wide (by simpa using ha) (J _ (.inr rfl))
theorem strs_of {ws : List V} {bs : List Str} (h : ∀ y ∈ ws, y ∈ bs.map V.str) : ∃ cs : List Str, ws = cs.map V.str ∧ ∀ c ∈ cs, c ∈ bs := by
  induction ws with
  | nil => exact ⟨[], rfl, fun _ h => by cases h⟩
  | cons w ws ih =>
    obtain ⟨cs, e, k⟩ := ih fun y hy => h y (List.mem_cons_of_mem _ hy)
    obtain ⟨b, hb, rfl⟩ := List.mem_map.mp (h w (by simp))
    exact ⟨b :: cs, by rw [e]; rfl, fun c hc => by
      rcases List.mem_cons.mp hc with e | hc
      · rw [e]; exact hb
      · exact k c hc⟩
theorem joinL_sum : ∀ {ls : List (List Nat)}, ls ≠ [] → (TL.joinL [44] ls).length + 1 = (ls.map fun it => it.length + 1).sum
  | [], h => absurd rfl h
  | [x], _ => by show x.length + 1 = _; simp
  | x :: y :: r, _ => by
    have ih := joinL_sum (ls := y :: r) (by simp)
    show (x ++ ([44] ++ TL.joinL [44] (y :: r))).length + 1 = _
    rw [List.map_cons, List.sum_cons, ← ih, List.length_append, List.length_append]
    show x.length + (1 + _) + 1 = _
    omega
theorem turn_len (it : List Nat) : (turnI it).length ≤ it.length + 1 := by
  unfold turnI
  split
  · rw [List.length_drop]; omega
  · exact Nat.le_refl _
theorem turn_sum : ∀ ls : List (List Nat), ((ls.map turnI).map fun it => it.length + 1).sum ≤ (ls.map fun it => it.length + 1).sum + ls.length
  | [] => Nat.le_refl _
  | x :: r => by
    have := turn_sum r
    have := turn_len x
    rw [List.map_cons, List.map_cons, List.map_cons, List.sum_cons, List.sum_cons, List.length_cons]
    omega
theorem opp_len (l : List Nat) : (oppL l).length ≤ 2 * l.length + 3 := by
  have h1 := joinL_sum (ls := oppI l) (by unfold oppI; simp)
  have h2 := turn_sum (parts l)
  have h3 := parts_num l
  have ne : parts l ≠ [] := fun h => by
    have := spl_count l []
    have h' : TL.spl [44] 0 [] l = [] := h
    rw [h'] at this; cases this
  have h4 := joinL_sum ne
  have e : TL.joinL [44] (parts l) = l := join_spl l []
  rw [e] at h4
  have h5 : ((oppI l).map fun it => it.length + 1).sum = 2 + (((parts l).map turnI).map fun it => it.length + 1).sum := by
    unfold oppI; rw [List.map_cons, List.sum_cons]; rfl
  have h6 : (oppL l).length = (TL.joinL [44] (oppI l)).length := rfl
  omega
theorem joinL_snoc {y : List Nat} : ∀ {ls : List (List Nat)}, ls ≠ [] → TL.joinL [44] (ls ++ [y]) = TL.joinL [44] ls ++ 44 :: y
  | [], h => absurd rfl h
  | [x], _ => rfl
  | x :: z :: r, _ => by
    have ih := joinL_snoc (y := y) (ls := z :: r) (by simp)
    show x ++ ([44] ++ TL.joinL [44] (z :: r ++ [y])) = (x ++ ([44] ++ TL.joinL [44] (z :: r))) ++ 44 :: y
    rw [ih]; simp
theorem DL_opp (l : List Nat) : DL 3 (oppD l) := by
  unfold oppD
  split
  · refine ⟨by show 2 ≤ _; decide, fun x hx => ?_⟩
    rcases List.mem_cons.mp hx with e | hx
    · subst e; exact True.intro
    · rw [List.mem_singleton.mp hx]; exact True.intro
  · refine ⟨by show 2 ≤ _; decide, fun x hx => ?_⟩
    rcases List.mem_cons.mp hx with e | hx
    · subst e; exact True.intro
    · rw [List.mem_singleton.mp hx]; exact True.intro
theorem DV_pair {K : PySem.W.Frag} {H : Hp} {t : Addr} {x y : Str} (h : SqT K H t [V.str x, V.str y]) : DV K H (.tup [.str x, .str y]) (.ref t) :=
  ⟨t, _, rfl, h, _, _, rfl, by unfold DV; rfl, _, _, rfl, by unfold DV; rfl, rfl⟩
theorem DV_pair_inv {K : PySem.W.Frag} {H : Hp} {v : V} {x y : Str} (h : DV K H (.tup [.str x, .str y]) v) : ∃ t, v = .ref t ∧ SqT K H t [V.str x, V.str y] := by
  obtain ⟨t, vs, rfl, hS, h3⟩ := h
  obtain ⟨u1, r1, rfl, e1, h4⟩ := h3
  obtain ⟨u2, r2, rfl, e2, h5⟩ := h4
  unfold DV at e1 e2
  unfold DVs at h5
  subst e1 e2 h5
  exact ⟨t, rfl, hS⟩
end Z
namespace Z
open PySem PySem.W PySem.Calls PyProof.Rows L2
/-! ### sorted(tuples of texts and numbers), min and max of two texts -/
/-- a text where the shape says so, elsewhere a number -/
def Shp (shape : Nat → Bool) : Nat → List V → Prop
  | _, [] => True
  | i, .int _ :: r => shape i = false ∧ Shp shape (i + 1) r
  | i, .str _ :: r => shape i = true ∧ Shp shape (i + 1) r
  | _, _ :: _ => False
/-- what the sort asks of a tuple in the heap -/
def TupAt (h : Heap) (shape : Nat → Bool) (v : Value) : Prop := ∃ (a : Addr) (o : Obj) (us : List Value) (n : Nat) (as : List (Int ⊕ List Nat)), v = .ref a ∧ h.get? a = some o ∧ o.cls = .type "tuple" ∧ o.data = .seq us.toArray n ∧ tupItems shape 0 us = some as ∧
  ∃ f, us[0]? = some f ∧ (shape 0 = false → ∃ k t, f = .int k t) ∧ (shape 0 = true → ∃ x t, f = .str x t)
theorem TupAt.keep {h h' : Heap} {shape : Nat → Bool} {v : Value} (p : TupAt h shape v) (k : ∀ b o, h.get? b = some o → o.cls = .type "tuple" → h'.get? b = some o) : TupAt h' shape v := by
  obtain ⟨a, o, us, n, as, e, g, c, r⟩ := p
  exact ⟨a, o, us, n, as, e, k _ _ g c, c, r⟩
theorem shp_items {shape : Nat → Bool} : ∀ {ws : List V} {us : List Value} {i : Nat}, Shp shape i ws → Vals ws us → ∃ l, tupItems shape i us = some l
  | [], _, _, _, r => by cases r; exact ⟨[], by simp [tupItems]⟩
  | .int k :: ws, _, i, h, r => by
    cases r with
    | cons r1 r2 =>
      obtain ⟨t, rfl⟩ := r1
      obtain ⟨l, hl⟩ := shp_items h.2 r2
      exact ⟨.inl k :: l, by simp [tupItems, h.1, hl]⟩
  | .str x :: ws, _, i, h, r => by
    cases r with
    | cons r1 r2 =>
      obtain ⟨t, rfl⟩ := r1
      obtain ⟨l, hl⟩ := shp_items h.2 r2
      exact ⟨.inr x.cps.toList :: l, by simp [tupItems, h.1, hl]⟩
  | .non :: _, _, _, h, _ => by unfold Shp at h; exact h.elim
  | .bl _ :: _, _, _, h, _ => by unfold Shp at h; exact h.elim
  | .ref _ :: _, _, _, h, _ => by unfold Shp at h; exact h.elim
  | .ty _ :: _, _, _, h, _ => by unfold Shp at h; exact h.elim
  | .byt _ :: _, _, _, h, _ => by unfold Shp at h; exact h.elim
  | .flt _ :: _, _, _, h, _ => by unfold Shp at h; exact h.elim
theorem shp_first {shape : Nat → Bool} {ws : List V} {us : List Value} (h : Shp shape 0 ws) (ne : ws ≠ []) (r : Vals ws us) : ∃ f, us[0]? = some f ∧ (shape 0 = false → ∃ k t, f = .int k t) ∧ (shape 0 = true → ∃ x t, f = .str x t) := by
  cases r with
  | nil => exact absurd rfl ne
  | @cons w u ws us r1 r2 =>
    refine ⟨u, rfl, fun e => ?_, fun e => ?_⟩
    · cases w with
      | int k => obtain ⟨t, rfl⟩ := r1; exact ⟨k, t, rfl⟩
      | str x => have := h.1; rw [e] at this; cases this
      | _ => unfold Shp at h; exact h.elim
    · cases w with
      | str x => obtain ⟨t, rfl⟩ := r1; exact ⟨x, t, rfl⟩
      | int x => have := h.1; rw [e] at this; cases this
      | _ => unfold Shp at h; exact h.elim
section
variable {prog : Program} {w : World} {A : Around} {E : Value → Shared → Prop} {s : Shared}
theorem tups_of {h : Heap} {shape : Nat → Bool} : ∀ {vs : List Value}, (∀ v ∈ vs, TupAt h shape v) → ∃ fs, TupsOf h shape vs fs ∧ fs.length = vs.length
  | [], _ => ⟨[], .nil, rfl⟩
  | v :: vs, hp => by
    obtain ⟨fs, h1, h2⟩ := tups_of (vs := vs) fun y m => hp y (List.mem_cons_of_mem _ m)
    obtain ⟨a, o, us, n, as, e, g, c, d, _, f, hf, k1, k2⟩ := hp v (by simp)
    refine ⟨f :: fs, .cons ⟨a, o, us.toArray, n, e, g, c, d, ?_, k1, k2⟩ h1, by rw [List.length_cons, List.length_cons, h2]⟩
    simpa using hf
theorem tupkey {h : Heap} {shape : Nat → Bool} {v : Value} (p : TupAt h shape v) : ∃ as, (tupKind h shape).keyOf v = some as := by
  obtain ⟨a, o, us, n, as, rfl, g, c, d, i, _⟩ := p
  refine ⟨as, ?_⟩
  show tupKey h shape (.ref a) = some as
  unfold tupKey
  simp only [g, d]
  exact i
theorem sorted_tups {shape : Nat → Bool} {l : Addr} {vs : List Value} {Q : Value → Shared → Prop} (hl : s.heap.IsList l vs.toArray) (hz : vs.length ≤ sizeLine) (hp : ∀ v ∈ vs, TupAt s.heap shape v)
    (hq : ∀ out : List Value, out.Perm vs → Q (.ref (s.heap.objs.size + 1)) { s with heap := sortedAll s.heap vs out.toArray }) : wpAny (model prog w) A (call (.builtin "sorted") [.ref l]) Q E s := by
  refine Srt.sorted_any hl hz (fun two h1 a ha kp => ?_) hq
  intro h2 kp2
  have tup : ∀ v ∈ vs, TupAt h2 shape v := fun v m => ((hp v m).keep fun b o g _ => (kp b o g).2).keep fun b o g c => kp2 b o (fun z => by
    subst z
    have g' : h1.get? b = some o := g
    rw [ha] at g'
    cases g'
    exact absurd (Value.type.inj c) (by decide)) g
  obtain ⟨fs, t, fl⟩ := tups_of tup
  refine ⟨tuples' true, fun Q E q => tup_kind (shape := shape) (s := { s with heap := h2 }) (by omega) t q, fun p q mp mq => ?_⟩
  obtain ⟨as, ka⟩ := tupkey (tup _ mp)
  obtain ⟨bs, kb⟩ := tupkey (tup _ mq)
  exact ⟨_, tup_ltAt (s := { s with heap := h2 }) true _ _ _ _ as bs ka kb ⟨rfl, rfl⟩⟩
end
/-- sorted(xs), xs a list of tuples of one shape: a new list of the same tuples, in some order -/
def rSortedX (K : Frag) (shape : Nat → Bool) : List V → Hp → VK → Prop := fun vs H Q => ∃ (a : Addr) (ts : List Addr), vs = [V.ref a] ∧ SqL K H a (ts.map V.ref) ∧ (∀ t ∈ ts, ∃ ws, H t = some (.tup ws) ∧ Shp shape 0 ws ∧ ws ≠ []) ∧
  ∀ (ys : List Addr) (p : Addr), ys.Perm ts → H p = none → Q (.ref p) (upd H p (.lst (ys.map V.ref)))
theorem vals_refs : ∀ {ts : List Addr} {us : List Value}, Vals (ts.map V.ref) us → us = ts.map Value.ref
  | [], _, r => by cases r; rfl
  | t :: ts, _, r => by
    cases r with
    | cons r1 r2 => cases r1; rw [vals_refs r2]; rfl
theorem refs_vals : ∀ ts : List Addr, Vals (ts.map V.ref) (ts.map Value.ref)
  | [] => .nil
  | t :: ts => .cons rfl (refs_vals ts)
theorem perm_refs {ts : List Addr} {us : List Value} (h : us.Perm (ts.map Value.ref)) : ∃ ys : List Addr, us = ys.map Value.ref ∧ ys.Perm ts := by
  refine ⟨us.map fun u => match u with | .ref a => a | _ => 0, ?_, ?_⟩
  · rw [List.map_map]
    refine (List.map_id us).symm.trans (List.map_congr_left fun u m => ?_)
    obtain ⟨a, _, rfl⟩ := List.mem_map.mp (h.mem_iff.mp m)
    rfl
  · have := h.map fun u => match u with | Value.ref a => a | _ => 0
    rw [List.map_map] at this
    rwa [show ts.map ((fun u => match u with | Value.ref a => a | _ => 0) ∘ Value.ref) = ts from (List.map_congr_left fun _ _ => rfl).trans (List.map_id ts)] at this
section
variable {X : Cx}
theorem cr_sortedX {shape : Nat → Bool} : CallR X (.builtin "sorted") (rSortedX X.K shape) := by
  intro pins s σ H vs us Q I r h
  obtain ⟨a, ts, rfl, hs, ht, q⟩ := h
  obtain ⟨its, rv, hl, hz⟩ := I.list hs
  have e1 := vals_refs rv
  subst e1
  obtain ⟨u, rfl, ru⟩ := vals1 r
  obtain rfl : u = Value.ref a := ru
  rw [List.length_map] at hz
  refine sorted_tups (shape := shape) hl.isList (by rw [List.length_map]; exact hz) (fun v m => ?_) fun out po => ?_
  · obtain ⟨t, tm, rfl⟩ := List.mem_map.mp m
    obtain ⟨ws, hw, sh, ne⟩ := ht t tm
    have ok : ObjOk X.prog X.w H s.heap t (.tup ws) := I.hok t _ hw
    obtain ⟨_, xs, rx, o, g, c, n, d⟩ := ok
    obtain ⟨as, hi⟩ := shp_items sh rx
    exact ⟨t, o, xs, n, as, rfl, g, c, d, hi, shp_first sh ne rx⟩
  · obtain ⟨ys, rfl, py⟩ := perm_refs po
    have fr : H (s.heap.objs.size + 1) = none := I.hok.fresh (Nat.le_succ _)
    obtain ⟨n, hn⟩ := sortedAll_at s.heap (ts.map Value.ref) (ys.map Value.ref).toArray
    refine ⟨.ref _, upd H _ (.lst (ys.map V.ref)), I.laid (t' := s.toks) (fun b o g => sortedAll_old g) (Nat.le_succ _) ⟨?_, ys.map Value.ref, n, refs_vals ys, hn⟩, rfl, q ys _ py fr⟩
    rw [List.length_map, py.length_eq]; exact hz
end
section
variable {prog : Program} {w : World} {A : Around} {E : Value → Shared → Prop} {s : Shared}
theorem best1 (bt : Nat → Nat → Bool) : argBest bt 1 = 0 ∨ argBest bt 1 = 1 := by
  by_cases h : bt 1 (argBest bt 0) = true
  · exact .inr (if_pos h)
  · exact .inl (if_neg h)
/-- the larger one -/
theorem max_strs {x y : Str} {t u : Tok} {Q : Value → Shared → Prop} (calm : A.handled = none)
    (h : ∀ (k : Bool) (hp : Heap) (tk : Nat), (∀ b o, s.heap.get? b = some o → hp.get? b = some o) → Q (if k = true then .str y u else .str x t) { s with heap := hp, toks := tk }) : wpAny (model prog w) A (call (.builtin "max") [.str x t, .str y u]) Q E s := by
  have tp : (s.heap.push { cls := .type "tuple", data := .seq #[.str x t, .str y u] }).IsTuple s.heap.objs.size #[.str x t, .str y u] := ⟨_, Heap.get?_push_size _ rfl, rfl, 0, rfl⟩
  have z1 : (s.heap.push { cls := .type "tuple", data := .seq #[.str x t, .str y u] }).objs.size = s.heap.objs.size + 1 := Heap.size_push ..
  refine call_max_two (wpAny_pyIter_tuple tp ?_)
  refine ⟨_, [_, s.heap.objs.size], [_], _, _, _, fun i j => decide ((if j = 0 then x else y).cps.toList < (if i = 0 then x else y).cps.toList), rfl, Walks.tuple (A := A.in1) calm _ s.heap.objs.size (by rw [z1]; exact Nat.ne_of_lt (Nat.lt_succ_self _)) #[.str x t, .str y u], ⟨⟨_, Heap.get?_push_size _ rfl, rfl, rfl⟩, tp.push _⟩, fun b hb => ?_, by simp, fun i j vi vj s1 Q1 E1 gi gj q => ?_, fun v hp tk hv kp => ?_⟩
  · show b < ((s.heap.push _).push _).objs.size
    rw [Heap.size_push]
    simp only [List.mem_cons, List.not_mem_nil, or_false] at hb
    rcases hb with e | e <;> subst e
    · exact Nat.lt_succ_self _
    · rw [z1]; exact Nat.lt_succ_of_lt (Nat.lt_succ_self _)
  · have pick : ∀ {k : Nat} {v : Value}, (#[Value.str x t, Value.str y u])[k]? = some v → ∃ tt, v = .str (if k = 0 then x else y) tt := fun {k v} g => by
      match k, g with
      | 0, g => exact ⟨t, (Option.some.inj g).symm⟩
      | 1, g => exact ⟨u, (Option.some.inj g).symm⟩
      | k + 2, g => simp at g
    obtain ⟨ti, rfl⟩ := pick gi
    obtain ⟨tj, rfl⟩ := pick gj
    exact PySem.P.gt_str q
  · have old : ∀ b o, s.heap.get? b = some o → hp.get? b = some o := fun b o g => by
      refine kp b o (fun m => ?_) (Heap.get?_push_of_some _ (Heap.get?_push_of_some _ g))
      have lt := Heap.lt_size g
      rw [List.mem_singleton.mp m, z1] at lt
      exact absurd lt (Nat.not_lt_of_lt (Nat.lt_succ_self _))
    have cases2 : v = .str y u ∨ v = .str x t := by
      have hv' : (#[Value.str x t, Value.str y u])[argBest (fun i j => decide ((if j = 0 then x else y).cps.toList < (if i = 0 then x else y).cps.toList)) 1]? = some v := hv
      rcases best1 _ with e | e
      · rw [e] at hv'; exact .inr (Option.some.inj hv').symm
      · rw [e] at hv'; exact .inl (Option.some.inj hv').symm
    rcases cases2 with e | e
    · rw [e]; exact h true hp tk old
    · rw [e]; exact h false hp tk old
theorem min_strs {x y : Str} {t u : Tok} {Q : Value → Shared → Prop} (calm : A.handled = none)
    (h : ∀ (k : Bool) (hp : Heap) (tk : Nat), (∀ b o, s.heap.get? b = some o → hp.get? b = some o) → Q (if k = true then .str y u else .str x t) { s with heap := hp, toks := tk }) : wpAny (model prog w) A (call (.builtin "min") [.str x t, .str y u]) Q E s := by
  have tp : (s.heap.push { cls := .type "tuple", data := .seq #[.str x t, .str y u] }).IsTuple s.heap.objs.size #[.str x t, .str y u] := ⟨_, Heap.get?_push_size _ rfl, rfl, 0, rfl⟩
  have z1 : (s.heap.push { cls := .type "tuple", data := .seq #[.str x t, .str y u] }).objs.size = s.heap.objs.size + 1 := Heap.size_push ..
  refine call_min_two (wpAny_pyIter_tuple tp ?_)
  refine ⟨_, [_, s.heap.objs.size], [_], _, _, _, fun i j => decide ((if i = 0 then x else y).cps.toList < (if j = 0 then x else y).cps.toList), rfl, Walks.tuple (A := A.in1) calm _ s.heap.objs.size (by rw [z1]; exact Nat.ne_of_lt (Nat.lt_succ_self _)) #[.str x t, .str y u], ⟨⟨_, Heap.get?_push_size _ rfl, rfl, rfl⟩, tp.push _⟩, fun b hb => ?_, by simp, fun i j vi vj s1 Q1 E1 gi gj q => ?_, fun v hp tk hv kp => ?_⟩
  · show b < ((s.heap.push _).push _).objs.size
    rw [Heap.size_push]
    simp only [List.mem_cons, List.not_mem_nil, or_false] at hb
    rcases hb with e | e <;> subst e
    · exact Nat.lt_succ_self _
    · rw [z1]; exact Nat.lt_succ_of_lt (Nat.lt_succ_self _)
  · have pick : ∀ {k : Nat} {v : Value}, (#[Value.str x t, Value.str y u])[k]? = some v → ∃ tt, v = .str (if k = 0 then x else y) tt := fun {k v} g => by
      match k, g with
      | 0, g => exact ⟨t, (Option.some.inj g).symm⟩
      | 1, g => exact ⟨u, (Option.some.inj g).symm⟩
      | k + 2, g => simp at g
    obtain ⟨ti, rfl⟩ := pick gi
    obtain ⟨tj, rfl⟩ := pick gj
    exact PySem.P.lt_str q
  · have old : ∀ b o, s.heap.get? b = some o → hp.get? b = some o := fun b o g => by
      refine kp b o (fun m => ?_) (Heap.get?_push_of_some _ (Heap.get?_push_of_some _ g))
      have lt := Heap.lt_size g
      rw [List.mem_singleton.mp m, z1] at lt
      exact absurd lt (Nat.not_lt_of_lt (Nat.lt_succ_self _))
    have cases2 : v = .str y u ∨ v = .str x t := by
      have hv' : (#[Value.str x t, Value.str y u])[argBest (fun i j => decide ((if i = 0 then x else y).cps.toList < (if j = 0 then x else y).cps.toList)) 1]? = some v := hv
      rcases best1 _ with e | e
      · rw [e] at hv'; exact .inr (Option.some.inj hv').symm
      · rw [e] at hv'; exact .inl (Option.some.inj hv').symm
    rcases cases2 with e | e
    · rw [e]; exact h true hp tk old
    · rw [e]; exact h false hp tk old
end
section
variable {X : Cx}
/-- min, max of two texts: one of them -/
def rOne2 : List V → Hp → VK → Prop := fun xs H Q => ∃ x y : Str, xs = [.str x, .str y] ∧ Q (.str x) H ∧ Q (.str y) H
theorem call_maxS (hc : X.calm = true) : CallR X (.builtin "max") rOne2 := by
  intro pins s σ H xs us Q I r h
  obtain ⟨x, y, rfl, q1, q2⟩ := h
  obtain ⟨u, w', rfl, ⟨t, rfl⟩, ⟨t', rfl⟩⟩ := vals2 r
  refine max_strs (I.ok.hd hc) fun k hp tk old => ?_
  cases k with
  | true => exact ⟨.str y, H, I.kept old, ⟨t', rfl⟩, q2⟩
  | false => exact ⟨.str x, H, I.kept old, ⟨t, rfl⟩, q1⟩
theorem call_minS (hc : X.calm = true) : CallR X (.builtin "min") rOne2 := by
  intro pins s σ H xs us Q I r h
  obtain ⟨x, y, rfl, q1, q2⟩ := h
  obtain ⟨u, w', rfl, ⟨t, rfl⟩, ⟨t', rfl⟩⟩ := vals2 r
  refine min_strs (I.ok.hd hc) fun k hp tk old => ?_
  cases k with
  | true => exact ⟨.str y, H, I.kept old, ⟨t', rfl⟩, q2⟩
  | false => exact ⟨.str x, H, I.kept old, ⟨t, rfl⟩, q1⟩
end
end Z
namespace Z
open PySem PySem.Spec PyProof.Rows L2
theorem mulT1 (l : Addr) (its : Array Value) (n : Nat) (dd : Option Addr) (sl : Array (Option Value)) (u : Tok) : Meets (Builtin.«tuple.__mul__» ⟨[.ref l, .int 1 u], []⟩) (fun _ R s =>
    s.heap.get? l = some { cls := .type "tuple", dict := dd, data := .seq its n, slots := sl } ∧ R (.ok (.ret (.ref l))) s) := .of_wp fun prog w A R s h => by
  obtain ⟨hp, g, d, tk, os⟩ := s
  obtain ⟨at_, h⟩ := h
  have ix := AutoSeq1.idx_int
  have c1 : (its.isEmpty || (1 : Int) == 1) = true := by cases its.isEmpty <;> rfl
  wp_walk using wpAny_loadPart' at_
  repeat (first
    | (refine wpAny_ite_false (decide_eq_false (by decide)) ?_; wp_walk using wpAny_loadPart' at_)
    | (refine wpAny_ite_true (decide_eq_true (by first | decide | exact c1)) ?_; wp_walk using wpAny_loadPart' at_))
  exact ⟨_, rfl, h⟩
theorem mulT0 (l : Addr) (its : Array Value) (n : Nat) (dd : Option Addr) (sl : Array (Option Value)) (u : Tok) (ne : its.isEmpty = false) : Meets (Builtin.«tuple.__mul__» ⟨[.ref l, .int 0 u], []⟩) (fun _ R s =>
    s.heap.get? l = some { cls := .type "tuple", dict := dd, data := .seq its n, slots := sl } ∧ R (.ok (.ret (.ref s.heap.objs.size))) { s with heap := s.heap.push { cls := .type "tuple", data := .seq #[] }, toks := s.toks }) := .of_wp fun prog w A R s h => by
  obtain ⟨hp, g, d, tk, os⟩ := s
  obtain ⟨at_, h⟩ := h
  have ix := AutoSeq1.idx_int
  have c1 : (its.isEmpty || (0 : Int) == 1) = false := by rw [ne]; rfl
  wp_walk using wpAny_loadPart' at_
  repeat (first
    | (refine wpAny_ite_false (decide_eq_false (by first | decide | (rw [c1]; exact Bool.false_ne_true))) ?_; wp_walk using wpAny_loadPart' at_)
    | (refine wpAny_ite_true (decide_eq_true (by first | decide | rfl)) ?_; wp_walk using wpAny_loadPart' at_))
  exact ⟨_, rfl, h⟩
/-- t * k, of a tuple -/
def rMulT (K : PySem.W.Frag) : R2 := fun x y H Q => ∃ (l : Addr) (k : Nat) (xs : List V), x = .ref l ∧ y = .int (k : Int) ∧ SqT K H l xs ∧ xs ≠ [] ∧ k ≤ 1000 ∧ xs.length ≤ 1000 ∧ ∀ (p : Addr) (H' : Hp), Same H H' → SqT K H' p (List.replicate k xs).flatten → Q (.ref p) H'
section
variable {X : Cx}
theorem op_mulT : OpR X (binaryOp .Mult) (rMulT X.K) := by
  intro pins s σ H x y v u Q I rx ry h
  obtain ⟨l, k, xs, ex, ey, hT, ne, hk, hx, q⟩ := h
  by_cases h2 : 2 ≤ k
  · exact op_repT pins s σ H x y v u Q I rx ry ⟨l, _, xs, ex, ey, hT, ne, by omega, by omega, hx, fun p hp => q p _ (same_new hp) (SqT.of (by rw [upd_same]; rfl))⟩
  subst ex ey
  cases rx
  obtain ⟨t, rfl⟩ := ry
  obtain ⟨its, r, ⟨⟨cls, dd, data, sl⟩, at_, hc, n, hd⟩, hs⟩ := I.tuple hT
  simp only at hc hd
  subst hc hd
  have hi : its.toArray.isEmpty = false := by
    cases r with
    | nil => exact absurd rfl ne
    | cons _ _ => rfl
  have k01 : k = 0 ∨ k = 1 := by omega
  rcases k01 with e | e
  · subst e
    refine wpAny_binaryOp_repeat_ref (T := "tuple") (U := "int") (by decide) ⟨_, at_, rfl⟩ (fun s1 => typeIs_int s1 _ t) noFill_tuple_mul F.fills_int_mul F.slot_int_rmul repeat_tuple F.slot_int_index.lookup (call_meets F.slot_int_rmul (typeIs_int s _ t) F.entry_int_rmul (F.args_int_rmul_2 _ _) (int_rmul_tuple _ t l its.toArray n dd sl) ⟨at_, rfl, ⟨_, at_, rfl⟩, call_meets F.slot_tuple_mul ⟨_, at_, rfl⟩ F.entry_tuple_mul (F.args_tuple_mul_2 _ _) (mulT0 l its.toArray n dd sl t hi) ⟨at_, ?_⟩⟩)
    have fr : H s.heap.objs.size = none := I.hok.fresh (Nat.le_refl _)
    exact ⟨.ref _, upd H s.heap.objs.size (.tup []), I.laid (t' := s.toks) (fun b o g => Heap.get?_push_of_some _ g) (Nat.le_refl _) ⟨by show 0 ≤ sizeLine; decide, [], .nil, IsTup.new _ _⟩, rfl, q _ _ (same_new fr) (SqT.of upd_same)⟩
  · subst e
    refine wpAny_binaryOp_repeat_ref (T := "tuple") (U := "int") (by decide) ⟨_, at_, rfl⟩ (fun s1 => typeIs_int s1 _ t) noFill_tuple_mul F.fills_int_mul F.slot_int_rmul repeat_tuple F.slot_int_index.lookup (call_meets F.slot_int_rmul (typeIs_int s _ t) F.entry_int_rmul (F.args_int_rmul_2 _ _) (int_rmul_tuple _ t l its.toArray n dd sl) ⟨at_, rfl, ⟨_, at_, rfl⟩, call_meets F.slot_tuple_mul ⟨_, at_, rfl⟩ F.entry_tuple_mul (F.args_tuple_mul_2 _ _) (mulT1 l its.toArray n dd sl t) ⟨at_, ?_⟩⟩)
    exact ⟨.ref l, H, I, rfl, q l H (Same.refl _) (by show SqT X.K H l (xs ++ []); rw [List.append_nil]; exact hT)⟩
end
end Z
namespace Z
open PySem L2 SX
/-! ### data, by place -/
section
variable {K : PySem.W.Frag} {H : Hp}
theorem DV.any {ds : List D} {v : V} {i : Nat} {d : D} (h : DV K H (.tup ds) v) (e : ds[i]? = some d) : ∃ a us u, v = .ref a ∧ SqT K H a us ∧ us[i]? = some u ∧ DV K H d u := by
  obtain ⟨a, us, rfl, hS, hs⟩ := h
  obtain ⟨u, eu, du⟩ := hs.get e
  exact ⟨a, us, u, rfl, hS, eu, du⟩
theorem DV.sub {ds es : List D} {v : V} {i : Nat} (h : DV K H (.tup ds) v) (e : ds[i]? = some (.tup es)) : ∃ a us c ws, v = .ref a ∧ SqT K H a us ∧ us[i]? = some (V.ref c) ∧ SqT K H c ws ∧ DVs K H es ws := by
  obtain ⟨a, us, u, rfl, hS, eu, du⟩ := h.any e
  obtain ⟨c, ws, rfl, hc, hw⟩ := du
  exact ⟨a, us, c, ws, rfl, hS, eu, hc, hw⟩
theorem DV.leafS {ds : List D} {v : V} {i : Nat} {x : Str} (h : DV K H (.tup ds) v) (e : ds[i]? = some (.str x)) : ∃ a us, v = .ref a ∧ SqT K H a us ∧ us[i]? = some (V.str x) := by
  obtain ⟨a, us, u, rfl, hS, eu, du⟩ := h.any e
  unfold DV at du
  subst du
  exact ⟨a, us, rfl, hS, eu⟩
theorem DVs.map_get {α : Type} {f : α → D} : ∀ {l : List α} {us : List V} {i : Nat} {u : V}, DVs K H (l.map f) us → us[i]? = some u → ∃ x, l[i]? = some x ∧ DV K H (f x) u
  | [], _, i, u, h, e => by unfold DVs at h; subst h; simp at e
  | x :: l, us, i, u, h, e => by
    obtain ⟨v, r, rfl, q, t⟩ := h
    cases i with
    | zero =>
      have : v = u := Option.some.inj e
      subst this
      exact ⟨x, rfl, q⟩
    | succ i => exact DVs.map_get (i := i) t e
theorem DVs.map_len {α : Type} {f : α → D} {l : List α} {us : List V} (h : DVs K H (l.map f) us) : us.length = l.length := by rw [h.len, List.length_map]
/-- values that are data of some of these -/
theorem DVs.pick {α : Type} {f : α → D} {xs : List V} {l : List α} : ∀ {ys : List V}, DVs K H (l.map f) xs → (∀ y ∈ ys, y ∈ xs) → ∃ m : List α, DVs K H (m.map f) ys ∧ m.length = ys.length ∧ ∀ x ∈ m, x ∈ l
  | [], _, _ => ⟨[], by unfold List.map DVs; rfl, rfl, fun _ h => by cases h⟩
  | y :: ys, h, k => by
    obtain ⟨m, h1, h2, h3⟩ := DVs.pick h fun z hz => k z (List.mem_cons_of_mem _ hz)
    obtain ⟨i, hi⟩ := List.getElem?_of_mem (k y (by simp))
    obtain ⟨x, hx, dx⟩ := h.map_get hi
    refine ⟨x :: m, ?_, by rw [List.length_cons, List.length_cons, h2], fun z hz => ?_⟩
    · exact ⟨y, ys, rfl, dx, h1⟩
    · rcases List.mem_cons.mp hz with e | e
      · rw [e]; exact List.mem_of_getElem? hx
      · exact h3 z e
theorem DVs.snoc {α : Type} {f : α → D} {x : α} {u : V} : ∀ {l : List α} {us : List V}, DVs K H (l.map f) us → DV K H (f x) u → DVs K H ((l ++ [x]).map f) (us ++ [u])
  | [], _, h, d => by unfold List.map DVs at h; subst h; exact ⟨u, [], rfl, d, by unfold List.map DVs; rfl⟩
  | y :: l, us, h, d => by
    obtain ⟨v, r, rfl, q, t⟩ := h
    exact ⟨v, r ++ [u], rfl, q, DVs.snoc t d⟩
theorem DVs.tk {H' : Hp} (t : TK K H H') {ds : List D} {us : List V} (h : DVs K H ds us) : DVs K H' ds us := DVs.ext t h
theorem DV.tk {H' : Hp} (t : TK K H H') {d : D} {u : V} (h : DV K H d u) : DV K H' d u := DV.ext t h
end
theorem find_step {α : Type} {p : α → Bool} {l : List α} {i : Nat} {x : α} (h : (l.take i).find? p = none) (e : l[i]? = some x) (hx : p x = false) : (l.take (i + 1)).find? p = none := by
  rw [List.take_add_one, e, List.find?_append, h]
  show (none : Option α).or ([x].find? p) = none
  simp [hx]
theorem find_hit {α : Type} {p : α → Bool} {l : List α} {i : Nat} {x : α} (h : (l.take i).find? p = none) (e : l[i]? = some x) (hx : p x = true) : l.find? p = some x := by
  have el : l = l.take i ++ x :: l.drop (i + 1) := by
    obtain ⟨h1, h2⟩ := List.getElem?_eq_some_iff.mp e
    rw [← h2, List.getElem_cons_drop, List.take_append_drop]
  rw [el, List.find?_append, h]
  show (none : Option α).or ((x :: l.drop (i + 1)).find? p) = some x
  rw [List.find?_cons_of_pos hx]; rfl
/-! ### books -/
structure Si where
  n : Str
  o : Int
  m : Int
  r : Int
  p : Str
structure Fd where
  g : Str
  t : Str
  p : Str
  h : Int
  z : Int
structure Sw where
  p : Str
  a : Str
  y : D
structure Bk where
  w : Int
  x : Int
  y : Int
  si : List Si
  ln : List (Str × Str)
  fd : List Fd
  sw : List Sw
def siD (s : Si) : D := .tup [.str (Str.ofString "site"), .str s.n, .int s.o, .int s.m, .int s.r, .str s.p]
def lnD (l : Str × Str) : D := .tup [.str l.1, .str l.2]
def fdD (f : Fd) : D := .tup [.str (Str.ofString "feed"), .str f.g, .str f.t, .str f.p, .int f.h, .int f.z]
def swD (s : Sw) : D := .tup [.str (Str.ofString "steward"), .str s.p, .str s.a, s.y]
def bkD (b : Bk) : D := .tup [.str (Str.ofString "book"), .int b.w, .tup [.int b.x, .int b.y], .tup (b.si.map siD), .tup (b.ln.map lnD), .tup (b.fd.map fdD), .tup (b.sw.map swD), .tup []]
structure BkOk (b : Bk) : Prop where
  si : b.si.length ≤ 10
  ln : b.ln.length ≤ 30
  fd : b.fd.length ≤ 100
  sw : b.sw.length ≤ 10
  sp : ∀ s ∈ b.si, (tl s.p).length ≤ 3000
  wp : ∀ s ∈ b.sw, (tl s.p).length ≤ 3000
  sn : ∀ s ∈ b.si, Low (tl s.n) ∧ (tl s.n).length ≤ 8
  fn : ∀ f ∈ b.fd, Low (tl f.g) ∧ Low (tl f.t)
def siteOf (b : Bk) (n : Str) : Option Si := b.si.find? fun s => decide (s.n = n)
def feedOf (b : Bk) (g t : Str) : Option Fd := b.fd.find? fun f => decide (f.g = g) && decide (f.t = t)
noncomputable def stwOf (b : Bk) (d : List Nat) : Option Sw := b.sw.find? fun s => letsL (parts (tl s.p)) d
def polOf (b : Bk) (a : Str) : Option Sw := b.sw.find? fun s => decide (s.a = a)
def optD {α : Type} (f : α → D) : Option α → D
  | none => .non
  | some x => f x
def nearL (b : Bk) (n : Str) : List Str := ((b.ln.filter fun l => decide (l.1 = n)).map (·.2)) ++ ((b.ln.filter fun l => decide (l.2 = n)).map (·.1))
/-- the seals so far, and a board more -/
noncomputable def sealF (b : Bk) (acc : List Str) (d : Str) : List Str := match stwOf b (tl d) with
  | none => acc
  | some s => if s.a ∈ acc then acc else acc ++ [s.a]
noncomputable def sealsL (b : Bk) (bs : List Str) : List Str := bs.foldl (sealF b) []
def sp_site_of (K : PySem.W.Frag) : Sp := fun vs H Q _ => ∃ (b : Bk) (v : V) (n : Str), vs = [v, .str n] ∧ DV K H (bkD b) v ∧ ∀ u, DV K H (optD siD (siteOf b n)) u → Q u H
def sp_feed_of (K : PySem.W.Frag) : Sp := fun vs H Q _ => ∃ (b : Bk) (v : V) (g t : Str), vs = [v, .str g, .str t] ∧ DV K H (bkD b) v ∧ BkOk b ∧ Low (tl g) ∧ Low (tl t) ∧ ∀ u H', Same H H' → DV K H' (optD fdD (feedOf b g t)) u → Q u H'
def sp_neighbours (K : PySem.W.Frag) : Sp := fun vs H Q _ => ∃ (b : Bk) (v : V) (n : Str), vs = [v, .str n] ∧ DV K H (bkD b) v ∧ BkOk b ∧ ∀ (t : Addr) (ys : List Str) (H' : Hp), Same H H' → SqT K H' t (ys.map V.str) → ys.Perm (nearL b n) → PyProof.Rows.sortedS ys = true → Q (.ref t) H'
noncomputable def carriesB (b : Bk) (n : Str) (bs : List Str) : Bool := match siteOf b n with
  | none => false
  | some s => bs.any fun d => letsL (parts (tl s.p)) (tl d)
def sp_carries (K : PySem.W.Frag) : Sp := fun vs H Q _ => ∃ (b : Bk) (v : V) (n : Str) (a : Addr) (bs : List Str), vs = [v, .str n, .ref a] ∧ DV K H (bkD b) v ∧ BkOk b ∧ SqT K H a (bs.map V.str) ∧ bs.length ≤ 1000 ∧ (∀ d ∈ bs, Clean (tl d)) ∧ ∀ H', Same H H' → Q (.bl (carriesB b n bs)) H'
def swA (s : Sw) : D := .str s.a
def sp_steward_of (K : PySem.W.Frag) : Sp := fun vs H Q _ => ∃ (b : Bk) (v : V) (d : Str), vs = [v, .str d] ∧ DV K H (bkD b) v ∧ BkOk b ∧ Clean (tl d) ∧ ∀ u H', Same H H' → DV K H' (optD swA (stwOf b (tl d))) u → Q u H'
def sp_seals (K : PySem.W.Frag) : Sp := fun vs H Q _ => ∃ (b : Bk) (v : V) (a : Addr) (bs : List Str), vs = [v, .ref a] ∧ DV K H (bkD b) v ∧ BkOk b ∧ SqT K H a (bs.map V.str) ∧ bs.length ≤ 1000 ∧ (∀ d ∈ bs, Clean (tl d)) ∧ ∀ (t : Addr) H', Same H H' → SqT K H' t ((sealsL b bs).map V.str) → Q (.ref t) H'
def sp_policy_of (K : PySem.W.Frag) : Sp := fun vs H Q _ => ∃ (b : Bk) (v : V) (a : Str), vs = [v, .str a] ∧ DV K H (bkD b) v ∧ ∀ u, DV K H (optD Sw.y (polOf b a)) u → Q u H
/-! ### what the law draws -/
def sp3__law_pick (K : PySem.W.Frag) : Sp := fun vs H Q _ =>
  (∃ (s a r : Addr) (xs : List V) (c : Nat), vs = [.ref s, .ref r] ∧ SqL K H r xs ∧ r ≠ s ∧ xs ≠ [] ∧ xs.length ≤ 100000 ∧ Src H s a (c + 1) ∧ ∀ (v : V) (H' : Hp), v ∈ xs → Ext s H H' → Src H' s a c → Q v H') ∨
  (∃ (s a : Addr) (x : Str) (c : Nat), vs = [.ref s, .str x] ∧ tl x ≠ [] ∧ (tl x).length ≤ 100000 ∧ Src H s a (c + 1) ∧ ∀ (ch : Nat) (H' : Hp), ch ∈ tl x → Ext s H H' → Src H' s a c → Q (.str (S [ch])) H') ∨
  (∃ (s a r : Addr) (xs : List V) (c : Nat), vs = [.ref s, .ref r] ∧ SqT K H r xs ∧ xs ≠ [] ∧ xs.length ≤ 100000 ∧ Src H s a (c + 1) ∧ ∀ (v : V) (H' : Hp), v ∈ xs → Ext s H H' → Src H' s a c → Q v H')
def Nms (us : List Str) : Prop := us.Nodup ∧ ∀ x ∈ us, Nm (tl x) ∧ (tl x).length ≤ 8
def sp9__law_new_name (K : PySem.W.Frag) : Sp := fun vs H Q _ => ∃ (s a u : Addr) (us : List Str) (c : Nat), vs = [.ref s, .ref u] ∧ SqL K H u (us.map V.str) ∧ u ≠ s ∧ us.length ≤ 9 ∧ Src H s a (c + 8) ∧
  ∀ (x : Str) (H' : Hp), Nm (tl x) → (tl x).length ≤ 8 → x ∉ us → Ext s H H' → Src H' s a c → Q (.str x) H'
def sp9__law_names (K : PySem.W.Frag) : Sp := fun vs H Q _ => ∃ (s a : Addr) (m c : Nat), vs = [.ref s, .int m] ∧ m ≤ 9 ∧ Src H s a (c + 8 * m) ∧
  ∀ (u : Addr) (us : List Str) (H' : Hp), H u = none → H' u = some (.lst (us.map V.str)) → us.length = m → Nms us → Ext s H H' → Src H' s a c → Q (.ref u) H'
def sp_lines (K : PySem.W.Frag) : Sp := fun vs H Q _ => ∃ (s a u : Addr) (us : List Str) (c : Nat), vs = [.ref s, .ref u] ∧ SqL K H u (us.map V.str) ∧ u ≠ s ∧ 1 ≤ us.length ∧ us.length ≤ 9 ∧ (∀ x ∈ us, Low (tl x)) ∧ Src H s a (c + 100) ∧
  ∀ (L : Addr) (ws : List V) (ls : List (Str × Str)) (H' : Hp), H L = none → H' L = some (.lst ws) → DVs K H' (ls.map lnD) ws → ls.length ≤ 20 → (∀ l ∈ ls, Low (tl l.1) ∧ Low (tl l.2)) → Ext s H H' → Src H' s a c → Q (.ref L) H'
def sp_feeds (K : PySem.W.Frag) : Sp := fun vs H Q _ => ∃ (s a L w : Addr) (ws : List V) (ls : List (Str × Str)) (us : List Str) (k : Int) (c : Nat), vs = [.ref s, .ref L, .ref w, .int k] ∧ SqL K H L ws ∧ L ≠ s ∧ DVs K H (ls.map lnD) ws ∧ ls.length ≤ 20 ∧ (∀ l ∈ ls, Low (tl l.1) ∧ Low (tl l.2)) ∧ SqL K H w (us.map V.str) ∧ w ≠ s ∧ Wds us ∧ 0 < k ∧ k ≤ 100 ∧ Src H s a (c + 20000) ∧
  ∀ (u : V) (fs : List Fd) (H' : Hp), DV K H' (.tup (fs.map fdD)) u → fs.length ≤ 40 → (∀ f ∈ fs, Low (tl f.g) ∧ Low (tl f.t)) → Ext s H H' → Src H' s a c → Q u H'
def sp_sites (K : PySem.W.Frag) : Sp := fun vs H Q _ => ∃ (s a u w o : Addr) (us ws : List Str) (z : Int) (is : List Int) (c : Nat), vs = [.ref s, .ref u, .ref w, .int z, .ref o] ∧ SqL K H u (us.map V.str) ∧ u ≠ s ∧ us.length ≤ 9 ∧ SqL K H w (ws.map V.str) ∧ w ≠ s ∧ Wds ws ∧ H o = some (.lst (is.map V.int)) ∧ o ≠ s ∧ is.length = us.length ∧ Src H s a (c + 5000) ∧
  ∀ (v : V) (l : List Si) (H' : Hp), DV K H' (.tup (l.map siD)) v → l.map (·.n) = us → (∀ x ∈ l, (tl x.p).length ≤ 200) → Ext s H H' → Src H' s a c → Q v H'
def sp_book (K : PySem.W.Frag) : Sp := fun vs H Q _ => ∃ (s a w : Addr) (ws : List Str) (m : Nat) (c : Nat), vs = [.ref s, .int (m : Int), .ref w] ∧ 1 ≤ m ∧ m ≤ 9 ∧ SqL K H w (ws.map V.str) ∧ w ≠ s ∧ Wds ws ∧ Src H s a (c + 30000) ∧
  ∀ (v : V) (b : Bk) (H' : Hp), DV K H' (bkD b) v → BkOk b → b.sw = [] → b.si ≠ [] → (b.si.map (·.n)).Nodup → Ext s H H' → Src H' s a c → Q v H'
def sp_stewards (K : PySem.W.Frag) : Sp := fun vs H Q _ => ∃ (s a w : Addr) (v : V) (b : Bk) (ws : List Str) (c : Nat), vs = [.ref s, v, .ref w] ∧ DV K H (bkD b) v ∧ b.si ≠ [] ∧ BkOk b ∧ SqL K H w (ws.map V.str) ∧ w ≠ s ∧ Wds ws ∧ Src H s a (c + 5000) ∧
  ∀ (u : V) (l : List Sw) (H' : Hp), DV K H' (.tup (l.map swD)) u → l.length ≤ 3 → (∀ x ∈ l, (tl x.p).length ≤ 200 ∧ (tl x.a).length ≤ 20 ∧ DL 4 x.y) → (l.map (·.a)).Nodup → Ext s H H' → Src H' s a c → Q u H'
/-! ### sorted texts, told by what they are -/
open PyProof.Rows in
theorem eqv_pair (a b c d : Str) : PyData.eqv (.tuple [.str a, .str b]) (.tuple [.str c, .str d]) = (decide (a = c) && decide (b = d)) := by
  simp [PyData.eqv, PyData.eqvAll]
  by_cases h1 : a = c <;> by_cases h2 : b = d <;> simp [h1, h2]
theorem ok_low {x : Str} (h : Low (tl x)) : PyData.strOk x = true := by
  unfold PyData.strOk
  rw [← Array.all_toList, List.all_eq_true]
  intro c m
  have := h c m
  exact decide_eq_true (by omega)
theorem pair_shaped {x y : Str} (hx : Low (tl x)) (hy : Low (tl y)) : SeqAt.shaped (.tuple [.str x, .str y]) = true := by
  simp [SeqAt.shaped, PyData.canLay0, PyData.canLayAll0, PyData.depth, PyData.depthAll, ok_low hx, ok_low hy]
end Z
namespace Z
open PySem L2 SX
open PyProof.Rows PySem.Spec
theorem find_uniq {α : Type} {f : α → Str} : ∀ {l : List α} {i : Nat} {x : α}, (l.map f).Nodup → l[i]? = some x → l.find? (fun y => decide (f y = f x)) = some x
  | [], i, x, _, h => by simp at h
  | y :: r, i, x, nd, h => by
    rw [List.map_cons, List.nodup_cons] at nd
    cases i with
    | zero =>
      have : y = x := Option.some.inj h
      subst this
      rw [List.find?_cons_of_pos (by simp)]
    | succ i =>
      have hr : r[i]? = some x := h
      have ne : ¬ f y = f x := fun e => nd.1 (by rw [e]; exact List.mem_map_of_mem (List.mem_of_getElem? hr))
      rw [List.find?_cons_of_neg (by simpa using ne)]
      exact find_uniq nd.2 hr
theorem lt_anti : ∀ {a b : List Nat}, ltCps a b = false → ltCps b a = false → a = b
  | [], [], _, _ => rfl
  | [], _ :: _, h, _ => by simp [ltCps] at h
  | _ :: _, [], _, h => by simp [ltCps] at h
  | x :: a, y :: b, h, k => by
    simp only [ltCps, Bool.or_eq_false_iff, decide_eq_false_iff_not, Bool.and_eq_false_iff] at h k
    have e : x = y := by omega
    subst e
    have h2 := h.2.resolve_left (by simp)
    have k2 := k.2.resolve_left (by simp)
    rw [lt_anti h2 k2]
theorem lt_trans : ∀ {a b c : List Nat}, ltCps b a = false → ltCps c b = false → ltCps c a = false
  | [], _, [], _, _ => rfl
  | [], _, _ :: _, _, _ => by simp [ltCps]
  | _ :: _, [], _, h, _ => by simp [ltCps] at h
  | _ :: _, _ :: _, [], _, k => by simp [ltCps] at k
  | x :: a, y :: b, z :: c, h, k => by
    simp only [ltCps, Bool.or_eq_false_iff, decide_eq_false_iff_not, Bool.and_eq_false_iff] at h k ⊢
    refine ⟨by omega, ?_⟩
    by_cases e : z = x
    · have e1 : y = x := by omega
      have e2 : z = y := by omega
      subst e1
      subst e2
      exact .inr (lt_trans (h.2.resolve_left (by simp)) (k.2.resolve_left (by simp)))
    · exact .inl (by simpa using e)
theorem rising_pw : ∀ {l : List Str} {p : Str}, risingS p l = true → (∀ x ∈ l, ltCps x.cps.toList p.cps.toList = false) ∧ l.Pairwise (fun a b => ltCps b.cps.toList a.cps.toList = false)
  | [], _, _ => ⟨(fun _ h => by cases h), List.Pairwise.nil⟩
  | x :: r, p, h => by
    have h' : (!ltCps x.cps.toList p.cps.toList && risingS x r) = true := h
    obtain ⟨h1, h2⟩ := Bool.and_eq_true_iff.mp h'
    have h1' : ltCps x.cps.toList p.cps.toList = false := by simpa using h1
    obtain ⟨k1, k2⟩ := rising_pw h2
    refine ⟨fun y hy => ?_, List.pairwise_cons.mpr ⟨k1, k2⟩⟩
    rcases List.mem_cons.mp hy with e | e
    · rw [e]; exact h1'
    · exact lt_trans h1' (k1 y e)
theorem sorted_pw : ∀ {l : List Str}, sortedS l = true → l.Pairwise (fun a b => ltCps b.cps.toList a.cps.toList = false)
  | [], _ => List.Pairwise.nil
  | x :: r, h => List.pairwise_cons.mpr (rising_pw (show risingS x r = true from h))
theorem pw_uniq : ∀ {ys zs : List Str}, ys.Perm zs → ys.Pairwise (fun a b => ltCps b.cps.toList a.cps.toList = false) → zs.Pairwise (fun a b => ltCps b.cps.toList a.cps.toList = false) → ys = zs
  | [], zs, p, _, _ => p.nil_eq
  | y :: r, [], p, _, _ => absurd p.symm.nil_eq (by simp)
  | y :: r, z :: t, p, hy, hz => by
    obtain ⟨y1, y2⟩ := List.pairwise_cons.mp hy
    obtain ⟨z1, z2⟩ := List.pairwise_cons.mp hz
    have e : y = z := by
      have m1 : y ∈ z :: t := p.mem_iff.mp (by simp)
      have m2 : z ∈ y :: r := p.mem_iff.mpr (by simp)
      rcases List.mem_cons.mp m1 with e | e
      · exact e
      · rcases List.mem_cons.mp m2 with e2 | e2
        · exact e2.symm
        · exact tl_ext (lt_anti (z1 y e) (y1 z e2)) 
    subst e
    rw [pw_uniq ((List.perm_cons y).mp p) y2 z2]
theorem sorted_uniq {ys zs : List Str} (p : ys.Perm zs) (sy : sortedS ys = true) (sz : sortedS zs = true) : ys = zs := pw_uniq p (sorted_pw sy) (sorted_pw sz)
theorem seal_len (b : Bk) (acc : List Str) (d : Str) : (sealF b acc d).length ≤ acc.length + 1 := by
  unfold sealF
  split
  · omega
  · split
    · omega
    · rw [List.length_append]; exact Nat.le_refl _
theorem seals_len (b : Bk) : ∀ (bs acc : List Str), (bs.foldl (sealF b) acc).length ≤ acc.length + bs.length
  | [], _ => Nat.le_refl _
  | d :: r, acc => by
    have h1 := seals_len b r (sealF b acc d)
    have h2 := seal_len b acc d
    rw [List.foldl_cons, List.length_cons]; omega
end Z
namespace Z
open PySem L2 SX
/-! ### walks over lines -/
def nb (L : List (Str × Str)) (x y : Str) : Prop := (x, y) ∈ L ∨ (y, x) ∈ L
theorem nb.symm {L : List (Str × Str)} {x y : Str} (h : nb L x y) : nb L y x := Or.symm h
inductive Wk (L : List (Str × Str)) : Nat → Str → Str → Prop
  | nil (x : Str) : Wk L 0 x x
  | snoc {n : Nat} {x y z : Str} : Wk L n x y → nb L y z → Wk L (n + 1) x z
theorem Wk.trans {L : List (Str × Str)} {a : Nat} {x y : Str} (h : Wk L a x y) : ∀ {b : Nat} {z : Str}, Wk L b y z → Wk L (a + b) x z := by
  intro b z k
  induction k with
  | nil => exact h
  | snoc _ e ih => exact .snoc (ih h) e
theorem Wk.symm {L : List (Str × Str)} {a : Nat} {x y : Str} (h : Wk L a x y) : Wk L a y x := by
  induction h with
  | nil => exact .nil _
  | @snoc n x y z _ e ih =>
    have := (Wk.snoc (.nil z) e.symm).trans ih
    rwa [show 0 + 1 + n = n + 1 by omega] at this
theorem Wk.zero {L : List (Str × Str)} {x y : Str} (h : Wk L 0 x y) : x = y := by cases h; rfl
theorem Wk.inv {L : List (Str × Str)} {n : Nat} {x z : Str} (h : Wk L (n + 1) x z) : ∃ y, Wk L n x y ∧ nb L y z := by
  cases h with
  | snoc a b => exact ⟨_, a, b⟩
def Dst (L : List (Str × Str)) (s y : Str) (d : Nat) : Prop := Wk L d s y ∧ ∀ k, k < d → ¬ Wk L k s y
theorem Dst.symm {L : List (Str × Str)} {s y : Str} {d : Nat} (h : Dst L s y d) : Dst L y s d := ⟨h.1.symm, fun k hk w => h.2 k hk w.symm⟩
theorem Dst.uniq {L : List (Str × Str)} {s y : Str} {d e : Nat} (h : Dst L s y d) (k : Dst L s y e) : d = e := by
  rcases Nat.lt_trichotomy d e with c | c | c
  · exact absurd h.1 (k.2 d c)
  · exact c
  · exact absurd k.1 (h.2 e c)
theorem Dst.le {L : List (Str × Str)} {s y : Str} {d e : Nat} (h : Dst L s y d) (k : Wk L e s y) : d ≤ e := by
  rcases Nat.lt_or_ge e d with c | c
  · exact absurd k (h.2 e c)
  · exact c
theorem dst_ex {L : List (Str × Str)} {s y : Str} : ∀ {d : Nat}, Wk L d s y → ∃ e, e ≤ d ∧ Dst L s y e := by
  intro d
  induction d using Nat.strongRecOn with
  | ind d ih =>
    intro h
    by_cases c : ∃ k, k < d ∧ Wk L k s y
    · obtain ⟨k, hk, w⟩ := c
      obtain ⟨e, he, q⟩ := ih k hk w
      exact ⟨e, by omega, q⟩
    · exact ⟨d, Nat.le_refl d, h, fun k hk w => c ⟨k, hk, w⟩⟩
theorem dst_self {L : List (Str × Str)} {s : Str} : Dst L s s 0 := ⟨.nil s, fun k hk => absurd hk (Nat.not_lt_zero k)⟩
/-- a step back on a shortest way -/
theorem Dst.back {L : List (Str × Str)} {s z : Str} {d : Nat} (h : Dst L s z (d + 1)) : ∃ y, nb L y z ∧ Dst L s y d := by
  obtain ⟨y, w, e⟩ := h.1.inv
  exact ⟨y, e, w, fun k hk k2 => h.2 (k + 1) (by omega) (.snoc k2 e)⟩
theorem Dst.near {L : List (Str × Str)} {s y z : Str} {d e : Nat} (h : Dst L s y d) (k : Dst L s z e) (n : nb L y z) : e ≤ d + 1 := k.le (.snoc h.1 n)
theorem nodup_len : ∀ {l m : List Str}, l.Nodup → (∀ x ∈ l, x ∈ m) → l.length ≤ m.length
  | [], m, _, _ => Nat.zero_le _
  | x :: l, m, nd, h => by
    obtain ⟨n1, n2⟩ := List.nodup_cons.mp nd
    have hx := h x (by simp)
    have := nodup_len (l := l) (m := m.erase x) n2 fun y my => (List.mem_erase_of_ne (fun e => n1 (by rw [← e]; exact my))).mpr (h y (List.mem_cons_of_mem _ my))
    have e := List.length_erase_of_mem hx
    have p := List.length_pos_of_mem hx
    rw [List.length_cons]; omega
theorem dst_chain {L : List (Str × Str)} {s : Str} {us : List Str} (hs : s ∈ us) (hu : ∀ l ∈ L, l.1 ∈ us ∧ l.2 ∈ us) : ∀ (d : Nat) (y : Str), Dst L s y d → ∃ l : List Str, l.length = d + 1 ∧ l.Nodup ∧ ∀ x ∈ l, x ∈ us ∧ ∃ e, e ≤ d ∧ Dst L s x e := by
  intro d
  induction d with
  | zero =>
    intro y h
    have e : s = y := h.1.zero
    exact ⟨[s], rfl, by simp, fun x hx => by rw [List.mem_singleton.mp hx]; exact ⟨hs, 0, Nat.le_refl _, dst_self⟩⟩
  | succ d ih =>
    intro z h
    obtain ⟨y, e, hy⟩ := h.back
    obtain ⟨l, h1, h2, h3⟩ := ih y hy
    refine ⟨z :: l, by rw [List.length_cons, h1], List.nodup_cons.mpr ⟨fun m => ?_, h2⟩, fun x hx => ?_⟩
    · obtain ⟨_, e', he, hd⟩ := h3 z m
      have := hd.uniq h
      omega
    · rcases List.mem_cons.mp hx with c | c
      · rw [c]
        refine ⟨?_, d + 1, Nat.le_refl _, h⟩
        rcases e with e | e
        · exact (hu _ e).2
        · exact (hu _ e).1
      · obtain ⟨a, e', he, hd⟩ := h3 x c
        exact ⟨a, e', by omega, hd⟩
theorem dst_lt {L : List (Str × Str)} {s y : Str} {us : List Str} {d : Nat} (hs : s ∈ us) (hu : ∀ l ∈ L, l.1 ∈ us ∧ l.2 ∈ us) (h : Dst L s y d) : d < us.length := by
  obtain ⟨l, h1, h2, h3⟩ := dst_chain hs hu d y h
  have := nodup_len h2 fun x m => (h3 x m).1
  omega
/-! ### distances found so far -/
structure Lv (L : List (Str × Str)) (s : Str) (us : List Str) (F : List (Str × Nat)) (k : Nat) (dn : Str → Str → Prop) : Prop where
  nd : (F.map (·.1)).Nodup
  us : ∀ x ∈ F, x.1 ∈ us
  ok : ∀ x ∈ F, Dst L s x.1 x.2 ∧ x.2 ≤ k + 1
  al : ∀ y d, d ≤ k → Wk L d s y → ∃ e, (y, e) ∈ F
  dn : ∀ x z, dn x z → ∃ e, (z, e) ∈ F
def DistOk (L : List (Str × Str)) (s : Str) (F : List (Str × Nat)) : Prop := (F.map (·.1)).Nodup ∧ (∀ x ∈ F, Dst L s x.1 x.2) ∧ ∀ y d, Wk L d s y → ∃ e, (y, e) ∈ F
theorem Lv.start {L : List (Str × Str)} {s : Str} {us : List Str} (hs : s ∈ us) : Lv L s us [(s, 0)] 0 fun _ _ => False := by
  refine ⟨by simp, fun x m => ?_, fun x m => ?_, fun y d hd w => ?_, fun _ _ h => h.elim⟩
  · rw [List.mem_singleton.mp m]; exact hs
  · rw [List.mem_singleton.mp m]; exact ⟨dst_self, by omega⟩
  · have : d = 0 := by omega
    subst this
    exact ⟨0, by rw [← w.zero]; simp⟩
section
variable {L : List (Str × Str)} {s : Str} {us : List Str} {F : List (Str × Nat)} {k : Nat} {dn : Str → Str → Prop}
theorem Lv.mono (h : Lv L s us F k dn) {dn' : Str → Str → Prop} (m : ∀ x z, dn' x z → dn x z ∨ ∃ e, (z, e) ∈ F) : Lv L s us F k dn' :=
  ⟨h.nd, h.us, h.ok, h.al, fun x z q => (m x z q).elim (h.dn x z) id⟩
theorem Lv.add (h : Lv L s us F k dn) (hu : ∀ l ∈ L, l.1 ∈ us ∧ l.2 ∈ us) {x z : Str} (hx : (x, k) ∈ F) (e : nb L x z) (hz : ∀ d, (z, d) ∉ F) {dn' : Str → Str → Prop} (m : ∀ a b, dn' a b → dn a b ∨ b = z) : Lv L s us (F ++ [(z, k + 1)]) k dn' := by
  refine ⟨?_, fun y hy => ?_, fun y hy => ?_, fun y d hd w => ?_, fun a b q => ?_⟩
  · rw [List.map_append, List.nodup_append]
    refine ⟨h.nd, by simp, fun a ha b hb => ?_⟩
    have : b = z := by simpa using hb
    subst this
    intro e
    subst e
    obtain ⟨p, hp, ep⟩ := List.mem_map.mp ha
    exact hz p.2 (by rw [← ep]; exact hp)
  · rcases List.mem_append.mp hy with c | c
    · exact h.us y c
    · rw [List.mem_singleton.mp c]
      rcases e with e | e
      · exact (hu _ e).2
      · exact (hu _ e).1
  · rcases List.mem_append.mp hy with c | c
    · exact h.ok y c
    · rw [List.mem_singleton.mp c]
      refine ⟨⟨.snoc (h.ok _ hx).1.1 e, fun j hj w => ?_⟩, Nat.le_refl _⟩
      obtain ⟨e', he⟩ := h.al z j (by omega) w
      exact hz e' he
  · obtain ⟨e', he⟩ := h.al y d hd w
    exact ⟨e', List.mem_append_left _ he⟩
  · rcases m a b q with c | c
    · obtain ⟨e', he⟩ := h.dn a b c
      exact ⟨e', List.mem_append_left _ he⟩
    · exact ⟨k + 1, by rw [c]; simp⟩
theorem Lv.next (h : Lv L s us F k dn) (hd : ∀ x z, (x, k) ∈ F → nb L x z → dn x z) : Lv L s us F (k + 1) fun _ _ => False := by
  refine ⟨h.nd, h.us, fun x m => ⟨(h.ok x m).1, by have := (h.ok x m).2; omega⟩, fun y d hd' w => ?_, fun _ _ q => q.elim⟩
  by_cases c : d ≤ k
  · exact h.al y d c w
  · have : d = k + 1 := by omega
    subst this
    obtain ⟨x, wx, e⟩ := w.inv
    obtain ⟨j, hj⟩ := h.al x k (Nat.le_refl _) wx
    have dj := (h.ok _ hj).1
    have lj := dj.le wx
    by_cases c2 : j = k
    · subst c2; exact h.dn x y (hd x y hj e)
    · exact h.al y (j + 1) (show j + 1 ≤ k by simp only at lj; omega) (.snoc dj.1 e)
/-- none at the last distance: all are found -/
theorem Lv.fin (h : Lv L s us F k dn) (h0 : ∀ y, (y, k) ∉ F) (h1 : ∀ y, (y, k + 1) ∉ F) (hs : ∃ e, (s, e) ∈ F) : DistOk L s F := by
  refine ⟨h.nd, fun x m => (h.ok x m).1, fun y d w => ?_⟩
  induction w with
  | nil => exact hs
  | @snoc n x y z w e ih =>
    obtain ⟨j, hj⟩ := ih h hs
    have l := (h.ok _ hj).2
    have : j ≠ k := fun e => h0 y (e ▸ hj)
    have : j ≠ k + 1 := fun e => h1 y (e ▸ hj)
    exact h.al z (j + 1) (show j + 1 ≤ k by simp only at l; omega) (.snoc (h.ok _ hj).1.1 e)
/-- as many steps as there are places: all are found -/
theorem Lv.all (h : Lv L s us F k dn) (hs : s ∈ us) (hu : ∀ l ∈ L, l.1 ∈ us ∧ l.2 ∈ us) (hk : us.length ≤ k + 1) : DistOk L s F := by
  refine ⟨h.nd, fun x m => (h.ok x m).1, fun y d w => ?_⟩
  obtain ⟨e, _, hd⟩ := dst_ex w
  have := dst_lt hs hu hd
  exact h.al y e (by omega) hd.1
theorem Lv.len (h : Lv L s us F k dn) : F.length ≤ us.length := by
  have := nodup_len h.nd (m := us) fun x m => by
    obtain ⟨p, hp, rfl⟩ := List.mem_map.mp m
    exact h.us p hp
  rwa [List.length_map] at this
end
/-! ### dicts of them -/
def fk (F : List (Str × Nat)) : List (Key × V) := F.map fun x => (Sum.inr x.1, V.int (x.2 : Nat))
theorem fk_none {F : List (Str × Nat)} {y : Str} (h : ∀ d, (y, d) ∉ F) : valV (fk F) (Sum.inr y : Key) = none := by
  unfold valV fk
  rw [Option.map_eq_none_iff, List.find?_eq_none]
  intro kv m e
  obtain ⟨p, hp, rfl⟩ := List.mem_map.mp m
  have : p.1 = y := Sum.inr.inj (of_decide_eq_true e)
  exact h p.2 (by rw [← this]; exact hp)
theorem fk_some {y : Str} {d : Nat} : ∀ {F : List (Str × Nat)}, (F.map (·.1)).Nodup → (y, d) ∈ F → valV (fk F) (Sum.inr y : Key) = some (V.int (d : Nat))
  | [], _, m => by cases m
  | p :: F, nd, m => by
    obtain ⟨n1, n2⟩ := List.nodup_cons.mp nd
    show valV ((Sum.inr p.1, V.int (p.2 : Nat)) :: fk F) _ = _
    rcases List.mem_cons.mp m with e | e
    · subst e; exact valV_pos rfl
    · rw [valV_neg fun z => n1 (by
        have : p.1 = y := Sum.inr.inj z
        show p.1 ∈ _
        rw [this]; exact List.mem_map_of_mem (f := (·.1)) e)]
      exact fk_some n2 e
theorem fk_put {F : List (Str × Nat)} {y : Str} {d : Nat} (h : ∀ e, (y, e) ∉ F) : putK (fk F) (Sum.inr y : Key) (V.int (d : Nat)) = fk (F ++ [(y, d)]) := by
  rw [putK_new _ (fk_none h)]
  unfold fk
  rw [List.map_append]; rfl
theorem fk_len (F : List (Str × Nat)) : (fk F).length = F.length := List.length_map _
/-- what is told of y -/
def Told (L : List (Str × Str)) (s y : Str) (u : V) : Prop := (∃ d : Nat, Dst L s y d ∧ u = .int (d : Nat)) ∨ (u = .non ∧ ∀ d, ¬ Wk L d s y)
theorem told_get {L : List (Str × Str)} {s : Str} {F : List (Str × Nat)} (h : DistOk L s F) (y : Str) : Told L s y ((valV (fk F) (Sum.inr y : Key)).getD .non) := by
  by_cases c : ∃ e, (y, e) ∈ F
  · obtain ⟨e, m⟩ := c
    rw [fk_some h.1 m]
    exact .inl ⟨e, h.2.1 _ m, rfl⟩
  · rw [fk_none fun d m => c ⟨d, m⟩]
    exact .inr ⟨rfl, fun d w => c (h.2.2 y d w)⟩
theorem Told.symm {L : List (Str × Str)} {s y : Str} {u : V} (h : Told L s y u) : Told L y s u := by
  rcases h with ⟨d, h, e⟩ | ⟨e, h⟩
  · exact .inl ⟨d, h.symm, e⟩
  · exact .inr ⟨e, fun d w => h d w.symm⟩
theorem Told.uniq {L : List (Str × Str)} {s y : Str} {u v : V} (h : Told L s y u) (k : Told L s y v) : u = v := by
  rcases h with ⟨d, h, e⟩ | ⟨e, h⟩ <;> rcases k with ⟨d', h', e'⟩ | ⟨e', h'⟩
  · rw [e, e', h.uniq h']
  · exact absurd h.1 (h' d)
  · exact absurd h'.1 (h d')
  · rw [e, e']
/-- the next place on the way from x to g -/
def NS (L : List (Str × Str)) (x g : Str) (u : V) : Prop := (u = .non ∧ (x = g ∨ ∀ d, ¬ Wk L d g x)) ∨
  ∃ (y : Str) (d : Nat), u = .str y ∧ Dst L g x (d + 1) ∧ nb L x y ∧ Dst L g y d ∧ ∀ z, nb L x z → Dst L g z d → ¬ tl z < tl y
theorem NS.uniq {L : List (Str × Str)} {x g : Str} {u v : V} (h : NS L x g u) (k : NS L x g v) : u = v := by
  rcases h with ⟨e, h⟩ | ⟨y, d, e, h1, h2, h3, h4⟩ <;> rcases k with ⟨e', h'⟩ | ⟨y', d', e', h1', h2', h3', h4'⟩
  · rw [e, e']
  · rcases h with h | h
    · subst h; have := h1'.uniq dst_self; omega
    · exact absurd h1'.1 (h _)
  · rcases h' with h | h
    · subst h; have := h1.uniq dst_self; omega
    · exact absurd h1.1 (h _)
  · have : d = d' := by have := h1.uniq h1'; omega
    subst this
    have a := h4 y' h2' h3'
    have b := h4' y h2 h3
    have : tl y = tl y' := List.le_antisymm (List.not_lt.mp a) (List.not_lt.mp b)
    rw [e, e', tl_ext this]
theorem near_iff {b : Bk} {x y : Str} : y ∈ nearL b x ↔ nb b.ln x y := by
  unfold nearL nb
  rw [List.mem_append, List.mem_map, List.mem_map]
  constructor
  · rintro (⟨l, hl, e⟩ | ⟨l, hl, e⟩)
    · obtain ⟨h1, h2⟩ := List.mem_filter.mp hl
      have : l.1 = x := of_decide_eq_true h2
      exact .inl (by rw [← this, ← e]; exact h1)
    · obtain ⟨h1, h2⟩ := List.mem_filter.mp hl
      have : l.2 = x := of_decide_eq_true h2
      exact .inr (by rw [← this, ← e]; exact h1)
  · rintro (h | h)
    · exact .inl ⟨(x, y), List.mem_filter.mpr ⟨h, decide_eq_true rfl⟩, rfl⟩
    · exact .inr ⟨(y, x), List.mem_filter.mpr ⟨h, decide_eq_true rfl⟩, rfl⟩
/-! ### books with lines between their sites -/
def nms (b : Bk) : List Str := b.si.map (·.n)
structure Net (b : Bk) : Prop where
  ok : BkOk b
  nd : (nms b).Nodup
  ne : b.si ≠ []
  ln : ∀ l ∈ b.ln, l.1 ∈ nms b ∧ l.2 ∈ nms b
theorem sput {H H' : Hp} {a : Addr} {o : HO} (h : Same H H') (n : H a = none) : Same H (upd H' a o) := fun b u hb => by
  rw [upd_ne (ne_of_none hb n)]; exact h b u hb
theorem tk_upd {K : PySem.W.Frag} {H : Hp} {p : Addr} {u o : HO} (h : H p = some u) (n1 : ∀ xs, u ≠ .tup xs) (n2 : ∀ o w, u ≠ .frz o w) : TK K H (upd H p o) := fun a xs q => by
  rcases q with (q | ⟨o', q⟩) | q
  · exact .inl (.inl (by rw [upd_ne (fun e => by rw [e, h] at q; exact n1 _ (Option.some.inj q))]; exact q))
  · exact .inl (.inr ⟨o', by rw [upd_ne (fun e => by rw [e, h] at q; exact n2 _ _ (Option.some.inj q))]; exact q⟩)
  · exact .inr q
def sp53_distances (K : PySem.W.Frag) : Sp := fun vs H Q _ => ∃ (b : Bk) (v : V) (s : Str), vs = [v, .str s] ∧ DV K H (bkD b) v ∧ Net b ∧ s ∈ nms b ∧ ∀ (p : Addr) (F : List (Str × Nat)) (H' : Hp), H p = none → Same H H' → H' p = some (.dK (fk F)) → DistOk b.ln s F → Q (.ref p) H'
def sp53_distance (K : PySem.W.Frag) : Sp := fun vs H Q _ => ∃ (b : Bk) (v : V) (s y : Str), vs = [v, .str s, .str y] ∧ DV K H (bkD b) v ∧ Net b ∧ s ∈ nms b ∧ ∀ (u : V) (H' : Hp), Same H H' → Told b.ln s y u → Q u H'
def sp53_next_site (K : PySem.W.Frag) : Sp := fun vs H Q _ => ∃ (b : Bk) (v : V) (x g : Str), vs = [v, .str x, .str g] ∧ DV K H (bkD b) v ∧ Net b ∧ g ∈ nms b ∧ ∀ (u : V) (H' : Hp), Same H H' → NS b.ln x g u → Q u H'
def sp53_spread (K : PySem.W.Frag) : Sp := sp53_distances K
def sp53_onward (K : PySem.W.Frag) : Sp := fun vs H Q _ => ∃ (b : Bk) (v : V) (p : Addr) (x g : Str) (F : List (Str × Nat)), vs = [v, .ref p, .str x] ∧ DV K H (bkD b) v ∧ Net b ∧ H p = some (.dK (fk F)) ∧ DistOk b.ln g F ∧ ∀ (u : V) (H' : Hp), Same H H' → NS b.ln x g u → Q u H'
def sp53_route (K : PySem.W.Frag) : Sp := fun vs H Q _ => ∃ (b : Bk) (v : V) (x g : Str), vs = [v, .str x, .str g] ∧ DV K H (bkD b) v ∧ Net b ∧ x ∈ nms b ∧ g ∈ nms b ∧ ∀ (H' : Hp), Same H H' → Q (.bl true) H'
theorem map_get {α : Type} {f : α → V} {l : List α} {i : Nat} {x : V} (h : (l.map f)[i]? = some x) : ∃ y, l[i]? = some y ∧ x = f y := by
  rw [List.getElem?_map] at h
  cases e : l[i]? with
  | none => rw [e] at h; cases h
  | some y => rw [e] at h; exact ⟨y, rfl, (Option.some.inj h).symm⟩
theorem filt_step2 {α : Type} {p : α → Bool} {l : List α} {i : Nat} {x : α} (e : l[i]? = some x) : (l.take (i + 1)).filter p = (l.take i).filter p ++ (if p x = true then [x] else []) := by
  rw [List.take_add_one, e, List.filter_append]
  congr 1
  by_cases c : p x = true
  · rw [if_pos c]; exact List.filter_eq_self.mpr fun y hy => by rw [List.mem_singleton.mp hy]; exact c
  · rw [if_neg c]; exact List.filter_eq_nil_iff.mpr fun y hy => by rw [List.mem_singleton.mp hy]; exact c
/-- y is a step nearer -/
noncomputable def hit (F : List (Str × Nat)) (D : Nat) (y : Str) : Bool := @decide (∃ d, D = d + 1 ∧ (y, d) ∈ F) (Classical.propDecidable _)
theorem hit_iff {F : List (Str × Nat)} {D : Nat} {y : Str} : hit F D y = true ↔ ∃ d, D = d + 1 ∧ (y, d) ∈ F := by
  unfold hit; exact @decide_eq_true_iff _ (Classical.propDecidable _)
theorem mem_uniq {y : Str} {d e : Nat} : ∀ {F : List (Str × Nat)}, (F.map (·.1)).Nodup → (y, d) ∈ F → (y, e) ∈ F → d = e
  | [], _, m, _ => by cases m
  | p :: F, nd, m, k => by
    obtain ⟨n1, n2⟩ := List.nodup_cons.mp nd
    have no : ∀ {e : Nat}, (y, e) ∈ F → p.1 ≠ y := fun {e} z w => n1 (by show p.1 ∈ _; rw [w]; exact List.mem_map_of_mem (f := (·.1)) z)
    rcases List.mem_cons.mp m with e1 | e1 <;> rcases List.mem_cons.mp k with e2 | e2
    · exact (Prod.mk.inj (e1.trans e2.symm)).2
    · exact absurd (by rw [← e1]) (no e2)
    · exact absurd (by rw [← e2]) (no e1)
    · exact mem_uniq n2 e1 e2
theorem hit_val {F : List (Str × Nat)} {D e : Nat} {y : Str} (nd : (F.map (·.1)).Nodup) (h : (y, e) ∈ F) : decide (V.int (e : Nat) = V.int ((D : Nat) - 1)) = hit F D y := by
  rw [Bool.eq_iff_iff, decide_eq_true_iff, hit_iff]
  constructor
  · intro q
    have := V.int.inj q
    exact ⟨e, by omega, h⟩
  · rintro ⟨d, rfl, m⟩
    rw [mem_uniq nd h m]
    show V.int _ = V.int _
    congr 1; omega
theorem ns_some {L : List (Str × Str)} {g x y : Str} {F : List (Str × Nat)} {D : Nat} (h : DistOk L g F) (hx : (x, D) ∈ F) (hy : nb L x y) (hh : hit F D y = true) (hm : ∀ z, nb L x z → hit F D z = true → ¬ tl z < tl y) : NS L x g (.str y) := by
  obtain ⟨d, rfl, m⟩ := hit_iff.mp hh
  refine .inr ⟨y, d, rfl, h.2.1 _ hx, hy, h.2.1 _ m, fun z hz hd => hm z hz (hit_iff.mpr ⟨d, rfl, ?_⟩)⟩
  obtain ⟨e, he⟩ := h.2.2 z d hd.1
  have := (h.2.1 _ he).uniq hd
  simp only at this
  rw [← this]; exact he
theorem ns_none {L : List (Str × Str)} {g x : Str} {F : List (Str × Nat)} {D : Nat} (h : DistOk L g F) (hx : (x, D) ∈ F) (hn : ∀ y, nb L x y → hit F D y = false) : NS L x g .non := by
  have dx := h.2.1 _ hx
  cases D with
  | zero => exact .inl ⟨rfl, .inl dx.1.zero.symm⟩
  | succ d =>
    obtain ⟨y, e, hd⟩ := dx.back
    obtain ⟨j, hj⟩ := h.2.2 y d hd.1
    have := (h.2.1 _ hj).uniq hd
    simp only at this
    have t := hn y e.symm
    rw [hit_iff.mpr ⟨j, by rw [this], hj⟩] at t
    cases t
theorem ns_far {L : List (Str × Str)} {g x : Str} {F : List (Str × Nat)} (h : DistOk L g F) (hx : ∀ d, (x, d) ∉ F) : NS L x g .non :=
  .inl ⟨rfl, .inr fun d w => by obtain ⟨e, he⟩ := h.2.2 x d w; exact hx e he⟩
theorem sorted_first {y : Str} {r : List Str} (h : (y :: r).Pairwise fun a b => PySem.Spec.ltCps b.cps.toList a.cps.toList = false) : ∀ z ∈ y :: r, ¬ tl z < tl y := fun z hz => by
  rcases List.mem_cons.mp hz with e | e
  · rw [e]; exact fun q => List.lt_irrefl _ q
  · have := (List.pairwise_cons.mp h).1 z e
    rw [PyProof.Rows.ltCps_eq] at this
    exact of_decide_eq_false this
theorem iG {c : Bool} {A B : Prop} (h : c = true) (a : A) : if c = true then A else B := by rw [if_pos h]; exact a
theorem iN {c : Bool} {A B : Prop} (h : c = false) (b : B) : if c = true then A else B := by rw [if_neg (by rw [h]; exact Bool.false_ne_true)]; exact b
def sp53_lines (K : PySem.W.Frag) : Sp := fun vs H Q _ => ∃ (s a u : Addr) (us : List Str) (c : Nat), vs = [.ref s, .ref u] ∧ SqL K H u (us.map V.str) ∧ u ≠ s ∧ 1 ≤ us.length ∧ us.length ≤ 9 ∧ (∀ x ∈ us, Low (tl x)) ∧ Src H s a (c + 100) ∧
  ∀ (L : Addr) (ws : List V) (ls : List (Str × Str)) (H' : Hp), H L = none → H' L = some (.lst ws) → DVs K H' (ls.map lnD) ws → ls.length ≤ 20 → (∀ l ∈ ls, l.1 ∈ us ∧ l.2 ∈ us) → Ext s H H' → Src H' s a c → Q (.ref L) H'
def sp53_book (K : PySem.W.Frag) : Sp := fun vs H Q _ => ∃ (s a w : Addr) (ws : List Str) (m : Nat) (c : Nat), vs = [.ref s, .int (m : Int), .ref w] ∧ 1 ≤ m ∧ m ≤ 9 ∧ SqL K H w (ws.map V.str) ∧ w ≠ s ∧ Wds ws ∧ Src H s a (c + 30000) ∧
  ∀ (v : V) (b : Bk) (H' : Hp), DV K H' (bkD b) v → Net b → b.ln.length ≤ 20 → Ext s H H' → Src H' s a c → Q v H'
def sp53_over (K : PySem.W.Frag) : Sp := fun vs H Q _ => ∃ (b : Bk) (v : V) (L : Addr) (ws : List V) (ls : List (Str × Str)), vs = [v, .ref L] ∧ DV K H (bkD b) v ∧ BkOk b ∧ SqL K H L ws ∧ DVs K H (ls.map lnD) ws ∧ ls.length ≤ 30 ∧ (∀ l ∈ ls, Low (tl l.1) ∧ Low (tl l.2)) ∧
  ∀ (u : V) (fs : List Fd) (H' : Hp), DV K H' (bkD { b with ln := ls, fd := fs }) u → fs.length ≤ 100 → (∀ f ∈ fs, f ∈ b.fd) → Same H H' → Q u H'
def sp53_change (K : PySem.W.Frag) : Sp := fun vs H Q _ => ∃ (s a : Addr) (b : Bk) (v : V) (c : Nat), vs = [.ref s, v] ∧ DV K H (bkD b) v ∧ Net b ∧ b.ln.length ≤ 29 ∧ Src H s a (c + 100) ∧
  ∀ (u : V) (b' : Bk) (H' : Hp), DV K H' (bkD b') u → Net b' → nms b' = nms b → b'.ln.length ≤ b.ln.length + 1 → Ext s H H' → Src H' s a c → Q u H'
theorem alike_ln (b c : Str × Str) : PySem.W.alike (py (lnD b)) (py (lnD c)) = true := by simp [lnD, py, pys, PySem.W.alike, PySem.W.alikeAll]
theorem depth_ln (b : Str × Str) : (py (lnD b)).depth ≤ 60 := by simp [lnD, py, pys, PyData.depth, PyData.depthAll]
end Z
namespace Z
open PySem L2
section
variable {P : Program} {w : World} {K : PySem.W.Frag} {mg : Str → Option Value} {base : Heap}
theorem ok__law_mix (D : Df K mg "_law_mix" s__law_mix ["seed", "turn"]) (T : Tx mg) : Cal P w K mg base "_law_mix" ["seed", "turn"] 1 sp__law_mix := by
  obtain ⟨f, fd, F, gf, bf⟩ := D
  refine ⟨f, fd, F.ok sc__law_mix (fun vs H Q E h => ?_) (fun cdv A outer s H vs Q E hr h => ?_), gf, F.kp, bf⟩
  · obtain ⟨x, y, rfl, _⟩ := h; rfl
  · obtain ⟨x, y, rfl, x0, x1, y0, y1, q⟩ := h
    refine ⟨_, (pss_cons (ps_set (i := 2) sc__law_mix.nd rfl (Or.inl rfl) (pe_op op_mod (pe_callTy call_int1 (by rfl) T.n_int (by decide +kernel) (pa_cons (pe_op op_add (pe_op op_add (pe_op op_mul (pv 0) pe_int) (pe_op op_mul (pv 1) pe_int)) pe_int) pa_nil)) pe_int))
      (pss_cons (ps_set (i := 2) sc__law_mix.nd rfl (Or.inl rfl) (pe_op op_mod (pe_callTy call_int1 (by rfl) T.n_int (by decide +kernel) (pa_cons (pe_op op_add (pe_op op_add (pe_op op_mul (pv 2) (pv 2)) (pe_op op_mul (pv 1) pe_int)) pe_int) pa_nil)) pe_int))
      (pss_cons (ps_set (i := 2) sc__law_mix.nd rfl (Or.inl rfl) (pe_op op_mod (pe_callTy call_int1 (by rfl) T.n_int (by decide +kernel) (pa_cons (pe_op op_add (pe_op op_add (pe_op op_mul (pv 2) pe_int) (pe_op op_mul (pe_op op_mul (pv 1) (pv 1)) pe_int)) pe_int) pa_nil)) pe_int))
      (pss_one (ps_ret (pv 2)))))), ?_⟩

    refine ⟨_, rfl, _, _, rfl, rfl, .inr (by decide), _, rfl, _, _, rfl, rfl, .inr (by decide), _, _, rfl, rfl, _, _, rfl, rfl, .inl ⟨_, rfl, _, _, rfl, rfl, (by show (0 : Int) < _; decide), ?_⟩⟩
    refine ⟨_, rfl, _, rfl, _, _, rfl, rfl, .inl ⟨by omega, by omega⟩, _, rfl, _, _, rfl, rfl, .inr (by decide), _, _, rfl, rfl, _, _, rfl, rfl, .inl ⟨_, rfl, _, _, rfl, rfl, (by show (0 : Int) < _; decide), ?_⟩⟩
    refine ⟨_, rfl, _, _, rfl, rfl, .inr (by decide), _, rfl, _, rfl, _, _, rfl, rfl, .inl ⟨by omega, by omega⟩, _, _, rfl, rfl, .inr (by decide), _, _, rfl, rfl, _, _, rfl, rfl, .inl ⟨_, rfl, _, _, rfl, rfl, (by show (0 : Int) < _; decide), ?_⟩⟩
    exact ⟨_, rfl, q _ (Int.emod_nonneg _ (by decide)) (by omega)⟩
end
end Z
namespace Z
open PySem L2
section
variable {P : Program} {w : World} {K : PySem.W.Frag} {mg : Str → Option Value} {base : Heap}
theorem ok__law_source (D : Df K mg "_law_source" s__law_source ["script"]) (T : Tx mg) (C__law_mix : Cal P w K mg base "_law_mix" ["seed", "turn"] 1 sp__law_mix) : Cal P w K mg base "_law_source" ["script"] 2 (sp__law_source K) := by
  obtain ⟨f__law_mix, fd__law_mix, G__law_mix, g__law_mix, k__law_mix, b__law_mix⟩ := C__law_mix
  obtain ⟨f, fd, F, gf, bf⟩ := D
  refine ⟨f, fd, F.ok sc__law_source (fun vs H Q E h => ?_) (fun cdv A outer s H vs Q E hr h => ?_), gf, F.kp, bf⟩
  · obtain ⟨a, ns, rfl, _⟩ := h; rfl
  · obtain ⟨a, ns, rfl, hS, hlen, q⟩ := h
    refine ⟨_, (pss_cons (ps_set (i := 1) sc__law_source.nd rfl (Or.inl rfl) pe_int)
      (pss_cons (ps_for PassesOwn.never rfl (pi_range1 (by rfl) T.n_range (pa_cons (pe_callB call_len_seq (by rfl) T.n_len PySem.boot_len (pa_cons (pv 0) pa_nil)) pa_nil)) (pg_name (i := 2) sc__law_source.nd rfl (Or.inl rfl))
      (pss_one (ps_set (i := 1) sc__law_source.nd rfl (Or.inl rfl) (pe_call G__law_mix (hr.mono (by decide)) (by rfl) g__law_mix k__law_mix b__law_mix .nil pass0 (pa_cons (pe_op op_add (pv 1) (pe_op op_mod (pe_callTy call_int1 (by rfl) T.n_int (by decide +kernel) (pa_cons (pe_ix ix_list (pv 0) (pv 2) (fun _ _ => rfl)) pa_nil)) pe_int)) (pa_cons (pv 2) pa_nil))))))
      (pss_one (ps_ret (pe_lst (pa_cons (pe_callTy call_list_of (by rfl) T.n_list (by decide +kernel) (pa_cons (pv 0) pa_nil)) (pa_cons pe_int (pa_cons pe_int (pa_cons (pv 1) (pa_cons pe_int pa_nil)))))))))), ?_⟩
    refine ⟨_, rfl, a, _, rfl, .inl hS, _, rfl, by rw [List.length_map]; omega, by rw [List.length_map]; omega, ?_⟩
    refine for_range (lo := 0) (n := (((ns.map V.int).length : Int)).toNat) (fun i σ H' => ∃ (e : Int) (v : Option V), σ = [some (.ref a), some (.int e), v] ∧ H' = H ∧ 0 ≤ e ∧ e < 2147483647) ⟨17, none, rfl, rfl, by decide, by decide⟩ ?_ ?_
    · rintro i σ H' hi ⟨e, v, rfl, rfl, e0, e1⟩
      rw [List.length_map] at hi
      have hi' : i < ns.length := by omega
      refine ⟨_, rfl, _, rfl, _, rfl, a, _, _, .int ns[i], rfl, rfl, hS, ?_, .inl ⟨_, rfl, _, _, rfl, rfl, (by show (0 : Int) < _; decide), _, _, rfl, rfl, _, rfl, ?_⟩⟩
      · rw [Int.zero_add]
        exact atI_nat (by rw [List.getElem?_map, List.getElem?_eq_getElem hi']; rfl)
      · refine ⟨_, _, rfl, ?_, ?_, ?_, ?_, fun v v0 v1 => ?_⟩
        · have := Int.emod_nonneg ns[i] (by decide : (2147483647 : Int) ≠ 0); omega
        · have := Int.emod_lt_of_pos ns[i] (by decide : (0 : Int) < 2147483647); omega
        · omega
        · omega
        · exact ⟨v, _, rfl, rfl, v0, v1⟩
    · rintro σ H' ⟨e, v, rfl, rfl, e0, e1⟩
      refine ⟨_, rfl, a, _, rfl, .inl hS, fun l hl => ?_⟩
      refine ⟨_, rfl, by show 5 ≤ sizeLine; decide, fun s hs => ?_⟩
      have hsl : s ≠ l := fun z => by rw [z, upd_same] at hs; cases hs
      have hs0 : H' s = none := by rw [upd_ne hsl] at hs; exact hs
      refine q s l _ hs0 ((same_new hl).trans (same_new hs)) ⟨ns, 0, 0, e, 0, upd_same, by rw [upd_ne hsl.symm, upd_same], hsl.symm, hlen, by decide, by decide, by decide, e0, e1, by decide, by decide⟩
end
end Z
namespace Z
open PySem L2
section
variable {P : Program} {w : World} {K : PySem.W.Frag} {mg : Str → Option Value} {base : Heap}
theorem ok__law_draw (D : Df K mg "_law_draw" s__law_draw ["source", "many"]) (T : Tx mg) (C__law_mix : Cal P w K mg base "_law_mix" ["seed", "turn"] 1 sp__law_mix) : Cal P w K mg base "_law_draw" ["source", "many"] 2 sp__law_draw := by
  obtain ⟨f__law_mix, fd__law_mix, G__law_mix, g__law_mix, k__law_mix, b__law_mix⟩ := C__law_mix
  obtain ⟨f, fd, F, gf, bf⟩ := D
  refine ⟨f, fd, F.ok sc__law_draw (fun vs H Q E h => ?_) (fun cdv A outer s H vs Q E hr h => ?_), gf, F.kp, bf⟩
  · obtain ⟨s, a, m, c, rfl, _⟩ := h; rfl
  · obtain ⟨s, a, m, c, rfl, m0, m1, hS, q⟩ := h
    refine ⟨_, (C8.pss_cut (ps_if (PW.pt (pw_and (pt_cmpR op_eq (pe_ix ix_list (pv 0) pe_int (fun _ _ => rfl)) pe_int (nomark _)) (pw_and (pt_cmpR op_lt (pe_ix ix_list (pv 0) pe_int (fun _ _ => rfl)) (pe_callB call_len_seq (by rfl) T.n_len PySem.boot_len (pa_cons (pe_ix ix_list (pv 0) pe_int (fun _ _ => rfl)) pa_nil)) (nomark _)) (pw_and1 (pt_cmpR op_eq (pe_op op_mod (pe_callTy call_int1 (by rfl) T.n_int (by decide +kernel) (pa_cons (pe_ix ix_list (pv 0) pe_int (fun _ _ => rfl)) pa_nil)) pe_int) pe_int (nomark _))))))
      (pss_cons (ps_set (i := 2) sc__law_draw.nd rfl (Or.inl rfl) (pe_ix ix_list (pe_ix ix_list (pv 0) pe_int (fun _ _ => rfl)) (pe_ix ix_list (pv 0) pe_int (fun _ _ => rfl)) (fun _ _ => rfl)))
        (pss_cons (ps_asg (pe_op op_add (pe_ix ix_list (pv 0) pe_int (fun _ _ => rfl)) pe_int) (pg_sub (pv 0) pe_int set_list))
        (pss_one (ps_if (pt_cmpR op_ge (pe_callB call_abs (by rfl) T.n_abs (by decide +kernel) (pa_cons (pv 2) pa_nil)) (pe_op op_pow pe_int pe_int) (nomark _))
        (pss_one (ps_asg (pe_op op_and (pe_callB call_abs (by rfl) T.n_abs (by decide +kernel) (pa_cons (pv 2) pa_nil)) (pe_op op_sub (pe_op op_shl pe_int pe_int) pe_int)) (pg_sub (pv 0) pe_int set_list)))
        (pss_one (ps_asg (pe_call G__law_mix (hr.mono (by decide)) (by rfl) g__law_mix k__law_mix b__law_mix .nil pass0 (pa_cons (pe_op op_add (pe_ix ix_list (pv 0) pe_int (fun _ _ => rfl)) (pe_op op_mod (pe_callTy call_int1 (by rfl) T.n_int (by decide +kernel) (pa_cons (pv 2) pa_nil)) pe_int)) (pa_cons (pe_ix ix_list (pv 0) pe_int (fun _ _ => rfl)) pa_nil))) (pg_sub (pv 0) pe_int set_list)))))))
      pss_nil)
      (pss_cons (ps_if (pt_cmpR op_gt (pe_ix ix_list (pv 0) pe_int (fun _ _ => rfl)) pe_int (nomark _))
      (pss_cons (ps_set (i := 3) sc__law_draw.nd rfl (Or.inl rfl) (pe_op op_mod (pe_callTy call_int1 (by rfl) T.n_int (by decide +kernel) (pa_cons (pe_ix ix_list (pv 0) pe_int (fun _ _ => rfl)) pa_nil)) (pv 1)))
        (pss_cons (ps_asg (pe_op op_fdivN (pe_callTy call_int1 (by rfl) T.n_int (by decide +kernel) (pa_cons (pe_ix ix_list (pv 0) pe_int (fun _ _ => rfl)) pa_nil)) (pv 1)) (pg_sub (pv 0) pe_int set_list))
        (pss_one (ps_ret (pv 3)))))
      pss_nil)
      (pss_cons (ps_asg (pe_op op_add (pe_ix ix_list (pv 0) pe_int (fun _ _ => rfl)) pe_int) (pg_sub (pv 0) pe_int set_list))
      (pss_one (ps_ret (pe_op op_mod (pe_callTy call_int1 (by rfl) T.n_int (by decide +kernel) (pa_cons (pe_op op_fdiv (pe_call G__law_mix (hr.mono (by decide)) (by rfl) g__law_mix k__law_mix b__law_mix .nil pass0 (pa_cons (pe_ix ix_list (pv 0) pe_int (fun _ _ => rfl)) (pa_cons (pe_ix ix_list (pv 0) pe_int (fun _ _ => rfl)) pa_nil))) pe_int) pa_nil)) (pv 1))))))), ?_⟩
    refine ⟨fun σ' H' => (∃ v2 v3, σ' = [some (.ref s), some (.int m), v2, v3]) ∧ Src H' s a (c + 1) ∧ Ext s H H', ?_, ?_⟩
    · obtain ⟨ns, i, b, e, t, h1, h2, as, h4, h5, h6, h7, h8, h9, h10, h11⟩ := id hS
      have hL : SqL K H s [.ref a, .int i, .int b, .int e, .int t] := SqL.of h1
      refine ⟨_, rfl, _, _, _, _, rfl, rfl, hL, rfl, rfl, _, rfl, ite2 (fun c1 => ?_) (fun c1 => iteF ⟨⟨_, _, rfl⟩, hS, Ext.refl _ _⟩)⟩
      refine ⟨_, rfl, _, _, _, _, rfl, rfl, hL, rfl, _, rfl, _, _, _, _, rfl, rfl, hL, rfl, a, _, rfl, .inl (SqL.of h2), _, _, rfl, rfl, _, rfl, ite2 (fun c2 => ?_) (fun c2 => iteF ⟨⟨_, _, rfl⟩, hS, Ext.refl _ _⟩)⟩
      refine ⟨_, rfl, _, _, _, _, rfl, rfl, hL, rfl, .inl ⟨_, rfl, _, _, rfl, rfl, (by show (0 : Int) < 6; decide), rfl, _, rfl, ite2 (fun c3 => ?_) (fun c3 => ⟨⟨_, _, rfl⟩, hS, Ext.refl _ _⟩)⟩⟩
      have hi : i < ns.length := by
        have := of_decide_eq_true c2
        rw [List.length_map] at this
        exact this
      have hi' : i.toNat < ns.length := by omega
      -- cell = source[0][source[1]]
      refine ⟨_, rfl, _, _, _, _, rfl, rfl, hL, rfl, _, rfl, _, _, _, _, rfl, rfl, hL, rfl, a, _, _, .int ns[i.toNat], rfl, rfl, SqL.of h2, at_of (j := i.toNat) (by omega) (by rw [List.getElem?_map, List.getElem?_eq_getElem hi']; rfl), ?_⟩
      -- source[1] = source[1] + 1
      refine ⟨_, rfl, _, _, _, _, rfl, rfl, hL, rfl, _, _, rfl, rfl, _, rfl, _, _, _, 1, rfl, rfl, h1, rfl, ?_⟩
      refine ⟨_, rfl, _, rfl, _, _, rfl, rfl, ⟨by decide, by decide, by decide⟩, _, _, rfl, rfl, _, rfl, ite2 (fun c4 => ?_) (fun c4 => ?_)⟩
      · refine ⟨_, rfl, _, rfl, _, _, rfl, rfl, ⟨by decide, by decide, by decide⟩, _, _, rfl, rfl, _, _, rfl, rfl, _, rfl, _, _, _, 2, rfl, rfl, upd_same, rfl, ?_⟩
        refine ⟨⟨_, _, rfl⟩, ?_, ?_⟩
        · refine ⟨ns, i + 1, _, e, t, upd_same, by rw [upd_ne as, upd_ne as]; exact h2, as, h4, by omega, by omega, ?_, h8, h9, h10, h11⟩
          exact and_nn (by split <;> omega) _
        · exact Ext.put.trans Ext.put
      · refine ⟨_, rfl, _, _, _, _, rfl, rfl, SqL.of upd_same, rfl, _, rfl, .inl ⟨_, rfl, _, _, rfl, rfl, (by show (0 : Int) < 2147483647; decide), _, _, rfl, rfl, _, rfl, _, _, _, _, rfl, rfl, SqL.of upd_same, rfl, _, _, rfl, ?_, ?_, ?_, ?_, fun v v0 v1 => ?_⟩⟩
        · have := Int.emod_nonneg ns[i.toNat] (by decide : (2147483647 : Int) ≠ 0); omega
        · have := Int.emod_lt_of_pos ns[i.toNat] (by decide : (0 : Int) < 2147483647); omega
        · omega
        · omega
        · refine ⟨_, rfl, _, _, _, 3, rfl, rfl, upd_same, rfl, ⟨_, _, rfl⟩, ?_, Ext.put.trans Ext.put⟩
          exact ⟨ns, i + 1, b, v, t, upd_same, by rw [upd_ne as, upd_ne as]; exact h2, as, h4, by omega, by omega, h7, v0, v1, h10, h11⟩
    · rintro σ' H' ⟨⟨v2, v3, rfl⟩, hS', hx⟩
      obtain ⟨ns, i, b, e, t, h1, h2, as, h4, h5, h6, h7, h8, h9, h10, h11⟩ := id hS'
      have hL : SqL K H' s [.ref a, .int i, .int b, .int e, .int t] := SqL.of h1
      refine ⟨_, rfl, _, _, _, _, rfl, rfl, hL, rfl, _, _, rfl, rfl, _, rfl, ite2 (fun c1 => ?_) (fun c1 => ?_)⟩
      · refine ⟨_, rfl, _, _, _, _, rfl, rfl, hL, rfl, .inl ⟨_, rfl, _, rfl, _, _, rfl, rfl, m0, ?_⟩⟩
        refine ⟨_, rfl, _, _, _, _, rfl, rfl, hL, rfl, .inl ⟨_, rfl, _, rfl, _, _, rfl, rfl, ⟨by omega, by omega⟩, _, rfl, _, _, _, 2, rfl, rfl, h1, rfl, ?_⟩⟩
        refine ⟨_, rfl, q _ _ (Int.emod_nonneg _ (by omega)) (Int.emod_lt_of_pos _ m0) (hx.trans Ext.put) ?_⟩
        refine ⟨ns, i, _, e, t, upd_same, by rw [upd_ne as]; exact h2, as, h4, h5, h6, ?_, h8, h9, h10, by omega⟩
        exact Int.fdiv_nonneg h7 (by omega)
      · refine ⟨_, rfl, _, _, _, _, rfl, rfl, hL, rfl, _, _, rfl, rfl, _, rfl, _, _, _, 4, rfl, rfl, h1, rfl, ?_⟩
        refine ⟨_, rfl, _, _, _, _, rfl, rfl, SqL.of upd_same, rfl, _, rfl, _, _, _, _, rfl, rfl, SqL.of upd_same, rfl, _, _, rfl, h8, by omega, by omega, by omega, fun v v0 v1 => ?_⟩
        refine ⟨_, _, rfl, rfl, ⟨by decide, by decide⟩, .inl ⟨_, rfl, _, rfl, _, _, rfl, rfl, m0, ?_⟩⟩
        refine q _ _ (Int.emod_nonneg _ (by omega)) (Int.emod_lt_of_pos _ m0) (hx.trans Ext.put) ?_
        exact ⟨ns, i, b, e, t + 1, upd_same, by rw [upd_ne as]; exact h2, as, h4, h5, h6, h7, h8, h9, by omega, by omega⟩
end
end Z
namespace Z
open PySem L2
section
variable {P : Program} {w : World} {K : PySem.W.Frag} {mg : Str → Option Value} {base : Heap}
theorem ok__law_is_int (D : Df K mg "_law_is_int" s__law_is_int ["value"]) (T : Tx mg)  : Cal P w K mg base "_law_is_int" ["value"] 1 (sp__law_is_int K) := by
  obtain ⟨f, fd, F, gf, bf⟩ := D
  refine ⟨f, fd, F.ok sc__law_is_int (fun vs H Q E h => ?_) (fun cdv A outer s H vs Q E hr h => ?_), gf, F.kp, bf⟩
  · obtain ⟨i, rfl, _⟩ := h; rfl
  · obtain ⟨i, rfl, q⟩ := h
    refine ⟨_, (pss_one (ps_ret (pe_and (pe_callB call_isi (by rfl) T.n_isinstance (by decide +kernel) (pa_cons (pv 0) (pa_cons (pe_bltn (v := .ty "int") (by rfl) T.n_int (by decide +kernel) rfl) pa_nil))) (pe_one (pe_not (pe_callB call_isi (by rfl) T.n_isinstance (by decide +kernel) (pa_cons (pv 0) (pa_cons (pe_bltn (v := .ty "bool") (by rfl) T.n_bool (by decide +kernel) rfl) pa_nil)))))))), ?_⟩
    refine ⟨_, rfl, _, _, _, _, true, rfl, .ty _, .base (.int i), kit_ty (by decide +kernel), _, rfl, ?_⟩
    refine iteT ⟨_, rfl, _, _, _, _, false, rfl, .ty _, .base (.int i), kit_ty (by decide +kernel), _, rfl, q⟩

theorem ok__law_same (D : Df K mg "_law_same" s__law_same ["actual", "due"]) (T : Tx mg) (C__law_is_int : Cal P w K mg base "_law_is_int" ["value"] 1 (sp__law_is_int K)) : ∀ n, Cal P w K mg base "_law_same" ["actual", "due"] (n + 1) (sp__law_same K n)
  | 0 => by
    obtain ⟨f, fd, F, gf, bf⟩ := D
    exact ⟨f, fd, ⟨fun vs H Q E h => by obtain ⟨_, _, _, _, _, _, h, _⟩ := h; exact h.elim, fun A outer s H args us vs Q E _ _ _ _ h => by obtain ⟨_, _, _, _, _, _, h, _⟩ := h; exact h.elim⟩, gf, F.kp, bf⟩
  | n + 1 => by
    obtain ⟨f__law_same, fd__law_same, G__law_same, g__law_same, k__law_same, b__law_same⟩ := ok__law_same D T C__law_is_int n
    obtain ⟨f__law_is_int, fd__law_is_int, G__law_is_int, g__law_is_int, k__law_is_int, b__law_is_int⟩ := C__law_is_int
    obtain ⟨f, fd, F, gf, bf⟩ := D
    refine ⟨f, fd, F.ok sc__law_same (fun vs H Q E h => ?_) (fun cdv A outer s H vs Q E hr h => ?_), gf, F.kp, bf⟩
    · obtain ⟨d, v, u, rfl, _⟩ := h; rfl
    · obtain ⟨d, v, u, rfl, hv, hu, hd, q⟩ := h
      refine ⟨_, (pss_cons (ps_if (pt_val (pe_callB call_isi (by rfl) T.n_isinstance (by decide +kernel) (pa_cons (pv 1) (pa_cons (pe_bltn (v := .ty "tuple") (by rfl) T.n_tuple (by decide +kernel) rfl) pa_nil))))
      (pss_cons (ps_if (PW.pt (pw_or (pt_not (pt_val (pe_callB call_isi (by rfl) T.n_isinstance (by decide +kernel) (pa_cons (pv 0) (pa_cons (pe_bltn (v := .ty "tuple") (by rfl) T.n_tuple (by decide +kernel) rfl) pa_nil))))) (pw_or1 (pt_cmpR op_ne (pe_callB call_len_seq (by rfl) T.n_len PySem.boot_len (pa_cons (pv 0) pa_nil)) (pe_callB call_len_seq (by rfl) T.n_len PySem.boot_len (pa_cons (pv 1) pa_nil)) (nomark _)))))
        (pss_one (ps_ret pe_bl))
        pss_nil)
        (pss_cons (ps_for PassesOwn.never rfl (pi_range1 (by rfl) T.n_range (pa_cons (pe_callB call_len_seq (by rfl) T.n_len PySem.boot_len (pa_cons (pv 1) pa_nil)) pa_nil)) (pg_name (i := 2) sc__law_same.nd rfl (Or.inl rfl))
        (pss_one (ps_if (pt_not (pt_val (pe_call G__law_same hr (by rfl) g__law_same k__law_same b__law_same .nil pass0 (pa_cons (pe_ix ix_tup (pv 0) (pv 2) (fun _ _ => rfl)) (pa_cons (pe_ix ix_tup (pv 1) (pv 2) (fun _ _ => rfl)) pa_nil)))))
          (pss_one (ps_ret pe_bl))
          pss_nil)))
        (pss_one (ps_ret pe_bl))))
      pss_nil)
      (pss_cons (ps_if (pt_cmpR op_isN (pv 1) pe_non (nomark _))
      (pss_one (ps_ret (pe_cmpR op_isN (pv 0) pe_non (nomark _))))
      pss_nil)
      (pss_cons (ps_if (pt_val (pe_callB call_isi (by rfl) T.n_isinstance (by decide +kernel) (pa_cons (pv 1) (pa_cons (pe_bltn (v := .ty "bool") (by rfl) T.n_bool (by decide +kernel) rfl) pa_nil))))
      (pss_one (ps_ret (pe_and (pe_callB call_isi (by rfl) T.n_isinstance (by decide +kernel) (pa_cons (pv 0) (pa_cons (pe_bltn (v := .ty "bool") (by rfl) T.n_bool (by decide +kernel) rfl) pa_nil))) (pe_one (pe_cmpR op_eq (pv 0) (pv 1) (nomark _))))))
      pss_nil)
      (pss_cons (ps_if (pt_val (pe_callB call_isi (by rfl) T.n_isinstance (by decide +kernel) (pa_cons (pv 1) (pa_cons (pe_bltn (v := .ty "int") (by rfl) T.n_int (by decide +kernel) rfl) pa_nil))))
      (pss_one (ps_ret (pe_and (pe_call G__law_is_int (hr.mono (by omega)) (by rfl) g__law_is_int k__law_is_int b__law_is_int .nil pass0 (pa_cons (pv 0) pa_nil)) (pe_one (pe_cmpR op_eq (pv 0) (pv 1) (nomark _))))))
      pss_nil)
      (pss_one (ps_ret (pe_and (pe_callB call_isi (by rfl) T.n_isinstance (by decide +kernel) (pa_cons (pv 0) (pa_cons (pe_bltn (v := .ty "str") (by rfl) T.n_str (by decide +kernel) rfl) pa_nil))) (pe_one (pe_cmpR op_eq (pv 0) (pv 1) (nomark _)))))))))), ?_⟩
      cases d with
      | non =>
        unfold DV at hv hu; subst hv hu
        refine ⟨_, rfl, _, _, _, _, false, rfl, .ty _, .base .non, kit_ty (by decide +kernel), _, rfl, iteF ?_⟩
        exact ⟨_, rfl, rfl, _, rfl, iteT ⟨_, rfl, rfl, q⟩⟩
      | bl b =>
        unfold DV at hv hu; subst hv hu
        refine ⟨_, rfl, _, _, _, _, false, rfl, .ty _, .base (.bl b), kit_ty (by decide +kernel), _, rfl, iteF ?_⟩
        refine ⟨_, rfl, rfl, _, rfl, iteF ?_⟩
        refine ⟨_, rfl, _, _, _, _, true, rfl, .ty _, .base (.bl b), kit_ty (by decide +kernel), _, rfl, iteT ?_⟩
        refine ⟨_, rfl, _, _, _, _, true, rfl, .ty _, .base (.bl b), kit_ty (by decide +kernel), _, rfl, iteT ?_⟩
        refine ⟨_, rfl, _, rfl, rfl, ?_⟩
        rw [decide_eq_true rfl]; exact q
      | int b =>
        unfold DV at hv hu; subst hv hu
        refine ⟨_, rfl, _, _, _, _, false, rfl, .ty _, .base (.int b), kit_ty (by decide +kernel), _, rfl, iteF ?_⟩
        refine ⟨_, rfl, rfl, _, rfl, iteF ?_⟩
        refine ⟨_, rfl, _, _, _, _, false, rfl, .ty _, .base (.int b), kit_ty (by decide +kernel), _, rfl, iteF ?_⟩
        refine ⟨_, rfl, _, _, _, _, true, rfl, .ty _, .base (.int b), kit_ty (by decide +kernel), _, rfl, iteT ?_⟩
        refine ⟨_, rfl, _, rfl, _, rfl, iteT ?_⟩
        refine ⟨_, rfl, _, rfl, rfl, ?_⟩
        rw [decide_eq_true rfl]; exact q
      | str b =>
        unfold DV at hv hu; subst hv hu
        refine ⟨_, rfl, _, _, _, _, false, rfl, .ty _, .base (.str b), kit_ty (by decide +kernel), _, rfl, iteF ?_⟩
        refine ⟨_, rfl, rfl, _, rfl, iteF ?_⟩
        refine ⟨_, rfl, _, _, _, _, false, rfl, .ty _, .base (.str b), kit_ty (by decide +kernel), _, rfl, iteF ?_⟩
        refine ⟨_, rfl, _, _, _, _, false, rfl, .ty _, .base (.str b), kit_ty (by decide +kernel), _, rfl, iteF ?_⟩
        refine ⟨_, rfl, _, _, _, _, true, rfl, .ty _, .base (.str b), kit_ty (by decide +kernel), _, rfl, iteT ?_⟩
        refine ⟨_, rfl, _, rfl, rfl, ?_⟩
        rw [decide_eq_true rfl]; exact q
      | tup ds =>
        unfold DV at hv hu
        obtain ⟨a, vs, rfl, ha, hvs⟩ := hv
        obtain ⟨b, us, rfl, hb, hus⟩ := hu
        have hl := hvs.len
        have hm := hus.len
        refine ⟨_, rfl, _, _, _, _, true, rfl, .ty _, TyX.ofT hb, kit_ty (by decide +kernel), _, rfl, iteT ?_⟩
        refine ⟨_, rfl, _, _, _, _, true, rfl, .ty _, TyX.ofT ha, kit_ty (by decide +kernel), _, rfl, iteF ?_⟩
        refine ⟨_, rfl, a, _, rfl, .inr ha, _, rfl, b, _, rfl, .inr hb, rfl, _, rfl, iteNS (by rw [hl, hm]) ?_⟩
        refine ⟨_, rfl, b, _, rfl, .inr hb, _, rfl, by omega, by have := hd.1; omega, ?_⟩
        refine for_range (lo := 0) (n := ((us.length : Int)).toNat) (fun i σ H' => ∃ (x : Option V), σ = [some (.ref a), some (.ref b), x] ∧ H' = H) ⟨none, rfl, rfl⟩ ?_ ?_
        · rintro i σ H' hi ⟨x, rfl, rfl⟩
          have hi' : i < us.length := by omega
          have hi2 : i < ds.length := by omega
          obtain ⟨v1, e1, q1⟩ := hvs.get (List.getElem?_eq_getElem hi2)
          obtain ⟨v2, e2, q2⟩ := hus.get (List.getElem?_eq_getElem hi2)
          refine ⟨_, rfl, _, rfl, a, _, _, v1, rfl, rfl, ha, at_of (j := i) (by omega) e1, _, rfl, _, rfl, b, _, _, v2, rfl, rfl, hb, at_of (j := i) (by omega) e2, ?_⟩
          refine ⟨ds[i], v1, v2, rfl, q1, q2, hd.2 _ (List.getElem_mem hi2), _, rfl, iteF ?_⟩
          exact ⟨_, rfl, rfl⟩
        · rintro σ H' ⟨x, rfl, rfl⟩
          exact q
end
end Z
namespace Z
open PySem L2 SX
theorem nodup_le : ∀ {l us : List (List Nat)}, l.Nodup → (∀ x ∈ l, x ∈ us) → l.length ≤ us.length
  | [], us, _, _ => Nat.zero_le _
  | x :: l, us, h, k => by
    have hh := List.nodup_cons.mp h
    have m := k x (by simp)
    have := nodup_le (us := us.erase x) hh.2 fun y hy => (List.mem_erase_of_ne (fun e : y = x => hh.1 (by rw [e] at hy; exact hy))).mpr (k y (List.mem_cons_of_mem _ hy))
    rw [List.length_erase_of_mem m] at this
    have p := List.length_pos_of_mem m
    rw [List.length_cons]; omega
def sfxL (j : Nat) : List Nat := if j = 0 then [] else [48 + j]
theorem sfx_nodup : ((List.range 10).map sfxL).Nodup := by decide +kernel
theorem tried_nodup (p : List Nat) {m : Nat} (h : m ≤ 10) : ((List.range m).map fun j => p ++ sfxL j).Nodup := by
  have h1 : ((List.range m).map sfxL).Nodup := by
    have e : List.range m = (List.range 10).take m := by rw [List.take_range, Nat.min_eq_left h]
    rw [e, List.map_take]
    exact sfx_nodup.sublist (List.take_sublist _ _)
  rw [List.nodup_iff_pairwise_ne, List.pairwise_map] at h1 ⊢
  exact h1.imp fun ne e => ne (List.append_cancel_left e)
section
variable {P : Program} {w : World} {K : PySem.W.Frag} {mg : Str → Option Value} {base : Heap}
theorem ok__law_pick (D : Df K mg "_law_pick" s__law_pick ["source", "row"]) (T : Tx mg)  (C__law_draw : Cal P w K mg base "_law_draw" ["source", "many"] 2 sp__law_draw) : Cal P w K mg base "_law_pick" ["source", "row"] 3 (sp3__law_pick K) := by
  obtain ⟨f__law_draw, fd__law_draw, G__law_draw, g__law_draw, k__law_draw, b__law_draw⟩ := C__law_draw
  obtain ⟨f, fd, F, gf, bf⟩ := D
  refine ⟨f, fd, F.ok sc__law_pick (fun vs H Q E h => ?_) (fun cdv A outer s₀ H vs Q E hr h => ?_), gf, F.kp, bf⟩
  · rcases h with ⟨s, a, r, xs, c, rfl, _⟩ | ⟨s, a, x, c, rfl, _⟩ | ⟨s, a, r, xs, c, rfl, _⟩ <;> rfl
  · refine ⟨_, (pss_one (ps_ret (pe_ix ix_seq (pv 1) (pe_call G__law_draw (hr.mono (by decide)) (by rfl) g__law_draw k__law_draw b__law_draw .nil pass0 (pa_cons (pv 0) (pa_cons (pe_callB call_len (by rfl) T.n_len PySem.boot_len (pa_cons (pv 1) pa_nil)) pa_nil))) (fun _ _ => rfl)))), ?_⟩
    rcases h with ⟨s, a, r, xs, c, rfl, hR, rs, ne, hl, hS, q⟩ | ⟨s, a, x, c, rfl, ne, hl, hS, q⟩ | ⟨s, a, r, xs, c, rfl, hR, ne, hl, hS, q⟩
    · have n0 : 0 < xs.length := List.length_pos_iff.mpr ne
      refine ⟨_, rfl, _, rfl, _, rfl, _, _, rfl, .inl ⟨xs, hR, rfl⟩, s, a, (xs.length : Int), c, rfl, by omega, by omega, hS, fun v H' v0 v1 hE hS' => ?_⟩
      have hv : v.toNat < xs.length := by omega
      exact .inl ⟨r, xs, v, xs[v.toNat], rfl, rfl, hE.seqL rs hR, atI_pos v0 (List.getElem?_eq_getElem hv), q _ _ (List.getElem_mem hv) hE hS'⟩
    · have n0 : 0 < (tl x).length := List.length_pos_iff.mpr ne
      have hx := tl_len x
      refine ⟨_, rfl, _, rfl, _, rfl, _, x.length, rfl, ⟨by rw [hx]; exact Nat.le_trans hl (by decide), rfl⟩, s, a, (x.length : Int), c, rfl, by omega, by omega, hS, fun v H' v0 v1 hE hS' => ?_⟩
      have hv : v.toNat < (tl x).length := by omega
      exact .inr (.inr ⟨x, v, (tl x)[v.toNat], rfl, rfl, by rw [hx]; exact Nat.le_trans hl (by decide), atI_pos v0 (List.getElem?_eq_getElem hv), q _ _ (List.getElem_mem hv) hE hS'⟩)
    · have n0 : 0 < xs.length := List.length_pos_iff.mpr ne
      refine ⟨_, rfl, _, rfl, _, rfl, _, _, rfl, .inr ⟨xs, hR, rfl⟩, s, a, (xs.length : Int), c, rfl, by omega, by omega, hS, fun v H' v0 v1 hE hS' => ?_⟩
      have hv : v.toNat < xs.length := by omega
      exact .inr (.inl ⟨r, xs, v, xs[v.toNat], rfl, rfl, TK.ext hE hS _ _ hR, atI_pos v0 (List.getElem?_eq_getElem hv), q _ _ (List.getElem_mem hv) hE hS'⟩)
end
section
variable {P : Program} {w : World} {K : PySem.W.Frag} {mg : Str → Option Value} {base : Heap}
theorem ok__law_new_name (D : Df K mg "_law_new_name" s__law_new_name ["source", "used"]) (T : Tx mg)  (C__law_draw : Cal P w K mg base "_law_draw" ["source", "many"] 2 sp__law_draw) : Cal P w K mg base "_law_new_name" ["source", "used"] 3 (sp9__law_new_name K) := by
  obtain ⟨f__law_draw, fd__law_draw, G__law_draw, g__law_draw, k__law_draw, b__law_draw⟩ := C__law_draw
  obtain ⟨f, fd, F, gf, bf⟩ := D
  refine ⟨f, fd, F.ok sc__law_new_name (fun vs H Q E h => ?_) (fun cdv A outer s₀ H vs Q E hr h => ?_), gf, F.kp, bf⟩
  · obtain ⟨s, a, u, us, c, rfl, _⟩ := h; rfl
  · obtain ⟨s, a, u, us, c, rfl, hU, hus, hul, hS, q⟩ := h
    refine ⟨_, (pss_cons (ps_set (i := 2) sc__law_new_name.nd rfl (Or.inl rfl) pe_str)
      (pss_cons (ps_set (i := 3) sc__law_new_name.nd rfl (Or.inl rfl) (pe_op op_add pe_int (pe_call G__law_draw (hr.mono (by decide)) (by rfl) g__law_draw k__law_draw b__law_draw .nil pass0 (pa_cons (pv 0) (pa_cons pe_int pa_nil)))))
      (pss_cons (ps_set (i := 4) sc__law_new_name.nd rfl (Or.inl rfl) (pe_item_str (pv 2) (pe_call G__law_draw (hr.mono (by decide)) (by rfl) g__law_draw k__law_draw b__law_draw .nil pass0 (pa_cons (pv 0) (pa_cons pe_int pa_nil))) (fun _ _ => rfl)))
      (pss_cons (ps_for PassesOwn.never rfl (pi_range1 (by rfl) T.n_range (pa_cons (pe_op op_sub (pv 3) pe_int) pa_nil)) (pg_name (i := 5) sc__law_new_name.nd rfl (Or.inl rfl))
      (pss_one (ps_set (i := 4) sc__law_new_name.nd rfl (Or.inl rfl) (pe_op op_add_str (pv 4) (pe_item_str (pe_op op_add_str (pv 2) pe_str) (pe_call G__law_draw (hr.mono (by decide)) (by rfl) g__law_draw k__law_draw b__law_draw .nil pass0 (pa_cons (pv 0) (pa_cons pe_int pa_nil))) (fun _ _ => rfl))))))
      (pss_cons (ps_for PassesOwn.never rfl (pi_range1 (by rfl) T.n_range (pa_cons (pe_op op_add (pe_callB call_len_seq (by rfl) T.n_len PySem.boot_len (pa_cons (pv 1) pa_nil)) pe_int) pa_nil)) (pg_name (i := 5) sc__law_new_name.nd rfl (Or.inl rfl))
      (pss_cons (ps_set (i := 6) sc__law_new_name.nd rfl (Or.inl rfl) (pe_op op_add_str (pv 4) (pe_ix ix_list (pe_lst (pa_cons pe_str (pa_cons (pe_callTy call_str_int (by rfl) T.n_str (by decide +kernel) (pa_cons (pv 5) pa_nil)) pa_nil))) (pe_callTy call_int1 (by rfl) T.n_int (by decide +kernel) (pa_cons (pe_cmpR op_gt (pv 5) pe_int (nomark _)) pa_nil)) (fun _ _ => rfl))))
        (pss_one (ps_if (pt_cmpR op_notIn_seq (pv 6) (pv 1) (by rfl))
        (pss_one (ps_ret (pv 6)))
        pss_nil))))
      (pss_one (ps_ret (pv 4)))))))), ?_⟩
    refine ⟨_, rfl, s, a, _, c + 7, rfl, by decide, by decide, hS, fun v1 H1 v10 v11 x1 S1 => ?_⟩
    refine ⟨_, _, rfl, rfl, ?_⟩
    refine ⟨_, rfl, _, rfl, s, a, _, c + 6, rfl, by decide, by decide, S1, fun v2 H2 v20 v21 x2 S2 => ?_⟩
    obtain ⟨ch, e1, _, e3⟩ := at_str (x := Str.ofString "abcdefghijklmnopqrstuvwxyz") v20 v21
    refine ⟨_, _, ch, rfl, rfl, v20, by omega, v21, e1, ?_⟩
    have hch : 97 ≤ ch ∧ ch ≤ 122 := alpha_mem e3
    refine ⟨_, rfl, _, _, rfl, rfl, _, rfl, by omega, by omega, ?_⟩
    refine for_range (lo := 0) (n := (1 + v1 - 1).toNat) (fun i σ H' => ∃ (x : Str) (v : Option V), σ = [some (.ref s), some (.ref u), some (.str "abcdefghijklmnopqrstuvwxyz"), some (.int (1 + v1)), some (.str x), v, none] ∧ Nm (tl x) ∧ (tl x).length = i + 1 ∧ Ext s H H' ∧ Src H' s a (c + (5 - i))) ?_ ?_ ?_
    · exact ⟨S [ch], none, rfl, ⟨⟨ch, [], rfl, hch⟩, fun y hy => by rw [List.mem_singleton.mp hy]; exact .inl hch⟩, rfl, x1.trans x2, S2.mono (by omega)⟩
    · rintro i σ H' hi ⟨x, v, rfl, hN, hl, hE, hS'⟩
      refine ⟨_, rfl, _, rfl, _, _, rfl, rfl, by decide +kernel, ?_⟩
      refine ⟨_, rfl, s, a, _, c + (5 - (i + 1)), rfl, by decide, by decide, hS'.mono (by omega), fun v3 H3 v30 v31 x3 S3 => ?_⟩
      obtain ⟨d, e1, _, e3⟩ := at_str (x := Str.ofString "abcdefghijklmnopqrstuvwxyz" ++ Str.ofString "0123456789") v30 v31
      refine ⟨_, _, d, rfl, rfl, v30, by omega, v31, e1, _, _, rfl, rfl, ?_, ?_⟩
      · rw [tl_len, hl]; exact Nat.le_trans (show i + 1 + 1 ≤ 10 by omega) (by decide)
      · exact ⟨_, _, rfl, by rw [tl_app]; exact hN.app (fun y hy => by rw [List.mem_singleton.mp hy]; exact low_mem e3), by rw [tl_app, List.length_append, hl]; rfl, hE.trans x3, S3⟩
    · rintro σ H3 ⟨x, v, rfl, hN, hl, hE, hS'⟩
      have hU3 : SqL K H3 u (us.map V.str) := hE.seqL hus hU
      refine ⟨_, rfl, u, _, rfl, .inl hU3, _, _, rfl, rfl, _, rfl, by rw [List.length_map]; omega, by rw [List.length_map]; omega, ?_⟩
      refine for_range (lo := 0) (n := ((((us.map V.str).length : Int)) + 1).toNat) (fun i σ H' => ∃ (v t : Option V), σ = [some (.ref s), some (.ref u), some (.str "abcdefghijklmnopqrstuvwxyz"), some (.int (1 + v1)), some (.str x), v, t] ∧ Same H3 H' ∧ ∀ j, j < i → tl x ++ sfxL j ∈ us.map tl) ⟨_, _, rfl, Same.refl _, fun j hj => by omega⟩ ?_ ?_
      · rintro i σ H' hi ⟨v', t', rfl, hM, hall⟩
        rw [List.length_map] at hi
        obtain ⟨y, hy, hyl, hya⟩ : ∃ y : Str, atI [V.str (Str.ofString ""), V.str (Str.ofString (toString (0 + (i : Int))))] (if decide ((0 : Int) < 0 + (i : Int)) = true then 1 else 0) = some (.str y) ∧ tl y = sfxL i ∧ Low (tl y) := by
          by_cases h0 : i = 0
          · subst h0
            exact ⟨Str.ofString "", rfl, rfl, Low.nil⟩
          · rw [if_pos (decide_eq_true (by omega))]
            refine ⟨_, rfl, ?_, ?_⟩
            · rw [Int.zero_add, num_S, tl_S, TL.numL_lt (by omega)]
              unfold sfxL; rw [if_neg h0]
            · rw [Int.zero_add, num_S, tl_S]
              exact low_num i
        have yl : (tl y).length ≤ 1 := by rw [hyl]; unfold sfxL; split <;> simp
        refine ⟨_, rfl, _, rfl, _, rfl, log_small (by omega), by show 2 ≤ sizeLine; decide, fun p hp => ?_⟩
        refine ⟨_, rfl, _, _, rfl, rfl, .inr ⟨_, rfl, p, _, _, _, rfl, rfl, SqL.of upd_same, hy, _, _, rfl, rfl, ?_, ?_⟩⟩
        · rw [tl_len, tl_len]; exact Nat.le_trans (show _ ≤ 70 by omega) (by decide)
        have hM' : Same H3 (upd H' p (HO.lst [V.str (Str.ofString ""), V.str (Str.ofString (toString (0 + (i : Int))))])) := hM.trans (same_new hp)
        have ein := inV_strs (x ++ y) us
        refine ⟨_, rfl, _, rfl, u, _, rfl, .inl (hM'.seq hU3), rfl, flat_strs us, _, rfl, ite2 (fun cc => ?_) (fun cc => ⟨_, _, rfl, hM', fun j hj => ?_⟩)⟩
        · refine ⟨_, rfl, q _ _ (by rw [tl_app]; exact hN.app hya) (by rw [tl_app, List.length_append]; omega) (fun m => ?_) (hE.trans (Ext.of hM')) ((hS'.ext hM').mono (by omega))⟩
          have cc' : (!inV (V.str (x ++ y)) (us.map V.str)) = true := cc
          rw [ein, decide_eq_true m] at cc'
          cases cc'
        · by_cases e : j < i
          · exact hall j e
          · have : j = i := by omega
            subst this
            have cc' : ¬ (!inV (V.str (x ++ y)) (us.map V.str)) = true := cc
            rw [ein] at cc'
            have m : x ++ y ∈ us := by simpa using cc'
            have := List.mem_map_of_mem (f := tl) m
            rw [tl_app, hyl] at this
            exact this
      · rintro σ H' ⟨v', t', rfl, hM, hall⟩
        rw [List.length_map] at hall
        have h1 := nodup_le (us := us.map tl) (tried_nodup (tl x) (m := us.length + 1) (by omega)) fun z hz => by
          obtain ⟨j, hj, rfl⟩ := List.mem_map.mp hz
          exact hall j (by have := List.mem_range.mp hj; omega)
        rw [List.length_map, List.length_map, List.length_range] at h1
        omega
end
section
variable {P : Program} {w : World} {K : PySem.W.Frag} {mg : Str → Option Value} {base : Heap}
theorem ok__law_names (D : Df K mg "_law_names" s__law_names ["source", "many"]) (T : Tx mg)  (C__law_new_name : Cal P w K mg base "_law_new_name" ["source", "used"] 3 (sp9__law_new_name K)) : Cal P w K mg base "_law_names" ["source", "many"] 4 (sp9__law_names K) := by
  obtain ⟨f__law_new_name, fd__law_new_name, G__law_new_name, g__law_new_name, k__law_new_name, b__law_new_name⟩ := C__law_new_name
  obtain ⟨f, fd, F, gf, bf⟩ := D
  refine ⟨f, fd, F.ok sc__law_names (fun vs H Q E h => ?_) (fun cdv A outer s₀ H vs Q E hr h => ?_), gf, F.kp, bf⟩
  · obtain ⟨s, a, m, c, rfl, _⟩ := h; rfl
  · obtain ⟨s, a, m, c, rfl, hm, hS, q⟩ := h
    refine ⟨_, (pss_cons (ps_set (i := 2) sc__law_names.nd rfl (Or.inl rfl) (pe_lst pa_nil))
      (pss_cons (ps_for PassesOwn.never rfl (pi_range1 (by rfl) T.n_range (pa_cons (pv 1) pa_nil)) (pg_name (i := 3) sc__law_names.nd rfl (Or.inl rfl))
      (pss_one (ps_expr (pe_bm PySem.F.plainAttrs_list PySem.F.slot_list_append PySem.F.type_list_append mt_append (pv 2) (pa_cons (pe_call G__law_new_name (hr.mono (by decide)) (by rfl) g__law_new_name k__law_new_name b__law_new_name .nil pass0 (pa_cons (pv 0) (pa_cons (pv 2) pa_nil))) pa_nil)))))
      (pss_one (ps_ret (pv 2))))), ?_⟩
    refine ⟨Nat.zero_le _, fun u hu => ?_⟩
    have us : u ≠ s := hS.ne hu
    have ua : u ≠ a := hS.nea hu
    refine ⟨_, rfl, _, rfl, by omega, by omega, ?_⟩
    refine for_range (lo := 0) (n := ((m : Int)).toNat) (fun i σ H' => ∃ (xs : List Str) (v : Option V), σ = [some (.ref s), some (.int m), some (.ref u), v] ∧ H' u = some (.lst (xs.map V.str)) ∧ xs.length = i ∧ Nms xs ∧ Ext s H H' ∧ Src H' s a (c + 8 * (m - i))) ?_ ?_ ?_
    · exact ⟨[], none, rfl, upd_same, rfl, ⟨List.nodup_nil, (fun _ h => by cases h)⟩, Ext.new hu, (hS.new hu).mono (by omega)⟩
    · rintro i σ H' hi ⟨xs, v, rfl, hx, hl, hA, hE, hS'⟩
      refine ⟨_, rfl, .inl ⟨rfl, _, SqL.of hx⟩, _, rfl, _, rfl, s, a, u, xs, c + 8 * (m - (i + 1)), rfl, SqL.of hx, us, by omega, by rw [show c + 8 * (m - (i + 1)) + 8 = c + 8 * (m - i) by omega]; exact hS', fun x H2 hN hl2 hnew hE2 hS2 => ?_⟩
      refine ⟨u, _, _, rfl, rfl, hE2 _ _ us hx, ?_, ?_⟩
      · rw [List.length_map]; exact small1000 (by omega)
      · refine ⟨xs ++ [x], _, rfl, by rw [upd_same, List.map_append]; rfl, by rw [List.length_append]; simp [hl], ⟨?_, fun y hy => ?_⟩, ?_, hS2.put us ua⟩
        · rw [List.nodup_append]
          exact ⟨hA.1, by simp, fun a ha b hb e => by rw [List.mem_singleton.mp hb] at e; exact hnew (e ▸ ha)⟩
        · rcases List.mem_append.mp hy with h | h
          · exact hA.2 y h
          · rw [List.mem_singleton.mp h]; exact ⟨hN, hl2⟩
        · intro b o hb hH
          rw [upd_ne (ne_of_none hH hu)]; exact hE2 _ _ hb (hE _ _ hb hH)
    · rintro σ H' ⟨xs, v, rfl, hx, hl, hA, hE, hS'⟩
      exact ⟨_, rfl, q u xs H' hu hx (by omega) hA hE (hS'.mono (by omega))⟩
end

end Z
namespace Z
open PySem L2 SX
section
variable {P : Program} {w : World} {K : PySem.W.Frag} {mg : Str → Option Value} {base : Heap}
theorem ok__law_once_in (D : Df K mg "_law_once_in" s__law_once_in ["source", "many"]) (T : Tx mg) (C__law_draw : Cal P w K mg base "_law_draw" ["source", "many"] 2 sp__law_draw) : Cal P w K mg base "_law_once_in" ["source", "many"] 3 sp__law_once_in := by
  obtain ⟨f__law_draw, fd__law_draw, G__law_draw, g__law_draw, k__law_draw, b__law_draw⟩ := C__law_draw
  obtain ⟨f, fd, F, gf, bf⟩ := D
  refine ⟨f, fd, F.ok sc__law_once_in (fun vs H Q E h => ?_) (fun cdv A outer s H vs Q E hr h => ?_), gf, F.kp, bf⟩
  · obtain ⟨s, a, m, c, rfl, _⟩ := h; rfl
  · obtain ⟨s, a, m, c, rfl, m0, m1, hS, q⟩ := h
    refine ⟨_, (pss_one (ps_ret (pe_cmpR op_eq (pe_call G__law_draw (hr.mono (by decide)) (by rfl) g__law_draw k__law_draw b__law_draw .nil pass0 (pa_cons (pv 0) (pa_cons (pv 1) pa_nil))) (pe_op op_fdiv (pv 1) pe_int) (nomark _)))), ?_⟩
    refine ⟨_, rfl, _, rfl, s, a, _, c, rfl, m0, m1, hS, fun v H' v0 v1 hE hS' => ?_⟩
    exact ⟨_, rfl, _, _, rfl, rfl, ⟨by decide, by decide⟩, rfl, q _ _ hE hS'⟩
end
end Z
namespace Z
open PySem L2 SX
section
variable {P : Program} {w : World} {K : PySem.W.Frag} {mg : Str → Option Value} {base : Heap}
theorem ok__law_words (D : Df K mg "_law_words" s__law_words ["source"]) (T : Tx mg)  (C__law_draw : Cal P w K mg base "_law_draw" ["source", "many"] 2 sp__law_draw) (C__law_names : Cal P w K mg base "_law_names" ["source", "many"] 4 (sp9__law_names K)) : Cal P w K mg base "_law_words" ["source"] 5 (sp2__law_words K) := by
  obtain ⟨f__law_draw, fd__law_draw, G__law_draw, g__law_draw, k__law_draw, b__law_draw⟩ := C__law_draw
  obtain ⟨f__law_names, fd__law_names, G__law_names, g__law_names, k__law_names, b__law_names⟩ := C__law_names
  obtain ⟨f, fd, F, gf, bf⟩ := D
  refine ⟨f, fd, F.ok sc__law_words (fun vs H Q E h => ?_) (fun cdv A outer s₀ H vs Q E hr h => ?_), gf, F.kp, bf⟩
  · obtain ⟨s, a, c, rfl, _⟩ := h; rfl
  · obtain ⟨s, a, c, rfl, hS, q⟩ := h
    refine ⟨_, (pss_one (ps_ret (pe_call G__law_names (hr.mono (by decide)) (by rfl) g__law_names k__law_names b__law_names .nil pass0 (pa_cons (pv 0) (pa_cons (pe_op op_add pe_int (pe_call G__law_draw (hr.mono (by decide)) (by rfl) g__law_draw k__law_draw b__law_draw .nil pass0 (pa_cons (pv 0) (pa_cons pe_int pa_nil)))) pa_nil))))), ?_⟩
    refine ⟨_, rfl, _, rfl, s, a, _, c + 99, rfl, by decide, by decide, hS, fun v H1 v0 v1 x1 S1 => ?_⟩
    obtain ⟨m, rfl⟩ := Int.eq_ofNat_of_zero_le v0
    refine ⟨_, _, rfl, rfl, s, a, m + 2, c + 50, ?_, by omega, S1.mono (by omega), fun u us H2 hu h2 ul uA x2 S2 => ?_⟩
    · show [V.ref s, V.int (2 + (m : Int))] = [V.ref s, V.int ((m + 2 : Nat) : Int)]
      rw [show ((m + 2 : Nat) : Int) = 2 + (m : Int) by omega]
    · have hu0 : H u = none := ext_free x1 S1 hu
      exact q u us H2 hu0 h2 ⟨fun e => by rw [e] at ul; simp at ul, by omega, uA.2⟩ (x1.trans x2) (S2.mono (by omega))
end
section
variable {P : Program} {w : World} {K : PySem.W.Frag} {mg : Str → Option Value} {base : Heap}
theorem ok__law_board (D : Df K mg "_law_board" s__law_board ["source", "words"]) (T : Tx mg)  (C__law_draw : Cal P w K mg base "_law_draw" ["source", "many"] 2 sp__law_draw) (C__law_pick : Cal P w K mg base "_law_pick" ["source", "row"] 3 (sp3__law_pick K)) : Cal P w K mg base "_law_board" ["source", "words"] 4 (sp2__law_board K) := by
  obtain ⟨f__law_draw, fd__law_draw, G__law_draw, g__law_draw, k__law_draw, b__law_draw⟩ := C__law_draw
  obtain ⟨f__law_pick, fd__law_pick, G__law_pick, g__law_pick, k__law_pick, b__law_pick⟩ := C__law_pick
  obtain ⟨f, fd, F, gf, bf⟩ := D
  refine ⟨f, fd, F.ok sc__law_board (fun vs H Q E h => ?_) (fun cdv A outer s₀ H vs Q E hr h => ?_), gf, F.kp, bf⟩
  · obtain ⟨s, a, u, us, c, rfl, _⟩ := h; rfl
  · obtain ⟨s, a, u, us, c, rfl, hU, hus, hW, hS, q⟩ := h
    refine ⟨_, (pss_cons (ps_set (i := 2) sc__law_board.nd rfl (Or.inl rfl) (pe_op op_add pe_int (pe_call G__law_draw (hr.mono (by decide)) (by rfl) g__law_draw k__law_draw b__law_draw .nil pass0 (pa_cons (pv 0) (pa_cons pe_int pa_nil)))))
      (pss_one (ps_ret (pe_join pe_str (pe_lc (own := [("k", 3)]) (g := gName 3) (tt := tYes) rfl sc__law_board.nd (pi_range1 (by rfl) T.n_range (pa_cons (pv 2) pa_nil)) (blkOk_by (own := [("k", 3)]) (N := N__law_board) (sc := defScope s__law_board) (by decide +kernel)) (fun _ _ _ _ _ => pg_name (i := 3) sc__law_board.nd rfl (Or.inl rfl)) (fun _ _ _ _ _ => pts_nil) (fun _ _ _ _ _ => (pe_call G__law_pick (hr.mono (by decide)) (by rfl) g__law_pick k__law_pick b__law_pick .nil pass0 (pa_cons (pv 0) (pa_cons (pv 1) pa_nil))))))))), ?_⟩
    obtain ⟨un, ul, uA⟩ := hW
    refine ⟨_, rfl, s, a, _, c + 9, rfl, by decide, by decide, hS, fun v H1 v0 v1 x1 S1 => ?_⟩
    refine ⟨_, _, rfl, rfl, ?_⟩
    refine ⟨⟨_, rfl⟩, _, rfl, _, rfl, by omega, by omega, fun D hD => ?_⟩
    refine lc_strs (n := (1 + v).toNat) (d := 1) (c := c) (fun x => Nm (tl x) ∧ (tl x).length ≤ 8) hD (S1.mono (by omega)) (by omega) (fun _ => rfl) (fun i c' Hx R hi hE' hS' k => ?_) (fun xs H3 hx3 hl3 hA3 hE3 hS3 => ?_)
    · refine ⟨_, rfl, _, rfl, .inl ⟨s, a, u, us.map V.str, c', rfl, hE'.seqL hus (x1.seqL hus hU), hus, fun e => un (List.map_eq_nil_iff.mp e), by rw [List.length_map]; omega, hS', fun w H4 wm x4 S4 => ?_⟩⟩
      obtain ⟨z, zm, rfl⟩ := List.mem_map.mp wm
      exact k z H4 (uA z zm) x4 S4
    · have hs := sum_len (n := 8) (xs := xs) fun x m => (hA3 x m).2
      refine ⟨_, D, xs, rfl, rfl, .inl (SqL.of hx3), ?_, ?_⟩
      · show _ + xs.length * 1 ≤ _; omega
      refine q _ H3 ?_ ?_ ?_ (x1.trans hE3) hS3
      · rw [tl_joinS]
        intro ch hc
        rcases joinL_mem hc with e | ⟨l, m, e⟩
        · rw [List.mem_singleton.mp e]; exact .inr (.inr rfl)
        · obtain ⟨x, hx, rfl⟩ := List.mem_map.mp m
          exact (hA3 x hx).1.2.bdc ch e
      · rw [tl_joinS]
        refine joinL_ne (fun e => ?_) (fun l m => ?_)
        · have := List.map_eq_nil_iff.mp e
          rw [this] at hl3; simp at hl3; omega
        · obtain ⟨x, hx, rfl⟩ := List.mem_map.mp m
          exact (hA3 x hx).1.ne
      · rw [tl_joinS]
        refine Nat.le_trans (joinL_len (n := 8) fun l m => ?_) ?_
        · obtain ⟨x, hx, rfl⟩ := List.mem_map.mp m
          exact (hA3 x hx).2
        · rw [List.length_map]; show xs.length * (8 + 1) ≤ 30; omega
end
section
variable {P : Program} {w : World} {K : PySem.W.Frag} {mg : Str → Option Value} {base : Heap}
theorem ok__law_glob (D : Df K mg "_law_glob" s__law_glob ["source", "words"]) (T : Tx mg)  (C__law_board : Cal P w K mg base "_law_board" ["source", "words"] 4 (sp2__law_board K)) (C__law_pick : Cal P w K mg base "_law_pick" ["source", "row"] 3 (sp3__law_pick K)) : Cal P w K mg base "_law_glob" ["source", "words"] 5 (sp2__law_glob K) := by
  obtain ⟨f__law_board, fd__law_board, G__law_board, g__law_board, k__law_board, b__law_board⟩ := C__law_board
  obtain ⟨f__law_pick, fd__law_pick, G__law_pick, g__law_pick, k__law_pick, b__law_pick⟩ := C__law_pick
  obtain ⟨f, fd, F, gf, bf⟩ := D
  refine ⟨f, fd, F.ok sc__law_glob (fun vs H Q E h => ?_) (fun cdv A outer s₀ H vs Q E hr h => ?_), gf, F.kp, bf⟩
  · obtain ⟨s, a, u, us, c, rfl, _⟩ := h; rfl
  · obtain ⟨s, a, u, us, c, rfl, hU, hus, hW, hS, q⟩ := h
    refine ⟨_, (pss_cons (ps_set (i := 2) sc__law_glob.nd rfl (Or.inl rfl) (pe_call G__law_pick (hr.mono (by decide)) (by rfl) g__law_pick k__law_pick b__law_pick .nil pass0 (pa_cons (pv 0) (pa_cons (pv 1) pa_nil))))
      (pss_cons (ps_set (i := 3) sc__law_glob.nd rfl (Or.inl rfl) (pe_lst (pa_cons (pe_call G__law_board (hr.mono (by decide)) (by rfl) g__law_board k__law_board b__law_board .nil pass0 (pa_cons (pv 0) (pa_cons (pv 1) pa_nil))) (pa_cons (pe_op op_add_str (pv 2) pe_str) (pa_cons (pe_op op_add_str pe_str (pv 2)) (pa_cons (pe_op op_add_str (pv 2) pe_str) (pa_cons (pe_op op_add_str (pe_op op_add_str pe_str (pe_slice sl_str (pv 2) (po_some pe_int) po_none)) pe_str) pa_nil)))))))
      (pss_one (ps_ret (pe_call G__law_pick (hr.mono (by decide)) (by rfl) g__law_pick k__law_pick b__law_pick .nil pass0 (pa_cons (pv 0) (pa_cons (pe_op L2.op_cat (pv 3) (pe_lst (pa_cons (pe_op op_add_str (pe_op op_add_str pe_str (pe_slice sl_str (pv 2) (po_some (pe_un un_neg pe_int)) po_none)) pe_str) (pa_cons (pe_op op_add_str (pv 2) pe_str) (pa_cons pe_str pa_nil))))) pa_nil))))))), ?_⟩
    obtain ⟨un, ul, uA⟩ := id hW
    have small : ∀ n : Nat, n ≤ 30000 → n ≤ sizeLine := fun n h => Nat.le_trans h (by decide)
    refine ⟨_, rfl, _, rfl, .inl ⟨s, a, u, us.map V.str, c + 19, rfl, hU, hus, fun e => un (List.map_eq_nil_iff.mp e), by rw [List.length_map]; omega, hS, fun w H1 wm x1 S1 => ?_⟩⟩
    obtain ⟨z, zm, rfl⟩ := List.mem_map.mp wm
    have zl := (uA z zm).2
    have zn := (uA z zm).1.ne
    have zo := (uA z zm).1.2.okc
    have lz := tl_len z
    refine ⟨_, rfl, _, rfl, s, a, u, us, c + 9, rfl, x1.seqL hus hU, hus, hW, S1, fun x H2 xB xn xl x2 S2 => ?_⟩
    have ap : ∀ {p q : List Nat}, (∀ c ∈ p, okc c = true) → (∀ c ∈ q, okc c = true) → ∀ c ∈ p ++ q, okc c = true := fun h1 h2 c m => (List.mem_append.mp m).elim (h1 c) (h2 c)
    have w1 : ∀ c ∈ tl (Str.ofString ".*"), okc c = true := by decide +kernel
    have w2 : ∀ c ∈ tl (Str.ofString "*."), okc c = true := by decide +kernel
    have w3 : ∀ c ∈ tl (Str.ofString "*"), okc c = true := by decide +kernel
    have w4 : ∀ c ∈ tl (Str.ofString "?"), okc c = true := by decide +kernel
    have w5 : ∀ c ∈ tl (Str.ofString "?*"), okc c = true := by decide +kernel
    have w6 : ∀ c ∈ tl (Str.ofString ".?*"), okc c = true := by decide +kernel
    have l1 : okG (tl (z ++ Str.ofString ".*")) ∧ (tl (z ++ Str.ofString ".*")).length ≤ 40 := by
      rw [tl_app]; exact ⟨⟨fun e => zn (List.append_eq_nil_iff.mp e).1, ap zo w1⟩, by rw [List.length_append]; show _ + 2 ≤ _; omega⟩
    have l2 : okG (tl (Str.ofString "*." ++ z)) ∧ (tl (Str.ofString "*." ++ z)).length ≤ 40 := by
      rw [tl_app]; exact ⟨⟨fun e => zn (List.append_eq_nil_iff.mp e).2, ap w2 zo⟩, by rw [List.length_append]; show 2 + _ ≤ _; omega⟩
    have l3 : okG (tl (z ++ Str.ofString "*")) ∧ (tl (z ++ Str.ofString "*")).length ≤ 40 := by
      rw [tl_app]; exact ⟨⟨fun e => zn (List.append_eq_nil_iff.mp e).1, ap zo w3⟩, by rw [List.length_append]; show _ + 1 ≤ _; omega⟩
    have lc1 : (tl (cutS z (some 1) none)).length ≤ 8 := Nat.le_trans (cut_le _ _ _) zl
    have l4 : okG (tl (Str.ofString "?" ++ cutS z (some 1) none ++ Str.ofString "*")) ∧ (tl (Str.ofString "?" ++ cutS z (some 1) none ++ Str.ofString "*")).length ≤ 40 := by
      rw [tl_app, tl_app]
      exact ⟨⟨by show 63 :: _ ≠ []; simp, ap (ap w4 fun c m => zo c (cut_mem _ _ _ c m)) w3⟩, by rw [List.length_append, List.length_append]; show (1 + _) + 1 ≤ _; omega⟩
    have lc2 : (tl (cutS z (some (-1)) none)).length ≤ 8 := Nat.le_trans (cut_le _ _ _) zl
    have l5 : okG (tl (Str.ofString "*" ++ cutS z (some (-1)) none ++ Str.ofString "?*")) ∧ (tl (Str.ofString "*" ++ cutS z (some (-1)) none ++ Str.ofString "?*")).length ≤ 40 := by
      rw [tl_app, tl_app]
      exact ⟨⟨by show 42 :: _ ≠ []; simp, ap (ap w3 fun c m => zo c (cut_mem _ _ _ c m)) w5⟩, by rw [List.length_append, List.length_append]; show (1 + _) + 2 ≤ _; omega⟩
    have l6 : okG (tl (z ++ Str.ofString ".?*")) ∧ (tl (z ++ Str.ofString ".?*")).length ≤ 40 := by
      rw [tl_app]; exact ⟨⟨fun e => zn (List.append_eq_nil_iff.mp e).1, ap zo w6⟩, by rw [List.length_append]; show _ + 3 ≤ _; omega⟩
    refine ⟨_, rfl, _, _, rfl, rfl, small _ (by rw [tl_len, tl_len]; show _ + 2 ≤ _; omega), _, rfl, _, _, rfl, rfl, small _ (by rw [tl_len, tl_len]; show 2 + _ ≤ _; omega), _, rfl, _, _, rfl, rfl, small _ (by rw [tl_len, tl_len]; show _ + 1 ≤ _; omega), ?_⟩
    refine ⟨_, rfl, 1, rfl, z, rfl, small _ (by omega), _, _, rfl, rfl, small _ (by rw [tl_len, tl_len]; show 1 + _ ≤ _; omega), _, _, rfl, rfl, small _ (by rw [tl_len, tl_len, tl_app, List.length_append]; show (1 + _) + 1 ≤ _; omega), by show 5 ≤ sizeLine; decide, fun M hM => ?_⟩
    have n1 := same_new (o := HO.lst ([x, z ++ Str.ofString ".*", Str.ofString "*." ++ z, z ++ Str.ofString "*", Str.ofString "?" ++ cutS z (some 1) none ++ Str.ofString "*"].map V.str)) hM
    refine ⟨_, rfl, _, rfl, _, rfl, 1, rfl, -1, rfl, z, rfl, small _ (by omega), _, _, rfl, rfl, small _ (by rw [tl_len, tl_len]; show 1 + _ ≤ _; omega), _, _, rfl, rfl, small _ (by rw [tl_len, tl_len, tl_app, List.length_append]; show (1 + _) + 2 ≤ _; omega), _, rfl, _, _, rfl, rfl, small _ (by rw [tl_len, tl_len]; show _ + 3 ≤ _; omega), by show 3 ≤ sizeLine; decide, fun N hN => ?_⟩
    have n2 := same_new (o := HO.lst ([Str.ofString "*" ++ cutS z (some (-1)) none ++ Str.ofString "?*", z ++ Str.ofString ".?*", Str.ofString "*"].map V.str)) hN
    refine ⟨M, N, _, _, rfl, rfl, n2 _ _ upd_same, upd_same, by show 5 + 3 ≤ sizeLine; decide, fun R hR => ?_⟩
    have n3 := same_new (o := HO.lst (([x, z ++ Str.ofString ".*", Str.ofString "*." ++ z, z ++ Str.ofString "*", Str.ofString "?" ++ cutS z (some 1) none ++ Str.ofString "*"] ++ [Str.ofString "*" ++ cutS z (some (-1)) none ++ Str.ofString "?*", z ++ Str.ofString ".?*", Str.ofString "*"]).map V.str)) hR
    have S3 := ((S2.ext n1).ext n2).ext n3
    refine .inl ⟨s, a, R, ([x, z ++ Str.ofString ".*", Str.ofString "*." ++ z, z ++ Str.ofString "*", Str.ofString "?" ++ cutS z (some 1) none ++ Str.ofString "*"] ++ [Str.ofString "*" ++ cutS z (some (-1)) none ++ Str.ofString "?*", z ++ Str.ofString ".?*", Str.ofString "*"]).map V.str, c + 8, rfl, SqL.of upd_same, (((S2.ext n1).ext n2).ne hR), by simp, by show 8 ≤ 100000; decide, S3, fun w H4 wm x4 S4 => ?_⟩
    obtain ⟨y, ym, rfl⟩ := List.mem_map.mp wm
    have yy : okG (tl y) ∧ (tl y).length ≤ 40 := by
      simp only [List.mem_append, List.mem_cons, List.not_mem_nil, or_false] at ym
      rcases ym with (e | e | e | e | e) | (e | e | e) <;> subst e
      · exact ⟨⟨xn, xB.okc⟩, by omega⟩
      · exact l1
      · exact l2
      · exact l3
      · exact l4
      · exact l5
      · exact l6
      · exact ⟨⟨by decide, w3⟩, by decide⟩
    exact q y H4 yy.1 yy.2 (x1.trans (x2.trans ((Ext.of (n1.trans (n2.trans n3))).trans x4))) (S4.mono (by omega))
end
section
variable {P : Program} {w : World} {K : PySem.W.Frag} {mg : Str → Option Value} {base : Heap}
theorem ok__law_pattern (D : Df K mg "_law_pattern" s__law_pattern ["source", "words"]) (T : Tx mg)  (C__law_draw : Cal P w K mg base "_law_draw" ["source", "many"] 2 sp__law_draw) (C__law_glob : Cal P w K mg base "_law_glob" ["source", "words"] 5 (sp2__law_glob K)) : Cal P w K mg base "_law_pattern" ["source", "words"] 6 (sp2__law_pattern K) := by
  obtain ⟨f__law_draw, fd__law_draw, G__law_draw, g__law_draw, k__law_draw, b__law_draw⟩ := C__law_draw
  obtain ⟨f__law_glob, fd__law_glob, G__law_glob, g__law_glob, k__law_glob, b__law_glob⟩ := C__law_glob
  obtain ⟨f, fd, F, gf, bf⟩ := D
  refine ⟨f, fd, F.ok sc__law_pattern (fun vs H Q E h => ?_) (fun cdv A outer s₀ H vs Q E hr h => ?_), gf, F.kp, bf⟩
  · obtain ⟨s, a, u, us, c, rfl, _⟩ := h; rfl
  · obtain ⟨s, a, u, us, c, rfl, hU, hus, hW, hS, q⟩ := h
    refine ⟨_, (pss_cons (ps_set (i := 2) sc__law_pattern.nd rfl (Or.inl rfl) (pe_op op_add pe_int (pe_call G__law_draw (hr.mono (by decide)) (by rfl) g__law_draw k__law_draw b__law_draw .nil pass0 (pa_cons (pv 0) (pa_cons pe_int pa_nil)))))
      (pss_cons (ps_setLc (i := 3) (own := [("k", 4)]) (g := gName 4) (tt := tYes) rfl sc__law_pattern.nd rfl rfl (sw_true rfl rfl rfl (by decide +kernel)) (pi_range1 (by rfl) T.n_range (pa_cons (pv 2) pa_nil)) (blkOk_by (own := [("k", 4)]) (N := N__law_pattern) (sc := defScope s__law_pattern) (by decide +kernel)) (fun _ _ _ _ _ => pg_name (i := 4) sc__law_pattern.nd rfl (Or.inl rfl)) (fun _ _ _ _ _ => pts_nil) (fun _ _ _ _ _ => (pe_op op_add_str (pe_ix (ix_listQ (K := K) rfl) (pe_lst (pa_cons pe_str (pa_cons pe_str pa_nil))) (pe_callTy call_int1 (by rfl) T.n_int (by decide +kernel) (pa_cons (pe_and (pe_cmpR op_gt (pv 4) pe_int (nomark _)) (pe_one (pe_cmpR op_eq (pe_call G__law_draw (hr.mono (by decide)) (by rfl) g__law_draw k__law_draw b__law_draw .nil pass0 (pa_cons (pv 0) (pa_cons pe_int pa_nil))) pe_int (nomark _)))) pa_nil)) (fun _ _ => rfl)) (pe_call G__law_glob (hr.mono (by decide)) (by rfl) g__law_glob k__law_glob b__law_glob .nil pass0 (pa_cons (pv 0) (pa_cons (pv 1) pa_nil))))))
      (pss_cons (ps_while PassesOwn.never (PW.pt (pw_and (pt_cmpR op_gt (pe_callB call_len_seq (by rfl) T.n_len PySem.boot_len (pa_cons (pv 3) pa_nil)) pe_int (nomark _)) (pw_and1 (pt_cmpR op_gt (pe_callB call_lenS (by rfl) T.n_len PySem.boot_len (pa_cons (pe_join pe_str (pv 3)) pa_nil)) pe_int (nomark _)))))
      (pss_one (ps_expr (pe_bm0 PySem.F.plainAttrs_list PySem.F.slot_list_pop PySem.F.type_list_pop mt_pop (pv 3)))))
      (pss_one (ps_ret (pe_join pe_str (pv 3))))))), ?_⟩
    have small : ∀ n : Nat, n ≤ 30000 → n ≤ sizeLine := fun n h => Nat.le_trans h (by decide)
    refine ⟨_, rfl, s, a, _, c + 199, rfl, by decide, by decide, hS, fun v H1 v0 v1 x1 S1 => ?_⟩
    refine ⟨_, _, rfl, rfl, ?_⟩
    refine ⟨_, rfl, _, rfl, by omega, by omega, fun D hD => ?_⟩
    refine lc_strs (n := (1 + v).toNat) (d := 22) (c := c) (fun x => goodItem (tl x) = true ∧ (tl x).length ≤ 41) hD (S1.mono (by omega)) (by omega) (fun _ => rfl) (fun i c' Hx R hi hE' hS' k => ?_) (fun xs H3 hx3 hl3 hA3 hE3 hS3 => ?_)
    · have fin : ∀ (z : Str) (H4 : Hp), (z = Str.ofString "" ∨ z = Str.ofString "!") → Ext s Hx H4 → Src H4 s a (c' + 20) → ∀ (g : Str) (H5 : Hp), okG (tl g) → (tl g).length ≤ 40 → Ext s H4 H5 → Src H5 s a c' → z.length + g.length ≤ sizeLine ∧ R (.str (z ++ g)) H5 := fun z H4 zz x4 S4 g H5 go gl x5 S5 => by
        have zl : (tl z).length ≤ 1 := by rcases zz with e | e <;> subst e <;> decide
        refine ⟨small _ (by rw [tl_len, tl_len]; omega), k _ H5 ⟨?_, by rw [tl_app, List.length_append]; omega⟩ (x4.trans x5) S5⟩
        rw [tl_app]
        rcases zz with e | e <;> subst e
        · exact (good_glob go).1
        · exact (good_glob go).2
      refine ⟨by show 2 ≤ sizeLine; decide, fun p hp => ?_⟩
      have S2 := hS'.new (o := HO.lst ([Str.ofString "", Str.ofString "!"].map V.str)) hp
      have ps := hS'.ne hp
      refine ⟨_, rfl, _, _, rfl, rfl, _, rfl, ite2 (fun _ => ?_) (fun _ => ?_)⟩
      · refine ⟨_, rfl, s, a, _, c' + 21, rfl, by decide, by decide, S2, fun w H4 w0 w1 x4 S4 => ?_⟩
        obtain ⟨z, zm, ez⟩ := strs_at [Str.ofString "", Str.ofString "!"] (v := if decide (V.int w = V.int 1) = true then 1 else 0) (by split <;> decide) (by split <;> decide)
        have zl : z = Str.ofString "" ∨ z = Str.ofString "!" := by
          rcases List.mem_cons.mp zm with e | e
          · exact .inl e
          · exact .inr (List.mem_singleton.mp e)
        refine ⟨rfl, .inr ⟨_, rfl, p, _, _, _, rfl, rfl, SqL.of (x4 _ _ ps upd_same), ez, ?_⟩⟩
        have xx := hE'.trans ((Ext.new hp).trans x4)
        refine ⟨_, rfl, _, rfl, s, a, u, us, c', rfl, xx.seqL hus (x1.seqL hus hU), hus, hW, S4.mono (by omega), fun g H5 go gl x5 S5 => ?_⟩
        obtain ⟨f1, f2⟩ := fin z H4 zl ((Ext.new hp).trans x4) (S4.mono (by omega)) g H5 go gl x5 S5
        exact ⟨_, _, rfl, rfl, f1, f2⟩
      · refine .inr ⟨_, rfl, p, _, _, .str (Str.ofString ""), rfl, rfl, SqL.of upd_same, rfl, ?_⟩
        have xx := hE'.trans (Ext.new (o := HO.lst ([Str.ofString "", Str.ofString "!"].map V.str)) (s := s) hp)
        refine ⟨_, rfl, _, rfl, s, a, u, us, c', rfl, xx.seqL hus (x1.seqL hus hU), hus, hW, S2.mono (by omega), fun g H5 go gl x5 S5 => ?_⟩
        obtain ⟨f1, f2⟩ := fin (Str.ofString "") _ (.inl rfl) (Ext.new hp) (S2.mono (by omega)) g H5 go gl x5 S5
        exact ⟨_, _, rfl, rfl, f1, f2⟩
    have Ds := S1.ne hD
    have Da := S1.nea hD
    have jl : ∀ ys : List Str, (∀ x ∈ ys, goodItem (tl x) = true ∧ (tl x).length ≤ 41) → ys.length ≤ 3 → (tl (Txt.join (Str.ofString ",") ys)).length ≤ 130 := fun ys hy hl => by
      rw [tl_joinS]
      refine Nat.le_trans (joinL_len (n := 41) fun l m => ?_) ?_
      · obtain ⟨x, hx, rfl⟩ := List.mem_map.mp m
        exact (hy x hx).2
      · rw [List.length_map]; show ys.length * (41 + 1) ≤ 130; omega
    have jg : ∀ ys : List Str, (∀ x ∈ ys, goodItem (tl x) = true ∧ (tl x).length ≤ 41) → ys ≠ [] → GP (tl (Txt.join (Str.ofString ",") ys)) := fun ys hy hn => by
      rw [tl_joinS]
      refine GP.join (fun e => hn (List.map_eq_nil_iff.mp e)) fun it m => ?_
      obtain ⟨x, hx, rfl⟩ := List.mem_map.mp m
      exact (hy x hx).1
    have js : ∀ ys : List Str, (∀ x ∈ ys, goodItem (tl x) = true ∧ (tl x).length ≤ 41) → ys.length ≤ 3 → (ys.map (·.length)).sum + ys.length * (Str.ofString ",").length ≤ 16777216 := fun ys hy hl => by
      have := sum_len (n := 41) fun x m => (hy x m).2
      show _ + ys.length * 1 ≤ _; omega
    refine ⟨fun n σ H' => ∃ ys : List Str, σ = [some (.ref s), some (.ref u), some (.int (1 + v)), some (.ref D), none] ∧ H' D = some (.lst (ys.map V.str)) ∧ (∀ x ∈ ys, goodItem (tl x) = true ∧ (tl x).length ≤ 41) ∧ ys.length ≤ 3 ∧ ys ≠ [] ∧ Ext s H H' ∧ Src H' s a c ∧ n = ys.length, ⟨_, xs, rfl, hx3, hA3, by omega, (fun e => by rw [e] at hl3; simp at hl3; omega), x1.trans hE3, hS3, rfl⟩, ?_⟩
    rintro n σ H' ⟨ys, rfl, hy, yA, yl, yn, hE, hS', rfl⟩
    have fin : ∃ a_1, [some (V.ref s), some (V.ref u), some (V.int (1 + v)), some (V.ref D), none][3]? = some (some a_1) ∧ ∃ a p zs, V.str (Str.ofString ",") = V.str a ∧ [a_1] = [V.ref p] ∧ (SqL K H' p (zs.map V.str) ∨ SqT K H' p (zs.map V.str)) ∧ (zs.map (·.length)).sum + zs.length * a.length ≤ 16777216 ∧ Q (V.str (Txt.join a zs)) H' := ⟨_, rfl, _, D, ys, rfl, rfl, .inl (SqL.of hy), js ys yA yl, q _ H' (jg ys yA yn) (jl ys yA yl) hE hS'⟩
    refine ⟨_, rfl, D, _, rfl, .inl (SqL.of hy), _, _, rfl, rfl, _, rfl, ite2 (fun c1 => ?_) (fun c1 => iteF ⟨⟨_, rfl⟩, fin⟩)⟩
    have y1 : 1 < ys.length := by have := of_decide_eq_true c1; rw [List.length_map] at this; omega
    have ll : (tl (Txt.join (Str.ofString ",") ys)).length ≤ 130 := jl ys yA yl
    refine ⟨⟨_, rfl⟩, _, rfl, _, D, ys, rfl, rfl, .inl (SqL.of hy), js ys yA yl, _, rfl, small _ (by rw [tl_len]; omega), _, _, rfl, rfl, _, rfl, ite2 (fun c2 => ?_) (fun c2 => ⟨⟨_, rfl⟩, fin⟩)⟩
    refine ⟨fun σ2 H2 => ∃ m', m' < ys.length ∧ ∃ ys : List Str, σ2 = [some (.ref s), some (.ref u), some (.int (1 + v)), some (.ref D), none] ∧ H2 D = some (.lst (ys.map V.str)) ∧ (∀ x ∈ ys, goodItem (tl x) = true ∧ (tl x).length ≤ 41) ∧ ys.length ≤ 3 ∧ ys ≠ [] ∧ Ext s H H2 ∧ Src H2 s a c ∧ m' = ys.length, fun σ2 H2 h => h, ?_⟩
    obtain ⟨r, z, e⟩ : ∃ r z, ys = r ++ [z] := ⟨ys.dropLast, ys.getLast (by intro e; rw [e] at y1; simp at y1), (List.dropLast_concat_getLast _).symm⟩
    subst e
    refine ⟨_, rfl, .inl ⟨rfl, _, SqL.of hy⟩, D, _, .str z, rfl, rfl, hy, ?_, ?_⟩
    · rw [List.map_append, List.length_append, List.length_map]
      show (r.map V.str ++ [V.str z])[r.length + 1 - 1]? = _
      rw [Nat.add_sub_cancel, List.getElem?_append_right (by rw [List.length_map]; exact Nat.le_refl _), List.length_map, Nat.sub_self]; rfl
    · have ed : ((r ++ [z]).map V.str).dropLast = r.map V.str := by rw [List.map_append]; exact List.dropLast_concat
      rw [ed]
      rw [List.length_append] at y1 yl
      refine ⟨_, ?_, r, rfl, upd_same, fun x hx => yA x (List.mem_append_left _ hx), by omega, (fun e => by rw [e] at y1; simp at y1), fun b o hb hh => ?_, hS'.put Ds Da, rfl⟩
      · rw [List.length_append]; show _ < _ + 1; omega
      · have : H1 D = none := hD
        have hh1 := x1 _ _ hb hh
        rw [upd_ne (ne_of_none hh1 hD)]; exact hE _ _ hb hh
end
section
variable {P : Program} {w : World} {K : PySem.W.Frag} {mg : Str → Option Value} {base : Heap}
theorem ok__law_shuffled (D : Df K mg "_law_shuffled" s__law_shuffled ["source", "row"]) (T : Tx mg)  (C__law_draw : Cal P w K mg base "_law_draw" ["source", "many"] 2 sp__law_draw) : Cal P w K mg base "_law_shuffled" ["source", "row"] 3 (sp__law_shuffled K) := by
  obtain ⟨f__law_draw, fd__law_draw, G__law_draw, g__law_draw, k__law_draw, b__law_draw⟩ := C__law_draw
  obtain ⟨f, fd, F, gf, bf⟩ := D
  refine ⟨f, fd, F.ok sc__law_shuffled (fun vs H Q E h => ?_) (fun cdv A outer s₀ H vs Q E hr h => ?_), gf, F.kp, bf⟩
  · obtain ⟨s, a, r, xs, c, rfl, _⟩ := h; rfl
  · obtain ⟨s, a, r, xs, c, rfl, hR, rs, xl, hS, q⟩ := h
    refine ⟨_, (pss_cons (ps_set (i := 2) sc__law_shuffled.nd rfl (Or.inl rfl) (pe_callTy call_list_of (by rfl) T.n_list (by decide +kernel) (pa_cons (pv 1) pa_nil)))
      (pss_cons (ps_set (i := 3) sc__law_shuffled.nd rfl (Or.inl rfl) (pe_lst pa_nil))
      (pss_cons (ps_for PassesOwn.never rfl (pi_range1 (by rfl) T.n_range (pa_cons (pe_callB call_len_seq (by rfl) T.n_len PySem.boot_len (pa_cons (pv 1) pa_nil)) pa_nil)) (pg_name (i := 4) sc__law_shuffled.nd rfl (Or.inl rfl))
      (pss_one (ps_expr (pe_bm PySem.F.plainAttrs_list PySem.F.slot_list_append PySem.F.type_list_append mt_append (pv 3) (pa_cons (pe_bm PySem.F.plainAttrs_list PySem.F.slot_list_pop PySem.F.type_list_pop mt_popAt (pv 2) (pa_cons (pe_call G__law_draw (hr.mono (by decide)) (by rfl) g__law_draw k__law_draw b__law_draw .nil pass0 (pa_cons (pv 0) (pa_cons (pe_callB call_len_seq (by rfl) T.n_len PySem.boot_len (pa_cons (pv 2) pa_nil)) pa_nil))) pa_nil)) pa_nil)))))
      (pss_one (ps_ret (pv 3)))))), ?_⟩
    refine ⟨_, rfl, r, xs, rfl, .inl hR, fun L hL => ?_⟩
    have n1 := same_new (o := HO.lst xs) hL
    refine ⟨Nat.zero_le _, fun D hD => ?_⟩
    have n2 := same_new (o := HO.lst []) hD
    have S1 := (hS.ext n1).ext n2
    have Ls := hS.ne hL
    have La := hS.nea hL
    have HD : H D = none := Same.free n1 hD
    have Ds := hS.ne HD
    have Da := hS.nea HD
    have LD : L ≠ D := ne_of_none upd_same hD
    refine ⟨_, rfl, r, xs, rfl, .inl ((n1.trans n2).seq hR), _, rfl, by omega, by omega, ?_⟩
    refine for_range (lo := 0) (n := ((xs.length : Int)).toNat) (fun i σ H' => ∃ (ls ys : List V) (v4 : Option V), σ = [some (.ref s), some (.ref r), some (.ref L), some (.ref D), v4] ∧ H' L = some (.lst ls) ∧ H' D = some (.lst ys) ∧ ls.length + i = xs.length ∧ ys.length = i ∧ (∀ y ∈ ls, y ∈ xs) ∧ (∀ y ∈ ys, y ∈ xs) ∧ Ext s H H' ∧ Src H' s a (c + (xs.length - i))) ?_ ?_ ?_
    · exact ⟨xs, [], _, rfl, n2 _ _ upd_same, upd_same, by simp, rfl, (fun _ h => h), (fun _ h => by cases h), Ext.of (n1.trans n2), S1.mono (by omega)⟩
    · rintro i σ H' hi ⟨ls, ys, v4, rfl, hl, hy, l1, l2, m1, m2, hE, hS'⟩
      refine ⟨_, rfl, .inl ⟨rfl, _, SqL.of hy⟩, _, rfl, .inl ⟨rfl, _, SqL.of hl⟩, _, rfl, _, rfl, L, _, rfl, .inl (SqL.of hl), s, a, (ls.length : Int), c + (xs.length - (i + 1)), rfl, by omega, by omega, hS'.mono (by omega), fun v H2 v0 v1 x2 S2 => ?_⟩
      have hv : v.toNat < ls.length := by omega
      have hl2 := x2 _ _ Ls hl
      have hy2 := x2 _ _ Ds hy
      refine ⟨L, ls, v, v.toNat, ls[v.toNat], rfl, rfl, hl2, by omega, by omega, ?_, List.getElem?_eq_getElem hv, ?_⟩
      · exact seqIndex_of v0 v1
      refine ⟨D, ys, _, rfl, rfl, by rw [upd_ne LD.symm]; exact hy2, small1000 (by omega), ?_⟩
      refine ⟨ls.eraseIdx v.toNat, ys ++ [ls[v.toNat]], _, rfl, by rw [upd_ne LD, upd_same], upd_same, ?_, by rw [List.length_append]; simp [l2], fun y h => m1 y (List.mem_of_mem_eraseIdx h), fun y h => ?_, fun b o hb hh => ?_, (S2.put Ls La).put Ds Da⟩
      · rw [List.length_eraseIdx, if_pos hv]; omega
      · rcases List.mem_append.mp h with q1 | q1
        · exact m2 y q1
        · rw [List.mem_singleton.mp q1]; exact m1 _ (List.getElem_mem hv)
      · rw [upd_ne (ne_of_none hh HD), upd_ne (ne_of_none hh hL)]; exact x2 _ _ hb (hE _ _ hb hh)
    · rintro σ H' ⟨ls, ys, v4, rfl, hl, hy, l1, l2, m1, m2, hE, hS'⟩
      exact ⟨_, rfl, q D ys H' HD hy (by omega) m2 hE (hS'.mono (by omega))⟩
end

end Z
namespace Z
open PySem L2 SX
theorem filt_step {α : Type} {p : α → Bool} {l : List α} {i : Nat} {x : α} (e : l[i]? = some x) : (l.take (i + 1)).filter p = (l.take i).filter p ++ (if p x = true then [x] else []) := by
  rw [List.take_add_one, e, List.filter_append]
  show _ ++ [x].filter p = _
  congr 1
  by_cases h : p x = true
  · rw [if_pos h, List.filter_cons_of_pos h]; rfl
  · rw [if_neg h, List.filter_cons_of_neg h]; rfl
theorem sealF_none {b : Bk} {acc : List Str} {d : Str} (h : stwOf b (tl d) = none) : sealF b acc d = acc := by unfold sealF; rw [h]
theorem sealF_some {b : Bk} {acc : List Str} {d : Str} {s : Sw} (h : stwOf b (tl d) = some s) : sealF b acc d = if s.a ∈ acc then acc else acc ++ [s.a] := by unfold sealF; rw [h]
theorem seals_step {b : Bk} {bs : List Str} {i : Nat} {d : Str} (e : bs[i]? = some d) : sealsL b (bs.take (i + 1)) = sealF b (sealsL b (bs.take i)) d := by
  unfold sealsL
  rw [List.take_add_one, e, List.foldl_append]; rfl
theorem str_eq {x y : Str} (h : decide (V.str x = V.str y) = true) : x = y := by injection of_decide_eq_true h
theorem str_ne {x y : Str} (h : ¬ decide (V.str x = V.str y) = true) : decide (x = y) = false := decide_eq_false fun e => h (decide_eq_true (by rw [e]))
theorem DV_str {K : PySem.W.Frag} {H : Hp} {v : V} {x : Str} (h : DV K H (.str x) v) : v = .str x := by unfold DV at h; exact h
theorem DV_non {K : PySem.W.Frag} {H : Hp} {v : V} (h : DV K H .non v) : v = .non := by unfold DV at h; exact h

end Z
namespace Z
open PySem L2 SX
theorem iteGo {c : Bool} {A B : Prop} (h : c = true) (a : A) : if c = true then A else B := by rw [if_pos h]; exact a
theorem iteNo {c : Bool} {A B : Prop} (h : c = false) (b : B) : if c = true then A else B := by rw [if_neg (by rw [h]; exact Bool.false_ne_true)]; exact b
section
variable {P : Program} {w : World} {K : PySem.W.Frag} {mg : Str → Option Value} {base : Heap}
theorem ok_neighbours (D : Df K mg "neighbours" s_neighbours ["book", "name"]) (T : Tx mg)   : Cal P w K mg base "neighbours" ["book", "name"] 1 (sp_neighbours K) := by
  obtain ⟨f, fd, F, gf, bf⟩ := D
  refine ⟨f, fd, F.ok sc_neighbours (fun vs H Q E h => ?_) (fun cdv A outer s₀ H vs Q E hr h => ?_), gf, F.kp, bf⟩
  · obtain ⟨b, v, n, rfl, _⟩ := h; rfl
  · obtain ⟨b, v, n, rfl, hb, ok, q⟩ := h
    refine ⟨_, (pss_cons (ps_setLc (i := 2) (own := [("line", 4)]) (g := gName 4) rfl sc_neighbours.nd rfl rfl (sw_true rfl rfl rfl (by decide +kernel)) (pi_tup (pe_ix ix_tup (pv 0) pe_int (fun _ _ => rfl))) (blkOk_by (own := [("line", 4)]) (N := N_neighbours) (sc := defScope s_neighbours) (by decide +kernel)) (fun _ _ _ _ _ => pg_name (i := 4) sc_neighbours.nd rfl (Or.inl rfl)) (fun _ _ _ _ _ => pts_one (pt_cmpR op_eq (pe_ix (ix_tupQ (K := K) rfl) (pv 4) pe_int (fun _ _ => rfl)) (pv 1) (nomark _))) (fun _ _ _ _ _ => (pe_ix (ix_tupQ (K := K) rfl) (pv 4) pe_int (fun _ _ => rfl))))
      (pss_cons (ps_setLc (i := 3) (own := [("line", 4)]) (g := gName 4) rfl sc_neighbours.nd rfl rfl (sw_true rfl rfl rfl (by decide +kernel)) (pi_tup (pe_ix ix_tup (pv 0) pe_int (fun _ _ => rfl))) (blkOk_by (own := [("line", 4)]) (N := N_neighbours) (sc := defScope s_neighbours) (by decide +kernel)) (fun _ _ _ _ _ => pg_name (i := 4) sc_neighbours.nd rfl (Or.inl rfl)) (fun _ _ _ _ _ => pts_one (pt_cmpR op_eq (pe_ix (ix_tupQ (K := K) rfl) (pv 4) pe_int (fun _ _ => rfl)) (pv 1) (nomark _))) (fun _ _ _ _ _ => (pe_ix (ix_tupQ (K := K) rfl) (pv 4) pe_int (fun _ _ => rfl))))
      (pss_one (ps_ret (pe_callTy call_tuple_of (by rfl) T.n_tuple (by decide +kernel) (pa_cons (pe_callB cr_sortedS (by rfl) T.n_sorted (by decide +kernel) (pa_cons (pe_op L2.op_cat (pv 2) (pv 3)) pa_nil)) pa_nil)))))), ?_⟩
    have small : ∀ n : Nat, n ≤ 30000 → n < sizeLine := fun n h => Nat.lt_of_le_of_lt h (by decide)
    obtain ⟨ba, bus, c, ws, rfl, hB, e4, hC, hw⟩ := DV.sub (i := 4) (es := b.ln.map lnD) hb rfl
    have lnl := ok.ln
    refine ⟨_, rfl, ba, bus, 4, .ref c, rfl, rfl, hB, atI_nat (j := 4) e4, c, rfl, ⟨_, hC⟩, fun D hD => ?_⟩
    refine lc_tup (K := K) (a := c) (xs := ws) (fun i H' => H' D = some (.lst ((((b.ln.take i).filter fun l => decide (l.1 = n)).map (·.2)).map V.str)) ∧ Same H H') ⟨upd_same, same_new hD⟩ (fun i H' _ h => h.2.tup hC) ?_ ?_
    · rintro i x H' hi ⟨h1, h2⟩
      obtain ⟨l, hl, dx⟩ := hw.map_get hi
      obtain ⟨t, rfl, hT⟩ := DV_pair_inv (dx.tk (TK.same h2))
      refine ⟨rfl, _, rfl, t, _, 0, _, rfl, rfl, hT, atI_nat (j := 0) rfl, _, rfl, rfl, _, rfl, ite2 (fun cc => ?_) (fun cc => ?_)⟩
      · have e := filt_step (p := fun l : Str × Str => decide (l.1 = n)) hl
        rw [if_pos (decide_eq_true (str_eq cc))] at e
        refine ⟨_, rfl, t, _, 1, _, rfl, rfl, hT, atI_nat (j := 1) rfl, _, h1, ?_, ?_, ?_⟩
        · rw [List.length_map, List.length_map]
          exact small _ (by have := List.length_filter_le (fun l : Str × Str => decide (l.1 = n)) (b.ln.take i); rw [List.length_take] at this; omega)
        · rw [upd_same, e, List.map_append, List.map_append]; rfl
        · intro bb o hh
          rw [upd_ne (ne_of_none hh hD)]; exact h2 _ _ hh
      · have e := filt_step (p := fun l : Str × Str => decide (l.1 = n)) hl
        rw [if_neg (by rw [str_ne cc]; exact Bool.false_ne_true), List.append_nil] at e
        exact ⟨by rw [h1, e], h2⟩
    rintro H1 ⟨h1, m1⟩
    rw [hw.map_len, List.take_length] at h1
    have hB1 := m1.tup hB
    have hC1 := m1.tup hC
    refine ⟨_, rfl, ba, bus, 4, .ref c, rfl, rfl, hB1, atI_nat (j := 4) e4, c, rfl, ⟨_, hC1⟩, fun G hG => ?_⟩
    refine lc_tup (K := K) (a := c) (xs := ws) (fun i H' => H' G = some (.lst ((((b.ln.take i).filter fun l => decide (l.2 = n)).map (·.1)).map V.str)) ∧ Same H1 H') ⟨upd_same, same_new hG⟩ (fun i H' _ h => h.2.tup hC1) ?_ ?_
    · rintro i x H' hi ⟨h1', h2⟩
      obtain ⟨l, hl, dx⟩ := hw.map_get hi
      obtain ⟨t, rfl, hT⟩ := DV_pair_inv (dx.tk (TK.same (m1.trans h2)))
      refine ⟨rfl, _, rfl, t, _, 1, _, rfl, rfl, hT, atI_nat (j := 1) rfl, _, rfl, rfl, _, rfl, ite2 (fun cc => ?_) (fun cc => ?_)⟩
      · have e := filt_step (p := fun l : Str × Str => decide (l.2 = n)) hl
        rw [if_pos (decide_eq_true (str_eq cc))] at e
        refine ⟨_, rfl, t, _, 0, _, rfl, rfl, hT, atI_nat (j := 0) rfl, _, h1', ?_, ?_, ?_⟩
        · rw [List.length_map, List.length_map]
          exact small _ (by have := List.length_filter_le (fun l : Str × Str => decide (l.2 = n)) (b.ln.take i); rw [List.length_take] at this; omega)
        · rw [upd_same, e, List.map_append, List.map_append]; rfl
        · intro bb o hh
          rw [upd_ne (ne_of_none hh hG)]; exact h2 _ _ hh
      · have e := filt_step (p := fun l : Str × Str => decide (l.2 = n)) hl
        rw [if_neg (by rw [str_ne cc]; exact Bool.false_ne_true), List.append_nil] at e
        exact ⟨by rw [h1', e], h2⟩
    rintro H2 ⟨h2, m2⟩
    rw [hw.map_len, List.take_length] at h2
    have l1 := List.length_filter_le (fun l : Str × Str => decide (l.1 = n)) b.ln
    have l2 := List.length_filter_le (fun l : Str × Str => decide (l.2 = n)) b.ln
    refine ⟨_, rfl, _, rfl, D, G, _, _, rfl, rfl, m2 _ _ h1, h2, ?_, fun M hM => ?_⟩
    · rw [List.length_map, List.length_map, List.length_map, List.length_map]
      exact Nat.le_of_lt (small _ (by omega))
    have en : (((b.ln.filter fun l => decide (l.1 = n)).map (·.2)).map V.str) ++ (((b.ln.filter fun l => decide (l.2 = n)).map (·.1)).map V.str) = (nearL b n).map V.str := by unfold nearL; rw [List.map_append]
    rw [en]
    have n3 := same_new (o := HO.lst ((nearL b n).map V.str)) hM
    refine ⟨M, nearL b n, rfl, SqL.of upd_same, ?_, fun ys p py ps hp => ?_⟩
    · unfold nearL
      rw [List.length_append, List.length_map, List.length_map]; omega
    have n4 := same_new (o := HO.lst (ys.map V.str)) hp
    refine ⟨p, _, rfl, .inl ⟨SqL.of upd_same, fun u hu => ?_⟩⟩
    exact q u ys _ (m1.trans (m2.trans (n3.trans (n4.trans (same_new hu))))) (SqT.of upd_same) py ps
end

end Z
namespace Z
open PySem L2 SX
section
variable {P : Program} {w : World} {K : PySem.W.Frag} {mg : Str → Option Value} {base : Heap}
theorem ok_distances (D : Df K mg "distances" s_distances ["book", "site"]) (T : Tx mg)  (C_neighbours : Cal P w K mg base "neighbours" ["book", "name"] 1 (sp_neighbours K)) : Cal P w K mg base "distances" ["book", "site"] 2 (sp53_distances K) := by
  obtain ⟨f_neighbours, fd_neighbours, G_neighbours, g_neighbours, k_neighbours, b_neighbours⟩ := C_neighbours
  obtain ⟨f, fd, F, gf, bf⟩ := D
  refine ⟨f, fd, F.ok sc_distances (fun vs H Q E h => ?_) (fun cdv A outer s₀ H vs Q E hr h => ?_), gf, F.kp, bf⟩
  · obtain ⟨b, v, s, rfl, _⟩ := h; rfl
  · obtain ⟨b, v, s, rfl, hb, ok, hs, q⟩ := h
    refine ⟨_, (pss_cons (ps_set (i := 2) sc_distances.nd rfl (Or.inl rfl) (pe_disp (pps_cons (pv 1) pe_int pps_nil) (by rfl) (by rfl) (fun z => by cases z) (by decide)))
      (pss_cons (ps_set (i := 3) sc_distances.nd rfl (Or.inl rfl) (pe_lst (pa_cons (pv 1) pa_nil)))
      (pss_cons (ps_while PassesOwn.never (pt_truth (pv 3) (by intro _; rfl))
      (pss_cons (ps_set (i := 4) sc_distances.nd rfl (Or.inl rfl) (pe_lst pa_nil))
        (pss_cons (ps_for PassesOwn.never rfl (pi_list (pv 3)) (pg_name (i := 5) sc_distances.nd rfl (Or.inl rfl))
        (pss_one (ps_for PassesOwn.never rfl (pi_tup (pe_call G_neighbours (hr.mono (by decide)) (by rfl) g_neighbours k_neighbours b_neighbours .nil pass0 (pa_cons (pv 0) (pa_cons (pv 5) pa_nil)))) (pg_name (i := 6) sc_distances.nd rfl (Or.inl rfl))
          (pss_one (ps_if (pt_cmp (pc_dnotin (hu_of hr) (pv 6) (pv 2)))
            (pss_cons (ps_dput (hu_of hr) (pv 2) (pv 6) (pe_op op_add (pe_dget (hu_of hr) (pv 2) (pv 5) (fun _ _ => rfl)) pe_int) rfl)
              (pss_one (ps_expr (pe_bm PySem.F.plainAttrs_list PySem.F.slot_list_append PySem.F.type_list_append mt_append (pv 4) (pa_cons (pv 6) pa_nil)))))
            pss_nil)))))
        (pss_one (ps_set (i := 3) sc_distances.nd rfl (Or.inl rfl) (pv 4))))))
      (pss_one (ps_ret (pv 2)))))), ?_⟩
    have small : ∀ n : Nat, n ≤ 30000 → n < sizeLine := fun n h => Nat.lt_of_le_of_lt h (by decide)
    have ul : (nms b).length ≤ 10 := by unfold nms; rw [List.length_map]; exact ok.ok.si
    refine fun p hp => ⟨_, rfl, upd_same, [(Sum.inr s, .int 0)], rfl, by show 1 ≤ 15; decide, ?_⟩
    have e0 : upd (upd H p (HO.dK [])) p (HO.dK (mergeK [] [(Sum.inr s, V.int 0)])) = upd H p (.dK (fk [(s, 0)])) := by rw [upd_upd]; rfl
    rw [e0]
    have m0 := same_new (o := HO.dK (fk [(s, 0)])) hp
    refine ⟨_, rfl, by show 1 ≤ sizeLine; decide, fun lv hlv => ?_⟩
    have m1 := same_new (o := HO.lst [V.str s]) hlv
    refine ⟨fun n σ H' => ∃ (lv : Addr) (lev : List Str) (F : List (Str × Nat)) (k : Nat) (v4 v5 v6 : Option V), σ = [some v, some (.str s), some (.ref p), some (.ref lv), v4, v5, v6] ∧ H' p = some (.dK (fk F)) ∧ H' lv = some (.lst (lev.map V.str)) ∧ Same H H' ∧ Lv b.ln s (nms b) F k (fun _ _ => False) ∧ (∀ y, y ∈ lev ↔ (y, k) ∈ F) ∧ (∀ y, (y, k + 1) ∉ F) ∧ (∃ e, (s, e) ∈ F) ∧ lev.length ≤ 10 ∧ n = ((nms b).length - F.length) * 2 + min lev.length 1, ?_, ?_⟩
    · refine ⟨_, lv, [s], [(s, 0)], 0, _, _, _, rfl, m1 _ _ upd_same, upd_same, m0.trans m1, .start hs, fun y => ?_, fun y m => ?_, ⟨0, by simp⟩, by show 1 ≤ 10; decide, rfl⟩
      · rw [List.mem_singleton, List.mem_singleton, Prod.mk.injEq]; exact ⟨fun h => ⟨h, rfl⟩, fun h => h.1⟩
      · rw [List.mem_singleton, Prod.mk.injEq] at m; exact absurd m.2 (by decide)
    rintro n σ H1 ⟨lv, lev, F, k, v4, v5, v6, rfl, h1, hl, mm, inv, hlev, hno, hsF, ll, rfl⟩
    refine ⟨_, rfl, !(lev.map V.str).isEmpty, .inl ⟨_, SqL.of hl, rfl⟩, ?_⟩
    cases lev with
    | nil => exact iteF ⟨_, rfl, q p F H1 hp mm h1 (inv.fin (fun y m => by have := (hlev y).mpr m; cases this) hno hsF)⟩
    | cons x0 lev0 =>
      refine iteT ⟨_, fun σ2 H2 h => h, ?_⟩
      refine ⟨Nat.zero_le _, fun B hB => ?_⟩
      have mB := same_new (o := HO.lst []) hB
      have nB : H B = none := Same.free mm hB
      have pB : p ≠ B := ne_of_none h1 hB
      have lB : lv ≠ B := ne_of_none hl hB
      have lp : lv ≠ p := fun e => by rw [e, h1] at hl; cases hl
      generalize hlv' : x0 :: lev0 = lev at *
      refine ⟨_, rfl, lv, rfl, ⟨_, SqL.of (mB _ _ hl)⟩, ?_⟩
      refine for_list (K := K) (a := lv) (xs := lev.map V.str) (fun i σ H' => ∃ (F' : List (Str × Nat)) (bh : List Str) (v5 v6 : Option V), σ = [some v, some (.str s), some (.ref p), some (.ref lv), some (.ref B), v5, v6] ∧ H' p = some (.dK (fk F')) ∧ H' lv = some (.lst (lev.map V.str)) ∧ H' B = some (.lst (bh.map V.str)) ∧ Same H H' ∧ Lv b.ln s (nms b) F' k (fun x z => x ∈ lev.take i ∧ nb b.ln x z) ∧ (∀ y, y ∈ lev ↔ (y, k) ∈ F') ∧ (∀ y, y ∈ bh ↔ (y, k + 1) ∈ F') ∧ (∃ e, (s, e) ∈ F') ∧ F'.length = F.length + bh.length) ?_ (fun i σ H' _ h => by obtain ⟨_, _, _, _, _, _, h, _⟩ := h; exact SqL.of h) ?_ ?_
      · exact ⟨F, [], _, _, rfl, mB _ _ h1, mB _ _ hl, upd_same, mm.trans mB, inv.mono fun x z h => by rw [List.take_zero] at h; exact absurd h.1 (by simp), hlev, fun y => ⟨(fun h => by cases h), fun h => absurd h (hno y)⟩, hsF, rfl⟩
      · rintro i x σ H2 hi ⟨F', bh, v5, v6, rfl, h2, hl2, hB2, m2, inv', hlev', hbh, hsF', hlen⟩
        obtain ⟨x, hx, rfl⟩ : ∃ x', lev[i]? = some x' ∧ x = .str x' := by
          rw [List.getElem?_map] at hi
          cases e : lev[i]? with
          | none => rw [e] at hi; cases hi
          | some y => rw [e] at hi; exact ⟨y, rfl, (Option.some.inj hi).symm⟩
        refine ⟨_, rfl, _, rfl, b, v, x, rfl, hb.tk (TK.same m2), ok.ok, fun t ys H3 m3 ht pp _ => ?_⟩
        have h3 := m3 _ _ h2
        have hl3 := m3 _ _ hl2
        have hB3 := m3 _ _ hB2
        refine ⟨t, rfl, ⟨_, ht⟩, ?_⟩
        refine for_tup (K := K) (a := t) (xs := ys.map V.str) (fun j σ H' => ∃ (F' : List (Str × Nat)) (bh : List Str) (v6 : Option V), σ = [some v, some (.str s), some (.ref p), some (.ref lv), some (.ref B), some (.str x), v6] ∧ H' p = some (.dK (fk F')) ∧ H' lv = some (.lst (lev.map V.str)) ∧ H' B = some (.lst (bh.map V.str)) ∧ SqT K H' t (ys.map V.str) ∧ Same H H' ∧ Lv b.ln s (nms b) F' k (fun a z => (a ∈ lev.take i ∧ nb b.ln a z) ∨ (a = x ∧ z ∈ ys.take j)) ∧ (∀ y, y ∈ lev ↔ (y, k) ∈ F') ∧ (∀ y, y ∈ bh ↔ (y, k + 1) ∈ F') ∧ (∃ e, (s, e) ∈ F') ∧ F'.length = F.length + bh.length) ?_ (fun i σ H' _ h => by obtain ⟨_, _, _, _, _, _, _, h, _⟩ := h; exact h) ?_ ?_
        · exact ⟨F', bh, _, rfl, h3, hl3, hB3, ht, m2.trans m3, inv'.mono fun a z h => .inl (h.elim id fun h => by rw [List.take_zero] at h; exact absurd h.2 (by simp)), hlev', hbh, hsF', hlen⟩
        · rintro j y σ H4 hj ⟨F', bh, v6, rfl, h4, hl4, hB4, ht4, m4, inv'', hlev'', hbh', hsF'', hlen'⟩
          obtain ⟨z, hz, rfl⟩ : ∃ z', ys[j]? = some z' ∧ y = .str z' := by
            rw [List.getElem?_map] at hj
            cases e : ys[j]? with
            | none => rw [e] at hj; cases hj
            | some y => rw [e] at hj; exact ⟨y, rfl, (Option.some.inj hj).symm⟩
          have xk : (x, k) ∈ F' := (hlev'' x).mp (List.mem_of_getElem? hx)
          have ez : nb b.ln x z := near_iff.mp (pp.mem_iff.mp (List.mem_of_getElem? hz))
          have tk : ys.take (j + 1) = ys.take j ++ [z] := by rw [List.take_add_one, hz]; rfl
          refine ⟨_, rfl, _, rfl, p, _, rfl, DGet.k (k := Sum.inr z) h4, ?_⟩
          by_cases c : ∃ e, (z, e) ∈ F'
          · obtain ⟨e, he⟩ := c
            rw [fk_some inv''.nd he]
            refine ⟨_, rfl, iteF ⟨F', bh, _, rfl, h4, hl4, hB4, ht4, m4, inv''.mono fun a w h => ?_, hlev'', hbh', hsF'', hlen'⟩⟩
            rw [tk] at h
            rcases h with h | ⟨h1, h2⟩
            · exact .inl (.inl h)
            · rcases List.mem_append.mp h2 with h2 | h2
              · exact .inl (.inr ⟨h1, h2⟩)
              · rw [List.mem_singleton.mp h2]; exact .inr ⟨e, he⟩
          · have hz' : ∀ d, (z, d) ∉ F' := fun d m => c ⟨d, m⟩
            rw [fk_none hz']
            have inv3 := inv''.add (dn' := fun a z => (a ∈ lev.take i ∧ nb b.ln a z) ∨ (a = x ∧ z ∈ ys.take (j + 1))) ok.ln xk ez hz' fun a w h => by
              rw [tk] at h
              rcases h with h | ⟨h1, h2⟩
              · exact .inl (.inl h)
              · rcases List.mem_append.mp h2 with h2 | h2
                · exact .inl (.inr ⟨h1, h2⟩)
                · exact .inr (List.mem_singleton.mp h2)
            have fl := inv3.len
            rw [List.length_append] at fl
            have gx : DGet H4 p (V.str x) (some (V.int (k : Nat))) := by
              have := DGet.k (k := (Sum.inr x : Key)) h4
              rw [fk_some inv''.nd xk] at this
              exact this
            refine ⟨_, rfl, iteT ?_⟩
            refine ⟨_, rfl, _, rfl, p, _, rfl, gx, _, _, rfl, rfl, _, rfl, _, rfl, p, _, rfl, DPut.k (k := Sum.inr z) (v := V.int ((k + 1 : Nat) : Int)) h4 (by rw [fk_len]; exact small _ (by omega)), ?_⟩
            rw [fk_put hz']
            have hB5 : (upd H4 p (.dK (fk (F' ++ [(z, k + 1)])))) B = some (.lst (bh.map V.str)) := by rw [upd_ne pB.symm]; exact hB4
            refine ⟨_, rfl, .inl ⟨rfl, _, SqL.of hB5⟩, _, rfl, B, _, _, rfl, rfl, hB5, by rw [List.length_map]; exact small _ (by omega), ?_⟩
            refine ⟨F' ++ [(z, k + 1)], bh ++ [z], _, rfl, by rw [upd_ne pB, upd_same], by rw [upd_ne lB, upd_ne lp]; exact hl4, by rw [upd_same, List.map_append]; rfl, ?_, sput (sput m4 hp) nB, inv3, fun y => ?_, fun y => ?_, hsF''.elim fun e h => ⟨e, List.mem_append_left _ h⟩, by rw [List.length_append, List.length_append, hlen']; rfl⟩
            · exact tk_upd hB5 (fun _ e => by cases e) (fun _ _ e => by cases e) _ _ (tk_upd h4 (fun _ e => by cases e) (fun _ _ e => by cases e) _ _ ht4)
            · rw [hlev'' y, List.mem_append, List.mem_singleton, Prod.mk.injEq]
              exact ⟨.inl, fun h => h.elim id fun h => absurd h.2 (by omega)⟩
            · rw [List.mem_append, List.mem_append, hbh' y, List.mem_singleton, List.mem_singleton, Prod.mk.injEq]
              exact ⟨fun h => h.imp id fun h => ⟨h, rfl⟩, fun h => h.imp id fun h => h.1⟩
        · rintro σ H4 ⟨F', bh, v6, rfl, h4, hl4, hB4, ht4, m4, inv'', hlev'', hbh', hsF'', hlen'⟩
          rw [List.length_map, List.take_length] at inv''
          refine ⟨F', bh, _, _, rfl, h4, hl4, hB4, m4, inv''.mono fun a z h => ?_, hlev'', hbh', hsF'', hlen'⟩
          obtain ⟨ha, he⟩ := h
          rw [List.take_add_one, hx] at ha
          rcases List.mem_append.mp ha with ha | ha
          · exact .inl (.inl ⟨ha, he⟩)
          · have : a = x := List.mem_singleton.mp ha
            subst this
            exact .inl (.inr ⟨rfl, pp.mem_iff.mpr (near_iff.mpr he)⟩)
      · rintro σ H2 ⟨F', bh, v5, v6, rfl, h2, hl2, hB2, m2, inv', hlev', hbh, hsF', hlen⟩
        rw [List.length_map, List.take_length] at inv'
        have fl := inv'.len
        have inv2 := inv'.next fun x z hx e => ⟨(hlev' x).mpr hx, e⟩
        refine ⟨_, rfl, _, ?_, B, bh, F', k + 1, _, _, _, rfl, h2, hB2, m2, inv2, hbh, fun y m => ?_, hsF', by omega, rfl⟩
        · subst hlv'
          have z1 : min (x0 :: lev0).length 1 = 1 := Nat.min_eq_right (by rw [List.length_cons]; omega)
          rw [z1]
          cases bh with
          | nil =>
            have z2 : min ([] : List Str).length 1 = 0 := rfl
            rw [z2]
            have : F'.length = F.length := hlen
            omega
          | cons z r =>
            have z2 : min (z :: r).length 1 = 1 := Nat.min_eq_right (by rw [List.length_cons]; omega)
            rw [z2]
            rw [List.length_cons] at hlen
            omega
        · have := (inv'.ok _ m).2
          simp only at this; omega
end
section
variable {P : Program} {w : World} {K : PySem.W.Frag} {mg : Str → Option Value} {base : Heap}
theorem ok_distance (D : Df K mg "distance" s_distance ["book", "site", "other"]) (T : Tx mg)  (C_distances : Cal P w K mg base "distances" ["book", "site"] 2 (sp53_distances K)) : Cal P w K mg base "distance" ["book", "site", "other"] 3 (sp53_distance K) := by
  obtain ⟨f_distances, fd_distances, G_distances, g_distances, k_distances, b_distances⟩ := C_distances
  obtain ⟨f, fd, F, gf, bf⟩ := D
  refine ⟨f, fd, F.ok sc_distance (fun vs H Q E h => ?_) (fun cdv A outer s₀ H vs Q E hr h => ?_), gf, F.kp, bf⟩
  · obtain ⟨b, v, s, y, rfl, _⟩ := h; rfl
  · obtain ⟨b, v, s, y, rfl, hb, ok, hs, q⟩ := h
    refine ⟨_, (pss_one (ps_ret (pe_dget1 (hu_of hr) (pe_call G_distances (hr.mono (by decide)) (by rfl) g_distances k_distances b_distances .nil pass0 (pa_cons (pv 0) (pa_cons (pv 1) pa_nil))) (pv 2) ⟨rfl, rfl, rfl, rfl⟩))), ?_⟩
    refine ⟨_, rfl, _, rfl, b, v, s, rfl, hb, ok, hs, fun p F H1 hp m h1 d => ⟨p, rfl, .inl ⟨_, .inl h1⟩, _, rfl, _, DGet.k (k := Sum.inr y) h1, q _ H1 m (told_get d y)⟩⟩
end

end Z
namespace Z
open PySem L2 SX
section
variable {P : Program} {w : World} {K : PySem.W.Frag} {mg : Str → Option Value} {base : Heap}
theorem ok_next_site (D : Df K mg "next_site" s_next_site ["book", "here", "goal"]) (T : Tx mg)  (C_distances : Cal P w K mg base "distances" ["book", "site"] 2 (sp53_distances K)) (C_neighbours : Cal P w K mg base "neighbours" ["book", "name"] 1 (sp_neighbours K)) : Cal P w K mg base "next_site" ["book", "here", "goal"] 3 (sp53_next_site K) := by
  obtain ⟨f_distances, fd_distances, G_distances, g_distances, k_distances, b_distances⟩ := C_distances
  obtain ⟨f_neighbours, fd_neighbours, G_neighbours, g_neighbours, k_neighbours, b_neighbours⟩ := C_neighbours
  obtain ⟨f, fd, F, gf, bf⟩ := D
  refine ⟨f, fd, F.ok sc_next_site (fun vs H Q E h => ?_) (fun cdv A outer s₀ H vs Q E hr h => ?_), gf, F.kp, bf⟩
  · obtain ⟨b, v, x, g, rfl, _⟩ := h; rfl
  · obtain ⟨b, v, x, g, rfl, hb, ok, hg, q⟩ := h
    refine ⟨_, (pss_cons (ps_set (i := 3) sc_next_site.nd rfl (Or.inr rfl) (pe_call G_distances (hr.mono (by decide)) (by rfl) g_distances k_distances b_distances .nil pass0 (pa_cons (pv 0) (pa_cons (pv 2) pa_nil))))
      (pss_cons (ps_if (PW.pt (pw_or (pt_cmpR op_eq (pv 1) (pv 2) (nomark _)) (pw_or1 (pt_cmp (pc_dnotin (hu_of hr) (pv 1) (pv 3))))))
      (pss_one (ps_ret pe_non))
      pss_nil)
      (pss_cons (ps_setLc (i := 4) (own := [("name", 5)]) (g := gName 5) rfl sc_next_site.nd rfl rfl (sw_true rfl rfl rfl (by decide +kernel)) (pi_tup (pe_call G_neighbours (hr.mono (by decide)) (by rfl) g_neighbours k_neighbours b_neighbours .nil pass0 (pa_cons (pv 0) (pa_cons (pv 1) pa_nil)))) (blkOk_by (own := [("name", 5)]) (N := N_next_site) (sc := defScope s_next_site) (by decide +kernel)) (fun _ _ _ _ _ => pg_name (i := 5) sc_next_site.nd rfl (Or.inl rfl)) (fun _ _ _ _ _ => pts_one (pt_cmpR op_eq (pe_dget (hu_of hr) (pv 3) (pv 5) (fun _ _ => rfl)) (pe_op op_sub (pe_dget (hu_of hr) (pv 3) (pv 1) (fun _ _ => rfl)) pe_int) (nomark _))) (fun _ _ _ _ _ => (pv 5)))
      (pss_one (ps_ret (pe_ix ix_list (pv 4) pe_int (fun _ _ => rfl))))))), ?_⟩
    have small : ∀ n : Nat, n ≤ 30000 → n < sizeLine := fun n h => Nat.lt_of_le_of_lt h (by decide)
    refine ⟨_, rfl, _, rfl, b, v, g, rfl, hb, ok, hg, fun p F H1 hp m1 h1 d => ?_⟩
    refine ⟨_, rfl, _, rfl, rfl, _, rfl, ite2 (fun c1 => iteT ?_) (fun c1 => ?_)⟩
    · exact q .non H1 m1 (.inl ⟨rfl, .inl (V.str.inj (of_decide_eq_true c1))⟩)
    refine ⟨_, rfl, _, rfl, p, _, rfl, DGet.k (k := Sum.inr x) h1, _, rfl, ?_⟩
    by_cases c : ∃ D, (x, D) ∈ F
    rotate_left
    · rw [fk_none fun e m => c ⟨e, m⟩]
      exact iteT (q .non H1 m1 (ns_far d fun e m => c ⟨e, m⟩))
    obtain ⟨D, hx⟩ := c
    rw [fk_some d.1 hx]
    refine iteF ?_
    refine ⟨_, rfl, _, rfl, b, v, x, rfl, hb.tk (TK.same m1), ok.ok, fun t ys H2 m2 ht pp so => ?_⟩
    have h2 := m2 _ _ h1
    have yl : ys.length ≤ 60 := by
      rw [pp.length_eq]
      unfold nearL
      rw [List.length_append, List.length_map, List.length_map]
      have l1 := List.length_filter_le (fun l : Str × Str => decide (l.1 = x)) b.ln
      have l2 := List.length_filter_le (fun l : Str × Str => decide (l.2 = x)) b.ln
      have := ok.ok.ln
      omega
    refine ⟨t, rfl, ⟨_, ht⟩, fun M hM => ?_⟩
    have nM := same_new (o := HO.lst []) hM
    refine lc_tup (K := K) (a := t) (xs := ys.map V.str) (fun i H' => H' M = some (.lst (((ys.take i).filter (hit F D)).map V.str)) ∧ Same H2 H') ⟨upd_same, nM⟩ (fun i H' _ h => h.2.tup ht) ?_ ?_
    · rintro i u H' hi ⟨hL, m3⟩
      obtain ⟨z, hz, rfl⟩ := map_get hi
      have h3 := m3 _ _ h2
      have nz : nb b.ln x z := near_iff.mp (pp.mem_iff.mp (List.mem_of_getElem? hz))
      obtain ⟨e, he⟩ := d.2.2 z (D + 1) (.snoc (d.2.1 _ hx).1 nz)
      have gz : DGet H' p (V.str z) (some (V.int (e : Nat))) := by
        have := DGet.k (k := (Sum.inr z : Key)) h3
        rw [fk_some d.1 he] at this
        exact this
      have gx : DGet H' p (V.str x) (some (V.int (D : Nat))) := by
        have := DGet.k (k := (Sum.inr x : Key)) h3
        rw [fk_some d.1 hx] at this
        exact this
      refine ⟨rfl, _, rfl, _, rfl, p, _, rfl, gz, _, rfl, _, rfl, p, _, rfl, gx, _, _, rfl, rfl, rfl, _, rfl, ?_⟩
      rw [hit_val d.1 he]
      refine ite2 (fun cc => ?_) (fun cc => ?_)
      · refine ⟨_, rfl, _, hL, ?_, ?_, fun bb o hh => ?_⟩
        · rw [List.length_map]
          have := List.length_filter_le (hit F D) (ys.take i)
          rw [List.length_take] at this
          exact small _ (by omega)
        · rw [upd_same, filt_step2 hz, if_pos cc, List.map_append]; rfl
        · rw [upd_ne (ne_of_none hh hM)]; exact m3 _ _ hh
      · exact ⟨by rw [hL, filt_step2 hz, if_neg cc, List.append_nil], m3⟩
    rintro H3 ⟨hL, m3⟩
    rw [List.length_map, List.take_length] at hL
    cases e : ys.filter (hit F D) with
    | nil =>
      refine absurd ?_ (show x ≠ g from fun e => c1 (decide_eq_true (by rw [e])))
      rcases ns_none d hx (fun y hy => by
        have := List.filter_eq_nil_iff.mp e y (pp.mem_iff.mpr (near_iff.mpr hy))
        simpa using this) with ⟨_, h | h⟩ | ⟨y, d', h, _⟩
      · exact h
      · exact absurd (d.2.1 _ hx).1 (h D)
      · cases h
    | cons y r =>
      rw [e] at hL
      refine ⟨_, rfl, M, _, _, .str y, rfl, rfl, SqL.of hL, atI_nat (j := 0) rfl, q _ H3 ((m1.trans m2).trans m3) ?_⟩
      have my : y ∈ ys.filter (hit F D) := by rw [e]; simp
      obtain ⟨my1, my2⟩ := List.mem_filter.mp my
      refine ns_some d hx (near_iff.mp (pp.mem_iff.mp my1)) my2 fun z hz hh => ?_
      have pw := (sorted_pw so).filter (hit F D)
      rw [e] at pw
      exact sorted_first pw z (by rw [← e]; exact List.mem_filter.mpr ⟨pp.mem_iff.mpr (near_iff.mpr hz), hh⟩)
end
section
variable {P : Program} {w : World} {K : PySem.W.Frag} {mg : Str → Option Value} {base : Heap}
theorem ok__law_spread (D : Df K mg "_law_spread" s__law_spread ["book", "start"]) (T : Tx mg)   : Cal P w K mg base "_law_spread" ["book", "start"] 1 (sp53_spread K) := by
  obtain ⟨f, fd, F, gf, bf⟩ := D
  refine ⟨f, fd, F.ok sc__law_spread (fun vs H Q E h => ?_) (fun cdv A outer s₀ H vs Q E hr h => ?_), gf, F.kp, bf⟩
  · obtain ⟨b, v, s, rfl, _⟩ := h; rfl
  · obtain ⟨b, v, s, rfl, hb, ok, hs, q⟩ := h
    refine ⟨_, (pss_cons (ps_set (i := 2) sc__law_spread.nd rfl (Or.inl rfl) pe_dnewK)
      (pss_cons (ps_dput (hu_of hr) (pv 2) (pv 1) pe_int rfl)
      (pss_cons (ps_for PassesOwn.never rfl (pi_range2 (by rfl) T.n_range (pa_cons pe_int (pa_cons (pe_callB call_len_seq (by rfl) T.n_len PySem.boot_len (pa_cons (pe_ix ix_tup (pv 0) pe_int (fun _ _ => rfl)) pa_nil)) pa_nil))) (pg_name (i := 3) sc__law_spread.nd rfl (Or.inl rfl))
      (pss_one (ps_for PassesOwn.never rfl (pi_tup (pe_ix ix_tup (pv 0) pe_int (fun _ _ => rfl))) (pg_name (i := 4) sc__law_spread.nd rfl (Or.inl rfl))
        (pss_one (ps_for PassesOwn.never rfl (pi_range1 (by rfl) T.n_range (pa_cons pe_int pa_nil)) (pg_name (i := 5) sc__law_spread.nd rfl (Or.inl rfl))
          (pss_one (ps_if (PW.pt (pw_and (pt_cmpR op_eq (pe_dget2 (hu_of hr) (pv 2) (pe_ix ix_tup (pv 4) (pv 5) (fun _ _ => rfl)) (pe_un un_neg pe_int) ⟨rfl, rfl, rfl, rfl⟩) (pe_op op_sub (pv 3) pe_int) (nomark _)) (pw_and1 (pt_cmp (pc_dnotin (hu_of hr) (pe_ix ix_tup (pv 4) (pe_op op_sub pe_int (pv 5)) (fun _ _ => rfl)) (pv 2))))))
            (pss_one (ps_dput (hu_of hr) (pv 2) (pe_ix ix_tup (pv 4) (pe_op op_sub pe_int (pv 5)) (fun _ _ => rfl)) (pv 3) rfl))
            pss_nil)))))))
      (pss_one (ps_ret (pv 2)))))), ?_⟩
    have small : ∀ n : Nat, n ≤ 30000 → n < sizeLine := fun n h => Nat.lt_of_le_of_lt h (by decide)
    obtain ⟨ba, bus, c3, ws3, rfl, hB, e3, hC3, hw3⟩ := DV.sub (i := 3) (es := b.si.map siD) hb rfl
    obtain ⟨_, bus4, c4, ws4, er, hB', e4, hC4, hw4⟩ := DV.sub (i := 4) (es := b.ln.map lnD) hb rfl
    obtain rfl := V.ref.inj er
    have l3 : ws3.length = (nms b).length := by rw [hw3.map_len]; unfold nms; rw [List.length_map]
    have ul : (nms b).length ≤ 10 := by unfold nms; rw [List.length_map]; exact ok.ok.si
    refine fun p hp => ⟨_, rfl, _, rfl, p, _, rfl, DPut.k (k := Sum.inr s) (v := V.int ((0 : Nat) : Int)) upd_same (by show 0 < sizeLine; decide), ?_⟩
    have e0 : upd (upd H p (HO.dK [])) p (HO.dK (putK [] (Sum.inr s) (V.int ((0 : Nat) : Int)))) = upd H p (.dK (fk [(s, 0)])) := by rw [upd_upd]; rfl
    rw [e0]
    have m0 := same_new (o := HO.dK (fk [(s, 0)])) hp
    refine ⟨_, rfl, ba, bus, 3, .ref c3, rfl, rfl, m0.tup hB, atI_nat (j := 3) e3, c3, ws3, rfl, .inr (m0.tup hC3), 1, _, rfl, ⟨by decide, by decide, by omega, by omega⟩, ?_⟩
    refine for_range (lo := 1) (n := ((ws3.length : Int) - 1).toNat) (fun i σ H' => ∃ (F : List (Str × Nat)) (v3 v4 v5 : Option V), σ = [some (.ref ba), some (.str s), some (.ref p), v3, v4, v5] ∧ H' p = some (.dK (fk F)) ∧ Same H H' ∧ Lv b.ln s (nms b) F i (fun _ _ => False)) ?_ ?_ ?_
    · exact ⟨_, _, _, _, rfl, upd_same, m0, .start hs⟩
    · rintro i σ H1 hi ⟨F, v3, v4, v5, rfl, h1, m1, inv⟩
      refine ⟨_, rfl, ba, bus4, 4, .ref c4, rfl, rfl, m1.tup hB', atI_nat (j := 4) e4, c4, rfl, ⟨_, m1.tup hC4⟩, ?_⟩
      refine for_tup (K := K) (a := c4) (xs := ws4) (fun j σ H' => ∃ (F : List (Str × Nat)) (v4 v5 : Option V), σ = [some (.ref ba), some (.str s), some (.ref p), some (.int (1 + (i : Int))), v4, v5] ∧ H' p = some (.dK (fk F)) ∧ Same H H' ∧ Lv b.ln s (nms b) F i (fun x z => (x, i) ∈ F ∧ ((x, z) ∈ b.ln.take j ∨ (z, x) ∈ b.ln.take j))) ?_ (fun j σ H' _ h => by obtain ⟨_, _, _, _, _, m, _⟩ := h; exact m.tup hC4) ?_ ?_
      · exact ⟨F, _, _, rfl, h1, m1, inv.mono fun x z h => by rw [List.take_zero] at h; exact absurd h.2 (by simp)⟩
      · rintro j u σ H2 hj ⟨F, v4, v5, rfl, h2, m2, inv2⟩
        obtain ⟨l, hl, dx⟩ := hw4.map_get hj
        obtain ⟨t, rfl, hT⟩ := DV_pair_inv dx
        refine ⟨2, rfl, by decide, by decide, ?_⟩
        refine for_range (lo := 0) (n := 2) (fun w σ H' => ∃ (F : List (Str × Nat)) (v5 : Option V), σ = [some (.ref ba), some (.str s), some (.ref p), some (.int (1 + (i : Int))), some (.ref t), v5] ∧ H' p = some (.dK (fk F)) ∧ Same H H' ∧ Lv b.ln s (nms b) F i (fun x z => (x, i) ∈ F ∧ (((x, z) ∈ b.ln.take j ∨ (z, x) ∈ b.ln.take j) ∨ (0 < w ∧ x = l.1 ∧ z = l.2) ∨ (1 < w ∧ x = l.2 ∧ z = l.1)))) ?_ ?_ ?_
        · exact ⟨F, _, rfl, h2, m2, inv2.mono fun x z h => .inl ⟨h.1, h.2.elim id fun h => h.elim (fun h => absurd h.1 (by decide)) fun h => absurd h.1 (by decide)⟩⟩
        · rintro w σ H3 hw ⟨F, v5, rfl, h3, m3, inv3⟩
          obtain ⟨x, z, ex, ez, hxz, hn⟩ : ∃ x z : Str, atI [V.str l.1, V.str l.2] (0 + (w : Int)) = some (.str x) ∧ atI [V.str l.1, V.str l.2] (1 - (0 + (w : Int))) = some (.str z) ∧ nb b.ln x z ∧ ∀ a c, ((0 < w + 1 ∧ a = l.1 ∧ c = l.2) ∨ (1 < w + 1 ∧ a = l.2 ∧ c = l.1)) → ((0 < w ∧ a = l.1 ∧ c = l.2) ∨ (1 < w ∧ a = l.2 ∧ c = l.1)) ∨ (a = x ∧ c = z) := by
            have ml := List.mem_of_getElem? hl
            have : w = 0 ∨ w = 1 := by omega
            rcases this with e | e <;> subst e
            · exact ⟨_, _, rfl, rfl, .inl ml, fun a c h => h.elim (fun h => .inr h.2) fun h => absurd h.1 (by decide)⟩
            · exact ⟨_, _, rfl, rfl, .inr ml, fun a c h => h.elim (fun h => .inl (.inl ⟨by decide, h.2⟩)) fun h => .inr h.2⟩
          have hT3 := m3.tup hT
          have go : ∀ (b0 : Bool), b0 = decide ((x, i) ∈ F) → (b0 = true → (∃ e, (z, e) ∈ F) ∨ True) → True := fun _ _ _ => trivial
          have skip : ((x, i) ∈ F → ∃ e, (z, e) ∈ F) → Lv b.ln s (nms b) F i (fun x z => (x, i) ∈ F ∧ (((x, z) ∈ b.ln.take j ∨ (z, x) ∈ b.ln.take j) ∨ (0 < w + 1 ∧ x = l.1 ∧ z = l.2) ∨ (1 < w + 1 ∧ x = l.2 ∧ z = l.1))) := fun k => inv3.mono fun a c h => by
            rcases h.2 with h2 | h2
            · exact .inl ⟨h.1, .inl h2⟩
            · rcases hn a c h2 with h3 | h3
              · exact .inl ⟨h.1, .inr h3⟩
              · rw [h3.2]; exact .inr (k (by rw [← h3.1]; exact h.1))
          by_cases c : (x, i) ∈ F
          rotate_left
          · -- not so far
            have done := skip fun h => absurd h c
            obtain ⟨o, ho, hs1, hs2⟩ : ∃ o : V, o = (valV (fk F) (Sum.inr x : Key)).getD (V.int (-1)) ∧ scal o (V.int ((1 + (i : Int)) - 1)) = true ∧ decide (o = V.int ((1 + (i : Int)) - 1)) = false := by
              by_cases c2 : ∃ e, (x, e) ∈ F
              · obtain ⟨e, he⟩ := c2
                refine ⟨.int (e : Nat), by rw [fk_some inv3.nd he]; rfl, rfl, decide_eq_false fun q' => c ?_⟩
                have : e = i := by have := V.int.inj q'; omega
                rw [← this]; exact he
              · refine ⟨.int (-1), by rw [fk_none fun e m => c2 ⟨e, m⟩]; rfl, rfl, decide_eq_false fun q' => ?_⟩
                have : (-1 : Int) = 1 + (i : Int) - 1 := V.int.inj q'
                omega
            refine ⟨_, rfl, p, rfl, .inl ⟨_, .inl h3⟩, _, rfl, _, rfl, t, _, _, _, rfl, rfl, hT3, ex, _, rfl, _, DGet.k (k := Sum.inr x) h3, _, rfl, _, _, rfl, rfl, ?_⟩
            have ho' : (valV (fk F) (Sum.inr x : Key)).getD ((fun i => V.int (-i)) 1) = o := ho.symm
            rw [ho']
            exact ⟨hs1, _, rfl, iN hs2 ⟨F, _, rfl, h3, m3, done⟩⟩
          have gx : DGet H3 p (V.str x) (some (V.int (i : Nat))) := by
            have := DGet.k (k := (Sum.inr x : Key)) h3
            rw [fk_some inv3.nd c] at this
            exact this
          refine ⟨_, rfl, p, rfl, .inl ⟨_, .inl h3⟩, _, rfl, _, rfl, t, _, _, _, rfl, rfl, hT3, ex, _, rfl, _, gx, _, rfl, _, _, rfl, rfl, rfl, _, rfl, iG (decide_eq_true (by show V.int _ = V.int _; congr 1; omega)) ?_⟩
          refine ⟨_, rfl, _, rfl, _, _, rfl, rfl, t, _, _, _, rfl, rfl, hT3, ez, _, rfl, p, _, rfl, DGet.k (k := Sum.inr z) h3, _, rfl, ?_⟩
          by_cases c2 : ∃ e, (z, e) ∈ F
          · obtain ⟨e, he⟩ := c2
            rw [fk_some inv3.nd he]
            exact iteF ⟨F, _, rfl, h3, m3, skip fun _ => ⟨e, he⟩⟩
          have hz' : ∀ d, (z, d) ∉ F := fun d m => c2 ⟨d, m⟩
          rw [fk_none hz']
          have inv4 := inv3.add (dn' := fun a c => (a, i) ∈ F ++ [(z, i + 1)] ∧ (((a, c) ∈ b.ln.take j ∨ (c, a) ∈ b.ln.take j) ∨ (0 < w + 1 ∧ a = l.1 ∧ c = l.2) ∨ (1 < w + 1 ∧ a = l.2 ∧ c = l.1))) ok.ln c hxz hz' fun a b h => by
            have ha : (a, i) ∈ F := (List.mem_append.mp h.1).elim id fun h => absurd (Prod.mk.inj (List.mem_singleton.mp h)).2 (by omega)
            rcases h.2 with h2 | h2
            · exact .inl ⟨ha, .inl h2⟩
            · rcases hn a b h2 with h3 | h3
              · exact .inl ⟨ha, .inr h3⟩
              · exact .inr h3.2
          have fl := inv4.len
          rw [List.length_append] at fl
          refine iteT ⟨_, rfl, _, rfl, _, rfl, _, rfl, _, _, rfl, rfl, t, _, _, _, rfl, rfl, hT3, ez, p, _, rfl, DPut.k (k := Sum.inr z) (v := V.int (1 + (i : Int))) h3 (by rw [fk_len]; exact small _ (by omega)), ?_⟩
          have ei : V.int (1 + (i : Int)) = V.int ((i + 1 : Nat) : Int) := by congr 1; omega
          rw [ei, fk_put hz']
          exact ⟨F ++ [(z, i + 1)], _, rfl, upd_same, sput m3 hp, inv4⟩
        · rintro σ H3 ⟨F, v5, rfl, h3, m3, inv3⟩
          refine ⟨F, _, _, rfl, h3, m3, inv3.mono fun x z h => .inl ⟨h.1, ?_⟩⟩
          have tk : b.ln.take (j + 1) = b.ln.take j ++ [l] := by rw [List.take_add_one, hl]; rfl
          rw [tk, List.mem_append, List.mem_append, List.mem_singleton, List.mem_singleton] at h
          rcases h.2 with (h | h) | (h | h)
          · exact .inl (.inl h)
          · exact .inr (.inl ⟨by decide, by rw [← h], by rw [← h]⟩)
          · exact .inl (.inr h)
          · exact .inr (.inr ⟨by decide, by rw [← h], by rw [← h]⟩)
      · rintro σ H2 ⟨F, v4, v5, rfl, h2, m2, inv2⟩
        rw [hw4.map_len, List.take_length] at inv2
        exact ⟨F, _, _, _, rfl, h2, m2, inv2.next fun x z hx e => ⟨hx, e⟩⟩
    · rintro σ H1 ⟨F, v3, v4, v5, rfl, h1, m1, inv⟩
      refine ⟨_, rfl, q p F H1 hp m1 h1 (inv.all hs ok.ln ?_)⟩
      omega
end

end Z
namespace Z
open PySem L2 SX
section
variable {P : Program} {w : World} {K : PySem.W.Frag} {mg : Str → Option Value} {base : Heap}
theorem ok__law_onward (D : Df K mg "_law_onward" s__law_onward ["book", "far", "here"]) (T : Tx mg)   : Cal P w K mg base "_law_onward" ["book", "far", "here"] 1 (sp53_onward K) := by
  obtain ⟨f, fd, F, gf, bf⟩ := D
  refine ⟨f, fd, F.ok sc__law_onward (fun vs H Q E h => ?_) (fun cdv A outer s₀ H vs Q E hr h => ?_), gf, F.kp, bf⟩
  · obtain ⟨b, v, p, x, g, F, rfl, _⟩ := h; rfl
  · obtain ⟨b, v, p, x, g, F, rfl, hb, ok, hp, d, q⟩ := h
    refine ⟨_, (pss_cons (ps_set (i := 3) sc__law_onward.nd rfl (Or.inl rfl) (pe_op L2.op_cat (pe_lc (own := [("pair", 6)]) (g := gName 6) rfl sc__law_onward.nd (pi_tup (pe_ix ix_tup (pv 0) pe_int (fun _ _ => rfl))) (blkOk_by (own := [("pair", 6)]) (N := N__law_onward) (sc := defScope s__law_onward) (by decide +kernel)) (fun _ _ _ _ _ => pg_name (i := 6) sc__law_onward.nd rfl (Or.inl rfl)) (fun _ _ _ _ _ => pts_one (pt_cmpR op_eq (pe_ix (ix_tupQ (K := K) rfl) (pv 6) pe_int (fun _ _ => rfl)) (pv 2) (nomark _))) (fun _ _ _ _ _ => (pe_ix (ix_tupQ (K := K) rfl) (pv 6) pe_int (fun _ _ => rfl)))) (pe_lc (own := [("pair", 6)]) (g := gName 6) rfl sc__law_onward.nd (pi_tup (pe_ix ix_tup (pv 0) pe_int (fun _ _ => rfl))) (blkOk_by (own := [("pair", 6)]) (N := N__law_onward) (sc := defScope s__law_onward) (by decide +kernel)) (fun _ _ _ _ _ => pg_name (i := 6) sc__law_onward.nd rfl (Or.inl rfl)) (fun _ _ _ _ _ => pts_one (pt_cmpR op_eq (pe_ix (ix_tupQ (K := K) rfl) (pv 6) pe_int (fun _ _ => rfl)) (pv 2) (nomark _))) (fun _ _ _ _ _ => (pe_ix (ix_tupQ (K := K) rfl) (pv 6) pe_int (fun _ _ => rfl))))))
      (pss_cons (ps_setLc (i := 4) (own := [("name", 5)]) (g := gName 5) rfl sc__law_onward.nd rfl rfl (sw_true rfl rfl rfl (by decide +kernel)) (pi_list (pv 3)) (blkOk_by (own := [("name", 5)]) (N := N__law_onward) (sc := defScope s__law_onward) (by decide +kernel)) (fun _ _ _ _ _ => pg_name (i := 5) sc__law_onward.nd rfl (Or.inl rfl)) (fun _ _ _ _ _ => pts_one (PW.pt (pw_and (pt_cmp (pc_din (hu_of hr) (pv 2) (pv 1))) (pw_and1 (pt_cmpR op_eq (pe_dget (hu_of hr) (pv 1) (pv 5) (fun _ _ => rfl)) (pe_op op_sub (pe_dget (hu_of hr) (pv 1) (pv 2) (fun _ _ => rfl)) pe_int) (nomark _)))))) (fun _ _ _ _ _ => (pv 5)))
      (pss_cons (ps_if (pt_cmpR op_eq (pe_callB call_len_seq (by rfl) T.n_len PySem.boot_len (pa_cons (pv 4) pa_nil)) pe_int (nomark _))
      (pss_one (ps_ret pe_non))
      pss_nil)
      (pss_one (ps_ret (pe_callB (cr_minDDQ (K := K) rfl (room65 hr) rfl) (by rfl) T.n_min (by decide +kernel) (pa_cons (pv 4) pa_nil))))))), ?_⟩
    have small : ∀ n : Nat, n ≤ 30000 → n < sizeLine := fun n h => Nat.lt_of_le_of_lt h (by decide)
    obtain ⟨ba, bus, c, ws, rfl, hB, e4, hC, hw⟩ := DV.sub (i := 4) (es := b.ln.map lnD) hb rfl
    have lnl := ok.ok.ln
    refine ⟨_, rfl, ba, bus, 4, .ref c, rfl, rfl, hB, atI_nat (j := 4) e4, c, rfl, ⟨_, hC⟩, fun D hD => ?_⟩
    refine lc_tup (K := K) (a := c) (xs := ws) (fun i H' => H' D = some (.lst ((((b.ln.take i).filter fun l => decide (l.1 = x)).map (·.2)).map V.str)) ∧ Same H H') ⟨upd_same, same_new hD⟩ (fun i H' _ h => h.2.tup hC) ?_ ?_
    · rintro i u H' hi ⟨h1, h2⟩
      obtain ⟨l, hl, dx⟩ := hw.map_get hi
      obtain ⟨t, rfl, hT⟩ := DV_pair_inv (dx.tk (TK.same h2))
      refine ⟨rfl, _, rfl, t, _, 0, _, rfl, rfl, hT, atI_nat (j := 0) rfl, _, rfl, rfl, _, rfl, ite2 (fun cc => ?_) (fun cc => ?_)⟩
      · have e := filt_step2 (p := fun l : Str × Str => decide (l.1 = x)) hl
        rw [if_pos (decide_eq_true (V.str.inj (of_decide_eq_true cc)))] at e
        refine ⟨_, rfl, t, _, 1, _, rfl, rfl, hT, atI_nat (j := 1) rfl, _, h1, ?_, ?_, ?_⟩
        · rw [List.length_map, List.length_map]
          exact small _ (by have := List.length_filter_le (fun l : Str × Str => decide (l.1 = x)) (b.ln.take i); rw [List.length_take] at this; omega)
        · rw [upd_same, e, List.map_append, List.map_append]; rfl
        · exact sput h2 hD
      · have e := filt_step2 (p := fun l : Str × Str => decide (l.1 = x)) hl
        rw [if_neg (fun z => cc (decide_eq_true (by rw [of_decide_eq_true z]))), List.append_nil] at e
        exact ⟨by rw [h1, e], h2⟩
    rintro H1 ⟨h1, m1⟩
    rw [hw.map_len, List.take_length] at h1
    have hB1 := m1.tup hB
    have hC1 := m1.tup hC
    refine ⟨_, rfl, ba, bus, 4, .ref c, rfl, rfl, hB1, atI_nat (j := 4) e4, c, rfl, ⟨_, hC1⟩, fun G hG => ?_⟩
    refine lc_tup (K := K) (a := c) (xs := ws) (fun i H' => H' G = some (.lst ((((b.ln.take i).filter fun l => decide (l.2 = x)).map (·.1)).map V.str)) ∧ Same H1 H') ⟨upd_same, same_new hG⟩ (fun i H' _ h => h.2.tup hC1) ?_ ?_
    · rintro i u H' hi ⟨h1', h2⟩
      obtain ⟨l, hl, dx⟩ := hw.map_get hi
      obtain ⟨t, rfl, hT⟩ := DV_pair_inv (dx.tk (TK.same (m1.trans h2)))
      refine ⟨rfl, _, rfl, t, _, 1, _, rfl, rfl, hT, atI_nat (j := 1) rfl, _, rfl, rfl, _, rfl, ite2 (fun cc => ?_) (fun cc => ?_)⟩
      · have e := filt_step2 (p := fun l : Str × Str => decide (l.2 = x)) hl
        rw [if_pos (decide_eq_true (V.str.inj (of_decide_eq_true cc)))] at e
        refine ⟨_, rfl, t, _, 0, _, rfl, rfl, hT, atI_nat (j := 0) rfl, _, h1', ?_, ?_, ?_⟩
        · rw [List.length_map, List.length_map]
          exact small _ (by have := List.length_filter_le (fun l : Str × Str => decide (l.2 = x)) (b.ln.take i); rw [List.length_take] at this; omega)
        · rw [upd_same, e, List.map_append, List.map_append]; rfl
        · exact sput h2 hG
      · have e := filt_step2 (p := fun l : Str × Str => decide (l.2 = x)) hl
        rw [if_neg (fun z => cc (decide_eq_true (by rw [of_decide_eq_true z]))), List.append_nil] at e
        exact ⟨by rw [h1', e], h2⟩
    rintro H2 ⟨h2, m2⟩
    rw [hw.map_len, List.take_length] at h2
    have l1 := List.length_filter_le (fun l : Str × Str => decide (l.1 = x)) b.ln
    have l2 := List.length_filter_le (fun l : Str × Str => decide (l.2 = x)) b.ln
    refine ⟨D, G, _, _, rfl, rfl, m2 _ _ h1, h2, ?_, fun M hM => ?_⟩
    · rw [List.length_map, List.length_map, List.length_map, List.length_map]
      exact Nat.le_of_lt (small _ (by omega))
    have en : (((b.ln.filter fun l => decide (l.1 = x)).map (·.2)).map V.str) ++ (((b.ln.filter fun l => decide (l.2 = x)).map (·.1)).map V.str) = (nearL b x).map V.str := by unfold nearL; rw [List.map_append]
    rw [en]
    have nl : (nearL b x).length ≤ 60 := by
      unfold nearL
      rw [List.length_append, List.length_map, List.length_map]; omega
    have n3 := same_new (o := HO.lst ((nearL b x).map V.str)) hM
    have m3 := (m1.trans m2).trans n3
    have hM3 : (upd H2 M (HO.lst ((nearL b x).map V.str))) M = some (.lst ((nearL b x).map V.str)) := upd_same
    generalize upd H2 M (HO.lst ((nearL b x).map V.str)) = H3 at m3 hM3 ⊢
    have hp3 := m3 _ _ hp
    refine ⟨_, rfl, M, rfl, ⟨_, SqL.of hM3⟩, fun N hN => ?_⟩
    have nN := same_new (o := HO.lst []) hN
    by_cases c : ∃ D, (x, D) ∈ F
    rotate_left
    · have no := fun e m => c ⟨e, m⟩
      refine lc_list (K := K) (a := M) (xs := (nearL b x).map V.str) (fun i H' => H' N = some (.lst []) ∧ Same H3 H') ⟨upd_same, nN⟩ (fun i H' _ h => SqL.of (h.2 _ _ hM3)) ?_ ?_
      · rintro i u H' hi ⟨hL, m4⟩
        have g := DGet.k (k := (Sum.inr x : Key)) (m4 _ _ hp3)
        rw [fk_none no] at g
        exact ⟨rfl, _, rfl, _, rfl, p, _, rfl, g, _, rfl, iteF (iteF ⟨hL, m4⟩)⟩
      rintro H4 ⟨hL, m4⟩
      exact ⟨_, rfl, N, _, rfl, .inl (SqL.of hL), rfl, _, rfl, iteT (q .non H4 (m3.trans m4) (ns_far d no))⟩
    obtain ⟨D', hx⟩ := c
    refine lc_list (K := K) (a := M) (xs := (nearL b x).map V.str) (fun i H' => H' N = some (.lst ((((nearL b x).take i).filter (hit F D')).map V.str)) ∧ Same H3 H') ⟨upd_same, nN⟩ (fun i H' _ h => SqL.of (h.2 _ _ hM3)) ?_ ?_
    · rintro i u H' hi ⟨hL, m4⟩
      obtain ⟨z, hz, rfl⟩ := map_get hi
      have h4 := m4 _ _ hp3
      have nz : nb b.ln x z := near_iff.mp (List.mem_of_getElem? hz)
      obtain ⟨e, he⟩ := d.2.2 z (D' + 1) (.snoc (d.2.1 _ hx).1 nz)
      have gz : DGet H' p (V.str z) (some (V.int (e : Nat))) := by
        have := DGet.k (k := (Sum.inr z : Key)) h4
        rw [fk_some d.1 he] at this
        exact this
      have gx : DGet H' p (V.str x) (some (V.int (D' : Nat))) := by
        have := DGet.k (k := (Sum.inr x : Key)) h4
        rw [fk_some d.1 hx] at this
        exact this
      refine ⟨rfl, _, rfl, _, rfl, p, _, rfl, gx, _, rfl, iteT ⟨_, rfl, _, rfl, p, _, rfl, gz, _, rfl, _, rfl, p, _, rfl, gx, _, _, rfl, rfl, rfl, _, rfl, ?_⟩⟩
      rw [hit_val d.1 he]
      refine ite2 (fun cc => ?_) (fun cc => ?_)
      · refine ⟨_, rfl, _, hL, ?_, ?_, sput m4 hN⟩
        · rw [List.length_map]
          have := List.length_filter_le (hit F D') ((nearL b x).take i)
          rw [List.length_take] at this
          exact small _ (by omega)
        · rw [upd_same, filt_step2 hz, if_pos cc, List.map_append]; rfl
      · exact ⟨by rw [hL, filt_step2 hz, if_neg cc, List.append_nil], m4⟩
    rintro H4 ⟨hL, m4⟩
    rw [List.length_map, List.take_length] at hL
    refine ⟨_, rfl, N, _, rfl, .inl (SqL.of hL), rfl, _, rfl, ite2 (fun cc => ?_) (fun cc => ?_)⟩
    · have e : (nearL b x).filter (hit F D') = [] := by
        have := V.int.inj (of_decide_eq_true cc)
        rw [List.length_map] at this
        exact List.length_eq_zero_iff.mp (by omega)
      refine q .non H4 (m3.trans m4) (ns_none d hx fun y hy => ?_)
      have := List.filter_eq_nil_iff.mp e y (near_iff.mpr hy)
      simpa using this
    · have ne : (nearL b x).filter (hit F D') ≠ [] := fun e => cc (by rw [e]; rfl)
      refine ⟨_, rfl, N, _, Str, (nearL b x).filter (hit F D'), Z.D.str, rfl, SqL.of hL, DVs.strs _, aa_str, (fun _ _ e => by cases e), (fun _ _ => by simp [py, PyData.depth]), ne, fun y w my hmin dw => ?_⟩
      unfold DV at dw
      subst dw
      obtain ⟨my1, my2⟩ := List.mem_filter.mp my
      refine q _ H4 (m3.trans m4) (ns_some d hx (near_iff.mp my1) my2 fun z hz hh => ?_)
      exact lt_of_dl (hmin z (List.mem_filter.mpr ⟨near_iff.mpr hz, hh⟩))
end
theorem ns_step {L : List (Str × Str)} {g x : Str} {d : Nat} {u : V} (h : NS L x g u) (hd : Dst L g x (d + 1)) : ∃ y, u = .str y ∧ Dst L g y d := by
  rcases h with ⟨_, h | h⟩ | ⟨y, e, hu, h1, _, h3, _⟩
  · subst h; have := hd.uniq dst_self; omega
  · exact absurd hd.1 (h _)
  · have : e = d := by have := h1.uniq hd; omega
    subst this
    exact ⟨y, hu, h3⟩
theorem told_dv {K : PySem.W.Frag} {H : Hp} {L : List (Str × Str)} {s y : Str} {u : V} (h : Told L s y u) : ∃ d, DV K H d u ∧ DL 1 d := by
  rcases h with ⟨d, _, e⟩ | ⟨e, _⟩ <;> subst e
  · exact ⟨.int d, by unfold DV; rfl, trivial⟩
  · exact ⟨.non, by unfold DV; rfl, trivial⟩
theorem ns_dv {K : PySem.W.Frag} {H : Hp} {L : List (Str × Str)} {x g : Str} {u : V} (h : NS L x g u) : ∃ d, DV K H d u ∧ DL 1 d := by
  rcases h with ⟨e, _⟩ | ⟨y, d, e, _⟩ <;> subst e
  · exact ⟨.non, by unfold DV; rfl, trivial⟩
  · exact ⟨.str y, by unfold DV; rfl, trivial⟩
section
variable {P : Program} {w : World} {K : PySem.W.Frag} {mg : Str → Option Value} {base : Heap}
theorem ok__law_route_right (D : Df K mg "_law_route_right" s__law_route_right ["book", "here", "goal"]) (T : Tx mg)  (C__law_onward : Cal P w K mg base "_law_onward" ["book", "far", "here"] 1 (sp53_onward K)) (C__law_same : Cal P w K mg base "_law_same" ["actual", "due"] 2 (sp__law_same K 1)) (C__law_spread : Cal P w K mg base "_law_spread" ["book", "start"] 1 (sp53_spread K)) (C_distance : Cal P w K mg base "distance" ["book", "site", "other"] 3 (sp53_distance K)) (C_next_site : Cal P w K mg base "next_site" ["book", "here", "goal"] 3 (sp53_next_site K)) : Cal P w K mg base "_law_route_right" ["book", "here", "goal"] 4 (sp53_route K) := by
  obtain ⟨f__law_onward, fd__law_onward, G__law_onward, g__law_onward, k__law_onward, b__law_onward⟩ := C__law_onward
  obtain ⟨f__law_same, fd__law_same, G__law_same, g__law_same, k__law_same, b__law_same⟩ := C__law_same
  obtain ⟨f__law_spread, fd__law_spread, G__law_spread, g__law_spread, k__law_spread, b__law_spread⟩ := C__law_spread
  obtain ⟨f_distance, fd_distance, G_distance, g_distance, k_distance, b_distance⟩ := C_distance
  obtain ⟨f_next_site, fd_next_site, G_next_site, g_next_site, k_next_site, b_next_site⟩ := C_next_site
  obtain ⟨f, fd, F, gf, bf⟩ := D
  refine ⟨f, fd, F.ok sc__law_route_right (fun vs H Q E h => ?_) (fun cdv A outer s₀ H vs Q E hr h => ?_), gf, F.kp, bf⟩
  · obtain ⟨b, v, x, g, rfl, _⟩ := h; rfl
  · obtain ⟨b, v, x, g, rfl, hb, ok, hx, hg, q⟩ := h
    refine ⟨_, (pss_cons (ps_set (i := 3) sc__law_route_right.nd rfl (Or.inl rfl) (pe_call G__law_spread (hr.mono (by decide)) (by rfl) g__law_spread k__law_spread b__law_spread .nil pass0 (pa_cons (pv 0) (pa_cons (pv 2) pa_nil))))
      (pss_cons (ps_if (pt_not (pt_val (pe_call G__law_same (hr.mono (by decide)) (by rfl) g__law_same k__law_same b__law_same .nil pass0 (pa_cons (pe_call G_distance (hr.mono (by decide)) (by rfl) g_distance k_distance b_distance .nil pass0 (pa_cons (pv 0) (pa_cons (pv 1) (pa_cons (pv 2) pa_nil)))) (pa_cons (pe_dget2 (hu_of hr) (pv 3) (pv 1) pe_non ⟨rfl, rfl, rfl, rfl⟩) pa_nil)))))
      (pss_one (ps_ret pe_bl))
      pss_nil)
      (pss_cons (ps_if (pt_not (pt_val (pe_call G__law_same (hr.mono (by decide)) (by rfl) g__law_same k__law_same b__law_same .nil pass0 (pa_cons (pe_call G_next_site (hr.mono (by decide)) (by rfl) g_next_site k_next_site b_next_site .nil pass0 (pa_cons (pv 0) (pa_cons (pv 1) (pa_cons (pv 2) pa_nil)))) (pa_cons (pe_call G__law_onward (hr.mono (by decide)) (by rfl) g__law_onward k__law_onward b__law_onward .nil pass0 (pa_cons (pv 0) (pa_cons (pv 3) (pa_cons (pv 1) pa_nil)))) pa_nil)))))
      (pss_one (ps_ret pe_bl))
      pss_nil)
      (pss_cons (ps_set (i := 4) sc__law_route_right.nd rfl (Or.inl rfl) (pv 1))
      (pss_cons (ps_for PassesOwn.never rfl (pi_range1 (by rfl) T.n_range (pa_cons (pe_dget2 (hu_of hr) (pv 3) (pv 1) pe_int ⟨rfl, rfl, rfl, rfl⟩) pa_nil)) (pg_name (i := 5) sc__law_route_right.nd rfl (Or.inl rfl))
      (pss_cons (ps_set (i := 6) sc__law_route_right.nd rfl (Or.inl rfl) (pe_call G__law_onward (hr.mono (by decide)) (by rfl) g__law_onward k__law_onward b__law_onward .nil pass0 (pa_cons (pv 0) (pa_cons (pv 3) (pa_cons (pv 4) pa_nil)))))
        (pss_cons (ps_set (i := 4) sc__law_route_right.nd rfl (Or.inl rfl) (pe_call G_next_site (hr.mono (by decide)) (by rfl) g_next_site k_next_site b_next_site .nil pass0 (pa_cons (pv 0) (pa_cons (pv 4) (pa_cons (pv 2) pa_nil)))))
        (pss_one (ps_if (pt_not (pt_val (pe_call G__law_same (hr.mono (by decide)) (by rfl) g__law_same k__law_same b__law_same .nil pass0 (pa_cons (pv 4) (pa_cons (pv 6) pa_nil)))))
        (pss_one (ps_ret pe_bl))
        pss_nil)))))
      (pss_one (ps_ret (pe_or (pe_cmpR op_eq (pv 4) (pv 2) (nomark _)) (pe_one (pe_cmp (pc_dnotin (hu_of hr) (pv 1) (pv 3)))))))))))), ?_⟩
    refine ⟨_, rfl, _, rfl, b, v, g, rfl, hb, ok, hg, fun p F H1 hp m1 h1 d => ?_⟩
    refine ⟨_, rfl, _, rfl, _, rfl, b, v, x, g, rfl, hb.tk (TK.same m1), ok, hx, fun u H2 m2 tu => ?_⟩
    have h2 := m2 _ _ h1
    refine ⟨_, rfl, p, rfl, .inl ⟨_, .inl h2⟩, _, rfl, _, DGet.k (k := Sum.inr x) h2, ?_⟩
    have eu := tu.uniq (told_get d x).symm
    rw [← eu]
    obtain ⟨du, dv, dl⟩ := told_dv (K := K) (H := H2) tu
    refine ⟨du, u, u, rfl, dv, dv, dl, _, rfl, iteF ?_⟩
    have m12 := m1.trans m2
    refine ⟨_, rfl, _, rfl, _, rfl, b, v, x, g, rfl, hb.tk (TK.same m12), ok, hg, fun u3 H3 m3 n3 => ?_⟩
    have h3 := m3 _ _ h2
    refine ⟨_, rfl, _, rfl, _, rfl, b, v, p, x, g, F, rfl, hb.tk (TK.same (m12.trans m3)), ok, h3, d, fun u4 H4 m4 n4 => ?_⟩
    have e34 := n3.uniq n4
    subst e34
    obtain ⟨du, dv, dl⟩ := ns_dv (K := K) (H := H4) n3
    refine ⟨du, u3, u3, rfl, dv, dv, dl, _, rfl, iteF ?_⟩
    have m14 := (m12.trans m3).trans m4
    have h4 := m4 _ _ h3
    refine ⟨_, rfl, _, rfl, p, rfl, .inl ⟨_, .inl h4⟩, _, rfl, _, DGet.k (k := Sum.inr x) h4, ?_⟩
    by_cases c : ∃ D, (x, D) ∈ F
    rotate_left
    · have no := fun e m => c ⟨e, m⟩
      rw [fk_none no]
      refine ⟨0, rfl, by decide, by decide, ?_⟩
      refine for_range (lo := 0) (n := 0) (fun i σ H' => ∃ (v5 v6 : Option V), σ = [some v, some (.str x), some (.str g), some (.ref p), some (.str x), v5, v6] ∧ H' p = some (.dK (fk F)) ∧ Same H H') ⟨_, _, rfl, h4, m14⟩ (fun i σ H' hi => absurd hi (Nat.not_lt_zero i)) ?_
      rintro σ H5 ⟨v5, v6, rfl, h5, m5⟩
      refine ⟨_, rfl, _, rfl, rfl, _, rfl, ite2 (fun _ => q H5 m5) (fun _ => ⟨_, rfl, _, rfl, p, _, rfl, DGet.k (k := Sum.inr x) h5, ?_⟩)⟩
      rw [fk_none no]
      exact q H5 m5
    obtain ⟨D, hx'⟩ := c
    rw [fk_some d.1 hx']
    have dx := d.2.1 _ hx'
    have dlt := dst_lt hg ok.ln dx
    have ul : (nms b).length ≤ 10 := by unfold nms; rw [List.length_map]; exact ok.ok.si
    simp only at dlt
    refine ⟨(D : Int), rfl, by omega, by omega, ?_⟩
    refine for_range (lo := 0) (n := (D : Int).toNat) (fun i σ H' => ∃ (y : Str) (v5 v6 : Option V), σ = [some v, some (.str x), some (.str g), some (.ref p), some (.str y), v5, v6] ∧ H' p = some (.dK (fk F)) ∧ Same H H' ∧ Dst b.ln g y (D - i)) ⟨x, _, _, rfl, h4, m14, dx⟩ ?_ ?_
    · rintro i σ H5 hi ⟨y, v5, v6, rfl, h5, m5, dy⟩
      rw [Int.toNat_natCast] at hi
      refine ⟨_, rfl, _, rfl, _, rfl, b, v, p, y, g, F, rfl, hb.tk (TK.same m5), ok, h5, d, fun u6 H6 m6 n6 => ?_⟩
      refine ⟨_, rfl, _, rfl, _, rfl, b, v, y, g, rfl, hb.tk (TK.same (m5.trans m6)), ok, hg, fun u7 H7 m7 n7 => ?_⟩
      have e67 := n6.uniq n7
      subst e67
      obtain ⟨z, rfl, dz⟩ := ns_step n6 (d := D - (i + 1)) (by rw [show D - (i + 1) + 1 = D - i by omega]; exact dy)
      refine ⟨_, rfl, _, rfl, .str z, _, _, rfl, ?_, ?_, trivial, _, rfl, iteF ⟨z, _, _, rfl, m7 _ _ (m6 _ _ h5), (m5.trans m6).trans m7, dz⟩⟩ <;> (unfold DV; rfl)
    · rintro σ H5 ⟨y, v5, v6, rfl, h5, m5, dy⟩
      rw [Int.toNat_natCast, Nat.sub_self] at dy
      have e := dy.1.zero
      subst e
      exact ⟨_, rfl, _, rfl, rfl, _, rfl, iG (decide_eq_true rfl) (q H5 m5)⟩
end

end Z
namespace Z
open PySem L2 SX
abbrev LP := Addr × (Str × Str)
def LPok (us : List Str) (s : Addr) (H : Hp) (p : LP) : Prop := p.1 ≠ s ∧ H p.1 = some (.tup [.str p.2.1, .str p.2.2]) ∧ p.2.1 ∈ us ∧ p.2.2 ∈ us
theorem LPok.ext {us : List Str} {s : Addr} {H H' : Hp} {p : LP} (x : Ext s H H') (h : LPok us s H p) : LPok us s H' p := ⟨h.1, x _ _ h.1 h.2.1, h.2.2⟩
theorem LPok.upd {us : List Str} {s : Addr} {H : Hp} {p : LP} {L : Addr} {o : HO} (e : L ≠ p.1) (h : LPok us s H p) : LPok us s (upd H L o) p := ⟨h.1, by rw [upd_ne e.symm]; exact h.2.1, h.2.2⟩
def lpD (p : LP) : PyData := .tuple [.str p.2.1, .str p.2.2]
theorem lp_dp {K : PySem.W.Frag} {us : List Str} {s : Addr} {H : Hp} : ∀ {ps : List LP}, (∀ p ∈ ps, LPok us s H p) → DpAll K H (ps.map fun p => V.ref p.1) (ps.map lpD)
  | [], _ => .nil
  | p :: ps, h => .cons (.tup (SqT.of (h p (by simp)).2.1) (.cons (.str _) (.cons (.str _) .nil))) (lp_dp fun q hq => h q (List.mem_cons_of_mem _ hq))
theorem lp_lay {us : List Str} (uA : ∀ x ∈ us, Low (tl x)) {s : Addr} {H : Hp} : ∀ {ps : List LP}, (∀ p ∈ ps, LPok us s H p) → PyData.canLayAll0 (ps.map lpD) = true ∧ PyData.depthAll (ps.map lpD) ≤ 2
  | [], _ => ⟨by simp [PyData.canLayAll0], by simp [PyData.depthAll]⟩
  | p :: ps, h => by
    obtain ⟨h1, h2⟩ := lp_lay uA (ps := ps) fun q hq => h q (List.mem_cons_of_mem _ hq)
    obtain ⟨_, _, l1, l2⟩ := h p (by simp)
    have h3 := pair_shaped (uA _ l1) (uA _ l2)
    have h4 := SeqAt.canLay_of_shaped h3
    have h5 : (lpD p).depth ≤ 2 := by simp [lpD, PyData.depth, PyData.depthAll]
    constructor
    · rw [List.map_cons]
      simp only [PyData.canLayAll0, h1, Bool.and_true]
      exact h4
    · rw [List.map_cons]
      simp only [PyData.depthAll]
      omega
theorem lp_shaped {us : List Str} (uA : ∀ x ∈ us, Low (tl x)) {s : Addr} {H : Hp} {ps : List LP} (h : ∀ p ∈ ps, LPok us s H p) : SeqAt.shaped (.list (ps.map lpD)) = true := by
  obtain ⟨h1, h2⟩ := lp_lay uA h
  have h3 : PyData.depth (.list (ps.map lpD)) ≤ 64 := by simp only [PyData.depth]; omega
  show (PyData.canLay0 (.list (ps.map lpD)) && decide (PyData.depth (.list (ps.map lpD)) ≤ 64)) = true
  rw [Bool.and_eq_true]
  exact ⟨by simp only [PyData.canLay0]; exact h1, decide_eq_true h3⟩
theorem lp_out {K : PySem.W.Frag} {us : List Str} {s : Addr} {H : Hp} {ps : List LP} (h : ∀ p ∈ ps, LPok us s H p) : ∀ {ys : List Addr}, (∀ y ∈ ys, ∃ p ∈ ps, p.1 = y) → ∃ ls : List (Str × Str), DVs K H (ls.map lnD) (ys.map V.ref) ∧ ls.length = ys.length ∧ ∀ l ∈ ls, l.1 ∈ us ∧ l.2 ∈ us
  | [], _ => ⟨[], by unfold List.map DVs; rfl, rfl, fun _ h => by cases h⟩
  | y :: ys, k => by
    obtain ⟨ls, d, e, w⟩ := lp_out h (ys := ys) fun z hz => k z (List.mem_cons_of_mem _ hz)
    obtain ⟨p, hp, rfl⟩ := k y (by simp)
    obtain ⟨_, hh, l1, l2⟩ := h p hp
    refine ⟨p.2 :: ls, ⟨_, _, rfl, DV_pair (SqT.of hh), d⟩, by rw [List.length_cons, List.length_cons, e], fun l hl => ?_⟩
    rcases List.mem_cons.mp hl with e | e
    · rw [e]; exact ⟨l1, l2⟩
    · exact w l e
section
variable {P : Program} {w : World} {K : PySem.W.Frag} {mg : Str → Option Value} {base : Heap}
theorem ok__law_lines (D : Df K mg "_law_lines" s__law_lines ["source", "names"]) (T : Tx mg)  (C__law_draw : Cal P w K mg base "_law_draw" ["source", "many"] 2 sp__law_draw) (C__law_pick : Cal P w K mg base "_law_pick" ["source", "row"] 3 (sp3__law_pick K)) : Cal P w K mg base "_law_lines" ["source", "names"] 4 (sp53_lines K) := by
  obtain ⟨f__law_draw, fd__law_draw, G__law_draw, g__law_draw, k__law_draw, b__law_draw⟩ := C__law_draw
  obtain ⟨f__law_pick, fd__law_pick, G__law_pick, g__law_pick, k__law_pick, b__law_pick⟩ := C__law_pick
  obtain ⟨f, fd, F, gf, bf⟩ := D
  refine ⟨f, fd, F.ok sc__law_lines (fun vs H Q E h => ?_) (fun cdv A outer s₀ H vs Q E hr h => ?_), gf, F.kp, bf⟩
  · obtain ⟨s, a, u, us, c, rfl, _⟩ := h; rfl
  · obtain ⟨s, a, u, us, c, rfl, hU, hus, u1, u9, uA, hS, q⟩ := h
    refine ⟨_, (pss_cons (ps_set (i := 2) sc__law_lines.nd rfl (Or.inl rfl) (pe_lst pa_nil))
      (pss_cons (ps_for PassesOwn.never rfl (pi_range2 (by rfl) T.n_range (pa_cons pe_int (pa_cons (pe_callB call_len_seq (by rfl) T.n_len PySem.boot_len (pa_cons (pv 1) pa_nil)) pa_nil))) (pg_name (i := 3) sc__law_lines.nd rfl (Or.inl rfl))
      (pss_cons (ps_set (i := 4) sc__law_lines.nd rfl (Or.inl rfl) (pe_ix ix_list (pv 1) (pe_call G__law_draw (hr.mono (by decide)) (by rfl) g__law_draw k__law_draw b__law_draw .nil pass0 (pa_cons (pv 0) (pa_cons (pv 3) pa_nil))) (fun _ _ => rfl)))
        (pss_one (ps_expr (pe_bm PySem.F.plainAttrs_list PySem.F.slot_list_append PySem.F.type_list_append mt_append (pv 2) (pa_cons (pe_tup (pa_cons (pe_callB (call_minS rfl) (by rfl) T.n_min (by decide +kernel) (pa_cons (pv 4) (pa_cons (pe_ix ix_list (pv 1) (pv 3) (fun _ _ => rfl)) pa_nil))) (pa_cons (pe_callB (call_maxS rfl) (by rfl) T.n_max (by decide +kernel) (pa_cons (pv 4) (pa_cons (pe_ix ix_list (pv 1) (pv 3) (fun _ _ => rfl)) pa_nil))) pa_nil))) pa_nil))))))
      (pss_cons (ps_for PassesOwn.never rfl (pi_range1 (by rfl) T.n_range (pa_cons (pe_call G__law_draw (hr.mono (by decide)) (by rfl) g__law_draw k__law_draw b__law_draw .nil pass0 (pa_cons (pv 0) (pa_cons (pe_callB call_len_seq (by rfl) T.n_len PySem.boot_len (pa_cons (pv 1) pa_nil)) pa_nil))) pa_nil)) (pg_name (i := 3) sc__law_lines.nd rfl (Or.inl rfl))
      (pss_cons (ps_set (i := 4) sc__law_lines.nd rfl (Or.inl rfl) (pe_call G__law_pick (hr.mono (by decide)) (by rfl) g__law_pick k__law_pick b__law_pick .nil pass0 (pa_cons (pv 0) (pa_cons (pv 1) pa_nil))))
        (pss_cons (ps_set (i := 5) sc__law_lines.nd rfl (Or.inl rfl) (pe_call G__law_pick (hr.mono (by decide)) (by rfl) g__law_pick k__law_pick b__law_pick .nil pass0 (pa_cons (pv 0) (pa_cons (pv 1) pa_nil))))
        (pss_one (ps_if (PW.pt (pw_and (pt_cmpR op_ne (pv 4) (pv 5) (nomark _)) (pw_and1 (pt_cmpR (op_notInD (room65 hr)) (pe_tup (pa_cons (pe_callB (call_minS rfl) (by rfl) T.n_min (by decide +kernel) (pa_cons (pv 4) (pa_cons (pv 5) pa_nil))) (pa_cons (pe_callB (call_maxS rfl) (by rfl) T.n_max (by decide +kernel) (pa_cons (pv 4) (pa_cons (pv 5) pa_nil))) pa_nil))) (pv 2) (by rfl)))))
        (pss_one (ps_expr (pe_bm PySem.F.plainAttrs_list PySem.F.slot_list_append PySem.F.type_list_append mt_append (pv 2) (pa_cons (pe_tup (pa_cons (pe_callB (call_minS rfl) (by rfl) T.n_min (by decide +kernel) (pa_cons (pv 4) (pa_cons (pv 5) pa_nil))) (pa_cons (pe_callB (call_maxS rfl) (by rfl) T.n_max (by decide +kernel) (pa_cons (pv 4) (pa_cons (pv 5) pa_nil))) pa_nil))) pa_nil))))
        pss_nil)))))
      (pss_one (ps_ret (pe_callB (cr_sortedX (shape := fun _ => true)) (by rfl) T.n_sorted (by decide +kernel) (pa_cons (pv 2) pa_nil))))))), ?_⟩
    refine ⟨Nat.zero_le _, fun L hL => ?_⟩
    have Ls := hS.ne hL
    have La := hS.nea hL
    have keep : ∀ {H1 : Hp} (o : HO), Ext s H H1 → Ext s H (upd H1 L o) := fun o x b w hb hh => by
      rw [upd_ne (ne_of_none hh hL)]; exact x _ _ hb hh
    -- a pair is put at the end
    have put : ∀ (ps : List LP) (H1 : Hp) (x y : Str) (t : Addr) (c' : Nat), x ∈ us → y ∈ us → H1 L = some (.lst (ps.map fun p => V.ref p.1)) → (∀ p ∈ ps, LPok us s H1 p) → Ext s H H1 → Src H1 s a c' → H1 t = none →
        (upd H1 t (HO.tup [V.str x, V.str y])) L = some (.lst (ps.map fun p => V.ref p.1)) ∧
        (upd (upd H1 t (HO.tup [V.str x, V.str y])) L (HO.lst ((ps.map fun p => V.ref p.1) ++ [V.ref t]))) L = some (.lst ((ps ++ [(t, (x, y))]).map fun p => V.ref p.1)) ∧
        (∀ p ∈ ps ++ [(t, (x, y))], LPok us s (upd (upd H1 t (HO.tup [V.str x, V.str y])) L (HO.lst ((ps.map fun p => V.ref p.1) ++ [V.ref t]))) p) ∧
        Ext s H (upd (upd H1 t (HO.tup [V.str x, V.str y])) L (HO.lst ((ps.map fun p => V.ref p.1) ++ [V.ref t]))) ∧ Src (upd (upd H1 t (HO.tup [V.str x, V.str y])) L (HO.lst ((ps.map fun p => V.ref p.1) ++ [V.ref t]))) s a c' := fun ps H1 x y t c' hx hy h1 hp hE hS' ht => by
      have n1 := same_new (o := HO.tup [V.str x, V.str y]) ht
      have tL : L ≠ t := ne_of_none h1 ht
      have ts := hS'.ne ht
      refine ⟨n1 _ _ h1, by rw [upd_same, List.map_append]; rfl, fun p hp' => ?_, keep _ (hE.trans (Ext.of n1)), (hS'.ext n1).put Ls La⟩
      rcases List.mem_append.mp hp' with e | e
      · have := hp p e
        refine LPok.upd (fun e2 => ?_) ((LPok.ext (Ext.of n1) this))
        have h2 := this.2.1
        rw [← e2, h1] at h2
        cases h2
      · rw [List.mem_singleton.mp e]
        exact LPok.upd tL ⟨ts, upd_same, hx, hy⟩
    refine ⟨_, rfl, u, _, rfl, .inl ((same_new hL).seq hU), 1, _, rfl, ⟨by decide, by decide, by rw [List.length_map]; omega, by rw [List.length_map]; omega⟩, ?_⟩
    refine for_range (lo := 1) (n := (((us.map V.str).length : Int) - 1).toNat) (fun i σ H' => ∃ (ps : List LP) (v3 v4 : Option V), σ = [some (.ref s), some (.ref u), some (.ref L), v3, v4, none] ∧ H' L = some (.lst (ps.map fun p => V.ref p.1)) ∧ (∀ p ∈ ps, LPok us s H' p) ∧ ps.length ≤ i ∧ Ext s H H' ∧ Src H' s a (c + (100 - i))) ?_ ?_ ?_
    · exact ⟨[], _, _, rfl, upd_same, (fun _ h => by cases h), Nat.le_refl _, Ext.new hL, hS.new hL⟩
    · rintro i σ H' hi ⟨ps, v3, v4, rfl, h1, hp, hl, hE, hS'⟩
      rw [List.length_map] at hi
      refine ⟨_, rfl, _, rfl, _, rfl, s, a, _, c + (100 - (i + 1)), rfl, by omega, by omega, hS'.mono (by omega), fun v H2 v0 v1 x2 S2 => ?_⟩
      obtain ⟨x, xm, ex⟩ := strs_at us v0 (by omega)
      obtain ⟨y, ym, ey⟩ := strs_at us (v := 1 + (i : Int)) (by omega) (by omega)
      have xx := hE.trans x2
      refine ⟨u, _, _, _, rfl, rfl, xx.seqL hus hU, ex, ?_⟩
      have h2 := x2 _ _ Ls h1
      have hp2 : ∀ p ∈ ps, LPok us s H2 p := fun p m => (hp p m).ext x2
      refine ⟨_, rfl, .inl ⟨rfl, _, SqL.of h2⟩, ?_⟩
      refine ⟨_, rfl, _, rfl, _, rfl, u, _, _, _, rfl, rfl, xx.seqL hus hU, ey, x, y, rfl, ?_, ?_⟩ <;> refine ⟨_, rfl, _, rfl, _, rfl, u, _, _, _, rfl, rfl, xx.seqL hus hU, ey, x, y, rfl, ?_, ?_⟩ <;> refine ⟨by show 2 ≤ sizeLine; decide, fun t ht => ?_⟩ <;>
        exact ⟨L, _, _, rfl, rfl, (put ps H2 _ _ t _ (by first | exact xm | exact ym) (by first | exact xm | exact ym) h2 hp2 xx S2 ht).1, by rw [List.length_map]; exact small1000 (by omega), _, _, _, rfl, (put ps H2 _ _ t _ (by first | exact xm | exact ym) (by first | exact xm | exact ym) h2 hp2 xx S2 ht).2.1, (put ps H2 _ _ t _ (by first | exact xm | exact ym) (by first | exact xm | exact ym) h2 hp2 xx S2 ht).2.2.1, by rw [List.length_append]; show _ + 1 ≤ _; omega, (put ps H2 _ _ t _ (by first | exact xm | exact ym) (by first | exact xm | exact ym) h2 hp2 xx S2 ht).2.2.2.1, (put ps H2 _ _ t _ (by first | exact xm | exact ym) (by first | exact xm | exact ym) h2 hp2 xx S2 ht).2.2.2.2⟩
    · rintro σ H1 ⟨ps, v3, v4, rfl, h1, hp, hl, hE, hS'⟩
      rw [List.length_map] at hl
      refine ⟨_, rfl, _, rfl, u, _, rfl, .inl (hE.seqL hus hU), s, a, _, c + 90, rfl, by rw [List.length_map]; omega, by rw [List.length_map]; omega, hS'.mono (by rw [List.length_map]; omega), fun v H2 v0 v1 x2 S2 => ?_⟩
      rw [List.length_map] at v1
      refine ⟨_, rfl, by omega, by omega, ?_⟩
      refine for_range (lo := 0) (n := v.toNat) (fun i σ H' => ∃ (ps : List LP) (v3 v4 v5 : Option V), σ = [some (.ref s), some (.ref u), some (.ref L), v3, v4, v5] ∧ H' L = some (.lst (ps.map fun p => V.ref p.1)) ∧ (∀ p ∈ ps, LPok us s H' p) ∧ ps.length ≤ i + 8 ∧ Ext s H H' ∧ Src H' s a (c + (90 - 2 * i))) ?_ ?_ ?_
      · exact ⟨ps, _, _, _, rfl, x2 _ _ Ls h1, fun p m => (hp p m).ext x2, by omega, hE.trans x2, S2⟩
      · rintro i σ H3 hi ⟨ps, v3, v4, v5, rfl, h3, hp3, hl3, hE3, hS3⟩
        have ne : us.map V.str ≠ [] := fun e => by have := List.map_eq_nil_iff.mp e; rw [this] at u1; simp at u1
        refine ⟨_, rfl, _, rfl, .inl ⟨s, a, u, us.map V.str, c + (90 - 2 * (i + 1)) + 1, rfl, hE3.seqL hus hU, hus, ne, by rw [List.length_map]; omega, hS3.mono (by omega), fun w H4 wm x4 S4 => ?_⟩⟩
        obtain ⟨x, xm, rfl⟩ := List.mem_map.mp wm
        refine ⟨_, rfl, _, rfl, .inl ⟨s, a, u, us.map V.str, c + (90 - 2 * (i + 1)), rfl, (hE3.trans x4).seqL hus hU, hus, ne, by rw [List.length_map]; omega, S4, fun w H5 wm x5' S5' => ?_⟩⟩
        obtain ⟨y, ym, rfl⟩ := List.mem_map.mp wm
        have h5' := x5' _ _ Ls (x4 _ _ Ls h3)
        have hp5' : ∀ p ∈ ps, LPok us s H5 p := fun p m => ((hp3 p m).ext x4).ext x5'
        have e5' := (hE3.trans x4).trans x5'
        refine ⟨_, rfl, _, rfl, rfl, _, rfl, ite2 (fun _ => ?_) (fun _ => iteF ⟨ps, _, _, _, rfl, h5', hp5', by omega, e5', S5'⟩)⟩
        refine ⟨_, rfl, _, rfl, x, y, rfl, ?_, ?_⟩ <;> refine ⟨_, rfl, _, rfl, x, y, rfl, ?_, ?_⟩ <;> refine ⟨by show 2 ≤ sizeLine; decide, fun t1 ht1 => ?_⟩ <;>
          refine ⟨_, rfl, _, ps.map lpD, .tup (SqT.of upd_same) (.cons (.str _) (.cons (.str _) .nil)), .lst (SqL.of ((same_new ht1) _ _ h5')) (lp_dp fun p m => (hp5' p m).ext (Ext.of (same_new ht1))), pair_shaped (uA _ (by first | exact xm | exact ym)) (uA _ (by first | exact xm | exact ym)), lp_shaped uA hp5', _, rfl, ite2 (fun _ => ?_) (fun _ => ⟨ps, _, _, _, rfl, (same_new ht1) _ _ h5', fun p m => (hp5' p m).ext (Ext.of (same_new ht1)), by omega, e5'.trans (Ext.of (same_new ht1)), S5'.ext (same_new ht1)⟩)⟩ <;>
          (generalize hG : upd H5 t1 _ = H6
           have n6 : Same H5 H6 := by rw [← hG]; exact same_new ht1
           have h5 := n6 _ _ h5'
           have hp5 : ∀ p ∈ ps, LPok us s H6 p := fun p m => (hp5' p m).ext (Ext.of n6)
           have x5 := e5'.trans (Ext.of (s := s) n6)
           have S5 := S5'.ext n6
           refine ⟨_, rfl, .inl ⟨rfl, _, SqL.of h5⟩, ?_⟩
           refine ⟨_, rfl, _, rfl, x, y, rfl, ?_, ?_⟩ <;> refine ⟨_, rfl, _, rfl, x, y, rfl, ?_, ?_⟩ <;> refine ⟨by show 2 ≤ sizeLine; decide, fun t ht => ?_⟩ <;>
             exact ⟨L, _, _, rfl, rfl, (put ps H6 _ _ t _ (by first | exact xm | exact ym) (by first | exact xm | exact ym) h5 hp5 x5 S5 ht).1, by rw [List.length_map]; exact small1000 (by omega), _, _, _, _, rfl, (put ps H6 _ _ t _ (by first | exact xm | exact ym) (by first | exact xm | exact ym) h5 hp5 x5 S5 ht).2.1, (put ps H6 _ _ t _ (by first | exact xm | exact ym) (by first | exact xm | exact ym) h5 hp5 x5 S5 ht).2.2.1, by rw [List.length_append]; show _ + 1 ≤ _; omega, (put ps H6 _ _ t _ (by first | exact xm | exact ym) (by first | exact xm | exact ym) h5 hp5 x5 S5 ht).2.2.2.1, (put ps H6 _ _ t _ (by first | exact xm | exact ym) (by first | exact xm | exact ym) h5 hp5 x5 S5 ht).2.2.2.2⟩)
      · rintro σ H3 ⟨ps, v3, v4, v5, rfl, h3, hp3, hl3, hE3, hS3⟩
        have em : (ps.map fun p => V.ref p.1) = (ps.map (·.1)).map V.ref := by rw [List.map_map]; rfl
        rw [em] at h3
        refine ⟨_, rfl, L, ps.map (·.1), rfl, SqL.of h3, fun t ht => ?_, fun ys p py hp => ?_⟩
        · obtain ⟨p, hp, rfl⟩ := List.mem_map.mp ht
          exact ⟨_, (hp3 p hp).2.1, ⟨rfl, rfl, True.intro⟩, by simp⟩
        · have n := same_new (o := HO.lst (ys.map V.ref)) hp
          obtain ⟨ls, d, e, w⟩ := lp_out (K := K) (fun p m => (hp3 p m).ext (Ext.of n)) (ys := ys) fun y hy => by
            obtain ⟨p, hp, e⟩ := List.mem_map.mp (py.mem_iff.mp hy)
            exact ⟨p, hp, e⟩
          have le := py.length_eq
          rw [List.length_map] at le
          exact q p _ ls _ (ext_free hE3 hS3 hp) upd_same d (by omega) w (hE3.trans (Ext.of n)) ((hS3.ext n).mono (by omega))
end

end Z
namespace Z
open PySem L2 SX
theorem dls {K : PySem.W.Frag} {H : Hp} (x : Str) : DV K H (.str x) (.str x) := by unfold DV; rfl
theorem dli {K : PySem.W.Frag} {H : Hp} (x : Int) : DV K H (.int x) (.int x) := by unfold DV; rfl
theorem dln {K : PySem.W.Frag} {H : Hp} : DVs K H [] [] := by unfold DVs; rfl
theorem dlc {K : PySem.W.Frag} {H : Hp} {d : D} {ds : List D} {v : V} {vs : List V} (h : DV K H d v) (t : DVs K H ds vs) : DVs K H (d :: ds) (v :: vs) := ⟨v, vs, rfl, h, t⟩
theorem tk_put {K : PySem.W.Frag} {H : Hp} {M : Addr} {ys : List V} {o : HO} (h : H M = some (.lst ys)) : TK K H (upd H M o) := fun a xs q => Ext.seqT (s := M) (fun b o hb hh => by rw [upd_ne hb]; exact hh) h q
theorem tk_new {K : PySem.W.Frag} {H : Hp} {M : Addr} {o : HO} (h : H M = none) : TK K H (upd H M o) := TK.same (same_new h)
section
variable {P : Program} {w : World} {K : PySem.W.Frag} {mg : Str → Option Value} {base : Heap}
theorem ok__law_feeds (D : Df K mg "_law_feeds" s__law_feeds ["source", "lines", "words", "wide"]) (T : Tx mg)  (C__law_draw : Cal P w K mg base "_law_draw" ["source", "many"] 2 sp__law_draw) (C__law_pattern : Cal P w K mg base "_law_pattern" ["source", "words"] 6 (sp2__law_pattern K)) (C__law_shuffled : Cal P w K mg base "_law_shuffled" ["source", "row"] 3 (sp__law_shuffled K)) : Cal P w K mg base "_law_feeds" ["source", "lines", "words", "wide"] 7 (sp_feeds K) := by
  obtain ⟨f__law_draw, fd__law_draw, G__law_draw, g__law_draw, k__law_draw, b__law_draw⟩ := C__law_draw
  obtain ⟨f__law_pattern, fd__law_pattern, G__law_pattern, g__law_pattern, k__law_pattern, b__law_pattern⟩ := C__law_pattern
  obtain ⟨f__law_shuffled, fd__law_shuffled, G__law_shuffled, g__law_shuffled, k__law_shuffled, b__law_shuffled⟩ := C__law_shuffled
  obtain ⟨f, fd, F, gf, bf⟩ := D
  refine ⟨f, fd, F.ok sc__law_feeds (fun vs H Q E h => ?_) (fun cdv A outer s₀ H vs Q E hr h => ?_), gf, F.kp, bf⟩
  · obtain ⟨s, a, L, w, ws, ls, us, k, c, rfl, _⟩ := h; rfl
  · obtain ⟨s, a, L, w, ws, ls, us, k, c, rfl, hL, Ls, hw, ll, lA, hW, wns, hWds, k0, k1, hS, q⟩ := h
    refine ⟨_, (pss_cons (ps_set (i := 4) sc__law_feeds.nd rfl (Or.inl rfl) (pe_lst pa_nil))
      (pss_cons (ps_for PassesOwn.never rfl (pi_list (pv 1)) (pg_name (i := 5) sc__law_feeds.nd rfl (Or.inl rfl))
      (pss_one (ps_for PassesOwn.never rfl (pi_range1 (by rfl) T.n_range (pa_cons pe_int pa_nil)) (pg_name (i := 6) sc__law_feeds.nd rfl (Or.inl rfl))
        (pss_cons (ps_set (i := 7) sc__law_feeds.nd rfl (Or.inl rfl) (pe_ix ix_tup (pv 5) (pv 6) (fun _ _ => rfl)))
          (pss_cons (ps_set (i := 8) sc__law_feeds.nd rfl (Or.inl rfl) (pe_ix ix_tup (pv 5) (pe_op op_sub pe_int (pv 6)) (fun _ _ => rfl)))
          (pss_one (ps_if (pt_cmpR op_ne (pe_call G__law_draw (hr.mono (by decide)) (by rfl) g__law_draw k__law_draw b__law_draw .nil pass0 (pa_cons (pv 0) (pa_cons pe_int pa_nil))) pe_int (nomark _))
          (pss_cons (ps_set (i := 9) sc__law_feeds.nd rfl (Or.inl rfl) pe_str)
            (C8.pss_cut (ps_if (pt_cmpR op_eq (pe_call G__law_draw (hr.mono (by decide)) (by rfl) g__law_draw k__law_draw b__law_draw .nil pass0 (pa_cons (pv 0) (pa_cons (pv 3) pa_nil))) pe_int (nomark _))
            (pss_one (ps_set (i := 9) sc__law_feeds.nd rfl (Or.inl rfl) (pe_call G__law_pattern (hr.mono (by decide)) (by rfl) g__law_pattern k__law_pattern b__law_pattern .nil pass0 (pa_cons (pv 0) (pa_cons (pv 2) pa_nil)))))
            pss_nil)
            (pss_cons (ps_set (i := 10) sc__law_feeds.nd rfl (Or.inl rfl) (pe_op op_add pe_int (pe_call G__law_draw (hr.mono (by decide)) (by rfl) g__law_draw k__law_draw b__law_draw .nil pass0 (pa_cons (pv 0) (pa_cons pe_int pa_nil)))))
            (pss_cons (ps_set (i := 11) sc__law_feeds.nd rfl (Or.inl rfl) (pe_op op_add pe_int (pe_call G__law_draw (hr.mono (by decide)) (by rfl) g__law_draw k__law_draw b__law_draw .nil pass0 (pa_cons (pv 0) (pa_cons pe_int pa_nil)))))
            (pss_one (ps_expr (pe_bm PySem.F.plainAttrs_list PySem.F.slot_list_append PySem.F.type_list_append mt_append (pv 4) (pa_cons (pe_tup (pa_cons pe_str (pa_cons (pv 7) (pa_cons (pv 8) (pa_cons (pv 9) (pa_cons (pv 10) (pa_cons (pv 11) pa_nil))))))) pa_nil))))))))
          pss_nil)))))))
      (pss_one (ps_ret (pe_callTy call_tuple_of (by rfl) T.n_tuple (by decide +kernel) (pa_cons (pe_call G__law_shuffled (hr.mono (by decide)) (by rfl) g__law_shuffled k__law_shuffled b__law_shuffled .nil pass0 (pa_cons (pv 0) (pa_cons (pv 4) pa_nil))) pa_nil)))))), ?_⟩
    refine ⟨Nat.zero_le _, fun M hM => ?_⟩
    have Ms := hS.ne hM
    have Ma := hS.nea hM
    have keep : ∀ {H1 : Hp} (o : HO), Ext s H H1 → Ext s H (upd H1 M o) := fun o x b w hb hh => by
      rw [upd_ne (ne_of_none hh hM)]; exact x _ _ hb hh
    refine ⟨_, rfl, L, rfl, ⟨_, (same_new hM).seq hL⟩, ?_⟩
    refine for_list (K := K) (a := L) (xs := ws) (fun i σ H' => ∃ (fs : List Fd) (vs' : List V) (v5 v6 v7 v8 v9 v10 v11 : Option V), σ = [some (.ref s), some (.ref L), some (.ref w), some (.int k), some (.ref M), v5, v6, v7, v8, v9, v10, v11] ∧ H' M = some (.lst vs') ∧ DVs K H' (fs.map fdD) vs' ∧ fs.length ≤ 2 * i ∧ (∀ f ∈ fs, Low (tl f.g) ∧ Low (tl f.t)) ∧ Ext s H H' ∧ Src H' s a (c + (20000 - 600 * i))) ?_ (fun i σ H' _ h => by obtain ⟨_, _, _, _, _, _, _, _, _, _, _, _, _, _, hE, _⟩ := h; exact hE.seqL Ls hL) ?_ ?_
    · exact ⟨[], [], _, _, _, _, _, _, _, rfl, upd_same, dln, Nat.le_refl _, (fun _ h => by cases h), Ext.new hM, (hS.new hM).mono (by omega)⟩
    · rintro i x σ H1 hi ⟨fs, vs', v5, v6, v7, v8, v9, v10, v11, rfl, h1, hd, hl, hA, hE, hS'⟩
      obtain ⟨l, hll, dx⟩ := hw.map_get hi
      obtain ⟨t, rfl, hT⟩ := DV_pair_inv dx
      have lb := lA l (List.mem_of_getElem? hll)
      have il := (List.getElem?_eq_some_iff.mp hll).1
      refine ⟨2, rfl, by decide, by decide, ?_⟩
      refine for_range (lo := 0) (n := 2) (fun j σ H' => ∃ (fs : List Fd) (vs' : List V) (v6 v7 v8 v9 v10 v11 : Option V), σ = [some (.ref s), some (.ref L), some (.ref w), some (.int k), some (.ref M), some (.ref t), v6, v7, v8, v9, v10, v11] ∧ H' M = some (.lst vs') ∧ DVs K H' (fs.map fdD) vs' ∧ fs.length ≤ 2 * i + j ∧ (∀ f ∈ fs, Low (tl f.g) ∧ Low (tl f.t)) ∧ Ext s H H' ∧ Src H' s a (c + (20000 - 600 * i - 300 * j))) ?_ ?_ ?_
      · exact ⟨fs, vs', _, _, _, _, _, _, rfl, h1, hd, by omega, hA, hE, hS'⟩
      · rintro j σ H2 hj ⟨fs, vs', v6, v7, v8, v9, v10, v11, rfl, h2, hd, hl, hA, hE, hS2⟩
        have hT2 := TK.ext hE hS _ _ hT
        obtain ⟨g, hg, lg, h, hh, lh⟩ : ∃ g : Str, atI [V.str l.1, V.str l.2] (0 + (j : Int)) = some (.str g) ∧ Low (tl g) ∧ ∃ h : Str, atI [V.str l.1, V.str l.2] (1 - (0 + (j : Int))) = some (.str h) ∧ Low (tl h) := by
          have : j = 0 ∨ j = 1 := by omega
          rcases this with e | e <;> subst e
          · exact ⟨_, rfl, lb.1, _, rfl, lb.2⟩
          · exact ⟨_, rfl, lb.2, _, rfl, lb.1⟩
        refine ⟨_, rfl, _, rfl, t, _, _, _, rfl, rfl, hT2, hg, ?_⟩
        refine ⟨_, rfl, _, rfl, _, _, rfl, rfl, t, _, _, _, rfl, rfl, hT2, hh, ?_⟩
        refine ⟨_, rfl, s, a, _, c + (20000 - 600 * i - 300 * j - 1), rfl, by decide, by decide, hS2.mono (by omega), fun v H3 v0 v1 x3 S3 => ⟨rfl, _, rfl, ite2 (fun _ => ?_) (fun _ => ?_)⟩⟩
        rotate_left
        · exact ⟨fs, vs', _, _, _, _, _, _, rfl, x3 _ _ Ms h2, hd.tk (TK.ext x3 hS2), by omega, hA, hE.trans x3, S3.mono (by omega)⟩
        have h3 := x3 _ _ Ms h2
        have hd3 := hd.tk (TK.ext x3 hS2)
        have e3 := hE.trans x3
        refine ⟨fun σ' H' => ∃ (p : Str), σ' = [some (.ref s), some (.ref L), some (.ref w), some (.int k), some (.ref M), some (.ref t), some (.int (0 + (j : Int))), some (.str g), some (.str h), some (.str p), v10, v11] ∧ H' M = some (.lst vs') ∧ DVs K H' (fs.map fdD) vs' ∧ Ext s H H' ∧ Src H' s a (c + (20000 - 600 * i - 300 * j - 210)), ?_, ?_⟩
        · refine ⟨_, rfl, _, rfl, s, a, _, c + (20000 - 600 * i - 300 * j - 2), rfl, k0, by omega, S3.mono (by omega), fun v' H4 w0 w1 x4 S4 => ⟨rfl, _, rfl, ite2 (fun _ => ?_) (fun _ => ⟨_, rfl, x4 _ _ Ms h3, hd3.tk (TK.ext x4 S3), e3.trans x4, S4.mono (by omega)⟩)⟩⟩
          refine ⟨_, rfl, _, rfl, s, a, w, us, c + (20000 - 600 * i - 300 * j - 202), rfl, (e3.trans x4).seqL wns hW, wns, hWds, S4.mono (by omega), fun p H5 pg pl x5 S5 => ?_⟩
          exact ⟨p, rfl, x5 _ _ Ms (x4 _ _ Ms h3), (hd3.tk (TK.ext x4 S3)).tk (TK.ext x5 S4), (e3.trans x4).trans x5, S5.mono (by omega)⟩
        · rintro σ' H4 ⟨p, rfl, h4, hd4, e4, S4⟩
          refine ⟨_, rfl, s, a, _, c + (20000 - 600 * i - 300 * j - 211), rfl, by decide, by decide, S4.mono (by omega), fun hp H5 _ _ x5 S5 => ⟨_, _, rfl, rfl, ?_⟩⟩
          refine ⟨_, rfl, s, a, _, c + (20000 - 600 * i - 300 * j - 212), rfl, by decide, by decide, S5.mono (by omega), fun sz H6 _ _ x6 S6 => ⟨_, _, rfl, rfl, ?_⟩⟩
          have h6 := x6 _ _ Ms (x5 _ _ Ms h4)
          have hd6 := (hd4.tk (TK.ext x5 S4)).tk (TK.ext x6 S5)
          refine ⟨_, rfl, .inl ⟨rfl, _, SqL.of h6⟩, _, rfl, _, rfl, _, rfl, _, rfl, _, rfl, by show 6 ≤ sizeLine; decide, fun r hr' => ?_⟩
          have n7 := same_new (o := HO.tup [V.str (Str.ofString "feed"), V.str g, V.str h, V.str p, V.int (1 + hp), V.int (1 + sz)]) hr'
          have h7 := n7 _ _ h6
          have vl : vs'.length = fs.length := hd6.map_len
          refine ⟨M, _, _, rfl, rfl, h7, small1000 (by omega), fs ++ [⟨g, h, p, 1 + hp, 1 + sz⟩], _, _, _, _, _, _, _, rfl, upd_same, DVs.snoc (hd6.tk ((TK.same n7).trans (tk_put h7))) ?_, by rw [List.length_append]; show _ + 1 ≤ _; omega, fun f hf => ?_, keep _ ((e4.trans (x5.trans x6)).trans (Ext.of n7)), ((S6.ext n7).put Ms Ma).mono (by omega)⟩
          · exact ⟨r, _, rfl, tk_put h7 _ _ (SqT.of upd_same), dlc (dls _) (dlc (dls _) (dlc (dls _) (dlc (dls _) (dlc (dli _) (dlc (dli _) dln)))))⟩
          · rcases List.mem_append.mp hf with e | e
            · exact hA f e
            · rw [List.mem_singleton.mp e]; exact ⟨lg, lh⟩
      · rintro σ H2 ⟨fs, vs', v6, v7, v8, v9, v10, v11, rfl, h2, hd, hl, hA, hE, hS2⟩
        exact ⟨fs, vs', _, _, _, _, _, _, _, rfl, h2, hd, by omega, hA, hE, hS2.mono (by omega)⟩
    · rintro σ H1 ⟨fs, vs', v5, v6, v7, v8, v9, v10, v11, rfl, h1, hd, hl, hA, hE, hS'⟩
      have wl := hw.map_len
      have vl : vs'.length = fs.length := hd.map_len
      refine ⟨_, rfl, _, rfl, s, a, M, vs', c + 100, rfl, SqL.of h1, Ms, by omega, hS'.mono (by omega), fun D ys H2 hD h2 yl ym x2 S2 => ?_⟩
      obtain ⟨m, dm, lm, km⟩ := DVs.pick (hd.tk (TK.ext x2 hS')) ym
      refine ⟨D, _, rfl, .inl ⟨SqL.of h2, fun T hT => ?_⟩⟩
      have n := same_new (o := HO.tup ys) hT
      exact q (.ref T) m _ ⟨T, _, rfl, SqT.of upd_same, dm.tk (TK.same n)⟩ (by omega) (fun f hf => hA f (km f hf)) (hE.trans (x2.trans (Ext.of n))) ((S2.ext n).mono (by omega))
end
section
variable {P : Program} {w : World} {K : PySem.W.Frag} {mg : Str → Option Value} {base : Heap}
theorem ok__law_sites (D : Df K mg "_law_sites" s__law_sites ["source", "names", "words", "window", "offsets"]) (T : Tx mg)  (C__law_draw : Cal P w K mg base "_law_draw" ["source", "many"] 2 sp__law_draw) (C__law_pattern : Cal P w K mg base "_law_pattern" ["source", "words"] 6 (sp2__law_pattern K)) : Cal P w K mg base "_law_sites" ["source", "names", "words", "window", "offsets"] 7 (sp_sites K) := by
  obtain ⟨f__law_draw, fd__law_draw, G__law_draw, g__law_draw, k__law_draw, b__law_draw⟩ := C__law_draw
  obtain ⟨f__law_pattern, fd__law_pattern, G__law_pattern, g__law_pattern, k__law_pattern, b__law_pattern⟩ := C__law_pattern
  obtain ⟨f, fd, F, gf, bf⟩ := D
  refine ⟨f, fd, F.ok sc__law_sites (fun vs H Q E h => ?_) (fun cdv A outer s₀ H vs Q E hr h => ?_), gf, F.kp, bf⟩
  · obtain ⟨s, a, u, w, o, us, ws, z, is, c, rfl, _⟩ := h; rfl
  · obtain ⟨s, a, u, w, o, us, ws, z, is, c, rfl, hU, hus, ul, hW, wns, hWds, ho, os, il, hS, q⟩ := h
    refine ⟨_, (pss_cons (ps_set (i := 5) sc__law_sites.nd rfl (Or.inl rfl) (pe_lst pa_nil))
      (pss_cons (ps_set (i := 6) sc__law_sites.nd rfl (Or.inl rfl) (pe_callB (cr_max rfl) (by rfl) T.n_max (by decide +kernel) (pa_cons (pe_op L2.op_cat (pe_lst (pa_cons pe_int pa_nil)) (pv 4)) pa_nil)))
      (pss_cons (ps_for PassesOwn.never rfl (pi_range1 (by rfl) T.n_range (pa_cons (pe_callB call_len_seq (by rfl) T.n_len PySem.boot_len (pa_cons (pv 1) pa_nil)) pa_nil)) (pg_name (i := 7) sc__law_sites.nd rfl (Or.inl rfl))
      (pss_cons (ps_set (i := 8) sc__law_sites.nd rfl (Or.inl rfl) pe_str)
        (C8.pss_cut (ps_if (pt_cmpR op_eq (pe_call G__law_draw (hr.mono (by decide)) (by rfl) g__law_draw k__law_draw b__law_draw .nil pass0 (pa_cons (pv 0) (pa_cons pe_int pa_nil))) pe_int (nomark _))
        (pss_one (ps_set (i := 8) sc__law_sites.nd rfl (Or.inl rfl) (pe_call G__law_pattern (hr.mono (by decide)) (by rfl) g__law_pattern k__law_pattern b__law_pattern .nil pass0 (pa_cons (pv 0) (pa_cons (pv 2) pa_nil)))))
        pss_nil)
        (pss_cons (ps_set (i := 9) sc__law_sites.nd rfl (Or.inl rfl) (pe_op op_add (pe_op op_add (pv 3) (pv 6)) (pe_call G__law_draw (hr.mono (by decide)) (by rfl) g__law_draw k__law_draw b__law_draw .nil pass0 (pa_cons (pv 0) (pa_cons pe_int pa_nil)))))
        (pss_cons (ps_set (i := 10) sc__law_sites.nd rfl (Or.inl rfl) (pe_call G__law_draw (hr.mono (by decide)) (by rfl) g__law_draw k__law_draw b__law_draw .nil pass0 (pa_cons (pv 0) (pa_cons pe_int pa_nil))))
        (pss_one (ps_expr (pe_bm PySem.F.plainAttrs_list PySem.F.slot_list_append PySem.F.type_list_append mt_append (pv 5) (pa_cons (pe_tup (pa_cons pe_str (pa_cons (pe_ix ix_list (pv 1) (pv 7) (fun _ _ => rfl)) (pa_cons (pe_ix ix_list (pv 4) (pv 7) (fun _ _ => rfl)) (pa_cons (pv 9) (pa_cons (pv 10) (pa_cons (pv 8) pa_nil))))))) pa_nil)))))))))
      (pss_one (ps_ret (pe_callTy call_tuple_of (by rfl) T.n_tuple (by decide +kernel) (pa_cons (pv 5) pa_nil))))))), ?_⟩
    refine ⟨Nat.zero_le _, fun M hM => ?_⟩
    have Ms := hS.ne hM
    have Ma := hS.nea hM
    have keep : ∀ {H1 : Hp} (o : HO), Ext s H H1 → Ext s H (upd H1 M o) := fun o x b w hb hh => by
      rw [upd_ne (ne_of_none hh hM)]; exact x _ _ hb hh
    refine ⟨by show 1 ≤ sizeLine; decide, fun N hN => ?_⟩
    have n1 := same_new (o := HO.lst []) hM
    have n2 := same_new (o := HO.lst [V.int 0]) hN
    refine ⟨_, rfl, N, o, _, _, rfl, rfl, upd_same, n2 _ _ (n1 _ _ ho), by rw [List.length_map]; show 1 + is.length ≤ _; exact Nat.le_trans (show 1 + is.length ≤ 30000 by omega) (by decide), fun R hR => ?_⟩
    have n3 := same_new (o := HO.lst ([V.int 0] ++ is.map V.int)) hR
    refine ⟨R, 0 :: is, rfl, SqL.of upd_same, by simp, fun gr _ _ => ?_⟩
    have nn := n1.trans (n2.trans n3)
    have hM3 := (n2.trans n3) _ _ (upd_same (H := H) (a := M) (o := HO.lst []))
    have S3 := hS.ext nn
    have E3 : Ext s H _ := Ext.of nn
    generalize upd (upd (upd H M (HO.lst [])) N (HO.lst [V.int 0])) R (HO.lst ([V.int 0] ++ is.map V.int)) = H3 at nn hM3 S3 E3 ⊢
    refine ⟨_, rfl, u, _, rfl, .inl (E3.seqL hus hU), _, rfl, by rw [List.length_map]; omega, by rw [List.length_map]; omega, ?_⟩
    refine for_range (lo := 0) (n := ((us.map V.str).length : Int).toNat) (fun i σ H' => ∃ (l : List Si) (vs' : List V) (v7 v8 v9 v10 : Option V), σ = [some (.ref s), some (.ref u), some (.ref w), some (.int z), some (.ref o), some (.ref M), some (.int gr), v7, v8, v9, v10] ∧ H' M = some (.lst vs') ∧ DVs K H' (l.map siD) vs' ∧ l.map (·.n) = us.take i ∧ (∀ x ∈ l, (tl x.p).length ≤ 200) ∧ Ext s H H' ∧ Src H' s a (c + (5000 - 300 * i))) ?_ ?_ ?_
    · exact ⟨[], [], _, _, _, _, rfl, hM3, dln, rfl, (fun _ h => by cases h), E3, S3.mono (by omega)⟩
    · rintro i σ H4 hi ⟨l, vs', v7, v8, v9, v10, rfl, h4, hd4, hn, hp, e4, S4⟩
      rw [List.length_map] at hi
      have hi' : i < us.length := by omega
      obtain ⟨n, hn'⟩ : ∃ n, us[i]? = some n := ⟨_, List.getElem?_eq_getElem hi'⟩
      obtain ⟨oz, ho'⟩ : ∃ y, is[i]? = some y := ⟨_, List.getElem?_eq_getElem (by omega)⟩
      have an : atI (us.map V.str) (0 + (i : Int)) = some (.str n) := at_of (j := i) (by omega) (by rw [List.getElem?_map, hn']; rfl)
      have ao : atI (is.map V.int) (0 + (i : Int)) = some (.int oz) := at_of (j := i) (by omega) (by rw [List.getElem?_map, ho']; rfl)
      refine ⟨fun σ' H' => ∃ (p : Str), σ' = [some (.ref s), some (.ref u), some (.ref w), some (.int z), some (.ref o), some (.ref M), some (.int gr), some (.int (0 + (i : Int))), some (.str p), v9, v10] ∧ (tl p).length ≤ 200 ∧ H' M = some (.lst vs') ∧ DVs K H' (l.map siD) vs' ∧ Ext s H H' ∧ Src H' s a (c + (5000 - 300 * i - 210)), ?_, ?_⟩
      · refine ⟨_, rfl, s, a, _, c + (5000 - 300 * i - 2), rfl, by decide, by decide, S4.mono (by omega), fun v' H5 w0 w1 x5 S5 => ⟨rfl, _, rfl, ite2 (fun _ => ?_) (fun _ => ⟨_, rfl, by decide, x5 _ _ Ms h4, hd4.tk (TK.ext x5 S4), e4.trans x5, S5.mono (by omega)⟩)⟩⟩
        refine ⟨_, rfl, _, rfl, s, a, w, ws, c + (5000 - 300 * i - 202), rfl, (e4.trans x5).seqL wns hW, wns, hWds, S5.mono (by omega), fun p H6 pg pl x6 S6 => ?_⟩
        exact ⟨p, rfl, by omega, x6 _ _ Ms (x5 _ _ Ms h4), (hd4.tk (TK.ext x5 S4)).tk (TK.ext x6 S5), (e4.trans x5).trans x6, S6.mono (by omega)⟩
      · rintro σ' H5 ⟨p, rfl, pl, h5, hd5, e5, S5⟩
        refine ⟨_, rfl, _, rfl, _, _, rfl, rfl, _, rfl, s, a, _, c + (5000 - 300 * i - 211), rfl, by decide, by decide, S5.mono (by omega), fun mm H6 _ _ x6 S6 => ⟨_, _, rfl, rfl, ?_⟩⟩
        refine ⟨_, rfl, s, a, _, c + (5000 - 300 * i - 212), rfl, by decide, by decide, S6.mono (by omega), fun tm H7 _ _ x7 S7 => ?_⟩
        have h7 := x7 _ _ Ms (x6 _ _ Ms h5)
        have hd7 := (hd5.tk (TK.ext x6 S5)).tk (TK.ext x7 S6)
        have e7 := (e5.trans x6).trans x7
        refine ⟨_, rfl, .inl ⟨rfl, _, SqL.of h7⟩, _, rfl, _, rfl, u, _, _, _, rfl, rfl, e7.seqL hus hU, an, _, rfl, _, rfl, o, _, _, _, rfl, rfl, SqL.of (e7 _ _ os ho), ao, _, rfl, _, rfl, _, rfl, by show 6 ≤ sizeLine; decide, fun r hr' => ?_⟩
        have n8 := same_new (o := HO.tup [V.str (Str.ofString "site"), V.str n, V.int oz, V.int (z + gr + mm), V.int tm, V.str p]) hr'
        have h8 := n8 _ _ h7
        have vl : vs'.length = l.length := hd7.map_len
        have ll : l.length ≤ 9 := by
          have := congrArg List.length hn
          rw [List.length_map, List.length_take] at this; omega
        refine ⟨M, _, _, rfl, rfl, h8, small1000 (by omega), l ++ [⟨n, oz, z + gr + mm, tm, p⟩], _, _, _, _, _, rfl, upd_same, DVs.snoc (hd7.tk ((TK.same n8).trans (tk_put h8))) ?_, ?_, fun x hx => ?_, keep _ (e7.trans (Ext.of n8)), ((S7.ext n8).put Ms Ma).mono (by omega)⟩
        · exact ⟨r, _, rfl, tk_put h8 _ _ (SqT.of upd_same), dlc (dls _) (dlc (dls _) (dlc (dli _) (dlc (dli _) (dlc (dli _) (dlc (dls _) dln)))))⟩
        · rw [List.map_append, hn, List.take_add_one, hn']; rfl
        · rcases List.mem_append.mp hx with e | e
          · exact hp x e
          · rw [List.mem_singleton.mp e]; exact pl
    · rintro σ H4 ⟨l, vs', v7, v8, v9, v10, rfl, h4, hd4, hn, hp, e4, S4⟩
      rw [List.length_map, Int.toNat_natCast, List.take_length] at hn
      refine ⟨_, rfl, M, _, rfl, .inl ⟨SqL.of h4, fun T hT => ?_⟩⟩
      have n := same_new (o := HO.tup vs') hT
      exact q (.ref T) l _ ⟨T, _, rfl, SqT.of upd_same, hd4.tk (TK.same n)⟩ hn hp (e4.trans (Ext.of n)) ((S4.ext n).mono (by omega))
end

end Z
namespace Z
open PySem L2 SX
section
variable {P : Program} {w : World} {K : PySem.W.Frag} {mg : Str → Option Value} {base : Heap}
theorem ok__law_book (D : Df K mg "_law_book" s__law_book ["source", "many", "words"]) (T : Tx mg)  (C__law_draw : Cal P w K mg base "_law_draw" ["source", "many"] 2 sp__law_draw) (C__law_feeds : Cal P w K mg base "_law_feeds" ["source", "lines", "words", "wide"] 7 (sp_feeds K)) (C__law_lines : Cal P w K mg base "_law_lines" ["source", "names"] 4 (sp53_lines K)) (C__law_names : Cal P w K mg base "_law_names" ["source", "many"] 4 (sp9__law_names K)) (C__law_sites : Cal P w K mg base "_law_sites" ["source", "names", "words", "window", "offsets"] 7 (sp_sites K)) : Cal P w K mg base "_law_book" ["source", "many", "words"] 8 (sp53_book K) := by
  obtain ⟨f__law_draw, fd__law_draw, G__law_draw, g__law_draw, k__law_draw, b__law_draw⟩ := C__law_draw
  obtain ⟨f__law_feeds, fd__law_feeds, G__law_feeds, g__law_feeds, k__law_feeds, b__law_feeds⟩ := C__law_feeds
  obtain ⟨f__law_lines, fd__law_lines, G__law_lines, g__law_lines, k__law_lines, b__law_lines⟩ := C__law_lines
  obtain ⟨f__law_names, fd__law_names, G__law_names, g__law_names, k__law_names, b__law_names⟩ := C__law_names
  obtain ⟨f__law_sites, fd__law_sites, G__law_sites, g__law_sites, k__law_sites, b__law_sites⟩ := C__law_sites
  obtain ⟨f, fd, F, gf, bf⟩ := D
  refine ⟨f, fd, F.ok sc__law_book (fun vs H Q E h => ?_) (fun cdv A outer s₀ H vs Q E hr h => ?_), gf, F.kp, bf⟩
  · obtain ⟨s, a, w, ws, m, c, rfl, _⟩ := h; rfl
  · obtain ⟨s, a, w, ws, m, c, rfl, m1, m9, hW, wns, hWds, hS, q⟩ := h
    refine ⟨_, (pss_cons (ps_set (i := 3) sc__law_book.nd rfl (Or.inl rfl) (pe_call G__law_names (hr.mono (by decide)) (by rfl) g__law_names k__law_names b__law_names .nil pass0 (pa_cons (pv 0) (pa_cons (pv 1) pa_nil))))
      (pss_cons (ps_set (i := 4) sc__law_book.nd rfl (Or.inl rfl) (pe_op op_add pe_int (pe_call G__law_draw (hr.mono (by decide)) (by rfl) g__law_draw k__law_draw b__law_draw .nil pass0 (pa_cons (pv 0) (pa_cons pe_int pa_nil)))))
      (pss_cons (ps_setLc (i := 5) (own := [("k", 11)]) (g := gName 11) (tt := tYes) rfl sc__law_book.nd rfl rfl (sw_true rfl rfl rfl (by decide +kernel)) (pi_range1 (by rfl) T.n_range (pa_cons (pv 1) pa_nil)) (blkOk_by (own := [("k", 11)]) (N := N__law_book) (sc := defScope s__law_book) (by decide +kernel)) (fun _ _ _ _ _ => pg_name (i := 11) sc__law_book.nd rfl (Or.inl rfl)) (fun _ _ _ _ _ => pts_nil) (fun _ _ _ _ _ => (pe_call G__law_draw (hr.mono (by decide)) (by rfl) g__law_draw k__law_draw b__law_draw .nil pass0 (pa_cons (pv 0) (pa_cons pe_int pa_nil)))))
      (pss_cons (ps_set (i := 6) sc__law_book.nd rfl (Or.inl rfl) (pe_op op_add pe_int (pe_call G__law_draw (hr.mono (by decide)) (by rfl) g__law_draw k__law_draw b__law_draw .nil pass0 (pa_cons (pv 0) (pa_cons pe_int pa_nil)))))
      (pss_cons (ps_set (i := 7) sc__law_book.nd rfl (Or.inl rfl) (pe_tup (pa_cons (pv 6) (pa_cons (pe_op op_add (pv 6) (pe_call G__law_draw (hr.mono (by decide)) (by rfl) g__law_draw k__law_draw b__law_draw .nil pass0 (pa_cons (pv 0) (pa_cons pe_int pa_nil)))) pa_nil))))
      (pss_cons (ps_set (i := 8) sc__law_book.nd rfl (Or.inl rfl) (pe_call G__law_lines (hr.mono (by decide)) (by rfl) g__law_lines k__law_lines b__law_lines .nil pass0 (pa_cons (pv 0) (pa_cons (pv 3) pa_nil))))
      (pss_cons (ps_set (i := 9) sc__law_book.nd rfl (Or.inl rfl) (pe_slice (sl_tupS (K := K) rfl) (pe_call G__law_feeds (hr.mono (by decide)) (by rfl) g__law_feeds k__law_feeds b__law_feeds .nil pass0 (pa_cons (pv 0) (pa_cons (pv 8) (pa_cons (pv 2) (pa_cons pe_int pa_nil))))) po_none (po_some pe_int)))
      (pss_cons (ps_set (i := 10) sc__law_book.nd rfl (Or.inl rfl) (pe_call G__law_sites (hr.mono (by decide)) (by rfl) g__law_sites k__law_sites b__law_sites .nil pass0 (pa_cons (pv 0) (pa_cons (pv 3) (pa_cons (pv 2) (pa_cons (pv 4) (pa_cons (pv 5) pa_nil)))))))
      (pss_one (ps_ret (pe_tup (pa_cons pe_str (pa_cons (pv 4) (pa_cons (pv 7) (pa_cons (pv 10) (pa_cons (pe_callTy call_tuple_of (by rfl) T.n_tuple (by decide +kernel) (pa_cons (pv 8) pa_nil)) (pa_cons (pv 9) (pa_cons (pe_tup pa_nil) (pa_cons (pe_tup pa_nil) pa_nil))))))))))))))))))), ?_⟩
    have small : ∀ n : Nat, n ≤ 30000 → n < sizeLine := fun n h => Nat.lt_of_le_of_lt h (by decide)
    refine ⟨_, rfl, _, rfl, s, a, m, c + 29900, rfl, m9, hS.mono (by omega), fun u us H1 hu hus ul uN x1 S1 => ?_⟩
    have us' : u ≠ s := hS.ne hu
    refine ⟨_, rfl, s, a, _, c + 29899, rfl, by decide, by decide, S1.mono (by omega), fun z H2 _ _ x2 S2 => ⟨_, _, rfl, rfl, ?_⟩⟩
    refine ⟨_, rfl, _, rfl, by omega, by omega, fun D hD => ?_⟩
    have Ds := S2.ne hD
    have Da := S2.nea hD
    refine lc_range (lo := 0) (n := ((m : Int)).toNat) (fun i H' => ∃ is : List Int, H' D = some (.lst (is.map V.int)) ∧ is.length = i ∧ Ext s H2 H' ∧ Src H' s a (c + (29899 - i))) ?_ ?_ ?_
    · exact ⟨[], upd_same, rfl, Ext.new hD, S2.new hD⟩
    · rintro i H' hi ⟨is, h1, hl, hE, hS'⟩
      refine ⟨rfl, _, rfl, s, a, _, c + (29899 - (i + 1)), rfl, by decide, by decide, hS'.mono (by omega), fun y H3 _ _ x3 S3 => ⟨_, x3 _ _ Ds h1, by rw [List.length_map]; exact small _ (by omega), is ++ [y], by rw [upd_same, List.map_append]; rfl, by rw [List.length_append, hl]; rfl, fun b o hb hh => ?_, S3.put Ds Da⟩⟩
      rw [upd_ne (ne_of_none hh hD)]; exact x3 _ _ hb (hE _ _ hb hh)
    rintro H3 ⟨is, h3, hl3, hE3, S3⟩
    have e3 := (x1.trans x2).trans hE3
    refine ⟨_, rfl, s, a, _, c + 29889, rfl, by decide, by decide, S3.mono (by omega), fun f1 H4 _ _ x4 S4 => ⟨_, _, rfl, rfl, ?_⟩⟩
    refine ⟨_, rfl, _, rfl, _, rfl, s, a, _, c + 29888, rfl, by decide, by decide, S4.mono (by omega), fun f2 H5 _ _ x5 S5 => ⟨_, _, rfl, rfl, by show 2 ≤ sizeLine; decide, fun W hW' => ?_⟩⟩
    have n5 := same_new (o := HO.tup [V.int (1 + f1), V.int (1 + f1 + f2)]) hW'
    have Ws := S5.ne hW'
    have e5 := ((e3.trans x4).trans x5).trans (Ext.of n5)
    have S5' := S5.ext n5
    have hW5 : (upd H5 W (HO.tup [V.int (1 + f1), V.int (1 + f1 + f2)])) W = some _ := upd_same
    have e15 : Ext s H1 (upd H5 W (HO.tup [V.int (1 + f1), V.int (1 + f1 + f2)])) := (((x2.trans hE3).trans x4).trans x5).trans (Ext.of n5)
    have e35 : Ext s H3 (upd H5 W (HO.tup [V.int (1 + f1), V.int (1 + f1 + f2)])) := (x4.trans x5).trans (Ext.of n5)
    generalize upd H5 W (HO.tup [V.int (1 + f1), V.int (1 + f1 + f2)]) = H6 at e5 S5' hW5 e15 e35 ⊢
    have hU6 := e15 _ _ us' hus
    refine ⟨_, rfl, _, rfl, s, a, u, us, c + 29700, rfl, SqL.of hU6, us', by omega, by omega, fun x hx => (uN.2 x hx).1.2, S5'.mono (by omega), fun L lws ls H7 hL0 hL dl ll lw x7 S7 => ?_⟩
    have Ls := S5'.ne hL0
    -- the feeds
    refine ⟨_, rfl, _, rfl, _, rfl, s, a, L, w, lws, ls, ws, 3, c + 9000, rfl, SqL.of hL, Ls, dl, ll, (fun l hl => ⟨(uN.2 _ (lw l hl).1).1.2, (uN.2 _ (lw l hl).2).1.2⟩), (e5.trans x7).seqL wns hW, wns, hWds, by decide, by decide, S7.mono (by omega), fun fu fs H8 df fl fw x8 S8 => ?_⟩
    obtain ⟨fa, fvs, rfl, hF, dF⟩ := df
    refine ⟨24, rfl, fa, fvs, rfl, hF, fun F1 H9 m9' hF1 => ?_⟩
    rw [cutV_to (by decide)] at hF1
    obtain ⟨fm, dm, lm, km⟩ := DVs.pick dF (ys := fvs.take (24 : Int).toNat) fun y hy => List.mem_of_mem_take hy
    have e9 := ((e5.trans x7).trans x8).trans (Ext.of m9')
    have S9 := S8.ext m9'
    have e69 : Ext s H6 H9 := (x7.trans x8).trans (Ext.of m9')
    have h39 := e35.trans e69
    have hU9 := e69 _ _ us' hU6
    -- the sites
    refine ⟨_, rfl, _, rfl, _, rfl, _, rfl, _, rfl, s, a, u, w, D, us, ws, 6 + z, is, c + 4000, rfl, SqL.of hU9, us', by omega, e9.seqL wns hW, wns, hWds, h39 _ _ Ds h3, Ds, by omega, S9.mono (by omega), fun su l H10 dsu en pl x10 S10 => ?_⟩
    obtain ⟨sa, svs, rfl, hSi, dSi⟩ := dsu
    have hL10 := ((x8.trans (Ext.of m9')).trans x10) _ _ Ls hL
    have T710 : TK K H7 H10 := (TK.ext x8 S7).trans ((TK.same m9').trans (TK.ext x10 S9))
    have T910 : TK K H9 H10 := TK.ext x10 S9
    have hW10 := (e69.trans x10) _ _ Ws hW5
    refine ⟨_, rfl, _, rfl, _, rfl, _, rfl, L, _, rfl, .inl ⟨SqL.of hL10, fun TL hTL => ?_⟩⟩
    have n1 := same_new (o := HO.tup lws) hTL
    refine ⟨_, rfl, Nat.zero_le _, fun E1 hE1 => ?_⟩
    have n2 := same_new (o := HO.tup []) hE1
    refine ⟨Nat.zero_le _, fun E2 hE2 => ?_⟩
    have n3 := same_new (o := HO.tup []) hE2
    refine ⟨by show 8 ≤ sizeLine; decide, fun B hB => ?_⟩
    have n4 := same_new (o := HO.tup [V.str (Str.ofString "book"), V.int (6 + z), V.ref W, V.ref sa, V.ref TL, V.ref F1, V.ref E1, V.ref E2]) hB
    have n14 := n1.trans (n2.trans (n3.trans n4))
    have q1 := (n2.trans (n3.trans n4)) _ _ (upd_same (a := TL) (o := HO.tup lws))
    have q2 := (n3.trans n4) _ _ (upd_same (a := E1) (o := HO.tup []))
    have q3 := n4 _ _ (upd_same (a := E2) (o := HO.tup []))
    have T10 := TK.same (K := K) n14
    have bl : l.length ≤ 9 := by
      have := congrArg List.length en
      rw [List.length_map] at this; omega
    have wl : lws.length = ls.length := dl.map_len
    refine q (.ref B) ⟨6 + z, 1 + f1, 1 + f1 + f2, l, ls, fm, []⟩ _ ⟨B, _, rfl, SqT.of upd_same, dlc (dls _) (dlc (dli _) (dlc ⟨W, _, rfl, T10 _ _ (SqT.of hW10), dlc (dli _) (dlc (dli _) dln)⟩ (dlc ⟨sa, svs, rfl, T10 _ _ hSi, dSi.tk T10⟩ (dlc ⟨TL, lws, rfl, SqT.of q1, (dl.tk T710).tk T10⟩ (dlc ⟨F1, _, rfl, T10 _ _ (T910 _ _ hF1), ((dm.tk (TK.same m9')).tk T910).tk T10⟩ (dlc ⟨E1, _, rfl, SqT.of q2, dln⟩ (dlc ⟨E2, _, rfl, SqT.of q3, dln⟩ dln)))))))⟩ ⟨?_, ?_, ?_, ?_⟩ ll ((e9.trans x10).trans (Ext.of n14)) ((S10.ext n14).mono (by omega))
    · have sb : ∀ x ∈ l, Low (tl x.n) ∧ (tl x.n).length ≤ 8 := fun x hx => by
        have : x.n ∈ us := by rw [← en]; exact List.mem_map_of_mem hx
        exact ⟨(uN.2 _ this).1.2, (uN.2 _ this).2⟩
      refine ⟨by show l.length ≤ 10; omega, by show ls.length ≤ 30; omega, ?_, Nat.zero_le _, fun x hx => ?_, (fun _ h => by cases h), sb, fun f hf => fw f (km f hf)⟩
      · show fm.length ≤ 100
        rw [lm, List.length_take]; show min 24 _ ≤ 100; omega
      · have := pl x hx; omega
    · show (l.map (·.n)).Nodup
      rw [en]; exact uN.1
    · intro e
      have e' : l = [] := e
      rw [e'] at en
      have : us.length = 0 := by rw [← en]; rfl
      omega
    · intro x hx
      have := lw x hx
      unfold nms
      show x.1 ∈ l.map (·.n) ∧ x.2 ∈ l.map (·.n)
      rw [en]; exact this
end

end Z
namespace Z
open PySem L2 SX
theorem ln_ok {ls : List (Str × Str)} (h : ∀ l ∈ ls, Low (tl l.1) ∧ Low (tl l.2)) : Okl (ls.map lnD) :=
  fines_ok (n := 1) (fines_map fun l m => fine_tup (fines_cons (fine_low fun c hc => by have := (h l m).1 c hc; omega) (fines_cons (fine_low fun c hc => by have := (h l m).2 c hc; omega) fines_nil)))
theorem pr_ok {x y : Str} (h : Low (tl x)) (k : Low (tl y)) : Okd (.tup [.str x, .str y]) :=
  fine_ok (n := 1) (fine_tup (fines_cons (fine_low fun c hc => by have := h c hc; omega) (fines_cons (fine_low fun c hc => by have := k c hc; omega) fines_nil)))
section
variable {P : Program} {w : World} {K : PySem.W.Frag} {mg : Str → Option Value} {base : Heap}
theorem ok__law_over_lines (D : Df K mg "_law_over_lines" s__law_over_lines ["book", "lines"]) (T : Tx mg)   : Cal P w K mg base "_law_over_lines" ["book", "lines"] 1 (sp53_over K) := by
  obtain ⟨f, fd, F, gf, bf⟩ := D
  refine ⟨f, fd, F.ok sc__law_over_lines (fun vs H Q E h => ?_) (fun cdv A outer s₀ H vs Q E hr h => ?_), gf, F.kp, bf⟩
  · obtain ⟨b, v, L, ws, ls, rfl, _⟩ := h; rfl
  · obtain ⟨b, v, L, ws, ls, rfl, hb, ok, hL, hws, ll, lA, q⟩ := h
    refine ⟨_, (pss_cons (ps_setLc (i := 2) (own := [("feed", 3)]) (g := gName 3) rfl sc__law_over_lines.nd rfl rfl (sw_true rfl rfl rfl (by decide +kernel)) (pi_tup (pe_ix ix_tup (pv 0) pe_int (fun _ _ => rfl))) (blkOk_by (own := [("feed", 3)]) (N := N__law_over_lines) (sc := defScope s__law_over_lines) (by decide +kernel)) (fun _ _ _ _ _ => pg_name (i := 3) sc__law_over_lines.nd rfl (Or.inl rfl)) (fun _ _ _ _ _ => pts_one (pt_cmpR (op_inDDQ (K := K) rfl (room65 hr)) (pe_tup (pa_cons (pe_callB (call_minS rfl) (by rfl) T.n_min (by decide +kernel) (pa_cons (pe_ix (ix_tupQ (K := K) rfl) (pv 3) pe_int (fun _ _ => rfl)) (pa_cons (pe_ix (ix_tupQ (K := K) rfl) (pv 3) pe_int (fun _ _ => rfl)) pa_nil))) (pa_cons (pe_callB (call_maxS rfl) (by rfl) T.n_max (by decide +kernel) (pa_cons (pe_ix (ix_tupQ (K := K) rfl) (pv 3) pe_int (fun _ _ => rfl)) (pa_cons (pe_ix (ix_tupQ (K := K) rfl) (pv 3) pe_int (fun _ _ => rfl)) pa_nil))) pa_nil))) (pv 1) (by rfl))) (fun _ _ _ _ _ => (pv 3)))
      (pss_one (ps_ret (pe_op (op_cat (K := K) rfl) (pe_op (op_cat (K := K) rfl) (pe_slice (sl_tupS (K := K) rfl) (pv 0) po_none (po_some pe_int)) (pe_tup (pa_cons (pe_callTy call_tuple_of (by rfl) T.n_tuple (by decide +kernel) (pa_cons (pv 1) pa_nil)) (pa_cons (pe_callTy call_tuple_of (by rfl) T.n_tuple (by decide +kernel) (pa_cons (pe_slice sl_list (pv 2) po_none (po_some pe_int)) pa_nil)) pa_nil)))) (pe_slice (sl_tupS (K := K) rfl) (pv 0) (po_some pe_int) po_none))))), ?_⟩
    have small : ∀ n : Nat, n ≤ 30000 → n ≤ sizeLine := fun n h => Nat.le_trans h (by decide)
    have small' : ∀ n : Nat, n ≤ 30000 → n < sizeLine := fun n h => Nat.lt_of_le_of_lt h (by decide)
    obtain ⟨ba, bus, rfl, hB, dB⟩ := hb
    obtain ⟨u0, r0, rfl, d0, dB⟩ := dB
    obtain ⟨u1, r1, rfl, d1, dB⟩ := dB
    obtain ⟨u2, r2, rfl, d2, dB⟩ := dB
    obtain ⟨u3, r3, rfl, d3, dB⟩ := dB
    obtain ⟨u4, r4, rfl, d4, dB⟩ := dB
    obtain ⟨u5, r5, rfl, d5, dB⟩ := dB
    obtain ⟨u6, r6, rfl, d6, dB⟩ := dB
    obtain ⟨u7, r7, rfl, d7, dB⟩ := dB
    unfold DVs at dB
    subst dB
    obtain ⟨c, fw, rfl, hC, hw⟩ := d5
    have fdl := ok.fd
    refine ⟨_, rfl, ba, _, 5, .ref c, rfl, rfl, hB, atI_nat (j := 5) rfl, c, rfl, ⟨_, hC⟩, fun M hM => ?_⟩
    have nM := same_new (o := HO.lst []) hM
    refine lc_tup (K := K) (a := c) (xs := fw) (fun i H' => ∃ (fs : List Fd) (vs' : List V), H' M = some (.lst vs') ∧ DVs K H' (fs.map fdD) vs' ∧ fs.length ≤ i ∧ (∀ f ∈ fs, f ∈ b.fd) ∧ Same H H') ⟨[], [], upd_same, dln, Nat.le_refl _, (fun _ h => by cases h), nM⟩ (fun i H' _ h => by obtain ⟨_, _, _, _, _, _, m⟩ := h; exact m.tup hC) ?_ ?_
    · rintro i u H1 hi ⟨fs, vs', h1, hd, hl, hA, m1⟩
      obtain ⟨fd', hf, dx⟩ := hw.map_get hi
      have il := (List.getElem?_eq_some_iff.mp hf).1
      have fm := List.mem_of_getElem? hf
      obtain ⟨t, tus, rfl, hT, dT⟩ := dx.tk (TK.same m1)
      obtain ⟨g0, g1⟩ : tus[1]? = some (.str fd'.g) ∧ tus[2]? = some (.str fd'.t) := by
        obtain ⟨_, _, rfl, d0, dT⟩ := dT
        obtain ⟨_, _, rfl, d1, dT⟩ := dT
        obtain ⟨_, _, rfl, d2, dT⟩ := dT
        unfold DV at d1 d2
        subst d1; subst d2
        exact ⟨rfl, rfl⟩
      have fn := ok.fn fd' fm
      have go : ∀ (x y : Str), Low (tl x) → Low (tl y) → ∀ (T : Addr), H1 T = none → ∃ (b' : Bool) (d : D) (a : Addr) (vs : List V) (ds : List D), DV K (upd H1 T (.tup [.str x, .str y])) d (.ref T) ∧ V.ref L = .ref a ∧ SqL K (upd H1 T (.tup [.str x, .str y])) a vs ∧ DVs K (upd H1 T (.tup [.str x, .str y])) ds vs ∧ Okd d ∧ Okl ds ∧ b' = ds.any fun z => eqD z d := fun x y hx hy T hT' => by
        have n := same_new (o := HO.tup [V.str x, V.str y]) hT'
        exact ⟨_, .tup [.str x, .str y], L, ws, ls.map lnD, ⟨T, _, rfl, SqT.of upd_same, dlc (dls _) (dlc (dls _) dln)⟩, rfl, (m1.trans n).seq hL, hws.tk (TK.same (m1.trans n)), pr_ok hx hy, ln_ok lA, rfl⟩
      have fin : ∀ (x y : Str) (T : Addr) (hT' : H1 T = none), ∃ acc, (upd H1 T (HO.tup [V.str x, V.str y])) M = some (.lst acc) ∧ acc.length < sizeLine ∧ ∃ (fs : List Fd) (vs' : List V), (upd (upd H1 T (HO.tup [V.str x, V.str y])) M (.lst (acc ++ [.ref t]))) M = some (.lst vs') ∧ DVs K (upd (upd H1 T (HO.tup [V.str x, V.str y])) M (.lst (acc ++ [.ref t]))) (fs.map fdD) vs' ∧ fs.length ≤ i + 1 ∧ (∀ f ∈ fs, f ∈ b.fd) ∧ Same H (upd (upd H1 T (HO.tup [V.str x, V.str y])) M (.lst (acc ++ [.ref t]))) := fun x y T hT' => by
        have n := same_new (o := HO.tup [V.str x, V.str y]) hT'
        have h2 := n _ _ h1
        have tk := (TK.same (K := K) n).trans (tk_put (o := HO.lst (vs' ++ [V.ref t])) h2)
        refine ⟨vs', h2, ?_, fs ++ [fd'], _, upd_same, DVs.snoc (hd.tk tk) (dx.tk ((TK.same m1).trans tk)), by rw [List.length_append]; show _ + 1 ≤ _; omega, fun f hf' => ?_, sput (m1.trans n) hM⟩
        · rw [hd.map_len]; exact small' _ (by omega)
        · rcases List.mem_append.mp hf' with e | e
          · exact hA f e
          · rw [List.mem_singleton.mp e]; exact fm
      refine ⟨rfl, _, rfl, t, _, 1, _, rfl, rfl, hT, atI_nat (j := 1) g0, _, rfl, t, _, 2, _, rfl, rfl, hT, atI_nat (j := 2) g1, fd'.g, fd'.t, rfl, ?_, ?_⟩ <;>
        refine ⟨_, rfl, t, _, 1, _, rfl, rfl, hT, atI_nat (j := 1) g0, _, rfl, t, _, 2, _, rfl, rfl, hT, atI_nat (j := 2) g1, fd'.g, fd'.t, rfl, ?_, ?_⟩ <;>
        refine ⟨by show 2 ≤ sizeLine; decide, fun T hT' => ⟨_, rfl, ?_⟩⟩ <;>
        first
          | (obtain ⟨b', d, a, vs, ds, k1, k2, k3, k4, k5, k6, k7⟩ := go fd'.g fd'.g fn.1 fn.1 T hT'; exact ⟨d, a, vs, ds, k1, k2, k3, k4, k5, k6, _, rfl, ite2 (fun cc => ⟨_, rfl, fin _ _ T hT'⟩) (fun cc => ⟨fs, vs', (same_new hT') _ _ h1, hd.tk (TK.same (same_new hT')), by omega, hA, m1.trans (same_new hT')⟩)⟩)
          | (obtain ⟨b', d, a, vs, ds, k1, k2, k3, k4, k5, k6, k7⟩ := go fd'.g fd'.t fn.1 fn.2 T hT'; exact ⟨d, a, vs, ds, k1, k2, k3, k4, k5, k6, _, rfl, ite2 (fun cc => ⟨_, rfl, fin _ _ T hT'⟩) (fun cc => ⟨fs, vs', (same_new hT') _ _ h1, hd.tk (TK.same (same_new hT')), by omega, hA, m1.trans (same_new hT')⟩)⟩)
          | (obtain ⟨b', d, a, vs, ds, k1, k2, k3, k4, k5, k6, k7⟩ := go fd'.t fd'.g fn.2 fn.1 T hT'; exact ⟨d, a, vs, ds, k1, k2, k3, k4, k5, k6, _, rfl, ite2 (fun cc => ⟨_, rfl, fin _ _ T hT'⟩) (fun cc => ⟨fs, vs', (same_new hT') _ _ h1, hd.tk (TK.same (same_new hT')), by omega, hA, m1.trans (same_new hT')⟩)⟩)
          | (obtain ⟨b', d, a, vs, ds, k1, k2, k3, k4, k5, k6, k7⟩ := go fd'.t fd'.t fn.2 fn.2 T hT'; exact ⟨d, a, vs, ds, k1, k2, k3, k4, k5, k6, _, rfl, ite2 (fun cc => ⟨_, rfl, fin _ _ T hT'⟩) (fun cc => ⟨fs, vs', (same_new hT') _ _ h1, hd.tk (TK.same (same_new hT')), by omega, hA, m1.trans (same_new hT')⟩)⟩)
    rintro H1 ⟨fs, vs', h1, hd, hl, hA, m1⟩
    rw [hw.map_len] at hl
    have vl := hd.map_len
    refine ⟨_, rfl, 4, rfl, ba, _, rfl, m1.tup hB, fun A1 H2 m2 hA1 => ?_⟩
    have m12 := m1.trans m2
    refine ⟨_, rfl, L, ws, rfl, .inl ⟨m12.seq hL, fun A2 hA2 => ?_⟩⟩
    have n2 := same_new (o := HO.tup ws) hA2
    have m13 := m12.trans n2
    refine ⟨_, rfl, 24, rfl, M, vs', rfl, SqL.of ((m2.trans n2) _ _ h1), fun A3 hA3 => ?_⟩
    have n3 := same_new (o := HO.lst (cutV vs' none (some 24))) hA3
    refine ⟨A3, _, rfl, .inl ⟨SqL.of upd_same, fun A4 hA4 => ?_⟩⟩
    have n4 := same_new (o := HO.tup (cutV vs' none (some 24))) hA4
    refine ⟨by show 2 ≤ sizeLine; decide, fun A5 hA5 => ?_⟩
    have n5 := same_new (o := HO.tup [V.ref A2, V.ref A4]) hA5
    have n35 := (n3.trans n4).trans n5
    have q2 := n35 _ _ (upd_same (a := A2) (o := HO.tup ws))
    have q4 := n5 _ _ (upd_same (a := A4) (o := HO.tup (cutV vs' none (some 24))))
    have ec : cutV vs' none (some 24) = vs'.take (24 : Int).toNat := cutV_to (by decide)
    rw [cutV_to (by decide)] at hA1
    refine ⟨A1, A5, _, _, rfl, rfl, (n2.trans n35).tup hA1, SqT.of upd_same, ?_, fun A6 H6 m6 hA6 => ?_⟩
    · rw [List.length_take]; exact small _ (by show min 4 _ + 2 ≤ _; omega)
    have m26 := (n2.trans n35).trans m6
    have m06 := m12.trans m26
    refine ⟨_, rfl, 6, rfl, ba, _, rfl, m06.tup hB, fun A7 H7 m7 hA7 => ?_⟩
    rw [cutV_from (by decide)] at hA7
    refine ⟨A6, A7, _, _, rfl, rfl, m7.tup hA6, hA7, by show 6 + 2 ≤ sizeLine; decide, fun A8 H8 m8 hA8 => ?_⟩
    have m68 := m7.trans m8
    have m08 := m06.trans m68
    have T08 := TK.same (K := K) m08
    have T18 : TK K H1 H8 := TK.same ((m2.trans m26).trans m68)
    obtain ⟨fm, dm, lm, km⟩ := DVs.pick hd (ys := cutV vs' none (some 24)) fun y hy => List.mem_of_mem_take (ec ▸ hy)
    refine q (.ref A8) fm H8 ⟨A8, _, rfl, hA8, dlc (d0.tk T08) (dlc (d1.tk T08) (dlc (d2.tk T08) (dlc (d3.tk T08) (dlc ⟨A2, _, rfl, m68.tup (m6.tup (SqT.of q2)), hws.tk T08⟩ (dlc ⟨A4, _, rfl, m68.tup (m6.tup (SqT.of q4)), dm.tk T18⟩ (dlc (d6.tk T08) (dlc (d7.tk T08) dln)))))))⟩ ?_ (fun f hf => hA f (km f hf)) m08
    rw [lm, ec, List.length_take]; show min 24 _ ≤ 100; omega
end
section
variable {P : Program} {w : World} {K : PySem.W.Frag} {mg : Str → Option Value} {base : Heap}
theorem ok__law_thinned (D : Df K mg "_law_thinned" s__law_thinned ["source", "book"]) (T : Tx mg)  (C__law_draw : Cal P w K mg base "_law_draw" ["source", "many"] 2 sp__law_draw) (C__law_over_lines : Cal P w K mg base "_law_over_lines" ["book", "lines"] 1 (sp53_over K)) : Cal P w K mg base "_law_thinned" ["source", "book"] 3 (sp53_change K) := by
  obtain ⟨f__law_draw, fd__law_draw, G__law_draw, g__law_draw, k__law_draw, b__law_draw⟩ := C__law_draw
  obtain ⟨f__law_over_lines, fd__law_over_lines, G__law_over_lines, g__law_over_lines, k__law_over_lines, b__law_over_lines⟩ := C__law_over_lines
  obtain ⟨f, fd, F, gf, bf⟩ := D
  refine ⟨f, fd, F.ok sc__law_thinned (fun vs H Q E h => ?_) (fun cdv A outer s₀ H vs Q E hr h => ?_), gf, F.kp, bf⟩
  · obtain ⟨s, a, b, v, c, rfl, _⟩ := h; rfl
  · obtain ⟨s, a, b, v, c, rfl, hb, ok, b29, hS, q⟩ := h
    refine ⟨_, (pss_cons (ps_set (i := 2) sc__law_thinned.nd rfl (Or.inr rfl) (pe_call G__law_draw (hr.mono (by decide)) (by rfl) g__law_draw k__law_draw b__law_draw .nil pass0 (pa_cons (pv 0) (pa_cons pe_int pa_nil))))
      (pss_one (ps_ret (pe_call G__law_over_lines (hr.mono (by decide)) (by rfl) g__law_over_lines k__law_over_lines b__law_over_lines .nil pass0 (pa_cons (pv 1) (pa_cons (pe_lc (own := [("pair", 3)]) (g := gName 3) rfl sc__law_thinned.nd (pi_tup (pe_ix ix_tup (pv 1) pe_int (fun _ _ => rfl))) (blkOk_by (own := [("pair", 3)]) (N := N__law_thinned) (sc := defScope s__law_thinned) (by decide +kernel)) (fun _ _ _ _ _ => pg_name (i := 3) sc__law_thinned.nd rfl (Or.inl rfl)) (fun _ _ _ _ _ => pts_one (PW.pt (pw_or (pt_cmpR op_eq (pv 2) pe_int (nomark _)) (pw_or1 (pt_cmpR op_gt (pe_call G__law_draw (hr.mono (by decide)) (by rfl) g__law_draw k__law_draw b__law_draw .nil pass0 (pa_cons (pv 0) (pa_cons (pe_op op_add pe_int (pv 2)) pa_nil))) pe_int (nomark _)))))) (fun _ _ _ _ _ => (pv 3))) pa_nil)))))), ?_⟩
    have small : ∀ n : Nat, n ≤ 30000 → n < sizeLine := fun n h => Nat.lt_of_le_of_lt h (by decide)
    refine ⟨_, rfl, s, a, _, c + 99, rfl, by decide, by decide, hS, fun wd H1 w0 w1 x1 S1 => ?_⟩
    have hb1 := hb.tk (TK.ext x1 hS)
    obtain ⟨ba, bus, c4, ws, rfl, hB, e4, hC, hw⟩ := DV.sub (i := 4) (es := b.ln.map lnD) hb1 rfl
    refine ⟨_, rfl, _, rfl, ba, bus, 4, .ref c4, rfl, rfl, hB, atI_nat (j := 4) e4, c4, rfl, ⟨_, hC⟩, fun M hM => ?_⟩
    have Ms := S1.ne hM
    have Ma := S1.nea hM
    refine lc_tup (K := K) (a := c4) (xs := ws) (fun i H' => ∃ (ls : List (Str × Str)) (vs' : List V), H' M = some (.lst vs') ∧ DVs K H' (ls.map lnD) vs' ∧ ls.length ≤ i ∧ (∀ l ∈ ls, l ∈ b.ln) ∧ Ext s H1 H' ∧ Src H' s a (c + (98 - i))) ⟨[], [], upd_same, dln, Nat.le_refl _, (fun _ h => by cases h), Ext.new hM, (S1.new hM).mono (by omega)⟩ (fun i H' _ h => by obtain ⟨_, _, _, _, _, _, e, _⟩ := h; exact TK.ext e S1 _ _ hC) ?_ ?_
    · rintro i u H2 hi ⟨ls, vs', h2, hd, hl, hA, e2, S2⟩
      obtain ⟨l, hl', dx⟩ := hw.map_get hi
      have il := (List.getElem?_eq_some_iff.mp hl').1
      have fin : ∀ (H3 : Hp), Ext s H2 H3 → Src H3 s a (c + (98 - (i + 1))) → ∃ acc, H3 M = some (.lst acc) ∧ acc.length < sizeLine ∧ ∃ (ls : List (Str × Str)) (vs' : List V), (upd H3 M (.lst (acc ++ [u]))) M = some (.lst vs') ∧ DVs K (upd H3 M (.lst (acc ++ [u]))) (ls.map lnD) vs' ∧ ls.length ≤ i + 1 ∧ (∀ l ∈ ls, l ∈ b.ln) ∧ Ext s H1 (upd H3 M (.lst (acc ++ [u]))) ∧ Src (upd H3 M (.lst (acc ++ [u]))) s a (c + (98 - (i + 1))) := fun H3 x3 S3 => by
        have h3 := x3 _ _ Ms h2
        have tk := (TK.ext (K := K) x3 S2).trans (tk_put (o := HO.lst (vs' ++ [u])) h3)
        refine ⟨vs', h3, by rw [hd.map_len]; exact small _ (by omega), ls ++ [l], _, upd_same, DVs.snoc (hd.tk tk) ((dx.tk (TK.ext e2 S1)).tk tk), by rw [List.length_append]; show _ + 1 ≤ _; omega, fun y hy => ?_, fun b' o hb' hh => ?_, S3.put Ms Ma⟩
        · rcases List.mem_append.mp hy with e | e
          · exact hA y e
          · rw [List.mem_singleton.mp e]; exact List.mem_of_getElem? hl'
        · rw [upd_ne (ne_of_none hh hM)]; exact x3 _ _ hb' (e2 _ _ hb' hh)
      refine ⟨rfl, _, rfl, rfl, _, rfl, ite2 (fun _ => iteT ⟨_, rfl, fin H2 (Ext.refl s H2) (S2.mono (by omega))⟩) (fun _ => ?_)⟩
      refine ⟨_, rfl, _, rfl, _, _, rfl, rfl, s, a, _, c + (98 - (i + 1)), rfl, by omega, by omega, S2.mono (by omega), fun v2 H3 _ _ x3 S3 => ⟨_, _, rfl, rfl, _, rfl, ite2 (fun _ => ⟨_, rfl, fin H3 x3 S3⟩) (fun _ => ⟨ls, vs', x3 _ _ Ms h2, hd.tk (TK.ext x3 S2), by omega, hA, e2.trans x3, S3⟩)⟩⟩
    rintro H2 ⟨ls, vs', h2, hd, hl, hA, e2, S2⟩
    rw [hw.map_len] at hl
    refine ⟨b, .ref ba, M, vs', ls, rfl, hb1.tk (TK.ext e2 S1), ok.ok, SqL.of h2, hd, by omega, fun l m => ?_, fun u fs H3 du fl fA m3 => ?_⟩
    · have h := ok.ln l (hA l m)
      unfold nms at h
      have lw : ∀ y ∈ b.si.map (·.n), Low (tl y) := fun y hy => by
        obtain ⟨si', hs', rfl⟩ := List.mem_map.mp hy
        exact (ok.ok.sn si' hs').1
      exact ⟨lw _ h.1, lw _ h.2⟩
    refine q u _ H3 du ⟨⟨ok.ok.si, by show ls.length ≤ 30; omega, fl, ok.ok.sw, ok.ok.sp, ok.ok.wp, ok.ok.sn, fun f hf => ok.ok.fn f (fA f hf)⟩, ok.nd, ok.ne, fun l m => ok.ln l (hA l m)⟩ rfl (by show ls.length ≤ b.ln.length + 1; omega) ((x1.trans e2).trans (Ext.of m3)) ((S2.ext m3).mono (by omega))
end

end Z
namespace Z
open PySem L2 SX
theorem nms_at {K : PySem.W.Frag} {H : Hp} {s : Si} {v : V} (h : DV K H (siD s) v) : ∃ a us, v = .ref a ∧ SqT K H a us ∧ us[1]? = some (V.str s.n) := by
  obtain ⟨a, us, rfl, hS, d⟩ := h
  obtain ⟨u0, r0, rfl, d0, d⟩ := d
  obtain ⟨u1, r1, rfl, d1, d⟩ := d
  unfold DV at d1
  subst d1
  exact ⟨a, _, rfl, hS, rfl⟩
section
variable {P : Program} {w : World} {K : PySem.W.Frag} {mg : Str → Option Value} {base : Heap}
theorem ok__law_one_line_turned (D : Df K mg "_law_one_line_turned" s__law_one_line_turned ["source", "book"]) (T : Tx mg)  (C__law_over_lines : Cal P w K mg base "_law_over_lines" ["book", "lines"] 1 (sp53_over K)) (C__law_pick : Cal P w K mg base "_law_pick" ["source", "row"] 3 (sp3__law_pick K)) : Cal P w K mg base "_law_one_line_turned" ["source", "book"] 4 (sp53_change K) := by
  obtain ⟨f__law_over_lines, fd__law_over_lines, G__law_over_lines, g__law_over_lines, k__law_over_lines, b__law_over_lines⟩ := C__law_over_lines
  obtain ⟨f__law_pick, fd__law_pick, G__law_pick, g__law_pick, k__law_pick, b__law_pick⟩ := C__law_pick
  obtain ⟨f, fd, F, gf, bf⟩ := D
  refine ⟨f, fd, F.ok sc__law_one_line_turned (fun vs H Q E h => ?_) (fun cdv A outer s₀ H vs Q E hr h => ?_), gf, F.kp, bf⟩
  · obtain ⟨s, a, b, v, c, rfl, _⟩ := h; rfl
  · obtain ⟨s, a, b, v, c, rfl, hb, ok, b29, hS, q⟩ := h
    refine ⟨_, (pss_cons (ps_setLc (i := 2) (own := [("site", 7)]) (g := gName 7) (tt := tYes) rfl sc__law_one_line_turned.nd rfl rfl (sw_true rfl rfl rfl (by decide +kernel)) (pi_tup (pe_ix ix_tup (pv 1) pe_int (fun _ _ => rfl))) (blkOk_by (own := [("site", 7)]) (N := N__law_one_line_turned) (sc := defScope s__law_one_line_turned) (by decide +kernel)) (fun _ _ _ _ _ => pg_name (i := 7) sc__law_one_line_turned.nd rfl (Or.inl rfl)) (fun _ _ _ _ _ => pts_nil) (fun _ _ _ _ _ => (pe_ix (ix_tupQ (K := K) rfl) (pv 7) pe_int (fun _ _ => rfl))))
      (pss_cons (ps_set (i := 3) sc__law_one_line_turned.nd rfl (Or.inl rfl) (pe_call G__law_pick (hr.mono (by decide)) (by rfl) g__law_pick k__law_pick b__law_pick .nil pass0 (pa_cons (pv 0) (pa_cons (pv 2) pa_nil))))
      (pss_cons (ps_set (i := 4) sc__law_one_line_turned.nd rfl (Or.inl rfl) (pe_call G__law_pick (hr.mono (by decide)) (by rfl) g__law_pick k__law_pick b__law_pick .nil pass0 (pa_cons (pv 0) (pa_cons (pv 2) pa_nil))))
      (pss_cons (ps_if (pt_cmpR op_eq (pv 3) (pv 4) (nomark _))
      (pss_one (ps_ret (pv 1)))
      pss_nil)
      (pss_cons (ps_set (i := 5) sc__law_one_line_turned.nd rfl (Or.inr rfl) (pe_tup (pa_cons (pe_callB (call_minS rfl) (by rfl) T.n_min (by decide +kernel) (pa_cons (pv 3) (pa_cons (pv 4) pa_nil))) (pa_cons (pe_callB (call_maxS rfl) (by rfl) T.n_max (by decide +kernel) (pa_cons (pv 3) (pa_cons (pv 4) pa_nil))) pa_nil))))
      (pss_cons (ps_setLc (i := 6) (own := [("line", 8)]) (g := gName 8) rfl sc__law_one_line_turned.nd rfl rfl (sw_true rfl rfl rfl (by decide +kernel)) (pi_tup (pe_ix ix_tup (pv 1) pe_int (fun _ _ => rfl))) (blkOk_by (own := [("line", 8)]) (N := N__law_one_line_turned) (sc := defScope s__law_one_line_turned) (by decide +kernel)) (fun _ _ _ _ _ => pg_name (i := 8) sc__law_one_line_turned.nd rfl (Or.inl rfl)) (fun _ _ _ _ _ => pts_one (pt_cmpR (op_neDDQ (K := K) rfl (room65 hr)) (pv 8) (pv 5) (nomark _))) (fun _ _ _ _ _ => (pv 8)))
      (C8.pss_cut (ps_if (pt_cmpR op_eq (pe_callB call_len_seq (by rfl) T.n_len PySem.boot_len (pa_cons (pv 6) pa_nil)) (pe_callB call_len_seq (by rfl) T.n_len PySem.boot_len (pa_cons (pe_ix ix_tup (pv 1) pe_int (fun _ _ => rfl)) pa_nil)) (nomark _))
      (pss_one (ps_set (i := 6) sc__law_one_line_turned.nd rfl (Or.inl rfl) (pe_callB (cr_sortDDQ (K := K) rfl (room65 hr)) (by rfl) T.n_sorted (by decide +kernel) (pa_cons (pe_op L2.op_cat (pv 6) (pe_lst (pa_cons (pv 5) pa_nil))) pa_nil))))
      pss_nil)
      (pss_one (ps_ret (pe_call G__law_over_lines (hr.mono (by decide)) (by rfl) g__law_over_lines k__law_over_lines b__law_over_lines .nil pass0 (pa_cons (pv 1) (pa_cons (pv 6) pa_nil)))))))))))), ?_⟩
    have small : ∀ n : Nat, n ≤ 30000 → n < sizeLine := fun n h => Nat.lt_of_le_of_lt h (by decide)
    have ul : (nms b).length ≤ 10 := by unfold nms; rw [List.length_map]; exact ok.ok.si
    obtain ⟨ba, bus, c3, ws3, rfl, hB, e3, hC3, hw3⟩ := DV.sub (i := 3) (es := b.si.map siD) hb rfl
    obtain ⟨_, bus4, c4, ws4, er, hB4, e4, hC4, hw4⟩ := DV.sub (i := 4) (es := b.ln.map lnD) hb rfl
    obtain rfl := V.ref.inj er
    refine ⟨_, rfl, ba, bus, 3, .ref c3, rfl, rfl, hB, atI_nat (j := 3) e3, c3, rfl, ⟨_, hC3⟩, fun N hN => ?_⟩
    refine lc_tup (K := K) (a := c3) (xs := ws3) (fun i H' => H' N = some (.lst (((nms b).take i).map V.str)) ∧ Same H H') ⟨by rw [upd_same]; rfl, same_new hN⟩ (fun i H' _ h => h.2.tup hC3) ?_ ?_
    · rintro i u H1 hi ⟨h1, m1⟩
      obtain ⟨si', hsi, dx⟩ := hw3.map_get hi
      obtain ⟨t, tus, rfl, hT, et⟩ := nms_at (dx.tk (TK.same m1))
      have il := (List.getElem?_eq_some_iff.mp hsi).1
      have en : (nms b)[i]? = some si'.n := by unfold nms; rw [List.getElem?_map, hsi]; rfl
      refine ⟨rfl, _, rfl, t, _, 1, _, rfl, rfl, hT, atI_nat (j := 1) et, _, h1, ?_, ?_, sput m1 hN⟩
      · rw [List.length_map, List.length_take]; exact small _ (by omega)
      · rw [upd_same, List.take_add_one, en, List.map_append]; rfl
    rintro H1 ⟨h1, m1⟩
    have l3 : ws3.length = (nms b).length := by rw [hw3.map_len]; unfold nms; rw [List.length_map]
    rw [l3, List.take_length] at h1
    have Ns : N ≠ s := hS.ne hN
    have S1 := hS.ext m1
    have ne : (nms b).map V.str ≠ [] := fun e => by
      have := List.map_eq_nil_iff.mp e
      unfold nms at this
      exact ok.ne (List.map_eq_nil_iff.mp this)
    refine ⟨_, rfl, _, rfl, .inl ⟨s, a, N, _, c + 99, rfl, SqL.of h1, Ns, ne, by rw [List.length_map]; omega, S1, fun w H2 wm x2 S2 => ?_⟩⟩
    obtain ⟨x, xm, rfl⟩ := List.mem_map.mp wm
    refine ⟨_, rfl, _, rfl, .inl ⟨s, a, N, _, c + 98, rfl, SqL.of (x2 _ _ Ns h1), Ns, ne, by rw [List.length_map]; omega, S2, fun w H3 wm x3 S3 => ?_⟩⟩
    obtain ⟨y, ym, rfl⟩ := List.mem_map.mp wm
    have x13 := x2.trans x3
    have e03 : Ext s H H3 := (Ext.of m1).trans x13
    have T03 : TK K H H3 := TK.ext e03 hS
    refine ⟨_, rfl, _, rfl, rfl, _, rfl, ite2 (fun _ => ⟨_, rfl, q _ b H3 (hb.tk T03) ok rfl (by omega) e03 (S3.mono (by omega))⟩) (fun _ => ?_)⟩
    have lw : ∀ z ∈ nms b, Low (tl z) := fun z hz => by
      unfold nms at hz
      obtain ⟨si', hs', rfl⟩ := List.mem_map.mp hz
      exact (ok.ok.sn si' hs').1
    have lnl : ∀ l ∈ b.ln, Low (tl l.1) ∧ Low (tl l.2) := fun l m => ⟨lw _ (ok.ln l m).1, lw _ (ok.ln l m).2⟩
    refine ⟨_, rfl, _, rfl, x, y, rfl, ?_, ?_⟩ <;> refine ⟨_, rfl, _, rfl, x, y, rfl, ?_, ?_⟩ <;> refine ⟨by show 2 ≤ sizeLine; decide, fun T hT => ?_⟩ <;>
      (generalize hG : upd H3 T _ = H4
       have m4 : Same H3 H4 := by rw [← hG]; exact same_new hT
       obtain ⟨p1, p2, h4, pm1, pm2⟩ : ∃ p1 p2 : Str, H4 T = some (.tup [.str p1, .str p2]) ∧ p1 ∈ nms b ∧ p2 ∈ nms b := ⟨_, _, by rw [← hG]; exact upd_same, by first | exact xm | exact ym, by first | exact xm | exact ym⟩
       clear hG
       have T04 : TK K H H4 := T03.trans (TK.same m4)
       have S4 := S3.ext m4
       have e04 : Ext s H H4 := e03.trans (Ext.of m4)
       have dp : DV K H4 (lnD (p1, p2)) (.ref T) := ⟨T, _, rfl, SqT.of h4, dlc (dls _) (dlc (dls _) dln)⟩
       refine ⟨_, rfl, ba, bus4, 4, .ref c4, rfl, rfl, T04 _ _ hB4, atI_nat (j := 4) e4, c4, rfl, ⟨_, T04 _ _ hC4⟩, fun M hM => ?_⟩
       refine lc_tup (K := K) (a := c4) (xs := ws4) (fun i H' => ∃ (ls : List (Str × Str)) (vs' : List V), H' M = some (.lst vs') ∧ DVs K H' (ls.map lnD) vs' ∧ ls.length ≤ i ∧ (∀ l ∈ ls, l ∈ b.ln) ∧ Same H4 H') ⟨[], [], upd_same, dln, Nat.le_refl _, (fun _ h => by cases h), same_new hM⟩ (fun i H' _ h => by obtain ⟨_, _, _, _, _, _, m⟩ := h; exact m.tup (T04 _ _ hC4)) ?_ ?_
       · rintro i u H5 hi ⟨ls, vs', h5, hd, hl, hA, m5⟩
         obtain ⟨l, hl', dx⟩ := hw4.map_get hi
         have il := (List.getElem?_eq_some_iff.mp hl').1
         have ml := List.mem_of_getElem? hl'
         refine ⟨rfl, _, rfl, _, rfl, lnD l, lnD (p1, p2), dx.tk (T04.trans (TK.same m5)), dp.tk (TK.same m5), pr_ok (lnl l ml).1 (lnl l ml).2, pr_ok (lw _ pm1) (lw _ pm2), _, rfl, ite2 (fun _ => ?_) (fun _ => ⟨ls, vs', h5, hd, by omega, hA, m5⟩)⟩
         refine ⟨_, rfl, vs', h5, by rw [hd.map_len]; exact small _ (by omega), ls ++ [l], _, upd_same, DVs.snoc (hd.tk (tk_put h5)) ((dx.tk (T04.trans (TK.same m5))).tk (tk_put h5)), by rw [List.length_append]; show _ + 1 ≤ _; omega, fun z hz => ?_, sput m5 hM⟩
         rcases List.mem_append.mp hz with e | e
         · exact hA z e
         · rw [List.mem_singleton.mp e]; exact ml
       rintro H5 ⟨ls, vs', h5, hd, hl, hA, m5⟩
       rw [hw4.map_len] at hl
       have T05 : TK K H H5 := T04.trans (TK.same m5)
       have e05 : Ext s H H5 := e04.trans (Ext.of m5)
       have vl := hd.map_len
       have done : ∀ (H6 : Hp) (R : Addr) (rs : List (Str × Str)) (us : List V), Same H5 H6 → H6 R = some (.lst us) → DVs K H6 (rs.map lnD) us → rs.length ≤ b.ln.length + 1 → (∀ l ∈ rs, l.1 ∈ nms b ∧ l.2 ∈ nms b) → sp53_over K [.ref ba, .ref R] H6 Q (fun _ _ _ => False) := fun H6 R rs us m6 h6 d6 l6 a6 => by
         refine ⟨b, .ref ba, R, us, rs, rfl, hb.tk (T05.trans (TK.same m6)), ok.ok, SqL.of h6, d6, by omega, fun l m => ⟨lw _ (a6 l m).1, lw _ (a6 l m).2⟩, fun u fs H7 du fl fA m7 => ?_⟩
         exact q u _ H7 du ⟨⟨ok.ok.si, by show rs.length ≤ 30; omega, fl, ok.ok.sw, ok.ok.sp, ok.ok.wp, ok.ok.sn, fun f hf => ok.ok.fn f (fA f hf)⟩, ok.nd, ok.ne, a6⟩ rfl l6 (e05.trans (Ext.of (m6.trans m7))) (((S4.ext m5).ext (m6.trans m7)).mono (by omega))
       refine ⟨fun σ' H' => ∃ (R : Addr) (rs : List (Str × Str)) (us : List V), σ' = [some (.ref s), some (.ref ba), some (.ref N), some (.str x), some (.str y), some (.ref T), some (.ref R), none, none] ∧ Same H5 H' ∧ H' R = some (.lst us) ∧ DVs K H' (rs.map lnD) us ∧ rs.length ≤ b.ln.length + 1 ∧ (∀ l ∈ rs, l.1 ∈ nms b ∧ l.2 ∈ nms b), ?_, ?_⟩
       · refine ⟨_, rfl, M, _, rfl, .inl (SqL.of h5), _, rfl, ba, bus4, 4, .ref c4, rfl, rfl, T05 _ _ hB4, atI_nat (j := 4) e4, c4, ws4, rfl, .inr (T05 _ _ hC4), rfl, _, rfl, ite2 (fun _ => ?_) (fun _ => ⟨M, ls, vs', rfl, Same.refl _, h5, hd, by omega, fun l m => ok.ln l (hA l m)⟩)⟩
         refine ⟨_, rfl, _, rfl, by show 1 ≤ sizeLine; decide, fun G hG => ?_⟩
         have n6 := same_new (o := HO.lst [V.ref T]) hG
         refine ⟨M, G, _, _, rfl, rfl, n6 _ _ h5, upd_same, Nat.le_of_lt (small _ (by show _ + 1 ≤ _; omega)), fun J hJ => ?_⟩
         have n7 := same_new (o := HO.lst (vs' ++ [V.ref T])) hJ
         have n67 := n6.trans n7
         have dsn : DVs K _ ((ls ++ [(p1, p2)]).map lnD) (vs' ++ [V.ref T]) := DVs.snoc (hd.tk (TK.same n67)) (dp.tk (TK.same (m5.trans n67)))
         refine ⟨J, _, Str × Str, ls ++ [(p1, p2)], lnD, rfl, SqL.of upd_same, dsn, aa_of alike_ln, so_tup (fun l => ⟨_, _, rfl⟩), (fun l _ => depth_ln l), fun ys R hR dy => ?_⟩
         have n8 := same_new (o := HO.lst ys) hR
         have pm := sort_perm lnD (ls ++ [(p1, p2)])
         refine ⟨R, _, ys, rfl, n67.trans n8, upd_same, dy.tk (TK.same n8), by rw [pm.length_eq, List.length_append]; show _ + 1 ≤ _; omega, fun l m => ?_⟩
         rcases List.mem_append.mp (pm.mem_iff.mp m) with e | e
         · exact ok.ln l (hA l e)
         · rw [List.mem_singleton.mp e]; exact ⟨pm1, pm2⟩
       · rintro σ' H6 ⟨R, rs, us, rfl, m6, h6, d6, l6, a6⟩
         exact ⟨_, rfl, _, rfl, done H6 R rs us m6 h6 d6 l6 a6⟩)
end
section
variable {P : Program} {w : World} {K : PySem.W.Frag} {mg : Str → Option Value} {base : Heap}
theorem ok_law {f : Addr} {fd : FuncData} (F : Fun K "law" "law" s_law f fd) (T : Tx mg)  (C__law_book : Cal P w K mg base "_law_book" ["source", "many", "words"] 8 (sp53_book K)) (C__law_draw : Cal P w K mg base "_law_draw" ["source", "many"] 2 sp__law_draw) (C__law_once_in : Cal P w K mg base "_law_once_in" ["source", "many"] 3 sp__law_once_in) (C__law_one_line_turned : Cal P w K mg base "_law_one_line_turned" ["source", "book"] 4 (sp53_change K)) (C__law_route_right : Cal P w K mg base "_law_route_right" ["book", "here", "goal"] 4 (sp53_route K)) (C__law_source : Cal P w K mg base "_law_source" ["script"] 2 (sp__law_source K)) (C__law_thinned : Cal P w K mg base "_law_thinned" ["source", "book"] 3 (sp53_change K)) (C__law_words : Cal P w K mg base "_law_words" ["source"] 5 (sp2__law_words K)) : FnOk P w K mg base CX0 9 f fd ["script"] (sp_law K) := by
  obtain ⟨f__law_book, fd__law_book, G__law_book, g__law_book, k__law_book, b__law_book⟩ := C__law_book
  obtain ⟨f__law_draw, fd__law_draw, G__law_draw, g__law_draw, k__law_draw, b__law_draw⟩ := C__law_draw
  obtain ⟨f__law_once_in, fd__law_once_in, G__law_once_in, g__law_once_in, k__law_once_in, b__law_once_in⟩ := C__law_once_in
  obtain ⟨f__law_one_line_turned, fd__law_one_line_turned, G__law_one_line_turned, g__law_one_line_turned, k__law_one_line_turned, b__law_one_line_turned⟩ := C__law_one_line_turned
  obtain ⟨f__law_route_right, fd__law_route_right, G__law_route_right, g__law_route_right, k__law_route_right, b__law_route_right⟩ := C__law_route_right
  obtain ⟨f__law_source, fd__law_source, G__law_source, g__law_source, k__law_source, b__law_source⟩ := C__law_source
  obtain ⟨f__law_thinned, fd__law_thinned, G__law_thinned, g__law_thinned, k__law_thinned, b__law_thinned⟩ := C__law_thinned
  obtain ⟨f__law_words, fd__law_words, G__law_words, g__law_words, k__law_words, b__law_words⟩ := C__law_words
  refine F.ok sc_law (fun vs H Q E h => ?_) (fun cdv A outer s₀ H vs Q E hr h => ?_)
  · obtain ⟨a, ns, rfl, _⟩ := h; rfl
  · obtain ⟨a, ns, rfl, hA, hlen, q⟩ := h
    refine ⟨_, (pss_cons (ps_set (i := 1) sc_law.nd rfl (Or.inl rfl) (pe_call G__law_source (hr.mono (by decide)) (by rfl) g__law_source k__law_source b__law_source .nil pass0 (pa_cons (pv 0) pa_nil)))
      (pss_cons (ps_set (i := 2) sc_law.nd rfl (Or.inl rfl) (pe_call G__law_words (hr.mono (by decide)) (by rfl) g__law_words k__law_words b__law_words .nil pass0 (pa_cons (pv 1) pa_nil)))
      (pss_cons (ps_set (i := 3) sc_law.nd rfl (Or.inl rfl) (pe_op op_add pe_int (pe_call G__law_draw (hr.mono (by decide)) (by rfl) g__law_draw k__law_draw b__law_draw .nil pass0 (pa_cons (pv 1) (pa_cons pe_int pa_nil)))))
      (C8.pss_cut (ps_if (pt_val (pe_call G__law_once_in (hr.mono (by decide)) (by rfl) g__law_once_in k__law_once_in b__law_once_in .nil pass0 (pa_cons (pv 1) (pa_cons pe_int pa_nil))))
      (pss_one (ps_set (i := 3) sc_law.nd rfl (Or.inl rfl) pe_int))
      pss_nil)
      (pss_cons (ps_set (i := 4) sc_law.nd rfl (Or.inl rfl) (pe_call G__law_thinned (hr.mono (by decide)) (by rfl) g__law_thinned k__law_thinned b__law_thinned .nil pass0 (pa_cons (pv 1) (pa_cons (pe_call G__law_book (hr.mono (by decide)) (by rfl) g__law_book k__law_book b__law_book .nil pass0 (pa_cons (pv 1) (pa_cons (pv 3) (pa_cons (pv 2) pa_nil)))) pa_nil))))
      (pss_cons (ps_set (i := 5) sc_law.nd rfl (Or.inl rfl) (pe_call G__law_one_line_turned (hr.mono (by decide)) (by rfl) g__law_one_line_turned k__law_one_line_turned b__law_one_line_turned .nil pass0 (pa_cons (pv 1) (pa_cons (pv 4) pa_nil))))
      (pss_cons (ps_setLc (i := 6) (own := [("site", 9)]) (g := gName 9) (tt := tYes) rfl sc_law.nd rfl rfl (sw_true rfl rfl rfl (by decide +kernel)) (pi_tup (pe_ix ix_tup (pv 4) pe_int (fun _ _ => rfl))) (blkOk_by (own := [("site", 9)]) (N := N_law) (sc := defScope s_law) (by decide +kernel)) (fun _ _ _ _ _ => pg_name (i := 9) sc_law.nd rfl (Or.inl rfl)) (fun _ _ _ _ _ => pts_nil) (fun _ _ _ _ _ => (pe_ix (ix_tupQ (K := K) rfl) (pv 9) pe_int (fun _ _ => rfl))))
      (pss_cons (ps_for PassesOwn.never rfl (pi_list (pv 6)) (pg_name (i := 7) sc_law.nd rfl (Or.inl rfl))
      (pss_one (ps_for PassesOwn.never rfl (pi_list (pv 6)) (pg_name (i := 8) sc_law.nd rfl (Or.inl rfl))
        (pss_one (ps_if (PW.pt (pw_or (pt_not (pt_val (pe_call G__law_route_right (hr.mono (by decide)) (by rfl) g__law_route_right k__law_route_right b__law_route_right .nil pass0 (pa_cons (pv 4) (pa_cons (pv 8) (pa_cons (pv 7) pa_nil)))))) (pw_or1 (pt_not (pt_val (pe_call G__law_route_right (hr.mono (by decide)) (by rfl) g__law_route_right k__law_route_right b__law_route_right .nil pass0 (pa_cons (pv 5) (pa_cons (pv 8) (pa_cons (pv 7) pa_nil)))))))))
          (pss_one (ps_ret pe_bl))
          pss_nil)))))
      (pss_one (ps_ret pe_bl)))))))))), ?_⟩
    have small : ∀ n : Nat, n ≤ 30000 → n < sizeLine := fun n h => Nat.lt_of_le_of_lt h (by decide)
    refine ⟨_, rfl, a, ns, rfl, hA, hlen, fun s e H1 hs x1 S1 => ?_⟩
    refine ⟨_, rfl, s, e, 200000, rfl, S1.mono (by decide), fun w ws H2 hw hWd hW x2 S2 => ?_⟩
    have wn : w ≠ s := S1.ne hw
    refine ⟨_, rfl, s, e, _, 190000, rfl, by decide, by decide, S2.mono (by decide), fun v H3 v0 v1 x3 S3 => ?_⟩
    obtain ⟨v, rfl⟩ := Int.eq_ofNat_of_zero_le v0
    refine ⟨_, _, rfl, rfl, ?_⟩
    refine ⟨fun σ' H' => ∃ m : Nat, σ' = [some (.ref a), some (.ref s), some (.ref w), some (.int (m : Int)), none, none, none, none, none, none] ∧ 1 ≤ m ∧ m ≤ 9 ∧ H' w = some (.lst (ws.map V.str)) ∧ Src H' s e 180000, ?_, ?_⟩
    · refine ⟨_, rfl, s, e, _, 189999, rfl, by decide, by decide, S3, fun k H4 x4 S4 => ?_⟩
      have hW4 := x4 _ _ wn (x3 _ _ wn hWd)
      refine ⟨_, rfl, ite2 (fun _ => ⟨8, rfl, by decide, by decide, hW4, S4.mono (by decide)⟩) (fun _ => ⟨v + 1, ?_, by omega, by omega, hW4, S4.mono (by decide)⟩)⟩
      rw [show ((v + 1 : Nat) : Int) = 1 + (v : Int) by omega]; rfl
    rintro σ' H4 ⟨m, rfl, m1, m9, hW4, S4⟩
    refine ⟨_, rfl, _, rfl, _, rfl, _, rfl, s, e, w, ws, m, 140000, rfl, m1, m9, SqL.of hW4, wn, hW, S4.mono (by decide), fun bv b H5 hb ok l20 x5 S5 => ?_⟩
    refine ⟨s, e, b, bv, 130000, rfl, hb, ok, by omega, S5.mono (by decide), fun u1 b1 H6 h1 ok1 n1 l1 x6 S6 => ?_⟩
    refine ⟨_, rfl, _, rfl, s, e, b1, u1, 120000, rfl, h1, ok1, by omega, S6.mono (by decide), fun u2 b2 H7 h2 ok2 n2 l2 x7 S7 => ?_⟩
    have h17 := h1.tk (TK.ext x7 S6)
    have ul : (nms b1).length ≤ 10 := by unfold nms; rw [List.length_map]; exact ok1.ok.si
    obtain ⟨ba, bus, c3, ws3, rfl, hB, e3, hC3, hw3⟩ := DV.sub (i := 3) (es := b1.si.map siD) h17 rfl
    refine ⟨_, rfl, ba, bus, 3, .ref c3, rfl, rfl, hB, atI_nat (j := 3) e3, c3, rfl, ⟨_, hC3⟩, fun N hN => ?_⟩
    refine lc_tup (K := K) (a := c3) (xs := ws3) (fun i H' => H' N = some (.lst (((nms b1).take i).map V.str)) ∧ Same H7 H') ⟨by rw [upd_same]; rfl, same_new hN⟩ (fun i H' _ h => h.2.tup hC3) ?_ ?_
    · rintro i u H1 hi ⟨h1, m1⟩
      obtain ⟨si', hsi, dx⟩ := hw3.map_get hi
      obtain ⟨t, tus, rfl, hT, et⟩ := nms_at (dx.tk (TK.same m1))
      have il := (List.getElem?_eq_some_iff.mp hsi).1
      have en : (nms b1)[i]? = some si'.n := by unfold nms; rw [List.getElem?_map, hsi]; rfl
      refine ⟨rfl, _, rfl, t, _, 1, _, rfl, rfl, hT, atI_nat (j := 1) et, _, h1, ?_, ?_, sput m1 hN⟩
      · rw [List.length_map, List.length_take]; exact small _ (by omega)
      · rw [upd_same, List.take_add_one, en, List.map_append]; rfl
    rintro H8 ⟨h8, m8⟩
    have l3 : ws3.length = (nms b1).length := by rw [hw3.map_len]; unfold nms; rw [List.length_map]
    rw [l3, List.take_length] at h8
    have b18 := h17.tk (TK.same m8)
    have b28 := h2.tk (TK.same m8)
    refine ⟨_, rfl, N, rfl, ⟨_, SqL.of h8⟩, ?_⟩
    refine for_list (K := K) (a := N) (xs := (nms b1).map V.str) (fun i σ H' => ∃ (v7 v8 : Option V), σ = [some (.ref a), some (.ref s), some (.ref w), some (.int (m : Int)), some (.ref ba), some u2, some (.ref N), v7, v8, none] ∧ Same H8 H') ⟨_, _, rfl, Same.refl _⟩ (fun i σ H' _ h => by obtain ⟨_, _, _, m⟩ := h; exact SqL.of (m _ _ h8)) ?_ ?_
    · rintro i x σ H9 hi ⟨v7, v8, rfl, m9'⟩
      obtain ⟨g, hg, rfl⟩ := map_get hi
      have gm := List.mem_of_getElem? hg
      refine ⟨_, rfl, N, rfl, ⟨_, SqL.of (m9' _ _ h8)⟩, ?_⟩
      refine for_list (K := K) (a := N) (xs := (nms b1).map V.str) (fun i σ H' => ∃ (v8 : Option V), σ = [some (.ref a), some (.ref s), some (.ref w), some (.int (m : Int)), some (.ref ba), some u2, some (.ref N), some (.str g), v8, none] ∧ Same H8 H') ⟨_, rfl, m9'⟩ (fun i σ H' _ h => by obtain ⟨_, _, m⟩ := h; exact SqL.of (m _ _ h8)) ?_ ?_
      · rintro j y σ H10 hj ⟨v8, rfl, m10⟩
        obtain ⟨x, hx, rfl⟩ := map_get hj
        have xm := List.mem_of_getElem? hx
        refine ⟨_, rfl, _, rfl, _, rfl, b1, .ref ba, x, g, rfl, b18.tk (TK.same m10), ok1, xm, gm, fun H11 m11 => ⟨_, rfl, iteF ?_⟩⟩
        refine ⟨_, rfl, _, rfl, _, rfl, b2, u2, x, g, rfl, b28.tk (TK.same (m10.trans m11)), ok2, n2 ▸ xm, n2 ▸ gm, fun H12 m12 => ⟨_, rfl, iteF ⟨_, rfl, (m10.trans m11).trans m12⟩⟩⟩
      · rintro σ H10 ⟨v8, rfl, m10⟩
        exact ⟨_, _, rfl, m10⟩
    · rintro σ H9 ⟨v7, v8, rfl, m9'⟩
      exact q H9
end

end Z
namespace Z
open PySem L2 SX
set_option maxHeartbeats 0 in
theorem all_mk {l : PySem.W.OpenLaw} {w : World} {K : PySem.W.Frag} {h : Heap} {mg : Str → Option Value} {fa : Addr} (X : K.In h) (G : h.Ns mainGlobals mg) (hfa : mg "law" = some (.ref fa))
    {f0 : Addr} {od0 an0 : Option Addr} {sl0 : Array (Option Value)} {oc0 kV0 dc0 pm0 cd0 ct0 : Value}
    {f1 : Addr} {od1 an1 : Option Addr} {sl1 : Array (Option Value)} {oc1 kV1 dc1 pm1 cd1 ct1 : Value}
    {f2 : Addr} {od2 an2 : Option Addr} {sl2 : Array (Option Value)} {oc2 kV2 dc2 pm2 cd2 ct2 : Value}
    {f3 : Addr} {od3 an3 : Option Addr} {sl3 : Array (Option Value)} {oc3 kV3 dc3 pm3 cd3 ct3 : Value}
    {f4 : Addr} {od4 an4 : Option Addr} {sl4 : Array (Option Value)} {oc4 kV4 dc4 pm4 cd4 ct4 : Value}
    {f5 : Addr} {od5 an5 : Option Addr} {sl5 : Array (Option Value)} {oc5 kV5 dc5 pm5 cd5 ct5 : Value}
    {f6 : Addr} {od6 an6 : Option Addr} {sl6 : Array (Option Value)} {oc6 kV6 dc6 pm6 cd6 ct6 : Value}
    {f7 : Addr} {od7 an7 : Option Addr} {sl7 : Array (Option Value)} {oc7 kV7 dc7 pm7 cd7 ct7 : Value}
    {f8 : Addr} {od8 an8 : Option Addr} {sl8 : Array (Option Value)} {oc8 kV8 dc8 pm8 cd8 ct8 : Value}
    {f9 : Addr} {od9 an9 : Option Addr} {sl9 : Array (Option Value)} {oc9 kV9 dc9 pm9 cd9 ct9 : Value}
    {f10 : Addr} {od10 an10 : Option Addr} {sl10 : Array (Option Value)} {oc10 kV10 dc10 pm10 cd10 ct10 : Value}
    {f11 : Addr} {od11 an11 : Option Addr} {sl11 : Array (Option Value)} {oc11 kV11 dc11 pm11 cd11 ct11 : Value}
    {f12 : Addr} {od12 an12 : Option Addr} {sl12 : Array (Option Value)} {oc12 kV12 dc12 pm12 cd12 ct12 : Value}
    {f13 : Addr} {od13 an13 : Option Addr} {sl13 : Array (Option Value)} {oc13 kV13 dc13 pm13 cd13 ct13 : Value}
    {f14 : Addr} {od14 an14 : Option Addr} {sl14 : Array (Option Value)} {oc14 kV14 dc14 pm14 cd14 ct14 : Value}
    {f15 : Addr} {od15 an15 : Option Addr} {sl15 : Array (Option Value)} {oc15 kV15 dc15 pm15 cd15 ct15 : Value}
    {f16 : Addr} {od16 an16 : Option Addr} {sl16 : Array (Option Value)} {oc16 kV16 dc16 pm16 cd16 ct16 : Value}
    {f17 : Addr} {od17 an17 : Option Addr} {sl17 : Array (Option Value)} {oc17 kV17 dc17 pm17 cd17 ct17 : Value}
    {f18 : Addr} {od18 an18 : Option Addr} {sl18 : Array (Option Value)} {oc18 kV18 dc18 pm18 cd18 ct18 : Value}
    {f19 : Addr} {od19 an19 : Option Addr} {sl19 : Array (Option Value)} {oc19 kV19 dc19 pm19 cd19 ct19 : Value}
    {f20 : Addr} {od20 an20 : Option Addr} {sl20 : Array (Option Value)} {oc20 kV20 dc20 pm20 cd20 ct20 : Value}
    {f21 : Addr} {od21 an21 : Option Addr} {sl21 : Array (Option Value)} {oc21 kV21 dc21 pm21 cd21 ct21 : Value}
    {f22 : Addr} {od22 an22 : Option Addr} {sl22 : Array (Option Value)} {oc22 kV22 dc22 pm22 cd22 ct22 : Value}
    {f23 : Addr} {od23 an23 : Option Addr} {sl23 : Array (Option Value)} {oc23 kV23 dc23 pm23 cd23 ct23 : Value}
    {f24 : Addr} {od24 an24 : Option Addr} {sl24 : Array (Option Value)} {oc24 kV24 dc24 pm24 cd24 ct24 : Value}
    {f25 : Addr} {od25 an25 : Option Addr} {sl25 : Array (Option Value)} {oc25 kV25 dc25 pm25 cd25 ct25 : Value}
    {f26 : Addr} {od26 an26 : Option Addr} {sl26 : Array (Option Value)} {oc26 kV26 dc26 pm26 cd26 ct26 : Value}
    {f27 : Addr} {od27 an27 : Option Addr} {sl27 : Array (Option Value)} {oc27 kV27 dc27 pm27 cd27 ct27 : Value}
    {f28 : Addr} {od28 an28 : Option Addr} {sl28 : Array (Option Value)} {oc28 kV28 dc28 pm28 cd28 ct28 : Value}
    (a0 : PySem.W.nsIn K mainGlobals "neighbours" = some (some (.ref f0))) (l0 : K.lookup f0 = some ⟨oc0, od0, .func (PySem.W.fnOf "neighbours" "neighbours" (defArgs s_neighbours) (defBody s_neighbours) (defScope s_neighbours) .none kV0 dc0 pm0 an0 cd0 ct0), sl0⟩) (c0 : PySem.W.codeIn K cd0 "neighbours" = true) (k0 : PySem.W.keepIn K (.ref f0) = true)
    (a1 : PySem.W.nsIn K mainGlobals "distances" = some (some (.ref f1))) (l1 : K.lookup f1 = some ⟨oc1, od1, .func (PySem.W.fnOf "distances" "distances" (defArgs s_distances) (defBody s_distances) (defScope s_distances) .none kV1 dc1 pm1 an1 cd1 ct1), sl1⟩) (c1 : PySem.W.codeIn K cd1 "distances" = true) (k1 : PySem.W.keepIn K (.ref f1) = true)
    (a2 : PySem.W.nsIn K mainGlobals "distance" = some (some (.ref f2))) (l2 : K.lookup f2 = some ⟨oc2, od2, .func (PySem.W.fnOf "distance" "distance" (defArgs s_distance) (defBody s_distance) (defScope s_distance) .none kV2 dc2 pm2 an2 cd2 ct2), sl2⟩) (c2 : PySem.W.codeIn K cd2 "distance" = true) (k2 : PySem.W.keepIn K (.ref f2) = true)
    (a3 : PySem.W.nsIn K mainGlobals "next_site" = some (some (.ref f3))) (l3 : K.lookup f3 = some ⟨oc3, od3, .func (PySem.W.fnOf "next_site" "next_site" (defArgs s_next_site) (defBody s_next_site) (defScope s_next_site) .none kV3 dc3 pm3 an3 cd3 ct3), sl3⟩) (c3 : PySem.W.codeIn K cd3 "next_site" = true) (k3 : PySem.W.keepIn K (.ref f3) = true)
    (a4 : PySem.W.nsIn K mainGlobals "_law_mix" = some (some (.ref f4))) (l4 : K.lookup f4 = some ⟨oc4, od4, .func (PySem.W.fnOf "_law_mix" "_law_mix" (defArgs s__law_mix) (defBody s__law_mix) (defScope s__law_mix) .none kV4 dc4 pm4 an4 cd4 ct4), sl4⟩) (c4 : PySem.W.codeIn K cd4 "_law_mix" = true) (k4 : PySem.W.keepIn K (.ref f4) = true)
    (a5 : PySem.W.nsIn K mainGlobals "_law_source" = some (some (.ref f5))) (l5 : K.lookup f5 = some ⟨oc5, od5, .func (PySem.W.fnOf "_law_source" "_law_source" (defArgs s__law_source) (defBody s__law_source) (defScope s__law_source) .none kV5 dc5 pm5 an5 cd5 ct5), sl5⟩) (c5 : PySem.W.codeIn K cd5 "_law_source" = true) (k5 : PySem.W.keepIn K (.ref f5) = true)
    (a6 : PySem.W.nsIn K mainGlobals "_law_draw" = some (some (.ref f6))) (l6 : K.lookup f6 = some ⟨oc6, od6, .func (PySem.W.fnOf "_law_draw" "_law_draw" (defArgs s__law_draw) (defBody s__law_draw) (defScope s__law_draw) .none kV6 dc6 pm6 an6 cd6 ct6), sl6⟩) (c6 : PySem.W.codeIn K cd6 "_law_draw" = true) (k6 : PySem.W.keepIn K (.ref f6) = true)
    (a7 : PySem.W.nsIn K mainGlobals "_law_pick" = some (some (.ref f7))) (l7 : K.lookup f7 = some ⟨oc7, od7, .func (PySem.W.fnOf "_law_pick" "_law_pick" (defArgs s__law_pick) (defBody s__law_pick) (defScope s__law_pick) .none kV7 dc7 pm7 an7 cd7 ct7), sl7⟩) (c7 : PySem.W.codeIn K cd7 "_law_pick" = true) (k7 : PySem.W.keepIn K (.ref f7) = true)
    (a8 : PySem.W.nsIn K mainGlobals "_law_once_in" = some (some (.ref f8))) (l8 : K.lookup f8 = some ⟨oc8, od8, .func (PySem.W.fnOf "_law_once_in" "_law_once_in" (defArgs s__law_once_in) (defBody s__law_once_in) (defScope s__law_once_in) .none kV8 dc8 pm8 an8 cd8 ct8), sl8⟩) (c8 : PySem.W.codeIn K cd8 "_law_once_in" = true) (k8 : PySem.W.keepIn K (.ref f8) = true)
    (a9 : PySem.W.nsIn K mainGlobals "_law_shuffled" = some (some (.ref f9))) (l9 : K.lookup f9 = some ⟨oc9, od9, .func (PySem.W.fnOf "_law_shuffled" "_law_shuffled" (defArgs s__law_shuffled) (defBody s__law_shuffled) (defScope s__law_shuffled) .none kV9 dc9 pm9 an9 cd9 ct9), sl9⟩) (c9 : PySem.W.codeIn K cd9 "_law_shuffled" = true) (k9 : PySem.W.keepIn K (.ref f9) = true)
    (a10 : PySem.W.nsIn K mainGlobals "_law_new_name" = some (some (.ref f10))) (l10 : K.lookup f10 = some ⟨oc10, od10, .func (PySem.W.fnOf "_law_new_name" "_law_new_name" (defArgs s__law_new_name) (defBody s__law_new_name) (defScope s__law_new_name) .none kV10 dc10 pm10 an10 cd10 ct10), sl10⟩) (c10 : PySem.W.codeIn K cd10 "_law_new_name" = true) (k10 : PySem.W.keepIn K (.ref f10) = true)
    (a11 : PySem.W.nsIn K mainGlobals "_law_names" = some (some (.ref f11))) (l11 : K.lookup f11 = some ⟨oc11, od11, .func (PySem.W.fnOf "_law_names" "_law_names" (defArgs s__law_names) (defBody s__law_names) (defScope s__law_names) .none kV11 dc11 pm11 an11 cd11 ct11), sl11⟩) (c11 : PySem.W.codeIn K cd11 "_law_names" = true) (k11 : PySem.W.keepIn K (.ref f11) = true)
    (a12 : PySem.W.nsIn K mainGlobals "_law_words" = some (some (.ref f12))) (l12 : K.lookup f12 = some ⟨oc12, od12, .func (PySem.W.fnOf "_law_words" "_law_words" (defArgs s__law_words) (defBody s__law_words) (defScope s__law_words) .none kV12 dc12 pm12 an12 cd12 ct12), sl12⟩) (c12 : PySem.W.codeIn K cd12 "_law_words" = true) (k12 : PySem.W.keepIn K (.ref f12) = true)
    (a13 : PySem.W.nsIn K mainGlobals "_law_board" = some (some (.ref f13))) (l13 : K.lookup f13 = some ⟨oc13, od13, .func (PySem.W.fnOf "_law_board" "_law_board" (defArgs s__law_board) (defBody s__law_board) (defScope s__law_board) .none kV13 dc13 pm13 an13 cd13 ct13), sl13⟩) (c13 : PySem.W.codeIn K cd13 "_law_board" = true) (k13 : PySem.W.keepIn K (.ref f13) = true)
    (a14 : PySem.W.nsIn K mainGlobals "_law_glob" = some (some (.ref f14))) (l14 : K.lookup f14 = some ⟨oc14, od14, .func (PySem.W.fnOf "_law_glob" "_law_glob" (defArgs s__law_glob) (defBody s__law_glob) (defScope s__law_glob) .none kV14 dc14 pm14 an14 cd14 ct14), sl14⟩) (c14 : PySem.W.codeIn K cd14 "_law_glob" = true) (k14 : PySem.W.keepIn K (.ref f14) = true)
    (a15 : PySem.W.nsIn K mainGlobals "_law_pattern" = some (some (.ref f15))) (l15 : K.lookup f15 = some ⟨oc15, od15, .func (PySem.W.fnOf "_law_pattern" "_law_pattern" (defArgs s__law_pattern) (defBody s__law_pattern) (defScope s__law_pattern) .none kV15 dc15 pm15 an15 cd15 ct15), sl15⟩) (c15 : PySem.W.codeIn K cd15 "_law_pattern" = true) (k15 : PySem.W.keepIn K (.ref f15) = true)
    (a16 : PySem.W.nsIn K mainGlobals "_law_is_int" = some (some (.ref f16))) (l16 : K.lookup f16 = some ⟨oc16, od16, .func (PySem.W.fnOf "_law_is_int" "_law_is_int" (defArgs s__law_is_int) (defBody s__law_is_int) (defScope s__law_is_int) .none kV16 dc16 pm16 an16 cd16 ct16), sl16⟩) (c16 : PySem.W.codeIn K cd16 "_law_is_int" = true) (k16 : PySem.W.keepIn K (.ref f16) = true)
    (a17 : PySem.W.nsIn K mainGlobals "_law_same" = some (some (.ref f17))) (l17 : K.lookup f17 = some ⟨oc17, od17, .func (PySem.W.fnOf "_law_same" "_law_same" (defArgs s__law_same) (defBody s__law_same) (defScope s__law_same) .none kV17 dc17 pm17 an17 cd17 ct17), sl17⟩) (c17 : PySem.W.codeIn K cd17 "_law_same" = true) (k17 : PySem.W.keepIn K (.ref f17) = true)
    (a18 : PySem.W.nsIn K mainGlobals "_law_lines" = some (some (.ref f18))) (l18 : K.lookup f18 = some ⟨oc18, od18, .func (PySem.W.fnOf "_law_lines" "_law_lines" (defArgs s__law_lines) (defBody s__law_lines) (defScope s__law_lines) .none kV18 dc18 pm18 an18 cd18 ct18), sl18⟩) (c18 : PySem.W.codeIn K cd18 "_law_lines" = true) (k18 : PySem.W.keepIn K (.ref f18) = true)
    (a19 : PySem.W.nsIn K mainGlobals "_law_feeds" = some (some (.ref f19))) (l19 : K.lookup f19 = some ⟨oc19, od19, .func (PySem.W.fnOf "_law_feeds" "_law_feeds" (defArgs s__law_feeds) (defBody s__law_feeds) (defScope s__law_feeds) .none kV19 dc19 pm19 an19 cd19 ct19), sl19⟩) (c19 : PySem.W.codeIn K cd19 "_law_feeds" = true) (k19 : PySem.W.keepIn K (.ref f19) = true)
    (a20 : PySem.W.nsIn K mainGlobals "_law_sites" = some (some (.ref f20))) (l20 : K.lookup f20 = some ⟨oc20, od20, .func (PySem.W.fnOf "_law_sites" "_law_sites" (defArgs s__law_sites) (defBody s__law_sites) (defScope s__law_sites) .none kV20 dc20 pm20 an20 cd20 ct20), sl20⟩) (c20 : PySem.W.codeIn K cd20 "_law_sites" = true) (k20 : PySem.W.keepIn K (.ref f20) = true)
    (a21 : PySem.W.nsIn K mainGlobals "_law_book" = some (some (.ref f21))) (l21 : K.lookup f21 = some ⟨oc21, od21, .func (PySem.W.fnOf "_law_book" "_law_book" (defArgs s__law_book) (defBody s__law_book) (defScope s__law_book) .none kV21 dc21 pm21 an21 cd21 ct21), sl21⟩) (c21 : PySem.W.codeIn K cd21 "_law_book" = true) (k21 : PySem.W.keepIn K (.ref f21) = true)
    (a22 : PySem.W.nsIn K mainGlobals "_law_over_lines" = some (some (.ref f22))) (l22 : K.lookup f22 = some ⟨oc22, od22, .func (PySem.W.fnOf "_law_over_lines" "_law_over_lines" (defArgs s__law_over_lines) (defBody s__law_over_lines) (defScope s__law_over_lines) .none kV22 dc22 pm22 an22 cd22 ct22), sl22⟩) (c22 : PySem.W.codeIn K cd22 "_law_over_lines" = true) (k22 : PySem.W.keepIn K (.ref f22) = true)
    (a23 : PySem.W.nsIn K mainGlobals "_law_thinned" = some (some (.ref f23))) (l23 : K.lookup f23 = some ⟨oc23, od23, .func (PySem.W.fnOf "_law_thinned" "_law_thinned" (defArgs s__law_thinned) (defBody s__law_thinned) (defScope s__law_thinned) .none kV23 dc23 pm23 an23 cd23 ct23), sl23⟩) (c23 : PySem.W.codeIn K cd23 "_law_thinned" = true) (k23 : PySem.W.keepIn K (.ref f23) = true)
    (a24 : PySem.W.nsIn K mainGlobals "_law_one_line_turned" = some (some (.ref f24))) (l24 : K.lookup f24 = some ⟨oc24, od24, .func (PySem.W.fnOf "_law_one_line_turned" "_law_one_line_turned" (defArgs s__law_one_line_turned) (defBody s__law_one_line_turned) (defScope s__law_one_line_turned) .none kV24 dc24 pm24 an24 cd24 ct24), sl24⟩) (c24 : PySem.W.codeIn K cd24 "_law_one_line_turned" = true) (k24 : PySem.W.keepIn K (.ref f24) = true)
    (a25 : PySem.W.nsIn K mainGlobals "_law_spread" = some (some (.ref f25))) (l25 : K.lookup f25 = some ⟨oc25, od25, .func (PySem.W.fnOf "_law_spread" "_law_spread" (defArgs s__law_spread) (defBody s__law_spread) (defScope s__law_spread) .none kV25 dc25 pm25 an25 cd25 ct25), sl25⟩) (c25 : PySem.W.codeIn K cd25 "_law_spread" = true) (k25 : PySem.W.keepIn K (.ref f25) = true)
    (a26 : PySem.W.nsIn K mainGlobals "_law_onward" = some (some (.ref f26))) (l26 : K.lookup f26 = some ⟨oc26, od26, .func (PySem.W.fnOf "_law_onward" "_law_onward" (defArgs s__law_onward) (defBody s__law_onward) (defScope s__law_onward) .none kV26 dc26 pm26 an26 cd26 ct26), sl26⟩) (c26 : PySem.W.codeIn K cd26 "_law_onward" = true) (k26 : PySem.W.keepIn K (.ref f26) = true)
    (a27 : PySem.W.nsIn K mainGlobals "_law_route_right" = some (some (.ref f27))) (l27 : K.lookup f27 = some ⟨oc27, od27, .func (PySem.W.fnOf "_law_route_right" "_law_route_right" (defArgs s__law_route_right) (defBody s__law_route_right) (defScope s__law_route_right) .none kV27 dc27 pm27 an27 cd27 ct27), sl27⟩) (c27 : PySem.W.codeIn K cd27 "_law_route_right" = true) (k27 : PySem.W.keepIn K (.ref f27) = true)
    (a28 : PySem.W.nsIn K mainGlobals "law" = some (some (.ref f28))) (l28 : K.lookup f28 = some ⟨oc28, od28, .func (PySem.W.fnOf "law" "law" (defArgs s_law) (defBody s_law) (defScope s_law) .none kV28 dc28 pm28 an28 cd28 ct28), sl28⟩) (c28 : PySem.W.codeIn K cd28 "law" = true) (k28 : PySem.W.keepIn K (.ref f28) = true)
    (z_abs : PySem.W.nsIn K mainGlobals "abs" = some none)
    (z_bool : PySem.W.nsIn K mainGlobals "bool" = some none)
    (z_int : PySem.W.nsIn K mainGlobals "int" = some none)
    (z_isinstance : PySem.W.nsIn K mainGlobals "isinstance" = some none)
    (z_len : PySem.W.nsIn K mainGlobals "len" = some none)
    (z_list : PySem.W.nsIn K mainGlobals "list" = some none)
    (z_max : PySem.W.nsIn K mainGlobals "max" = some none)
    (z_min : PySem.W.nsIn K mainGlobals "min" = some none)
    (z_range : PySem.W.nsIn K mainGlobals "range" = some none)
    (z_sorted : PySem.W.nsIn K mainGlobals "sorted" = some none)
    (z_str : PySem.W.nsIn K mainGlobals "str" = some none)
    (z_tuple : PySem.W.nsIn K mainGlobals "tuple" = some none) :
    ∃ fd : FuncData, (∀ (s : Shared) (v : Value), BindsTo s fd ⟨[v], []⟩ [("script", v)]) ∧ ∀ base : Heap, K.In base → base.Ns mainGlobals mg → FnOk l.prog w K mg base CX0 9 fa fd ["script"] (sp_law K) := by
  have e := hfa.symm.trans (PySem.W.mg_of X G a28)
  cases e
  have T : Tx mg := ⟨PySem.W.mg_none_of X G z_abs, PySem.W.mg_none_of X G z_bool, PySem.W.mg_none_of X G z_int, PySem.W.mg_none_of X G z_isinstance, PySem.W.mg_none_of X G z_len, PySem.W.mg_none_of X G z_list, PySem.W.mg_none_of X G z_max, PySem.W.mg_none_of X G z_min, PySem.W.mg_none_of X G z_range, PySem.W.mg_none_of X G z_sorted, PySem.W.mg_none_of X G z_str, PySem.W.mg_none_of X G z_tuple⟩
  refine ⟨PySem.W.fnOf "law" "law" (defArgs s_law) (defBody s_law) (defScope s_law) .none kV28 dc28 pm28 an28 cd28 ct28, fun s v => .of_eq rfl, fun base _ _ => ?_⟩
  have D_neighbours : Df K mg "neighbours" s_neighbours ["book", "name"] := ⟨f0, _, fun_mk (st := s_neighbours) l0 c0 k0, PySem.W.mg_of X G a0, (fun_mk (st := s_neighbours) l0 c0 k0).binds (ps := ["book", "name"]) fun _ _ _ _ _ _ us hl => match us, hl with | [_, _], _ => rfl⟩
  have D_distances : Df K mg "distances" s_distances ["book", "site"] := ⟨f1, _, fun_mk (st := s_distances) l1 c1 k1, PySem.W.mg_of X G a1, (fun_mk (st := s_distances) l1 c1 k1).binds (ps := ["book", "site"]) fun _ _ _ _ _ _ us hl => match us, hl with | [_, _], _ => rfl⟩
  have D_distance : Df K mg "distance" s_distance ["book", "site", "other"] := ⟨f2, _, fun_mk (st := s_distance) l2 c2 k2, PySem.W.mg_of X G a2, (fun_mk (st := s_distance) l2 c2 k2).binds (ps := ["book", "site", "other"]) fun _ _ _ _ _ _ us hl => match us, hl with | [_, _, _], _ => rfl⟩
  have D_next_site : Df K mg "next_site" s_next_site ["book", "here", "goal"] := ⟨f3, _, fun_mk (st := s_next_site) l3 c3 k3, PySem.W.mg_of X G a3, (fun_mk (st := s_next_site) l3 c3 k3).binds (ps := ["book", "here", "goal"]) fun _ _ _ _ _ _ us hl => match us, hl with | [_, _, _], _ => rfl⟩
  have D__law_mix : Df K mg "_law_mix" s__law_mix ["seed", "turn"] := ⟨f4, _, fun_mk (st := s__law_mix) l4 c4 k4, PySem.W.mg_of X G a4, (fun_mk (st := s__law_mix) l4 c4 k4).binds (ps := ["seed", "turn"]) fun _ _ _ _ _ _ us hl => match us, hl with | [_, _], _ => rfl⟩
  have D__law_source : Df K mg "_law_source" s__law_source ["script"] := ⟨f5, _, fun_mk (st := s__law_source) l5 c5 k5, PySem.W.mg_of X G a5, (fun_mk (st := s__law_source) l5 c5 k5).binds (ps := ["script"]) fun _ _ _ _ _ _ us hl => match us, hl with | [_], _ => rfl⟩
  have D__law_draw : Df K mg "_law_draw" s__law_draw ["source", "many"] := ⟨f6, _, fun_mk (st := s__law_draw) l6 c6 k6, PySem.W.mg_of X G a6, (fun_mk (st := s__law_draw) l6 c6 k6).binds (ps := ["source", "many"]) fun _ _ _ _ _ _ us hl => match us, hl with | [_, _], _ => rfl⟩
  have D__law_pick : Df K mg "_law_pick" s__law_pick ["source", "row"] := ⟨f7, _, fun_mk (st := s__law_pick) l7 c7 k7, PySem.W.mg_of X G a7, (fun_mk (st := s__law_pick) l7 c7 k7).binds (ps := ["source", "row"]) fun _ _ _ _ _ _ us hl => match us, hl with | [_, _], _ => rfl⟩
  have D__law_once_in : Df K mg "_law_once_in" s__law_once_in ["source", "many"] := ⟨f8, _, fun_mk (st := s__law_once_in) l8 c8 k8, PySem.W.mg_of X G a8, (fun_mk (st := s__law_once_in) l8 c8 k8).binds (ps := ["source", "many"]) fun _ _ _ _ _ _ us hl => match us, hl with | [_, _], _ => rfl⟩
  have D__law_shuffled : Df K mg "_law_shuffled" s__law_shuffled ["source", "row"] := ⟨f9, _, fun_mk (st := s__law_shuffled) l9 c9 k9, PySem.W.mg_of X G a9, (fun_mk (st := s__law_shuffled) l9 c9 k9).binds (ps := ["source", "row"]) fun _ _ _ _ _ _ us hl => match us, hl with | [_, _], _ => rfl⟩
  have D__law_new_name : Df K mg "_law_new_name" s__law_new_name ["source", "used"] := ⟨f10, _, fun_mk (st := s__law_new_name) l10 c10 k10, PySem.W.mg_of X G a10, (fun_mk (st := s__law_new_name) l10 c10 k10).binds (ps := ["source", "used"]) fun _ _ _ _ _ _ us hl => match us, hl with | [_, _], _ => rfl⟩
  have D__law_names : Df K mg "_law_names" s__law_names ["source", "many"] := ⟨f11, _, fun_mk (st := s__law_names) l11 c11 k11, PySem.W.mg_of X G a11, (fun_mk (st := s__law_names) l11 c11 k11).binds (ps := ["source", "many"]) fun _ _ _ _ _ _ us hl => match us, hl with | [_, _], _ => rfl⟩
  have D__law_words : Df K mg "_law_words" s__law_words ["source"] := ⟨f12, _, fun_mk (st := s__law_words) l12 c12 k12, PySem.W.mg_of X G a12, (fun_mk (st := s__law_words) l12 c12 k12).binds (ps := ["source"]) fun _ _ _ _ _ _ us hl => match us, hl with | [_], _ => rfl⟩
  have D__law_board : Df K mg "_law_board" s__law_board ["source", "words"] := ⟨f13, _, fun_mk (st := s__law_board) l13 c13 k13, PySem.W.mg_of X G a13, (fun_mk (st := s__law_board) l13 c13 k13).binds (ps := ["source", "words"]) fun _ _ _ _ _ _ us hl => match us, hl with | [_, _], _ => rfl⟩
  have D__law_glob : Df K mg "_law_glob" s__law_glob ["source", "words"] := ⟨f14, _, fun_mk (st := s__law_glob) l14 c14 k14, PySem.W.mg_of X G a14, (fun_mk (st := s__law_glob) l14 c14 k14).binds (ps := ["source", "words"]) fun _ _ _ _ _ _ us hl => match us, hl with | [_, _], _ => rfl⟩
  have D__law_pattern : Df K mg "_law_pattern" s__law_pattern ["source", "words"] := ⟨f15, _, fun_mk (st := s__law_pattern) l15 c15 k15, PySem.W.mg_of X G a15, (fun_mk (st := s__law_pattern) l15 c15 k15).binds (ps := ["source", "words"]) fun _ _ _ _ _ _ us hl => match us, hl with | [_, _], _ => rfl⟩
  have D__law_is_int : Df K mg "_law_is_int" s__law_is_int ["value"] := ⟨f16, _, fun_mk (st := s__law_is_int) l16 c16 k16, PySem.W.mg_of X G a16, (fun_mk (st := s__law_is_int) l16 c16 k16).binds (ps := ["value"]) fun _ _ _ _ _ _ us hl => match us, hl with | [_], _ => rfl⟩
  have D__law_same : Df K mg "_law_same" s__law_same ["actual", "due"] := ⟨f17, _, fun_mk (st := s__law_same) l17 c17 k17, PySem.W.mg_of X G a17, (fun_mk (st := s__law_same) l17 c17 k17).binds (ps := ["actual", "due"]) fun _ _ _ _ _ _ us hl => match us, hl with | [_, _], _ => rfl⟩
  have D__law_lines : Df K mg "_law_lines" s__law_lines ["source", "names"] := ⟨f18, _, fun_mk (st := s__law_lines) l18 c18 k18, PySem.W.mg_of X G a18, (fun_mk (st := s__law_lines) l18 c18 k18).binds (ps := ["source", "names"]) fun _ _ _ _ _ _ us hl => match us, hl with | [_, _], _ => rfl⟩
  have D__law_feeds : Df K mg "_law_feeds" s__law_feeds ["source", "lines", "words", "wide"] := ⟨f19, _, fun_mk (st := s__law_feeds) l19 c19 k19, PySem.W.mg_of X G a19, (fun_mk (st := s__law_feeds) l19 c19 k19).binds (ps := ["source", "lines", "words", "wide"]) fun _ _ _ _ _ _ us hl => match us, hl with | [_, _, _, _], _ => rfl⟩
  have D__law_sites : Df K mg "_law_sites" s__law_sites ["source", "names", "words", "window", "offsets"] := ⟨f20, _, fun_mk (st := s__law_sites) l20 c20 k20, PySem.W.mg_of X G a20, (fun_mk (st := s__law_sites) l20 c20 k20).binds (ps := ["source", "names", "words", "window", "offsets"]) fun _ _ _ _ _ _ us hl => match us, hl with | [_, _, _, _, _], _ => rfl⟩
  have D__law_book : Df K mg "_law_book" s__law_book ["source", "many", "words"] := ⟨f21, _, fun_mk (st := s__law_book) l21 c21 k21, PySem.W.mg_of X G a21, (fun_mk (st := s__law_book) l21 c21 k21).binds (ps := ["source", "many", "words"]) fun _ _ _ _ _ _ us hl => match us, hl with | [_, _, _], _ => rfl⟩
  have D__law_over_lines : Df K mg "_law_over_lines" s__law_over_lines ["book", "lines"] := ⟨f22, _, fun_mk (st := s__law_over_lines) l22 c22 k22, PySem.W.mg_of X G a22, (fun_mk (st := s__law_over_lines) l22 c22 k22).binds (ps := ["book", "lines"]) fun _ _ _ _ _ _ us hl => match us, hl with | [_, _], _ => rfl⟩
  have D__law_thinned : Df K mg "_law_thinned" s__law_thinned ["source", "book"] := ⟨f23, _, fun_mk (st := s__law_thinned) l23 c23 k23, PySem.W.mg_of X G a23, (fun_mk (st := s__law_thinned) l23 c23 k23).binds (ps := ["source", "book"]) fun _ _ _ _ _ _ us hl => match us, hl with | [_, _], _ => rfl⟩
  have D__law_one_line_turned : Df K mg "_law_one_line_turned" s__law_one_line_turned ["source", "book"] := ⟨f24, _, fun_mk (st := s__law_one_line_turned) l24 c24 k24, PySem.W.mg_of X G a24, (fun_mk (st := s__law_one_line_turned) l24 c24 k24).binds (ps := ["source", "book"]) fun _ _ _ _ _ _ us hl => match us, hl with | [_, _], _ => rfl⟩
  have D__law_spread : Df K mg "_law_spread" s__law_spread ["book", "start"] := ⟨f25, _, fun_mk (st := s__law_spread) l25 c25 k25, PySem.W.mg_of X G a25, (fun_mk (st := s__law_spread) l25 c25 k25).binds (ps := ["book", "start"]) fun _ _ _ _ _ _ us hl => match us, hl with | [_, _], _ => rfl⟩
  have D__law_onward : Df K mg "_law_onward" s__law_onward ["book", "far", "here"] := ⟨f26, _, fun_mk (st := s__law_onward) l26 c26 k26, PySem.W.mg_of X G a26, (fun_mk (st := s__law_onward) l26 c26 k26).binds (ps := ["book", "far", "here"]) fun _ _ _ _ _ _ us hl => match us, hl with | [_, _, _], _ => rfl⟩
  have D__law_route_right : Df K mg "_law_route_right" s__law_route_right ["book", "here", "goal"] := ⟨f27, _, fun_mk (st := s__law_route_right) l27 c27 k27, PySem.W.mg_of X G a27, (fun_mk (st := s__law_route_right) l27 c27 k27).binds (ps := ["book", "here", "goal"]) fun _ _ _ _ _ _ us hl => match us, hl with | [_, _, _], _ => rfl⟩
  have C__law_mix := ok__law_mix (P := l.prog) (w := w) (base := base) D__law_mix T 
  have C__law_draw := ok__law_draw (P := l.prog) (w := w) (base := base) D__law_draw T C__law_mix
  have C__law_pick := ok__law_pick (P := l.prog) (w := w) (base := base) D__law_pick T C__law_draw
  have C__law_board := ok__law_board (P := l.prog) (w := w) (base := base) D__law_board T C__law_draw C__law_pick
  have C__law_glob := ok__law_glob (P := l.prog) (w := w) (base := base) D__law_glob T C__law_board C__law_pick
  have C__law_pattern := ok__law_pattern (P := l.prog) (w := w) (base := base) D__law_pattern T C__law_draw C__law_glob
  have C__law_shuffled := ok__law_shuffled (P := l.prog) (w := w) (base := base) D__law_shuffled T C__law_draw
  have C__law_feeds := ok__law_feeds (P := l.prog) (w := w) (base := base) D__law_feeds T C__law_draw C__law_pattern C__law_shuffled
  have C__law_lines := ok__law_lines (P := l.prog) (w := w) (base := base) D__law_lines T C__law_draw C__law_pick
  have C__law_new_name := ok__law_new_name (P := l.prog) (w := w) (base := base) D__law_new_name T C__law_draw
  have C__law_names := ok__law_names (P := l.prog) (w := w) (base := base) D__law_names T C__law_new_name
  have C__law_sites := ok__law_sites (P := l.prog) (w := w) (base := base) D__law_sites T C__law_draw C__law_pattern
  have C__law_book := ok__law_book (P := l.prog) (w := w) (base := base) D__law_book T C__law_draw C__law_feeds C__law_lines C__law_names C__law_sites
  have C__law_once_in := ok__law_once_in (P := l.prog) (w := w) (base := base) D__law_once_in T C__law_draw
  have C__law_over_lines := ok__law_over_lines (P := l.prog) (w := w) (base := base) D__law_over_lines T 
  have C__law_one_line_turned := ok__law_one_line_turned (P := l.prog) (w := w) (base := base) D__law_one_line_turned T C__law_over_lines C__law_pick
  have C__law_onward := ok__law_onward (P := l.prog) (w := w) (base := base) D__law_onward T 
  have C__law_is_int := ok__law_is_int (P := l.prog) (w := w) (base := base) D__law_is_int T 
  have C__law_same := ok__law_same (P := l.prog) (w := w) (base := base) D__law_same T C__law_is_int 1
  have C__law_spread := ok__law_spread (P := l.prog) (w := w) (base := base) D__law_spread T 
  have C_neighbours := ok_neighbours (P := l.prog) (w := w) (base := base) D_neighbours T 
  have C_distances := ok_distances (P := l.prog) (w := w) (base := base) D_distances T C_neighbours
  have C_distance := ok_distance (P := l.prog) (w := w) (base := base) D_distance T C_distances
  have C_next_site := ok_next_site (P := l.prog) (w := w) (base := base) D_next_site T C_distances C_neighbours
  have C__law_route_right := ok__law_route_right (P := l.prog) (w := w) (base := base) D__law_route_right T C__law_onward C__law_same C__law_spread C_distance C_next_site
  have C__law_source := ok__law_source (P := l.prog) (w := w) (base := base) D__law_source T C__law_mix
  have C__law_thinned := ok__law_thinned (P := l.prog) (w := w) (base := base) D__law_thinned T C__law_draw C__law_over_lines
  have C__law_words := ok__law_words (P := l.prog) (w := w) (base := base) D__law_words T C__law_draw C__law_names
  exact ok_law (fun_mk (st := s_law) l28 c28 k28) T C__law_book C__law_draw C__law_once_in C__law_one_line_turned C__law_route_right C__law_source C__law_thinned C__law_words
theorem walk {l : PySem.W.OpenLaw} {q : Program} {loose : List Str} {XP : (Str → Option Value) → Heap → Prop} {YP : World → Heap → Prop} {d : DefRec} {K : Params → PySem.W.Frag} (hn : l.most = some 63) (hdf : d.params.defaults = [])
    (hY : ∀ (w : World) (h : Heap), YP w h → (K w.params).In h)
    (F : ∀ (w : World) (mg : Str → Option Value) (fa : Addr) (h : Heap), (K w.params).In h → h.Ns mainGlobals mg → mg d.name = some (.ref fa) →
      ∃ fd : FuncData, (∀ (s : Shared) (u : Value), BindsTo s fd ⟨[u], []⟩ [("script", u)]) ∧ ∀ base : Heap, (K w.params).In base → base.Ns mainGlobals mg → FnOk l.prog w (K w.params) mg base CX0 9 fa fd ["script"] (sp_law (K w.params))) :
    PySem.W.WalkO q loose XP YP l.row.toRowW d [] (fun f vs => PySem.call f vs) :=
  L2.walk_of (n := 63) (k := 9) (x := "script") (CX := fun _ => CX0) (sp := fun w => sp_law (K w.params)) hn (by decide) hdf ⟨rfl, by decide, by decide⟩ hY F (fun _ _ a ns hl _ hS => ⟨a, ns, rfl, hS, hl, fun _ => rfl⟩) fun _ _ _ _ _ z => z
end Z
open PySem PySem.W PyProof.Rows in
set_option maxRecDepth 100000 in
set_option maxHeartbeats 0 in
theorem PySem.Challenge.cw_criermoot_k53_routes_holds : PySem.Challenge.rw_criermoot_k53_routes.Holds := by
  w_on; o_law; k_head; (case hw => w_witness2)
  k_fill
  refine Z.walk (l := PySem.Challenge.rw_criermoot_k53_routes) rfl rfl (fun w h Y => PySem.W.kIn_of Y) ?F
  case F =>
    intro w mg fa h KX G hmg
    refine' Z.all_mk KX G hmg ?a0 ?l0 ?c0 ?k0 ?a1 ?l1 ?c1 ?k1 ?a2 ?l2 ?c2 ?k2 ?a3 ?l3 ?c3 ?k3 ?a4 ?l4 ?c4 ?k4 ?a5 ?l5 ?c5 ?k5 ?a6 ?l6 ?c6 ?k6 ?a7 ?l7 ?c7 ?k7 ?a8 ?l8 ?c8 ?k8 ?a9 ?l9 ?c9 ?k9 ?a10 ?l10 ?c10 ?k10 ?a11 ?l11 ?c11 ?k11 ?a12 ?l12 ?c12 ?k12 ?a13 ?l13 ?c13 ?k13 ?a14 ?l14 ?c14 ?k14 ?a15 ?l15 ?c15 ?k15 ?a16 ?l16 ?c16 ?k16 ?a17 ?l17 ?c17 ?k17 ?a18 ?l18 ?c18 ?k18 ?a19 ?l19 ?c19 ?k19 ?a20 ?l20 ?c20 ?k20 ?a21 ?l21 ?c21 ?k21 ?a22 ?l22 ?c22 ?k22 ?a23 ?l23 ?c23 ?k23 ?a24 ?l24 ?c24 ?k24 ?a25 ?l25 ?c25 ?k25 ?a26 ?l26 ?c26 ?k26 ?a27 ?l27 ?c27 ?k27 ?a28 ?l28 ?c28 ?k28 ?z_abs ?z_bool ?z_int ?z_isinstance ?z_len ?z_list ?z_max ?z_min ?z_range ?z_sorted ?z_str ?z_tuple
    (case a0 => k_is)
    (case l0 => k_is)
    (case c0 => k_is)
    (case k0 => k_is)
    (case a1 => k_is)
    (case l1 => k_is)
    (case c1 => k_is)
    (case k1 => k_is)
    (case a2 => k_is)
    (case l2 => k_is)
    (case c2 => k_is)
    (case k2 => k_is)
    (case a3 => k_is)
    (case l3 => k_is)
    (case c3 => k_is)
    (case k3 => k_is)
    (case a4 => k_is)
    (case l4 => k_is)
    (case c4 => k_is)
    (case k4 => k_is)
    (case a5 => k_is)
    (case l5 => k_is)
    (case c5 => k_is)
    (case k5 => k_is)
    (case a6 => k_is)
    (case l6 => k_is)
    (case c6 => k_is)
    (case k6 => k_is)
    (case a7 => k_is)
    (case l7 => k_is)
    (case c7 => k_is)
    (case k7 => k_is)
    (case a8 => k_is)
    (case l8 => k_is)
    (case c8 => k_is)
    (case k8 => k_is)
    (case a9 => k_is)
    (case l9 => k_is)
    (case c9 => k_is)
    (case k9 => k_is)
    (case a10 => k_is)
    (case l10 => k_is)
    (case c10 => k_is)
    (case k10 => k_is)
    (case a11 => k_is)
    (case l11 => k_is)
    (case c11 => k_is)
    (case k11 => k_is)
    (case a12 => k_is)
    (case l12 => k_is)
    (case c12 => k_is)
    (case k12 => k_is)
    (case a13 => k_is)
    (case l13 => k_is)
    (case c13 => k_is)
    (case k13 => k_is)
    (case a14 => k_is)
    (case l14 => k_is)
    (case c14 => k_is)
    (case k14 => k_is)
    (case a15 => k_is)
    (case l15 => k_is)
    (case c15 => k_is)
    (case k15 => k_is)
    (case a16 => k_is)
    (case l16 => k_is)
    (case c16 => k_is)
    (case k16 => k_is)
    (case a17 => k_is)
    (case l17 => k_is)
    (case c17 => k_is)
    (case k17 => k_is)
    (case a18 => k_is)
    (case l18 => k_is)
    (case c18 => k_is)
    (case k18 => k_is)
    (case a19 => k_is)
    (case l19 => k_is)
    (case c19 => k_is)
    (case k19 => k_is)
    (case a20 => k_is)
    (case l20 => k_is)
    (case c20 => k_is)
    (case k20 => k_is)
    (case a21 => k_is)
    (case l21 => k_is)
    (case c21 => k_is)
    (case k21 => k_is)
    (case a22 => k_is)
    (case l22 => k_is)
    (case c22 => k_is)
    (case k22 => k_is)
    (case a23 => k_is)
    (case l23 => k_is)
    (case c23 => k_is)
    (case k23 => k_is)
    (case a24 => k_is)
    (case l24 => k_is)
    (case c24 => k_is)
    (case k24 => k_is)
    (case a25 => k_is)
    (case l25 => k_is)
    (case c25 => k_is)
    (case k25 => k_is)
    (case a26 => k_is)
    (case l26 => k_is)
    (case c26 => k_is)
    (case k26 => k_is)
    (case a27 => k_is)
    (case l27 => k_is)
    (case c27 => k_is)
    (case k27 => k_is)
    (case a28 => k_is)
    (case l28 => k_is)
    (case c28 => k_is)
    (case k28 => k_is)
    (case z_abs => k_is)
    (case z_bool => k_is)
    (case z_int => k_is)
    (case z_isinstance => k_is)
    (case z_len => k_is)
    (case z_list => k_is)
    (case z_max => k_is)
    (case z_min => k_is)
    (case z_range => k_is)
    (case z_sorted => k_is)
    (case z_str => k_is)
    (case z_tuple => k_is)
