import PyProof.Rows.All
import Wide.All
import OpenK.AllK
import Wide.FinOn
import HandS.Base
import HandS.Call
import HandS.List
import HandS.Comp
import HandS.Ends
import HandS.Dict
import HandS.Iter
import HandS.Text
import HandS.Words
import HandS.WordsList
import HandS.Conv
import HandS.Codes
import HandS.IsInst
import HandS.Replace
import HandS.StrMore
import HandS.TupAny
import HandS.WideBits
import HandS.ForExc
import HandS.ExcInit
import HandS.ExcField
import HandS.ExcIs
import KE.KExcIs
import KE.GoesEnum
import KE.GoesMore
import HandS.Rev
import HandS.ReplaceLit
import PyProof.Rows.StrCut
import HandS.Sort
import HandS.Deep
import KE.KSortTupAny
import PyProof.MinMaxWalk
import HandS.TupMul
import HandS.FStr
import PySem.Challenge.RW_criermoot_k54_letters
set_option Elab.async false
set_option linter.all false
set_option maxRecDepth 100000
namespace Z
open PySem L2

/-! ### heaps -/
/-- all that was tracked is as it was, but for what stands at s -/
def Ext (s : Addr) (H H' : Hp) : Prop := ∀ b o, b ≠ s → H b = some o → H' b = some o
theorem Ext.refl (s : Addr) (H : Hp) : Ext s H H := fun _ _ _ h => h
theorem Ext.trans {s : Addr} {H H1 H2 : Hp} (a : Ext s H H1) (b : Ext s H1 H2) : Ext s H H2 := fun c o n h => b c o n (a c o n h)
theorem Ext.of {s : Addr} {H H' : Hp} (a : Same H H') : Ext s H H' := fun c o _ h => a c o h
theorem Ext.new {s p : Addr} {H : Hp} {o : HO} (n : H p = none) : Ext s H (upd H p o) := fun b u _ h => by
  rw [upd_ne (ne_of_none h n)]; exact h
theorem Ext.put {s : Addr} {H : Hp} {o : HO} : Ext s H (upd H s o) := fun b u n h => by
  rw [upd_ne n]; exact h
theorem same_new {p : Addr} {H : Hp} {o : HO} (n : H p = none) : Same H (upd H p o) := fun b u h => by
  rw [upd_ne (ne_of_none h n)]; exact h
theorem Ext.seqT {K : PySem.W.Frag} {s a : Addr} {H H' : Hp} {xs ys : List V} (x : Ext s H H') (hs : H s = some (.lst ys)) (h : SqT K H a xs) : SqT K H' a xs := by
  rcases h with (h | ⟨o, h⟩) | h
  · exact .inl (.inl (x _ _ (fun e => by rw [e, hs] at h; cases h) h))
  · exact .inl (.inr ⟨o, x _ _ (fun e => by rw [e, hs] at h; cases h) h⟩)
  · exact .inr h
theorem Ext.seqL {K : PySem.W.Frag} {s a : Addr} {H H' : Hp} {xs : List V} (x : Ext s H H') (n : a ≠ s) (h : SqL K H a xs) : SqL K H' a xs := by
  rcases h with (h | ⟨o, h⟩) | h
  · exact .inl (.inl (x _ _ n h))
  · exact .inl (.inr ⟨o, x _ _ n h⟩)
  · exact .inr h

theorem and_nn {x : Int} (hx : 0 ≤ x) (k : Nat) : 0 ≤ Builtin.bitAnd x (1 * 2 ^ k - 1) := by
  rw [Int.one_mul, Bits.bitAnd_mask k hx]
  exact Int.emod_nonneg _ (Int.ne_of_gt (Int.pow_pos (by decide)))
/-! ### the source of draws -/
def Src (H : Hp) (s a : Addr) (c : Nat) : Prop := ∃ (ns : List Int) (i b e t : Int),
  H s = some (.lst [.ref a, .int i, .int b, .int e, .int t]) ∧ H a = some (.lst (ns.map V.int)) ∧ a ≠ s ∧ ns.length ≤ 63 ∧ 0 ≤ i ∧ i ≤ 63 ∧ 0 ≤ b ∧ 0 ≤ e ∧ e < 2147483647 ∧ 0 ≤ t ∧ t + c < 4000000000000000000
theorem Src.lst {H : Hp} {s a : Addr} {c : Nat} (h : Src H s a c) : ∃ xs, H s = some (.lst xs) := by
  obtain ⟨_, _, _, _, _, h, _⟩ := h; exact ⟨_, h⟩
theorem Src.mono {H : Hp} {s a : Addr} {c d : Nat} (h : Src H s a c) (l : d ≤ c) : Src H s a d := by
  obtain ⟨ns, i, b, e, t, h1, h2, h3, h4, h5, h6, h7, h8, h9, h10, h11⟩ := h
  exact ⟨ns, i, b, e, t, h1, h2, h3, h4, h5, h6, h7, h8, h9, h10, by omega⟩
theorem Src.ext {H H' : Hp} {s a : Addr} {c : Nat} (h : Src H s a c) (x : Same H H') : Src H' s a c := by
  obtain ⟨ns, i, b, e, t, h1, h2, h3⟩ := h
  exact ⟨ns, i, b, e, t, x _ _ h1, x _ _ h2, h3⟩
theorem Src.new {H : Hp} {s a p : Addr} {o : HO} {c : Nat} (h : Src H s a c) (n : H p = none) : Src (upd H p o) s a c := h.ext (same_new n)
theorem Src.ne {H : Hp} {s a p : Addr} {c : Nat} (h : Src H s a c) (n : H p = none) : p ≠ s := by
  obtain ⟨xs, e⟩ := h.lst
  exact (ne_of_none e n).symm
theorem Src.nea {H : Hp} {s a p : Addr} {c : Nat} (h : Src H s a c) (n : H p = none) : p ≠ a := by
  obtain ⟨ns, i, b, e, t, h1, h2, h3⟩ := h
  exact (ne_of_none h2 n).symm
theorem Src.put {H : Hp} {s a p : Addr} {o : HO} {c : Nat} (h : Src H s a c) (n : p ≠ s) (m : p ≠ a) : Src (upd H p o) s a c := by
  obtain ⟨ns, i, b, e', t, h1, h2, h3⟩ := h
  exact ⟨ns, i, b, e', t, by rw [upd_ne n.symm]; exact h1, by rw [upd_ne m.symm]; exact h2, h3⟩

/-! ### defs and their callers -/
section
variable (P : Program) (w : World) (K : PySem.W.Frag) (mg : Str → Option Value) (base : Heap)
/-- a def as callers use it -/
def Cal (x : Str) (ps : List Str) (k : Nat) (sp : Sp) : Prop := ∃ (f : Addr) (fd : FuncData), FnOk P w K mg base CX0 k f fd ps sp ∧ mg x = some (.ref f) ∧ PySem.W.keepIn K (.ref f) = true ∧ Binds K fd ps []
/-- a def as the top has left it -/
def Df (x : Str) (st : Stmt) (ps : List Str) : Prop := ∃ (f : Addr) (fd : FuncData), Fun K x x st f fd ∧ mg x = some (.ref f) ∧ Binds K fd ps []
end
theorem Cal.mono {P : Program} {w : World} {K : PySem.W.Frag} {mg : Str → Option Value} {base : Heap} {x : Str} {ps : List Str} {j k : Nat} {sp : Sp} (C : Cal P w K mg base x ps j sp) (h : j ≤ k) : Cal P w K mg base x ps k sp := by
  obtain ⟨f, fd, G, g, kp, b⟩ := C
  exact ⟨f, fd, G.mono h, g, kp, b⟩

/-! ### the promises of the drawing defs -/
def sp__law_mix : Sp := fun vs H Q _ => ∃ (x y : Int), vs = [.int x, .int y] ∧ 0 ≤ x ∧ x < 9000000000000000000 ∧ 0 ≤ y ∧ y < 9000000000000000000 ∧ ∀ v : Int, 0 ≤ v → v < 2147483647 → Q (.int v) H
def sp__law_source (K : PySem.W.Frag) : Sp := fun vs H Q _ => ∃ (a : Addr) (ns : List Int), vs = [.ref a] ∧ SqL K H a (ns.map V.int) ∧ ns.length ≤ 63 ∧ ∀ (s b : Addr) (H' : Hp), H s = none → Same H H' → Src H' s b 3000000000000000000 → Q (.ref s) H'
def sp__law_draw : Sp := fun vs H Q _ => ∃ (s a : Addr) (m : Int) (c : Nat), vs = [.ref s, .int m] ∧ 0 < m ∧ m < 1073741824 ∧ Src H s a (c + 1) ∧ ∀ (v : Int) (H' : Hp), 0 ≤ v → v < m → Ext s H H' → Src H' s a c → Q (.int v) H'

/-! ### data -/
inductive D where
  | non | bl (b : Bool) | int (i : Int) | str (x : Str) | tup (xs : List D)
mutual
def DV (K : PySem.W.Frag) (H : Hp) : D → V → Prop
  | .non, v => v = .non
  | .bl b, v => v = .bl b
  | .int i, v => v = .int i
  | .str x, v => v = .str x
  | .tup ds, v => ∃ a vs, v = .ref a ∧ SqT K H a vs ∧ DVs K H ds vs
def DVs (K : PySem.W.Frag) (H : Hp) : List D → List V → Prop
  | [], vs => vs = []
  | d :: ds, vs => ∃ v r, vs = v :: r ∧ DV K H d v ∧ DVs K H ds r
end
mutual
theorem DV.ext {K : PySem.W.Frag} {H H' : Hp} (x : ∀ a xs, SqT K H a xs → SqT K H' a xs) : ∀ {d : D} {v : V}, DV K H d v → DV K H' d v
  | .non, _, h => by unfold DV at *; exact h
  | .bl _, _, h => by unfold DV at *; exact h
  | .int _, _, h => by unfold DV at *; exact h
  | .str _, _, h => by unfold DV at *; exact h
  | .tup ds, v, h => by
    unfold DV at *
    obtain ⟨a, vs, e, q, r⟩ := h
    exact ⟨a, vs, e, x _ _ q, DVs.ext x r⟩
theorem DVs.ext {K : PySem.W.Frag} {H H' : Hp} (x : ∀ a xs, SqT K H a xs → SqT K H' a xs) : ∀ {ds : List D} {vs : List V}, DVs K H ds vs → DVs K H' ds vs
  | [], _, h => by unfold DVs at *; exact h
  | d :: ds, vs, h => by
    unfold DVs at *
    obtain ⟨v, r, e, q, t⟩ := h
    exact ⟨v, r, e, DV.ext x q, DVs.ext x t⟩
end
theorem DVs.len {K : PySem.W.Frag} {H : Hp} : ∀ {ds : List D} {vs : List V}, DVs K H ds vs → vs.length = ds.length
  | [], _, h => by unfold DVs at h; subst h; rfl
  | d :: ds, vs, h => by
    unfold DVs at h
    obtain ⟨v, r, e, q, t⟩ := h
    rw [e, List.length_cons, List.length_cons, DVs.len t]
theorem DVs.get {K : PySem.W.Frag} {H : Hp} : ∀ {ds : List D} {vs : List V} {i : Nat} {d : D}, DVs K H ds vs → ds[i]? = some d → ∃ v, vs[i]? = some v ∧ DV K H d v
  | [], _, i, d, h, e => by simp at e
  | x :: ds, vs, i, d, h, e => by
    unfold DVs at h
    obtain ⟨v, r, e1, q, t⟩ := h
    subst e1
    cases i with
    | zero =>
      have : x = d := by simpa using e
      subst this
      exact ⟨v, rfl, q⟩
    | succ i => exact DVs.get (i := i) t (by simpa using e)
theorem DVs.strs {K : PySem.W.Frag} {H : Hp} : ∀ (xs : List Str), DVs K H (xs.map D.str) (xs.map V.str)
  | [] => by unfold DVs; rfl
  | x :: xs => by
    unfold DVs
    exact ⟨_, _, rfl, by unfold DV; rfl, DVs.strs xs⟩
theorem DVs.ints {K : PySem.W.Frag} {H : Hp} : ∀ (xs : List Int), DVs K H (xs.map D.int) (xs.map V.int)
  | [] => by unfold DVs; rfl
  | x :: xs => by
    unfold DVs
    exact ⟨_, _, rfl, by unfold DV; rfl, DVs.ints xs⟩
/-- tuples lie within fewer than n others -/
def DL : Nat → D → Prop
  | 0, _ => False
  | n + 1, .tup xs => xs.length ≤ 1000000 ∧ ∀ x ∈ xs, DL n x
  | _ + 1, _ => True
theorem TyX.ofT {K : PySem.W.Frag} {H : Hp} {a : Addr} {xs : List V} (h : SqT K H a xs) : TyX K H (.ref a) (.type "tuple") := by
  rcases h with (h | ⟨o, h⟩) | ⟨o, _, _, e, c, _⟩
  · exact .base (.tup h)
  · exact .fTuple h
  · exact .kTuple e c
def sp__law_is_int (K : PySem.W.Frag) : Sp := fun vs H Q _ => ∃ i : Int, vs = [.int i] ∧ Q (.bl true) H
/-- of two values with the same data it tells True -/
def sp__law_same (K : PySem.W.Frag) (n : Nat) : Sp := fun vs H Q _ => ∃ (d : D) (v u : V), vs = [v, u] ∧ DV K H d v ∧ DV K H d u ∧ DL n d ∧ Q (.bl true) H

/-! ### texts by their signs -/
open SX (S S_cat S_len S_inj)
theorem S_lst (l : List Nat) : (S l).cps.toList = l := rfl
theorem S_of (x : Str) : x = S x.cps.toList := (SX.S_tl x).symm
theorem S_app (a b : List Nat) : S a ++ S b = S (a ++ b) := S_cat a b
/-- a for over the signs of a text -/
theorem for_str {l : List Nat} {g : TG} {tb : TS} {D : Ends} {σ : St} {H : Hp} (Pv : Nat → St → Hp → Prop) (h0 : Pv 0 σ H)
    (hs : ∀ i c σ H, l[i]? = some c → Pv i σ H → g (.str (S [c])) σ H fun σ2 H2 => tb { D with nx := Pv (i + 1), ct := Pv (i + 1), bk := D.nx } σ2 H2) (hd : ∀ σ H, Pv l.length σ H → D.nx σ H) :
    ∃ W : Nat → Nat → St → Hp → Prop, (∃ m, W 0 m σ H) ∧ ∀ i m σ H, W i m σ H →
      ((Its (S l)).stop i H ∧ D.nx σ H) ∨ ((Its (S l)).go i H ∧ ∃ N : St → Hp → Prop, (∀ σ' H', N σ' H' → ∃ m', m' < m ∧ W (i + 1) m' σ' H') ∧ ∀ x H', (Its (S l)).yld i H x H' → g x σ H' fun σ2 H2 => tb { D with nx := N, ct := N, bk := D.nx } σ2 H2) := by
  refine ⟨fun i m σ H => m = l.length - i ∧ i ≤ l.length ∧ Pv i σ H, ⟨l.length, by simp, Nat.zero_le _, h0⟩, ?_⟩
  rintro i m σ H ⟨rfl, hi, p⟩
  by_cases hlt : i < l.length
  · refine .inr ⟨by show i < l.toArray.size; simpa using hlt, Pv (i + 1), fun σ' H' p' => ⟨l.length - (i + 1), by omega, rfl, hlt, p'⟩, fun x H' y => ?_⟩
    obtain ⟨e, c, hc, y⟩ := y
    subst e y
    exact hs i c σ _ (by simpa using hc) p
  · have e : i = l.length := by omega
    subst e
    exact .inl ⟨by show l.toArray.size ≤ l.length; simp, hd σ H p⟩
/-- a comprehension over the signs of a text -/
theorem lc_str {l : List Nat} {g : TG} {tt : TT} {te : TE} {vs : List Nat} {σ : St} {H1 : Hp} {D : Addr} {Qd : Hp → Prop} (Pv : Nat → Hp → Prop) (h0 : Pv 0 (upd H1 D (.lst [])))
    (hs : ∀ i c H, l[i]? = some c → Pv i H → g (.str (S [c])) (wipe σ vs) H fun σ2 H2 => wipe σ2 vs = wipe σ vs ∧ tt σ2 H2 fun b H3 =>
      if b = true then te σ2 H3 fun y H4 => ∃ acc, H4 D = some (.lst acc) ∧ acc.length < sizeLine ∧ Pv (i + 1) (upd H4 D (.lst (acc ++ [y]))) else Pv (i + 1) H3) (hd : ∀ H, Pv l.length H → Qd H) :
    ∃ W : Nat → Nat → Hp → Prop, (∃ m, W 0 m (upd H1 D (.lst []))) ∧ ∀ i m H, W i m H →
      ((Its (S l)).stop i H ∧ Qd H) ∨ ((Its (S l)).go i H ∧ ∃ Nx : Hp → Prop, (∀ H', Nx H' → ∃ m', m' < m ∧ W (i + 1) m' H') ∧ ∀ x H', (Its (S l)).yld i H x H' → g x (wipe σ vs) H' fun σ2 H2 => wipe σ2 vs = wipe σ vs ∧ tt σ2 H2 fun b H3 =>
        if b = true then te σ2 H3 fun y H4 => ∃ acc, H4 D = some (.lst acc) ∧ acc.length < sizeLine ∧ Nx (upd H4 D (.lst (acc ++ [y]))) else Nx H3) := by
  refine ⟨fun i m H => m = l.length - i ∧ i ≤ l.length ∧ Pv i H, ⟨l.length, by simp, Nat.zero_le _, h0⟩, ?_⟩
  rintro i m H ⟨rfl, hi, p⟩
  by_cases hlt : i < l.length
  · refine .inr ⟨by show i < l.toArray.size; simpa using hlt, Pv (i + 1), fun H' p' => ⟨l.length - (i + 1), by omega, rfl, hlt, p'⟩, fun x H' y => ?_⟩
    obtain ⟨e, c, hc, y⟩ := y
    subst e y
    exact hs i c _ (by simpa using hc) p
  · have e : i = l.length := by omega
    subst e
    exact .inl ⟨by show l.toArray.size ≤ l.length; simp, hd H p⟩
/-- signs of rows -/
def Asc (l : List Nat) : Prop := ∀ x ∈ l, 32 ≤ x ∧ x ≤ 126
theorem Asc.nil : Asc [] := fun _ h => nomatch h
theorem Asc.app {a b : List Nat} (x : Asc a) (y : Asc b) : Asc (a ++ b) := fun c h => (List.mem_append.mp h).elim (x c) (y c)
theorem Asc.by_ {l : List Nat} (h : l.all (fun x => decide (32 ≤ x) && decide (x ≤ 126)) = true) : Asc l := fun x m => by
  have := List.all_eq_true.mp h x m
  simp at this
  exact this
theorem Asc.all128 {l : List Nat} (h : Asc l) : l.all (· < 128) = true := List.all_eq_true.mpr fun x m => decide_eq_true (by have := h x m; omega)
theorem joinNil : ∀ ls : List (List Nat), TL.joinL [] ls = ls.flatten
  | [] => rfl
  | [x] => by simp [TL.joinL]
  | x :: y :: r => by
    have := joinNil (y :: r)
    simp only [TL.joinL] at *
    rw [List.flatten_cons, ← this]
    simp [TL.joinL]
theorem join_nil (ls : List (List Nat)) : Txt.join (S []) (ls.map S) = S ls.flatten := by
  rw [SX.join_S, joinNil]

/-! ### texts, further -/
abbrev tl (x : Str) : List Nat := x.cps.toList
theorem tl_S (l : List Nat) : tl (S l) = l := rfl
theorem S_tl (x : Str) : S (tl x) = x := rfl
theorem tl_app (x y : Str) : tl (x ++ y) = tl x ++ tl y := TL.tl_append x y
theorem tl_len (x : Str) : x.length = (tl x).length := by show x.cps.size = x.cps.toList.length; simp
theorem tl_ext {x y : Str} (h : tl x = tl y) : x = y := TL.ext_tl h
theorem at_str {x : Str} {i : Int} (h0 : 0 ≤ i) (h1 : i < (x.length : Int)) : ∃ c, x.cps[i.toNat]? = some c ∧ (tl x)[i.toNat]? = some c ∧ c ∈ tl x := by
  have h : i.toNat < (tl x).length := by rw [← tl_len]; omega
  refine ⟨(tl x)[i.toNat], ?_, List.getElem?_eq_getElem h, List.getElem_mem h⟩
  have := List.getElem?_eq_getElem h
  rw [← this]; simp [tl]
/-- small letters and digits -/
def Low (l : List Nat) : Prop := ∀ x ∈ l, (97 ≤ x ∧ x ≤ 122) ∨ (48 ≤ x ∧ x ≤ 57)
theorem Low.nil : Low [] := fun _ h => nomatch h
theorem Low.app {a b : List Nat} (x : Low a) (y : Low b) : Low (a ++ b) := fun c h => (List.mem_append.mp h).elim (x c) (y c)
theorem Low.asc {a : List Nat} (x : Low a) : Asc a := fun c h => by have := x c h; omega
theorem low_num (n : Nat) : Low (TL.numL n) := fun c h => .inr (by have := TL.numL_digits n c h; omega)
theorem num_len : ∀ n : Nat, (TL.numL n).length ≤ n + 1 := fun n => by
  induction n using Nat.strongRecOn with
  | ind n ih =>
    by_cases h : n < 10
    · rw [TL.numL_lt h]; simp
    · rw [TL.numL_step (by omega), List.length_append]
      have := ih (n / 10) (by omega)
      simp; omega
/-- a name: a letter, then letters and digits -/
def Nm (l : List Nat) : Prop := (∃ c r, l = c :: r ∧ 97 ≤ c ∧ c ≤ 122) ∧ Low l
theorem Nm.app {a b : List Nat} (x : Nm a) (y : Low b) : Nm (a ++ b) := by
  obtain ⟨⟨c, r, e, h⟩, l⟩ := x
  exact ⟨⟨c, r ++ b, by rw [e]; rfl, h⟩, l.app y⟩
theorem flat_strs (xs : List Str) : (xs.map V.str).all flatV = true := List.all_eq_true.mpr fun x h => by
  obtain ⟨y, _, rfl⟩ := List.mem_map.mp h; rfl
theorem inV_strs (x : Str) (xs : List Str) : inV (V.str x) (xs.map V.str) = decide (x ∈ xs) := by
  unfold inV
  induction xs with
  | nil => rfl
  | cons y ys ih =>
    rw [List.map_cons, List.any_cons, ih]
    by_cases e : x = y
    · subst e; simp [eqV]
    · have : ¬ y = x := fun h => e h.symm
      simp [eqV, e, this]
def sp__law_new_name (K : PySem.W.Frag) : Sp := fun vs H Q _ => ∃ (s a u : Addr) (us : List Str) (c : Nat), vs = [.ref s, .ref u] ∧ SqL K H u (us.map V.str) ∧ u ≠ s ∧ us.length ≤ 60 ∧ Src H s a (c + 8) ∧
  ∀ (x : Str) (H' : Hp), Nm (tl x) → (tl x).length ≤ 70 → Ext s H H' → Src H' s a c → Q (.str x) H'
def sp__law_names (K : PySem.W.Frag) : Sp := fun vs H Q _ => ∃ (s a : Addr) (m c : Nat), vs = [.ref s, .int m] ∧ m ≤ 60 ∧ Src H s a (c + 8 * m) ∧
  ∀ (u : Addr) (us : List Str) (H' : Hp), H u = none → H' u = some (.lst (us.map V.str)) → us.length = m → (∀ x ∈ us, Nm (tl x) ∧ (tl x).length ≤ 70) → Ext s H H' → Src H' s a c → Q (.ref u) H'
def sp__law_row : Sp := fun vs H Q _ => ∃ (s a : Addr) (m : Int) (c : Nat), vs = [.ref s, .int m] ∧ 0 ≤ m ∧ m ≤ 1000 ∧ Src H s a (c + m.toNat) ∧
  ∀ (x : Str) (H' : Hp), Asc (tl x) → (tl x).length = m.toNat → Ext s H H' → Src H' s a c → Q (.str x) H'

/-! ### rules that name the written part themselves (for the blocks of comprehensions) -/
section
variable {X : Cx} {K : PySem.W.Frag}
/-- len of a text -/
theorem call_lenS : CallR X (.builtin "len") (fun xs H Q => ∃ x : Str, xs = [.str x] ∧ x.length ≤ sizeLine ∧ Q (.int x.length) H) := by
  intro pins s σ H xs us Q I r h
  obtain ⟨x, e, hl, q⟩ := h
  exact call_len pins s σ H xs us Q I r ⟨.str x, x.length, e, ⟨hl, rfl⟩, q⟩
theorem call_lenQ (h : X.K = K) : CallR X (.builtin "len") (fun xs H Q => ∃ p ys, xs = [.ref p] ∧ (SqL K H p ys ∨ SqT K H p ys) ∧ Q (.int ys.length) H) := by
  subst h; exact call_len_seq
theorem ix_listQ (h : X.K = K) : IxR X (rIxL K) := by subst h; exact ix_list
theorem ix_tupQ (h : X.K = K) : IxR X (rIxT K) := by subst h; exact ix_tup
theorem in_seqQ (h : X.K = K) : OpR X (compareOp .In) (rIn K false) := by subst h; exact op_in_seq
theorem notIn_seqQ (h : X.K = K) : OpR X (compareOp .NotIn) (rIn K true) := by subst h; exact op_notIn_seq
theorem isiQ (h : X.K = K) : CallR X (.builtin "isinstance") (rIsi K) := by subst h; exact call_isi
end

/-- texts of one sign each -/
def Ones (p : Nat → Prop) (xs : List Str) : Prop := ∀ x ∈ xs, ∃ c, tl x = [c] ∧ p c
theorem Ones.tail {p : Nat → Prop} {x : Str} {xs : List Str} (h : Ones p (x :: xs)) : Ones p xs := fun y m => h y (List.mem_cons_of_mem _ m)
theorem ones_len {p : Nat → Prop} : ∀ {xs : List Str}, (∀ x ∈ xs, ∃ c, tl x = [c] ∧ p c) → (xs.map (·.length)).sum = xs.length
  | [], _ => rfl
  | x :: xs, h => by
    obtain ⟨c, e, _⟩ := h x List.mem_cons_self
    have : x.length = 1 := by rw [tl_len, e]; rfl
    rw [List.map_cons, List.sum_cons, ones_len (Ones.tail h), List.length_cons, this]
    omega
/-- their only signs -/
def heads (xs : List Str) : List Nat := xs.map fun x => (tl x).headD 0
theorem tl_join0 (xs : List Str) : tl (Txt.join (S []) xs) = (xs.map tl).flatten := by
  have e : xs = (xs.map tl).map S := by rw [List.map_map]; exact (List.map_id _).symm
  have h := join_nil (xs.map tl)
  rw [← e] at h
  show tl (Txt.join (S []) xs) = _
  rw [h]
theorem ones_join {p : Nat → Prop} {xs : List Str} (h : ∀ x ∈ xs, ∃ c, tl x = [c] ∧ p c) : tl (Txt.join (S []) xs) = heads xs := by
  rw [tl_join0]
  induction xs with
  | nil => rfl
  | cons x xs ih =>
    obtain ⟨c, e, _⟩ := h x List.mem_cons_self
    rw [List.map_cons, List.flatten_cons, ih (Ones.tail h), e]
    show c :: heads xs = (tl x).headD 0 :: heads xs
    rw [e]; rfl
theorem ones_all {p : Nat → Prop} {xs : List Str} (h : ∀ x ∈ xs, ∃ c, tl x = [c] ∧ p c) : ∀ c ∈ heads xs, p c := fun c m => by
  obtain ⟨x, hx, e⟩ := List.mem_map.mp m
  obtain ⟨d, e2, hd⟩ := h x hx
  rw [e2] at e
  have : d = c := e
  rw [← this]; exact hd
theorem str0 : Str.ofString "" = S [] := rfl
theorem ones_room {p : Nat → Prop} {xs : List Str} (h : ∀ x ∈ xs, ∃ c, tl x = [c] ∧ p c) : (xs.map (·.length)).sum + xs.length * (Str.ofString "").length = xs.length := by
  rw [ones_len h]; show xs.length + xs.length * 0 = xs.length; omega
theorem ones_joinE {p : Nat → Prop} {xs : List Str} (h : ∀ x ∈ xs, ∃ c, tl x = [c] ∧ p c) : tl (Txt.join (Str.ofString "") xs) = heads xs := ones_join h
theorem ones_asc {xs : List Str} (h : ∀ x ∈ xs, ∃ c, tl x = [c] ∧ 32 ≤ c ∧ c ≤ 126) : Asc (heads xs) := fun c m => ones_all (p := fun c => 32 ≤ c ∧ c ≤ 126) h c m
theorem heads_len (xs : List Str) : (heads xs).length = xs.length := List.length_map _

theorem alpha_mem {c : Nat} (h : c ∈ tl (Str.ofString "abcdefghijklmnopqrstuvwxyz")) : 97 ≤ c ∧ c ≤ 122 := by
  have : (tl (Str.ofString "abcdefghijklmnopqrstuvwxyz")).all (fun c => decide (97 ≤ c) && decide (c ≤ 122)) = true := by decide +kernel
  have := List.all_eq_true.mp this c h
  simp at this; exact this
theorem low_mem {c : Nat} (h : c ∈ tl (Str.ofString "abcdefghijklmnopqrstuvwxyz" ++ Str.ofString "0123456789")) : (97 ≤ c ∧ c ≤ 122) ∨ (48 ≤ c ∧ c ≤ 57) := by
  rw [tl_app] at h
  have : (tl (Str.ofString "abcdefghijklmnopqrstuvwxyz") ++ tl (Str.ofString "0123456789")).all (fun c => (decide (97 ≤ c) && decide (c ≤ 122)) || (decide (48 ≤ c) && decide (c ≤ 57))) = true := by decide +kernel
  have := List.all_eq_true.mp this c h
  simp at this; exact this

theorem log_small {i : Nat} (h : i ≤ 1000000) : (Int.natAbs (0 + (i : Int))).log2 < 1920 := by
  rw [Int.zero_add, Int.natAbs_natCast]
  by_cases e : i = 0
  · subst e; decide
  · rw [Nat.log2_lt e]
    exact Nat.lt_of_le_of_lt h (Nat.lt_of_lt_of_le (by decide : 1000000 < 2 ^ 20) (Nat.pow_le_pow_right (by decide) (by decide)))

theorem fold_take {α β : Type} {f : β → α → β} {a : β} {l : List α} {i : Nat} {c : α} (h : l[i]? = some c) : (l.take (i + 1)).foldl f a = f ((l.take i).foldl f a) c := by
  rw [List.take_add_one, h, List.foldl_append]
  rfl
theorem fold_all {α β : Type} {f : β → α → β} {a : β} {l : List α} : (l.take l.length).foldl f a = l.foldl f a := by rw [List.take_length]
theorem in_abc {c : Nat} : decide (c ∈ (Str.ofString "abcdefghijklmnopqrstuvwxyz").cps.toList) = (decide (97 ≤ c) && decide (c ≤ 122)) := by
  have e : (Str.ofString "abcdefghijklmnopqrstuvwxyz").cps.toList = List.range' 97 26 := by decide +kernel
  rw [e, Bool.eq_iff_iff, decide_eq_true_iff, List.mem_range'_1]
  simp only [Bool.and_eq_true, decide_eq_true_eq]
  omega
theorem in_ABC {c : Nat} : decide (c ∈ (Str.ofString "ABCDEFGHIJKLMNOPQRSTUVWXYZ").cps.toList) = (decide (65 ≤ c) && decide (c ≤ 90)) := by
  have e : (Str.ofString "ABCDEFGHIJKLMNOPQRSTUVWXYZ").cps.toList = List.range' 65 26 := by decide +kernel
  rw [e, Bool.eq_iff_iff, decide_eq_true_iff, List.mem_range'_1]
  simp only [Bool.and_eq_true, decide_eq_true_eq]
  omega
theorem in_012 {c : Nat} : decide (c ∈ (Str.ofString "0123456789").cps.toList) = (decide (48 ≤ c) && decide (c ≤ 57)) := by
  have e : (Str.ofString "0123456789").cps.toList = List.range' 48 10 := by decide +kernel
  rw [e, Bool.eq_iff_iff, decide_eq_true_iff, List.mem_range'_1]
  simp only [Bool.and_eq_true, decide_eq_true_eq]
  omega
theorem in_abc012 {c : Nat} : decide (c ∈ (Str.ofString "abcdefghijklmnopqrstuvwxyz0123456789").cps.toList) = ((decide (97 ≤ c) && decide (c ≤ 122)) || (decide (48 ≤ c) && decide (c ≤ 57))) := by
  have e : (Str.ofString "abcdefghijklmnopqrstuvwxyz0123456789").cps.toList = List.range' 97 26 ++ List.range' 48 10 := by decide +kernel
  rw [e, Bool.eq_iff_iff, decide_eq_true_iff, List.mem_append, List.mem_range'_1, List.mem_range'_1]
  simp only [Bool.and_eq_true, Bool.or_eq_true, decide_eq_true_eq]
  omega
/-- literal texts -/
theorem tl_mapS (ws : List Str) : (ws.map tl).map S = ws := by rw [List.map_map]; exact List.map_id _

theorem strs_at (zs : List Str) {v : Int} (h0 : 0 ≤ v) (h1 : v < (zs.length : Int)) : ∃ z, z ∈ zs ∧ atI (zs.map V.str) v = some (.str z) := by
  have h : v.toNat < zs.length := by omega
  exact ⟨zs[v.toNat], List.getElem_mem h, at_of (j := v.toNat) (by omega) (by rw [List.getElem?_map, List.getElem?_eq_getElem h]; rfl)⟩
theorem tl_upper {x : Str} (h : Asc (tl x)) : tl (Txt.upper x) = (tl x).map PyProof.Rows.up1 := congrArg tl (SX.upper_S (a := tl x) h.all128)
theorem asc_upper {x : Str} (h : Asc (tl x)) : Asc (tl (Txt.upper x)) := by
  rw [tl_upper h]
  intro c hc
  obtain ⟨d, hd, e⟩ := List.mem_map.mp hc
  have := h d hd
  unfold PyProof.Rows.up1 at e
  split at e <;> omega
theorem len_upper {x : Str} (h : Asc (tl x)) : (tl (Txt.upper x)).length = (tl x).length := by rw [tl_upper h, List.length_map]
theorem DL.strs {n : Nat} (xs : List Str) (h : xs.length ≤ 1000000) : DL (n + 2) (.tup (xs.map D.str)) := ⟨by rw [List.length_map]; exact h, fun d m => by obtain ⟨x, _, rfl⟩ := List.mem_map.mp m; exact True.intro⟩
theorem DV.strs {K : PySem.W.Frag} {H : Hp} {p : Addr} {xs : List Str} (h : H p = some (.tup (xs.map V.str))) : DV K H (.tup (xs.map D.str)) (.ref p) := by
  unfold DV
  exact ⟨p, _, rfl, SqT.of h, DVs.strs xs⟩
def sp_law (K : PySem.W.Frag) : Sp := fun vs H Q _ => ∃ (a : Addr) (ns : List Int), vs = [.ref a] ∧ SqL K H a (ns.map V.int) ∧ ns.length ≤ 63 ∧ ∀ H', Q (.bl true) H'
end Z
namespace Z
open PySem L2 SX
/-! ### cuts -/
theorem sIx_pos {n d : Nat} {i : Int} (h : 0 ≤ i) : HT.sIx n d (some i) = min i.toNat n := by
  obtain ⟨k, rfl⟩ := Int.eq_ofNat_of_zero_le h
  rw [HT.sIx_nat]; rfl
theorem cutS_to {z : Str} {i : Int} (h : 0 ≤ i) : tl (cutS z none (some i)) = (tl z).take i.toNat := by
  show ((tl z).drop 0).take (HT.sIx z.length z.length (some i) - 0) = _
  rw [sIx_pos h, List.drop_zero, Nat.sub_zero, tl_len]
  by_cases e : i.toNat ≤ (tl z).length
  · rw [Nat.min_eq_left e]
  · rw [Nat.min_eq_right (by omega), List.take_length, List.take_of_length_le (by omega)]
theorem cutS_from {z : Str} {i : Int} (h : 0 ≤ i) : tl (cutS z (some i) none) = (tl z).drop i.toNat := by
  show ((tl z).drop (HT.sIx z.length 0 (some i))).take (z.length - HT.sIx z.length 0 (some i)) = _
  rw [sIx_pos h, tl_len]
  by_cases e : i.toNat ≤ (tl z).length
  · rw [Nat.min_eq_left e, List.take_of_length_le (by rw [List.length_drop]; omega)]
  · rw [Nat.min_eq_right (by omega), List.drop_of_length_le (l := tl z) (i := i.toNat) (by omega), List.drop_of_length_le (Nat.le_refl _), List.take_nil]
theorem cutS_mid {z : Str} {i j : Int} (h : 0 ≤ i) (h2 : 0 ≤ j) : tl (cutS z (some i) (some j)) = ((tl z).drop i.toNat).take (j.toNat - i.toNat) := by
  show ((tl z).drop (HT.sIx z.length 0 (some i))).take (HT.sIx z.length z.length (some j) - HT.sIx z.length 0 (some i)) = _
  rw [sIx_pos h, sIx_pos h2, tl_len]
  by_cases e : i.toNat ≤ (tl z).length
  · rw [Nat.min_eq_left e]
    by_cases f : j.toNat ≤ (tl z).length
    · rw [Nat.min_eq_left f]
    · rw [Nat.min_eq_right (by omega), List.take_of_length_le (by rw [List.length_drop]; omega), List.take_of_length_le (by rw [List.length_drop]; omega)]
  · rw [Nat.min_eq_right (a := i.toNat) (by omega), List.drop_of_length_le (Nat.le_refl _), List.drop_of_length_le (l := tl z) (i := i.toNat) (by omega)]; simp
theorem cutV_to {xs : List V} {i : Int} (h : 0 ≤ i) : cutV xs none (some i) = xs.take i.toNat := by
  show ((xs.drop 0).take (HT.sIx xs.length xs.length (some i) - 0)) = _
  rw [sIx_pos h, List.drop_zero, Nat.sub_zero]
  by_cases e : i.toNat ≤ xs.length
  · rw [Nat.min_eq_left e]
  · rw [Nat.min_eq_right (by omega), List.take_length, List.take_of_length_le (by omega)]
theorem cutV_from {xs : List V} {i : Int} (h : 0 ≤ i) : cutV xs (some i) none = xs.drop i.toNat := by
  show ((xs.drop (HT.sIx xs.length 0 (some i))).take (xs.length - HT.sIx xs.length 0 (some i))) = _
  rw [sIx_pos h]
  by_cases e : i.toNat ≤ xs.length
  · rw [Nat.min_eq_left e, List.take_of_length_le (by rw [List.length_drop]; omega)]
  · rw [Nat.min_eq_right (by omega), List.drop_of_length_le (l := xs) (i := i.toNat) (by omega), List.drop_of_length_le (Nat.le_refl _), List.take_nil]
/-- the text k times -/
def rep (k : Nat) (l : List Nat) : List Nat := (List.replicate k l).flatten
theorem rep_fold (x : Array Nat) : ∀ (k : Nat) (a : Array Nat), ((List.replicate k x).foldl (· ++ ·) a).toList = a.toList ++ rep k x.toList
  | 0, a => by simp [rep]
  | k + 1, a => by
    rw [List.replicate_succ, List.foldl_cons, rep_fold x k]
    simp [rep, List.replicate_succ]
theorem rep_len (k : Nat) (l : List Nat) : (rep k l).length = k * l.length := by
  induction k with
  | zero => simp [rep]
  | succ k ih => unfold rep at *; rw [List.replicate_succ, List.flatten_cons, List.length_append, ih, Nat.succ_mul]; omega
theorem rep_mem {k : Nat} {l : List Nat} {c : Nat} (h : c ∈ rep k l) : c ∈ l := by
  obtain ⟨x, hx, hc⟩ := List.mem_flatten.mp h
  rw [(List.mem_replicate.mp hx).2] at hc; exact hc
section
variable {X : Cx}
/-- s * k -/
theorem op_mul_str : OpR X (binaryOp .Mult) (fun x y H Q => ∃ (z : Str) (k : Int), x = .str z ∧ y = .int k ∧ k ≤ 100000 ∧ (-100000 ≤ k) ∧ (tl z).length * k.toNat ≤ 10000000 ∧ ∀ r : Str, tl r = rep k.toNat (tl z) → Q (.str r) H) := by
  intro pins s σ H x y v u Q I rx ry h
  obtain ⟨z, k, rfl, rfl, h1, h0, hz, q⟩ := h
  obtain ⟨t, rfl⟩ := rx
  obtain ⟨t', rfl⟩ := ry
  have hz' : z.length * k.toNat ≤ 10000000 := by rw [tl_len]; exact hz
  have small := PyProof.Rows.short24 (n := z.length * k.toNat) (Nat.le_trans hz' (by decide))
  refine P.mul_str ?_ (fun a b => ?_) (fun _ _ => small) ?_
  · rw [decide_eq_false (by omega), decide_eq_false (by omega)]; rfl
  · have hk : 1 ≤ k := by omega
    have hm : (z.length : Int) * k ≤ 10000000 := by
      have : ((z.length * k.toNat : Nat) : Int) ≤ 10000000 := by omega
      rw [Int.natCast_mul, Int.toNat_of_nonneg (by omega)] at this; exact this
    have hle : (z.length : Int) ≤ (2 ^ 63 - 1) / k := by
      rw [Int.le_ediv_iff_mul_le (by omega)]
      exact Int.le_trans hm (by decide)
    omega
  · by_cases hk : k < 1
    · rw [if_pos hk]
      refine ⟨by decide, ?_⟩
      exact ⟨.str Str.empty, H, I.tok _, ⟨_, rfl⟩, q _ (by rw [show k.toNat = 0 by omega]; rfl)⟩
    · rw [if_neg hk]
      by_cases hb : (k == 1 || z.length == 0) = true
      · rw [if_pos hb]
        refine ⟨.str z, H, I, ⟨_, rfl⟩, q _ ?_⟩
        rw [Bool.or_eq_true] at hb
        rcases hb with e | e
        · have : k = 1 := by simpa using e
          subst this; simp [rep]
        · have e : z.length = 0 := by simpa using e
          rw [tl_len] at e
          have : tl z = [] := List.length_eq_zero_iff.mp e
          rw [this]
          exact (List.length_eq_zero_iff.mp (by rw [rep_len]; rfl)).symm
      · rw [if_neg hb]
        have hr : tl (⟨(List.replicate k.toNat z.cps).foldl (· ++ ·) #[]⟩ : Str) = rep k.toNat (tl z) := by
          show ((List.replicate k.toNat z.cps).foldl (· ++ ·) #[]).toList = _
          rw [rep_fold]; simp [tl]
        refine ⟨?_, ?_⟩
        · rw [tl_len, hr, rep_len, Nat.mul_comm]
          exact Nat.le_trans hz (by decide)
        · exact ⟨.str _, H, I.tok _, ⟨_, rfl⟩, q _ hr⟩
end
section
variable {X : Cx} {K : PySem.W.Frag}
/-- t + u, of tuples -/
theorem op_cat (hK : X.K = K) : OpR X (binaryOp .Add) (fun x y H Q => ∃ a b xs ys, x = .ref a ∧ y = .ref b ∧ SqT K H a xs ∧ SqT K H b ys ∧ xs.length + ys.length ≤ sizeLine ∧
    ∀ p H', Same H H' → SqT K H' p (xs ++ ys) → Q (.ref p) H') := by
  subst hK
  intro pins s σ H x y v u Q I rx ry h
  obtain ⟨a, b, xs, ys, e1, e2, ha, hb, hz, q⟩ := h
  refine op_catA pins s σ H x y v u Q I rx ry ⟨a, b, xs, ys, e1, e2, ha, hb, hz, fun e => ?_, fun _ e => ?_, fun _ _ p hp => q p _ (same_new hp) (SqT.of upd_same)⟩
  · subst e; exact q b H (Same.refl _) hb
  · subst e; exact q a H (Same.refl _) (by rw [List.append_nil]; exact ha)
/-- t[lo:hi] of a tuple -/
theorem sl_tupS (hK : X.K = K) : SlR X (fun x lo hi H Q => ∃ a xs, x = .ref a ∧ SqT K H a xs ∧ ∀ p H', Same H H' → SqT K H' p (cutV xs lo hi) → Q (.ref p) H') := by
  subst hK
  intro pins s σ H x v vl vu lo hi sl Q I rx hs pl pu h
  obtain ⟨a, xs, e, hx, q⟩ := h
  refine sl_tupA pins s σ H x v vl vu lo hi sl Q I rx hs pl pu ⟨a, xs, e, hx, fun hw => q a H (Same.refl _) ?_, fun _ p hp => q p _ (same_new hp) (SqT.of upd_same)⟩
  have : cutV xs lo hi = xs := by
    show (xs.drop (HT.sIx xs.length 0 lo)).take (HT.sIx xs.length xs.length hi - HT.sIx xs.length 0 lo) = xs
    rw [hw.1, hw.2, List.drop_zero, Nat.sub_zero, List.take_length]
  rw [this]; exact hx
end
theorem _root_.L2.Same.tup {K : PySem.W.Frag} {H H' : Hp} {a : Addr} {xs : List V} (e : Same H H') (h : SqT K H a xs) : SqT K H' a xs := by
  rcases h with (h | ⟨o, h⟩) | h
  · exact .inl (.inl (e _ _ h))
  · exact .inl (.inr ⟨o, e _ _ h⟩)
  · exact .inr h

/-- a comprehension over a range that makes texts by draws (at most d of them for each) -/
theorem lc_strs {j n d : Nat} {te : TE} {vs : List Nat} {σ : St} {H : Hp} {D s a : Addr} {c : Nat} {Qd : Hp → Prop} (p : Str → Prop) (hD : H D = none) (hS : Src H s a (c + n * d)) (hn : n ≤ 100000)
    (hw : ∀ i : Nat, wipe ((wipe σ vs).set j (some (.int (0 + (i : Int))))) vs = wipe σ vs)
    (hs : ∀ (i c' : Nat) (H1 : Hp) (R : VK), i < n → Ext s H H1 → Src H1 s a (c' + d) → (∀ (x : Str) (H2 : Hp), p x → Ext s H1 H2 → Src H2 s a c' → R (.str x) H2) → te ((wipe σ vs).set j (some (.int (0 + (i : Int))))) H1 R)
    (hd : ∀ (xs : List Str) (H' : Hp), H' D = some (.lst (xs.map V.str)) → xs.length = n → (∀ x ∈ xs, p x) → Ext s H H' → Src H' s a c → Qd H') :
    ∃ W : Nat → Nat → Hp → Prop, (∃ m, W 0 m (upd H D (.lst []))) ∧ ∀ i m H, W i m H →
      ((Itr 0 n).stop i H ∧ Qd H) ∨ ((Itr 0 n).go i H ∧ ∃ Nx : Hp → Prop, (∀ H', Nx H' → ∃ m', m' < m ∧ W (i + 1) m' H') ∧ ∀ x H', (Itr 0 n).yld i H x H' → gName j x (wipe σ vs) H' fun σ2 H2 => wipe σ2 vs = wipe σ vs ∧ tYes σ2 H2 fun b H3 =>
        if b = true then te σ2 H3 fun y H4 => ∃ acc, H4 D = some (.lst acc) ∧ acc.length < sizeLine ∧ Nx (upd H4 D (.lst (acc ++ [y]))) else Nx H3) := by
  have Ds : D ≠ s := hS.ne hD
  have Da : D ≠ a := hS.nea hD
  refine lc_range (lo := 0) (n := n) (fun i H' => ∃ xs : List Str, H' D = some (.lst (xs.map V.str)) ∧ xs.length = i ∧ (∀ x ∈ xs, p x) ∧ Ext s H H' ∧ Src H' s a (c + (n - i) * d)) ?_ ?_ ?_
  · exact ⟨[], upd_same, rfl, (fun _ h => by cases h), Ext.new hD, (hS.new hD).mono (by simp)⟩
  · rintro i H' hi ⟨xs, hx, hl, hA, hE, hS'⟩
    refine ⟨hw i, ?_⟩
    show te _ H' _
    have e : c + (n - i) * d = c + (n - (i + 1)) * d + d := by
      rw [show n - i = n - (i + 1) + 1 by omega, Nat.succ_mul]; omega
    refine hs i (c + (n - (i + 1)) * d) H' _ hi hE (by rw [← e]; exact hS') (fun x H2 hp hE2 hS2 => ?_)
    refine ⟨xs.map V.str, hE2 _ _ Ds hx, ?_, xs ++ [x], by rw [upd_same, List.map_append]; rfl, by rw [List.length_append]; simp [hl], fun y hy => ?_, ?_, hS2.put Ds Da⟩
    · rw [List.length_map]; exact Nat.lt_of_lt_of_le (show xs.length < 100000 by omega) (by decide)
    · rcases List.mem_append.mp hy with h | h
      · exact hA y h
      · rw [List.mem_singleton.mp h]; exact hp
    · intro b o hb hH
      rw [upd_ne (ne_of_none hH hD)]; exact hE2 _ _ hb (hE _ _ hb hH)
  · rintro H' ⟨xs, hx, hl, hA, hE, hS'⟩
    exact hd xs H' hx hl hA hE (hS'.mono (by omega))
theorem atI_pos {α : Type} {xs : List α} {v : Int} {x : α} (h0 : 0 ≤ v) (h : xs[v.toNat]? = some x) : atI xs v = some x := by
  have e : v = (v.toNat : Int) := by omega
  rw [e]; exact atI_nat h
/-- any item of a list of texts -/
def sp__law_pick (K : PySem.W.Frag) : Sp := fun vs H Q _ =>
  (∃ (s a r : Addr) (xs : List V) (c : Nat), vs = [.ref s, .ref r] ∧ SqL K H r xs ∧ r ≠ s ∧ xs ≠ [] ∧ xs.length ≤ 100000 ∧ Src H s a (c + 1) ∧ ∀ (v : V) (H' : Hp), v ∈ xs → Ext s H H' → Src H' s a c → Q v H') ∨
  (∃ (s a : Addr) (x : Str) (c : Nat), vs = [.ref s, .str x] ∧ tl x ≠ [] ∧ (tl x).length ≤ 100000 ∧ Src H s a (c + 1) ∧ ∀ (ch : Nat) (H' : Hp), ch ∈ tl x → Ext s H H' → Src H' s a c → Q (.str (S [ch])) H')
def sp__law_once_in : Sp := fun vs H Q _ => ∃ (s a : Addr) (m : Int) (c : Nat), vs = [.ref s, .int m] ∧ 0 < m ∧ m < 1073741824 ∧ Src H s a (c + 1) ∧ ∀ (b : Bool) (H' : Hp), Ext s H H' → Src H' s a c → Q (.bl b) H'
end Z
namespace Z
open PySem L2
/-! ### own errors: raised, caught, asked -/
section
variable (P : Program) (w : World) (K : PySem.W.Frag) (mg : Str → Option Value) (base : Heap)
/-- a def that may raise, as callers use it -/
def CalX (x : Str) (ps : List Str) (k : Nat) (sp : Sp) : Prop := ∃ (f : Addr) (fd : FuncData), FnOk P w K mg base (L2.CX P w) k f fd ps sp ∧ mg x = some (.ref f) ∧ PySem.W.keepIn K (.ref f) = true ∧ Binds K fd ps []
end
/-- an own error class with an __init__ of its own (at fI) -/
structure XOk (K : PySem.W.Frag) (mg : Str → Option Value) (x : Str) (C : Addr) : Prop where
  g : mg x = some (.ref C)
  o : OexC K C
  e : ExcC K C
theorem XOk.xf {K : PySem.W.Frag} {mg : Str → Option Value} {x : Str} {C : Addr} (T : XOk K mg x C) : XfC K C := ⟨T.e.hg, T.e.hk, T.e.hs, T.e.hd⟩
/-- the class's __init__(self, f): self.f = f -/
def sp_init (K : PySem.W.Frag) (C : Addr) (f : Str) : Sp := fun vs H Q _ => ∃ (a : Addr) (v : V), vs = [.ref a, v] ∧ OexC K C ∧ PySem.W.findIn K (.ref C) f = some none ∧ H a = some (exo a C none) ∧
  ∀ dx, H dx = none → dx ≠ a → Q .non (upd (upd H dx (exd dx [(f, v)])) a (exo a C (some dx)))
/-- isinstance(e, c), e the caught error at a -/
def rIsX (K : PySem.W.Frag) (cls : Value) (d : Option Addr) (a : Addr) : List V → Hp → VK → Prop := fun xs H Q => ∃ (D dd : Addr) (c : V) (cv : Value) (b : Bool) (fs : List (Str × V)), cls = .ref D ∧ d = some dd ∧ ExcC K D ∧ xs = [.ref a, c] ∧ H dd = some (.xd fs) ∧ ClsV c cv ∧
  PySem.W.kitOne K cls cv = some b ∧ Q (.bl b) H
def rIsXT (K : PySem.W.Frag) (cls : Value) (d : Option Addr) (a : Addr) : List V → Hp → VK → Prop := fun xs H Q => ∃ (D dd tp : Addr) (cs : List V) (us : List Value) (b : Bool) (fs : List (Str × V)), cls = .ref D ∧ d = some dd ∧ ExcC K D ∧ xs = [.ref a, .ref tp] ∧ H dd = some (.xd fs) ∧
  H tp = some (.tup cs) ∧ Paired ClsV cs us ∧ PySem.W.kitAny K cls us = some b ∧ Q (.bl b) H
section
variable {X : Cx} {a : Addr} {oe : Obj} {cls : Value} {d : Option Addr} {pn : List (Addr × Obj)}
theorem inst_at {pins : List (Addr × Obj)} {σ : St} {H : Hp} {s : Shared} {D dd : Addr} {fs : List (Str × V)} (I : Inv (X.suite a ((a, oe) :: pn)) pins σ H s) (hz : Zc (.ref D) (some dd) oe) (hf : ∃ vs, oe.data = .fields vs) (hd : H dd = some (.xd fs)) :
    ∃ od, PySem.W.InstAt s.heap a oe D (some od) := by
  obtain ⟨hget, _⟩ := I.pin (a, oe) (List.mem_append.mpr (.inl List.mem_cons_self))
  obtain ⟨vs, hv⟩ := hf
  have hx : ObjOk X.prog X.w H s.heap dd (.xd fs) := I.hok dd _ hd
  obtain ⟨mA, hns, hr⟩ := hx
  obtain ⟨od, ho, hl⟩ := lookIn_ns hns
  exact ⟨od, ⟨hget, hz.1, by unfold PySem.W.notCls; rw [hv] <;> rfl, by rw [hz.2]; exact ho⟩⟩
theorem kitx_D {K : PySem.W.Frag} {D x : Addr} {ox : Obj} {od : Option Obj} (C : ExcC K D) : PySem.W.KitX K (.ref x) (.ref D) (fun h => PySem.W.InstAt h x ox D od) := by
  refine PySem.W.kitx_exc ?_ C.hg C.hk C.hs C.ha C.hn C.ht C.hm
  have h := C.hd
  obtain ⟨cd, hc, _⟩ := PySem.W.any_some h
  rw [hc]; rfl
theorem call_isX (hz : Zc cls d oe) (hf : ∃ vs, oe.data = .fields vs) : CallR (X.suite a ((a, oe) :: pn)) (.builtin "isinstance") (rIsX X.K cls d a) := by
  intro pins s σ H xs us Q I r h
  obtain ⟨D, dd, c, cv, b, fs, rfl, rfl, C, rfl, hd, k, e, q⟩ := h
  obtain ⟨u1, u2, rfl, r1, r2⟩ := vals2 r
  have e2 := k.eq r2
  subst e2
  obtain rfl : u1 = Value.ref a := r1
  obtain ⟨od, J⟩ := inst_at I hz hf hd
  exact PySem.W.kia_one (kitx_D C) I.kIn J e (fun z => nomatch z) fun tk => ⟨.bl b, H, I.kept (t' := tk) fun _ _ z => z, rfl, q⟩
theorem call_isXT (hz : Zc cls d oe) (hf : ∃ vs, oe.data = .fields vs) : CallR (X.suite a ((a, oe) :: pn)) (.builtin "isinstance") (rIsXT X.K cls d a) := by
  intro pins s σ H xs us Q I r h
  obtain ⟨D, dd, tp, cs, ws, b, fs, rfl, rfl, C, rfl, hd, hT, k, e, q⟩ := h
  obtain ⟨u1, u2, rfl, r1, r2⟩ := vals2 r
  obtain rfl : u2 = Value.ref tp := r2
  obtain rfl : u1 = Value.ref a := r1
  obtain ⟨od, J⟩ := inst_at I hz hf hd
  obtain ⟨_, its, rv, o, h1, h2, n, h3⟩ := (show ObjOk X.prog X.w H s.heap tp (.tup cs) from I.hok tp _ hT)
  have e3 := ClsV.all k rv
  subst e3
  obtain ⟨oc, od', dt, sl⟩ := o
  simp only at h2 h3
  subst h2 h3
  exact PySem.W.kia_tup (kitx_D C) I.kIn J h1 e (fun z => nomatch z) fun tk => ⟨.bl b, H, I.kept (t' := tk) fun _ _ z => z, rfl, q⟩
end
/-- the heap behind a made error -/
theorem made_same {H : Hp} {a dx : Addr} {o1 o2 o3 o4 : HO} (ha : H a = none) (hd : H dx = none) : Same H (upd (del (upd (upd (upd H a o1) dx o2) a o3) a) dx o4) := fun b u h => by
  rw [upd_ne (ne_of_none h hd), del_ne (ne_of_none h ha), upd_ne (ne_of_none h ha), upd_ne (ne_of_none h hd), upd_ne (ne_of_none h ha)]; exact h
/-- what a raised error tells: behind it all stands that stood -/
theorem paired1 {c : V} {u : Value} (k : ClsV c u) : Paired ClsV [c] [u] := .cons k .nil
end Z
namespace Z
open PySem L2 SX
open PySem.Builtin.Str (occurrences lastOccurrence subAt)
theorem at_one {x : Str} {c hi k : Nat} (h : hi ≤ (tl x).length) : StrLaws.At x (S [c]) hi k ↔ k < hi ∧ (tl x)[k]? = some c := by
  have e := StrLaws.subAt_one x c k
  have l1 : (S [c]).length = 1 := rfl
  unfold StrLaws.At
  constructor
  · rintro ⟨h1, h2⟩
    rw [l1] at h1
    refine ⟨by omega, e.mp ⟨?_, h2⟩⟩
    show k + 1 ≤ x.length
    rw [tl_len]; omega
  · rintro ⟨h1, h2⟩
    have h3 := e.mpr h2
    exact ⟨by rw [l1]; omega, h3.2⟩
theorem find_from (x : Str) (c : Nat) {i : Int} (h : 0 ≤ i) :
    (Txt.find3 x (S [c]) i = -1 ∧ ∀ k : Nat, i ≤ (k : Int) → (tl x)[k]? ≠ some c) ∨ ∃ k : Nat, Txt.find3 x (S [c]) i = (k : Int) ∧ i ≤ (k : Int) ∧ (tl x)[k]? = some c ∧ ∀ j : Nat, i ≤ (j : Int) → j < k → (tl x)[j]? ≠ some c := by
  obtain ⟨n, rfl⟩ := Int.eq_ofNat_of_zero_le h
  have hf : fromIndex x.length (n : Int) = n := by
    unfold fromIndex
    rw [if_neg (by omega), Int.max_eq_right (by omega)]; rfl
  unfold Txt.find3
  rw [hf, StrLaws.occ_eq]
  have hx : x.length = (tl x).length := tl_len x
  rcases StrLaws.occ_first x (S [c]) x.length 1 (Nat.le_refl _) (List.range' n (x.length + 1 - n)) n (fun i hi => (List.mem_range'_1.mp hi).1) with ⟨h0, hn⟩ | ⟨pre, a, post, e, h0, ha, hn⟩
  · refine .inl ⟨by rw [h0], fun k hk hc => ?_⟩
    have hlt := (List.getElem?_eq_some_iff.mp hc).1
    exact hn k (List.mem_range'_1.mpr ⟨by omega, by omega⟩) ((at_one (by omega)).mpr ⟨by omega, hc⟩)
  · have h1 := (at_one (by omega)).mp ha
    have hm : a ∈ List.range' n (x.length + 1 - n) := by rw [e]; simp
    refine .inr ⟨a, ?_, by have := (List.mem_range'_1.mp hm).1; omega, h1.2, fun j hj hl hc => ?_⟩
    · cases hq : (forIn (List.range' n (x.length + 1 - n)) ((#[] : Array Nat), n) (StrLaws.occBody x (S [c]) x.length 1)).run.fst.toList with
      | nil =>
        have : (forIn (List.range' n (x.length + 1 - n)) ((#[] : Array Nat), n) (StrLaws.occBody x (S [c]) x.length 1)).run.fst = #[] := Array.toList_eq_nil_iff.mp hq
        rw [this] at h0; simp at h0
      | cons b r =>
        have hb : (forIn (List.range' n (x.length + 1 - n)) ((#[] : Array Nat), n) (StrLaws.occBody x (S [c]) x.length 1)).run.fst[0]? = some b := by
          rw [← Array.getElem?_toList, hq]; rfl
        rw [hb] at h0
        cases h0; rfl
    · have hjm : j ∈ pre := by
        have hlt := (List.getElem?_eq_some_iff.mp hc).1
        have hjr : j ∈ List.range' n (x.length + 1 - n) := List.mem_range'_1.mpr ⟨by omega, by omega⟩
        have hp : (pre ++ a :: post).Pairwise (· < ·) := by rw [← e]; exact List.pairwise_lt_range'
        rw [e] at hjr
        rcases List.mem_append.mp hjr with q | q
        · exact q
        · rcases List.mem_cons.mp q with q | q
          · omega
          · have := (List.pairwise_cons.mp (List.pairwise_append.mp hp).2.1).1 j q
            omega
      exact hn j hjm ((at_one (by omega)).mpr ⟨by have := (List.getElem?_eq_some_iff.mp hc).1; omega, hc⟩)
theorem rfind_in (x : Str) (c : Nat) {i m : Int} (h : 0 ≤ i) (hm : 0 ≤ m) :
    (Txt.rfindIn x (S [c]) i m = -1 ∧ ∀ k : Nat, i ≤ (k : Int) → (k : Int) < m → (tl x)[k]? ≠ some c) ∨ ∃ k : Nat, Txt.rfindIn x (S [c]) i m = (k : Int) ∧ i ≤ (k : Int) ∧ (k : Int) < m ∧ (tl x)[k]? = some c ∧ ∀ j : Nat, k < j → (j : Int) < m → (tl x)[j]? ≠ some c := by
  obtain ⟨n, rfl⟩ := Int.eq_ofNat_of_zero_le h
  obtain ⟨e, rfl⟩ := Int.eq_ofNat_of_zero_le hm
  have hf : fromIndex x.length (n : Int) = n := by
    unfold fromIndex
    rw [if_neg (by omega), Int.max_eq_right (by omega)]; rfl
  have ht : toIndexW x.length (e : Int) = min e x.length := by
    unfold toIndexW
    rw [if_neg (by omega), Int.max_eq_right (by omega)]; rfl
  have hx : x.length = (tl x).length := tl_len x
  unfold Txt.rfindIn
  rw [hf, ht, StrLaws.last_eq]
  have key := StrLaws.last_run x (S [c]) (min e x.length) (List.range' n (min e x.length + 1 - n)) [] none (fun _ h => nomatch h) (fun _ h => nomatch h) List.pairwise_lt_range'
  rw [List.nil_append] at key
  cases hq : (forIn (List.range' n (min e x.length + 1 - n)) none (StrLaws.lastBody x (S [c]) (min e x.length))).run with
  | none =>
    rw [hq] at key
    refine .inl ⟨rfl, fun k hk hk2 hc => ?_⟩
    have hlt := (List.getElem?_eq_some_iff.mp hc).1
    exact key k (List.mem_range'_1.mpr ⟨by omega, by omega⟩) ((at_one (by omega)).mpr ⟨by omega, hc⟩)
  | some a =>
    rw [hq] at key
    obtain ⟨ha, hl⟩ := key
    have h1 := (at_one (by omega)).mp ha
    have hr : n ≤ a := by
      -- the last place is one of those that were looked at
      have : ∀ (l : List Nat) (st : Option Nat) (b : Nat), (forIn l st (StrLaws.lastBody x (S [c]) (min e x.length))).run = some b → st = some b ∨ b ∈ l := by
        intro l
        induction l with
        | nil => intro st b hb; exact .inl hb
        | cons d l ih =>
          intro st b hb
          rw [List.forIn_cons] at hb
          unfold StrLaws.lastBody at hb
          split at hb
          · rcases ih _ _ hb with q | q
            · exact .inr (by cases q; exact List.mem_cons_self)
            · exact .inr (List.mem_cons_of_mem _ q)
          · rcases ih _ _ hb with q | q
            · exact .inl q
            · exact .inr (List.mem_cons_of_mem _ q)
      rcases this _ _ _ hq with q | q
      · cases q
      · exact (List.mem_range'_1.mp q).1
    refine .inr ⟨a, rfl, by omega, by omega, h1.2, fun j hj hj2 hc => ?_⟩
    have hlt := (List.getElem?_eq_some_iff.mp hc).1
    exact hl j (List.mem_range'_1.mpr ⟨by omega, by omega⟩) hj ((at_one (by omega)).mpr ⟨by omega, hc⟩)

theorem tl_inj : ∀ {a b : List Str}, a.map tl = b.map tl → a = b
  | [], [], _ => rfl
  | [], _ :: _, h => by cases h
  | _ :: _, [], h => by cases h
  | x :: a, y :: b, h => by
    rw [List.map_cons, List.map_cons] at h
    obtain ⟨h1, h2⟩ := List.cons.inj h
    rw [tl_ext h1, tl_inj h2]
theorem DV.strsT {K : PySem.W.Frag} {H : Hp} {p : Addr} {xs : List Str} (h : SqT K H p (xs.map V.str)) : DV K H (.tup (xs.map D.str)) (.ref p) := by
  unfold DV
  exact ⟨p, _, rfl, h, DVs.strs xs⟩
end Z
namespace Z
open PySem L2 SX
def top (i : Nat) : Stmt := PySem.Challenge.pw_criermoot_k54_letters.main.body.getD i (.Pass ⟨0, 0, 0, 0⟩)
abbrev s_id_text : Stmt := top 1
abbrev N_id_text : List Str := ["id"]
theorem sc_id_text : FnScope ["id"] ["id"] (defScope s_id_text) := ⟨rfl, rfl, rfl, by decide +kernel, rfl, by decide +kernel, by decide +kernel⟩
abbrev s_add_place : Stmt := top 3
abbrev N_add_place : List Str := ["glob", "places", "place"]
theorem sc_add_place : FnScope ["glob", "places", "place"] ["glob", "places", "place"] (defScope s_add_place) := ⟨rfl, rfl, rfl, by decide +kernel, rfl, by decide +kernel, by decide +kernel⟩
abbrev s_follows : Stmt := top 4
abbrev N_follows : List Str := ["glob", "standing", "character", "places", "place"]
theorem sc_follows : FnScope ["glob", "standing", "character", "places", "place"] ["glob", "standing", "character"] (defScope s_follows) := ⟨rfl, rfl, rfl, by decide +kernel, rfl, by decide +kernel, by decide +kernel⟩
abbrev s_standing : Stmt := top 5
abbrev N_standing : List Str := ["glob", "beginning", "places", "found", "character"]
theorem sc_standing : FnScope ["glob", "beginning", "places", "found", "character"] ["glob", "beginning"] (defScope s_standing) := ⟨rfl, rfl, rfl, by decide +kernel, rfl, by decide +kernel, by decide +kernel⟩
abbrev s_fits : Stmt := top 6
abbrev N_fits : List Str := ["glob", "board"]
theorem sc_fits : FnScope ["glob", "board"] ["glob", "board"] (defScope s_fits) := ⟨rfl, rfl, rfl, by decide +kernel, rfl, by decide +kernel, by decide +kernel⟩
abbrev s_items_of : Stmt := top 8
abbrev N_items_of : List Str := ["pattern", "item"]
theorem sc_items_of : FnScope ["pattern", "item"] ["pattern"] (defScope s_items_of) := ⟨rfl, rfl, rfl, by decide +kernel, rfl, by decide +kernel, by decide +kernel⟩
abbrev s_lets : Stmt := top 9
abbrev N_lets : List Str := ["pattern", "board", "sign", "glob"]
theorem sc_lets : FnScope ["pattern", "board", "sign", "glob"] ["pattern", "board"] (defScope s_lets) := ⟨rfl, rfl, rfl, by decide +kernel, rfl, by decide +kernel, by decide +kernel⟩
abbrev s_steward_of : Stmt := top 11
abbrev N_steward_of : List Str := ["book", "board", "entry"]
theorem sc_steward_of : FnScope ["book", "board", "entry"] ["book", "board"] (defScope s_steward_of) := ⟨rfl, rfl, rfl, by decide +kernel, rfl, by decide +kernel, by decide +kernel⟩
abbrev s_needed_seals : Stmt := top 12
abbrev N_needed_seals : List Str := ["book", "boards", "seals", "board", "address"]
theorem sc_needed_seals : FnScope ["book", "boards", "seals", "board", "address"] ["book", "boards"] (defScope s_needed_seals) := ⟨rfl, rfl, rfl, by decide +kernel, rfl, by decide +kernel, by decide +kernel⟩
abbrev s_missing_seals : Stmt := top 14
abbrev N_missing_seals : List Str := ["book", "notice", "address"]
theorem sc_missing_seals : FnScope ["book", "notice", "address"] ["book", "notice"] (defScope s_missing_seals) := ⟨rfl, rfl, rfl, by decide +kernel, rfl, by decide +kernel, by decide +kernel⟩
abbrev s_submitted_to : Stmt := top 15
abbrev N_submitted_to : List Str := ["notice", "goal", "needed", "seen", "key"]
theorem sc_submitted_to : FnScope ["notice", "goal", "needed", "seen", "key"] ["notice", "goal", "needed", "seen"] (defScope s_submitted_to) := ⟨rfl, rfl, rfl, by decide +kernel, rfl, by decide +kernel, by decide +kernel⟩
abbrev s_submission : Stmt := top 16
abbrev N_submission : List Str := ["book", "notice", "missing"]
theorem sc_submission : FnScope ["book", "notice", "missing"] ["book", "notice"] (defScope s_submission) := ⟨rfl, rfl, rfl, by decide +kernel, rfl, by decide +kernel, by decide +kernel⟩
abbrev s_note_to : Stmt := top 17
abbrev N_note_to : List Str := ["notice", "verdict"]
theorem sc_note_to : FnScope ["notice", "verdict"] ["notice", "verdict"] (defScope s_note_to) := ⟨rfl, rfl, rfl, by decide +kernel, rfl, by decide +kernel, by decide +kernel⟩
abbrev s_copy_to : Stmt := top 18
abbrev N_copy_to : List Str := ["notice", "list_address", "member", "key"]
theorem sc_copy_to : FnScope ["notice", "list_address", "member", "key"] ["notice", "list_address", "member"] (defScope s_copy_to) := ⟨rfl, rfl, rfl, by decide +kernel, rfl, by decide +kernel, by decide +kernel⟩
abbrev s__law_mix : Stmt := top 20
abbrev N__law_mix : List Str := ["seed", "turn", "number"]
theorem sc__law_mix : FnScope ["seed", "turn", "number"] ["seed", "turn"] (defScope s__law_mix) := ⟨rfl, rfl, rfl, by decide +kernel, rfl, by decide +kernel, by decide +kernel⟩
abbrev s__law_source : Stmt := top 21
abbrev N__law_source : List Str := ["script", "seed", "k"]
theorem sc__law_source : FnScope ["script", "seed", "k"] ["script"] (defScope s__law_source) := ⟨rfl, rfl, rfl, by decide +kernel, rfl, by decide +kernel, by decide +kernel⟩
abbrev s__law_draw : Stmt := top 22
abbrev N__law_draw : List Str := ["source", "many", "cell", "value"]
theorem sc__law_draw : FnScope ["source", "many", "cell", "value"] ["source", "many"] (defScope s__law_draw) := ⟨rfl, rfl, rfl, by decide +kernel, rfl, by decide +kernel, by decide +kernel⟩
abbrev s__law_pick : Stmt := top 23
abbrev N__law_pick : List Str := ["source", "row"]
theorem sc__law_pick : FnScope ["source", "row"] ["source", "row"] (defScope s__law_pick) := ⟨rfl, rfl, rfl, by decide +kernel, rfl, by decide +kernel, by decide +kernel⟩
abbrev s__law_shuffled : Stmt := top 24
abbrev N__law_shuffled : List Str := ["source", "row", "left", "done", "k"]
theorem sc__law_shuffled : FnScope ["source", "row", "left", "done", "k"] ["source", "row"] (defScope s__law_shuffled) := ⟨rfl, rfl, rfl, by decide +kernel, rfl, by decide +kernel, by decide +kernel⟩
abbrev s__law_new_name : Stmt := top 25
abbrev N__law_new_name : List Str := ["source", "used", "letters", "size", "name", "k", "tried"]
theorem sc__law_new_name : FnScope ["source", "used", "letters", "size", "name", "k", "tried"] ["source", "used"] (defScope s__law_new_name) := ⟨rfl, rfl, rfl, by decide +kernel, rfl, by decide +kernel, by decide +kernel⟩
abbrev s__law_names : Stmt := top 26
abbrev N__law_names : List Str := ["source", "many", "used", "k"]
theorem sc__law_names : FnScope ["source", "many", "used", "k"] ["source", "many"] (defScope s__law_names) := ⟨rfl, rfl, rfl, by decide +kernel, rfl, by decide +kernel, by decide +kernel⟩
abbrev s__law_row : Stmt := top 27
abbrev N__law_row : List Str := ["source", "size", "signs", "k"]
theorem sc__law_row : FnScope ["source", "size", "signs", "k"] ["source", "size"] (defScope s__law_row) := ⟨rfl, rfl, rfl, by decide +kernel, rfl, by decide +kernel, by decide +kernel⟩
abbrev s__law_words : Stmt := top 28
abbrev N__law_words : List Str := ["source"]
theorem sc__law_words : FnScope ["source"] ["source"] (defScope s__law_words) := ⟨rfl, rfl, rfl, by decide +kernel, rfl, by decide +kernel, by decide +kernel⟩
abbrev s__law_board : Stmt := top 29
abbrev N__law_board : List Str := ["source", "words", "size", "k"]
theorem sc__law_board : FnScope ["source", "words", "size", "k"] ["source", "words"] (defScope s__law_board) := ⟨rfl, rfl, rfl, by decide +kernel, rfl, by decide +kernel, by decide +kernel⟩
abbrev s__law_boards : Stmt := top 30
abbrev N__law_boards : List Str := ["source", "words", "most", "found", "k", "board"]
theorem sc__law_boards : FnScope ["source", "words", "most", "found", "k", "board"] ["source", "words", "most"] (defScope s__law_boards) := ⟨rfl, rfl, rfl, by decide +kernel, rfl, by decide +kernel, by decide +kernel⟩
abbrev s__law_glob : Stmt := top 31
abbrev N__law_glob : List Str := ["source", "words", "word", "menu"]
theorem sc__law_glob : FnScope ["source", "words", "word", "menu"] ["source", "words"] (defScope s__law_glob) := ⟨rfl, rfl, rfl, by decide +kernel, rfl, by decide +kernel, by decide +kernel⟩
abbrev s__law_pattern : Stmt := top 32
abbrev N__law_pattern : List Str := ["source", "words", "many", "items", "k"]
theorem sc__law_pattern : FnScope ["source", "words", "many", "items", "k"] ["source", "words"] (defScope s__law_pattern) := ⟨rfl, rfl, rfl, by decide +kernel, rfl, by decide +kernel, by decide +kernel⟩
abbrev s__law_fits : Stmt := top 33
abbrev N__law_fits : List Str := ["glob", "board", "spots", "k", "sign", "after"]
theorem sc__law_fits : FnScope ["glob", "board", "spots", "k", "sign", "after"] ["glob", "board"] (defScope s__law_fits) := ⟨rfl, rfl, rfl, by decide +kernel, rfl, by decide +kernel, by decide +kernel⟩
abbrev s__law_lets : Stmt := top 34
abbrev N__law_lets : List Str := ["pattern", "board", "answer", "item"]
theorem sc__law_lets : FnScope ["pattern", "board", "answer", "item"] ["pattern", "board"] (defScope s__law_lets) := ⟨rfl, rfl, rfl, by decide +kernel, rfl, by decide +kernel, by decide +kernel⟩
abbrev s__law_steward : Stmt := top 35
abbrev N__law_steward : List Str := ["book", "board", "entry"]
theorem sc__law_steward : FnScope ["book", "board", "entry"] ["book", "board"] (defScope s__law_steward) := ⟨rfl, rfl, rfl, by decide +kernel, rfl, by decide +kernel, by decide +kernel⟩
abbrev s__law_needed : Stmt := top 36
abbrev N__law_needed : List Str := ["book", "boards", "found", "board", "address"]
theorem sc__law_needed : FnScope ["book", "boards", "found", "board", "address"] ["book", "boards"] (defScope s__law_needed) := ⟨rfl, rfl, rfl, by decide +kernel, rfl, by decide +kernel, by decide +kernel⟩
abbrev s__law_is_int : Stmt := top 37
abbrev N__law_is_int : List Str := ["value"]
theorem sc__law_is_int : FnScope ["value"] ["value"] (defScope s__law_is_int) := ⟨rfl, rfl, rfl, by decide +kernel, rfl, by decide +kernel, by decide +kernel⟩
abbrev s__law_same : Stmt := top 38
abbrev N__law_same : List Str := ["actual", "due", "k"]
theorem sc__law_same : FnScope ["actual", "due", "k"] ["actual", "due"] (defScope s__law_same) := ⟨rfl, rfl, rfl, by decide +kernel, rfl, by decide +kernel, by decide +kernel⟩
abbrev s__law_body : Stmt := top 39
abbrev N__law_body : List Str := ["source", "way", "first", "rows", "k"]
theorem sc__law_body : FnScope ["source", "way", "first", "rows", "k"] ["source"] (defScope s__law_body) := ⟨rfl, rfl, rfl, by decide +kernel, rfl, by decide +kernel, by decide +kernel⟩
abbrev s__law_lines : Stmt := top 40
abbrev N__law_lines : List Str := ["source", "names", "pairs", "k", "one", "two"]
theorem sc__law_lines : FnScope ["source", "names", "pairs", "k", "one", "two"] ["source", "names"] (defScope s__law_lines) := ⟨rfl, rfl, rfl, by decide +kernel, rfl, by decide +kernel, by decide +kernel⟩
abbrev s__law_feeds : Stmt := top 41
abbrev N__law_feeds : List Str := ["source", "lines", "words", "wide", "feeds", "pair", "way", "giver", "taker", "pattern", "hops", "size"]
theorem sc__law_feeds : FnScope ["source", "lines", "words", "wide", "feeds", "pair", "way", "giver", "taker", "pattern", "hops", "size"] ["source", "lines", "words", "wide"] (defScope s__law_feeds) := ⟨rfl, rfl, rfl, by decide +kernel, rfl, by decide +kernel, by decide +kernel⟩
abbrev s__law_sites : Stmt := top 42
abbrev N__law_sites : List Str := ["source", "names", "words", "window", "offsets", "rows", "greatest", "k", "lot", "memory", "term"]
theorem sc__law_sites : FnScope ["source", "names", "words", "window", "offsets", "rows", "greatest", "k", "lot", "memory", "term"] ["source", "names", "words", "window", "offsets"] (defScope s__law_sites) := ⟨rfl, rfl, rfl, by decide +kernel, rfl, by decide +kernel, by decide +kernel⟩
abbrev s__law_book : Stmt := top 43
abbrev N__law_book : List Str := ["source", "many", "words", "names", "window", "offsets", "first", "waits", "lines", "feeds", "sites", "k"]
theorem sc__law_book : FnScope ["source", "many", "words", "names", "window", "offsets", "first", "waits", "lines", "feeds", "sites", "k"] ["source", "many", "words"] (defScope s__law_book) := ⟨rfl, rfl, rfl, by decide +kernel, rfl, by decide +kernel, by decide +kernel⟩
abbrev s__law_basic : Stmt := top 44
abbrev N__law_basic : List Str := ["source", "words", "names", "addresses", "way"]
theorem sc__law_basic : FnScope ["source", "words", "names", "addresses", "way"] ["source", "words", "names", "addresses"] (defScope s__law_basic) := ⟨rfl, rfl, rfl, by decide +kernel, rfl, by decide +kernel, by decide +kernel⟩
abbrev s__law_policy : Stmt := top 45
abbrev N__law_policy : List Str := ["source", "words", "names", "addresses", "rules", "k", "test", "menu"]
theorem sc__law_policy : FnScope ["source", "words", "names", "addresses", "rules", "k", "test", "menu"] ["source", "words", "names", "addresses"] (defScope s__law_policy) := ⟨rfl, rfl, rfl, by decide +kernel, rfl, by decide +kernel, by decide +kernel⟩
abbrev s__law_with_stewards : Stmt := top 46
abbrev N__law_with_stewards : List Str := ["source", "book", "words", "most", "names", "people", "addresses", "entries", "address", "policy", "site", "person"]
theorem sc__law_with_stewards : FnScope ["source", "book", "words", "most", "names", "people", "addresses", "entries", "address", "policy", "site", "person"] ["source", "book", "words", "most"] (defScope s__law_with_stewards) := ⟨rfl, rfl, rfl, by decide +kernel, rfl, by decide +kernel, by decide +kernel⟩
abbrev s__law_kind : Stmt := top 47
abbrev N__law_kind : List Str := ["source", "other", "way"]
theorem sc__law_kind : FnScope ["source", "other", "way"] ["source", "other"] (defScope s__law_kind) := ⟨rfl, rfl, rfl, by decide +kernel, rfl, by decide +kernel, by decide +kernel⟩
abbrev s__law_some_seals : Stmt := top 48
abbrev N__law_some_seals : List Str := ["source", "book", "boards", "needed", "strangers", "way", "row", "entry"]
theorem sc__law_some_seals : FnScope ["source", "book", "boards", "needed", "strangers", "way", "row", "entry"] ["source", "book", "boards"] (defScope s__law_some_seals) := ⟨rfl, rfl, rfl, by decide +kernel, rfl, by decide +kernel, by decide +kernel⟩
abbrev s__law_notice : Stmt := top 49
abbrev N__law_notice : List Str := ["source", "book", "words", "name", "number", "other", "author", "date", "boards", "refs", "first"]
theorem sc__law_notice : FnScope ["source", "book", "words", "name", "number", "other", "author", "date", "boards", "refs", "first"] ["source", "book", "words"] (defScope s__law_notice) := ⟨rfl, rfl, rfl, by decide +kernel, rfl, by decide +kernel, by decide +kernel⟩
abbrev s__law_id_text : Stmt := top 50
abbrev N__law_id_text : List Str := ["notice"]
theorem sc__law_id_text : FnScope ["notice"] ["notice"] (defScope s__law_id_text) := ⟨rfl, rfl, rfl, by decide +kernel, rfl, by decide +kernel, by decide +kernel⟩
abbrev s__law_lacking : Stmt := top 51
abbrev N__law_lacking : List Str := ["book", "notice", "address"]
theorem sc__law_lacking : FnScope ["book", "notice", "address"] ["book", "notice"] (defScope s__law_lacking) := ⟨rfl, rfl, rfl, by decide +kernel, rfl, by decide +kernel, by decide +kernel⟩
abbrev s__law_submission_due : Stmt := top 52
abbrev N__law_submission_due : List Str := ["book", "notice", "lacking", "key"]
theorem sc__law_submission_due : FnScope ["book", "notice", "lacking", "key"] ["book", "notice"] (defScope s__law_submission_due) := ⟨rfl, rfl, rfl, by decide +kernel, rfl, by decide +kernel, by decide +kernel⟩
abbrev s__law_submissions_right : Stmt := top 53
abbrev N__law_submissions_right : List Str := ["source", "book", "other", "notice", "now", "step", "one", "lacking"]
theorem sc__law_submissions_right : FnScope ["source", "book", "other", "notice", "now", "step", "one", "lacking"] ["source", "book", "other", "notice"] (defScope s__law_submissions_right) := ⟨rfl, rfl, rfl, by decide +kernel, rfl, by decide +kernel, by decide +kernel⟩
abbrev s__law_other_letters_right : Stmt := top 54
abbrev N__law_other_letters_right : List Str := ["notice", "said", "home", "member", "note", "key"]
theorem sc__law_other_letters_right : FnScope ["notice", "said", "home", "member", "note", "key"] ["notice", "said", "home", "member"] (defScope s__law_other_letters_right) := ⟨rfl, rfl, rfl, by decide +kernel, rfl, by decide +kernel, by decide +kernel⟩
abbrev s_law : Stmt := top 55
abbrev N_law : List Str := ["script", "source", "words", "book", "other", "names", "turn", "notice", "home", "member", "refusal", "site"]
theorem sc_law : FnScope ["script", "source", "words", "book", "other", "names", "turn", "notice", "home", "member", "refusal", "site"] ["script"] (defScope s_law) := ⟨rfl, rfl, rfl, by decide +kernel, rfl, by decide +kernel, by decide +kernel⟩
structure Tx (mg : Str → Option Value) : Prop where
  n_abs : mg "abs" = none
  n_bool : mg "bool" = none
  n_int : mg "int" = none
  n_isinstance : mg "isinstance" = none
  n_len : mg "len" = none
  n_list : mg "list" = none
  n_max : mg "max" = none
  n_min : mg "min" = none
  n_range : mg "range" = none
  n_reversed : mg "reversed" = none
  n_sorted : mg "sorted" = none
  n_str : mg "str" = none
  n_tuple : mg "tuple" = none
end Z
namespace Z
open PySem PySem.Spec PyProof.Rows L2 SX
/-! ### enumerate(text) -/
def ItEs (x : Str) : It := ⟨fun i _ => i < x.cps.size, fun i H v H' => ∃ (T : Addr) (c : Nat), v = .ref T ∧ H T = none ∧ H' = upd H T (.tup [.int (i : Nat), .str ⟨#[c]⟩]) ∧ x.cps[i]? = some c, fun i _ => i = x.cps.size⟩
theorem turn_enumS {P : Program} {w : World} {K : PySem.W.Frag} {elts : List Expr} {kk : Nat} {tpos : Pos} (x : Str) (t : Tok) (e it : Addr) :
    Turn P w K (.Tuple elts kk tpos) (ItEs x) [e, it] e (fun i h => (∃ old, IsEnum h e it ((i : Nat) : Int) old) ∧ h.IsStrIter it (strIterType x) x t i ∧ e ≠ it) where
  mem := by simp
  obj := fun i h st b hb => by
    obtain ⟨⟨old, he⟩, ⟨o, ho, hc, hd⟩, _⟩ := st
    have e' : b = e ∨ b = it := by simpa using hb
    rcases e' with z | z
    · rw [z]; exact ⟨_, he, fun v q => nomatch q⟩
    · rw [z]; exact ⟨o, ho, fun v q => by rw [hd] at q; cases q⟩
  keep := fun i h h' st k => by
    obtain ⟨⟨old, he⟩, ⟨o, ho, r⟩, hne⟩ := st
    exact ⟨⟨old, k e (by simp) _ he⟩, ⟨o, k it (by simp) o ho, r⟩, hne⟩
  item := by
    intro X hP hw hK hc i pins s σ H E I hf st hg
    subst hP hw hK
    obtain ⟨⟨old, he⟩, hit, hne⟩ := st
    have hel : e < s.heap.objs.size := Heap.lt_size he
    have hil : it < s.heap.objs.size := by obtain ⟨_, q, _⟩ := hit; exact Heap.lt_size q
    have D := Draws.text (prog := X.prog) (w := X.w) (A := X.A.in1) (I.ok.hd hc) it x t
    refine wpAny_pyNext_enum_itemC D he hit hg hne (by simp [hne]) fun v h' tk hv ho hit' hT hsz hk => ?_
    obtain ⟨c, u, hcx, rfl⟩ := hv
    refine ⟨_, rfl, wpAny_letOwnedTupleGo_enum (s := { s with heap := h', toks := tk + 1 }) ho fun h'' he' sb => ?_⟩
    have hT2 : h''.get? s.heap.objs.size = some { cls := .type "tuple", data := .seq #[.int i tk, .str ⟨#[c]⟩ u] } := (sb.2 _ (Nat.ne_of_gt hel)).trans hT
    have new : ObjOk X.prog X.w (upd H s.heap.objs.size (.tup [.int (i : Nat), .str ⟨#[c]⟩])) h'' s.heap.objs.size (.tup [.int (i : Nat), .str ⟨#[c]⟩]) :=
      ⟨by show 2 ≤ sizeLine; decide, [.int i tk, .str ⟨#[c]⟩ u], .cons ⟨_, rfl⟩ (.cons ⟨_, rfl⟩ .nil), ⟨_, hT2, rfl, _, rfl⟩⟩
    have I1 : Inv X pins σ (upd H s.heap.objs.size (.tup [.int (i : Nat), .str ⟨#[c]⟩])) { s with heap := h'', toks := tk + 1 } :=
      I.turnedNew (ch := [e, it]) (fun b ob hb q => (sb.2 b (fun z => hb (by simp [z]))).trans (hk b ob (fun z => hb (by simp [z])) (fun z => hb (by simp [z])) q)) hf (Nat.le_refl _) new
    refine ⟨.ref s.heap.objs.size, _, I1, rfl, ⟨_, c, rfl, I.hok.fresh (Nat.le_refl _), rfl, hcx⟩, ⟨⟨.str ⟨#[c]⟩ u, ?_⟩, ?_, hne⟩, fun b hb => ?_⟩
    · have e1 : ((i + 1 : Nat) : Int) = (i : Int) + 1 := by omega
      rw [e1]; exact he'
    · obtain ⟨o, q, r⟩ := hit'
      exact ⟨o, (sb.2 it (Ne.symm hne)).trans q, r⟩
    · have hb' : b < s.heap.objs.size := by
        have e' : b = e ∨ b = it := by simpa using hb
        rcases e' with z | z
        · rw [z]; exact hel
        · rw [z]; exact hil
      rw [upd_ne (Nat.ne_of_lt hb')]
      exact (hf b hb).1
  done := by
    intro X hP hw hK hc i pins s σ H E I hf st hg
    subst hP hw hK
    obtain ⟨⟨old, he⟩, hit, hne⟩ := st
    obtain ⟨f0, f1, f2, f3, f4, f5⟩ := hf it (by simp)
    have hg' : i = x.cps.size := hg
    subst hg'
    have D := Draws.text (prog := X.prog) (w := X.w) (A := X.A.in1) (I.ok.hd hc) it x t
    exact wpAny_pyNext_enum_endD D he hit fun h' eb => ⟨rfl, I.turned (t' := s.toks) (fun b o hb q => eb b o hb q) f0 f1 f3 f4 f5⟩
  self := fun A i s Q E st h => let ⟨⟨_, he⟩, _⟩ := st; wpAny_pyIter_enum he h
def iEnumS (ta : TA) : TI := fun σ H R => ta σ H fun vs H1 => ∃ x : Str, vs = [.str x] ∧ R (ItEs x) H1
theorem pi_enumS {X : Cx} {e : Expr} {ta : TA} {p pos tpos : Pos} {elts : List Expr} {kk : Nat} (hg : Gl X "enumerate") (hm : X.mg "enumerate" = none) (ha : PA X [e] ta) (hs : starEach [e] X.env = [(false, eval e X.env)] := by rfl) :
    PI X (.Tuple elts kk tpos) (.Call (.Name "enumerate" p) [e] [] pos) (iEnumS ta) := by
  refine ⟨fun pins s σ H R I h => ?_⟩
  refine Call_ (ld_blt I hg hm boot_enumerate (PyProof.Rows.callWith_type1 (thn (ha.run pos pins s σ H _ I h) fun us s1 ⟨vs, H1, I1, r1, q1⟩ => ?_) hs rfl))
  obtain ⟨x, ex, q⟩ := q1
  subst ex
  cases r1 with
  | cons r rr =>
    cases rr
    obtain ⟨t, rfl⟩ := r
    refine call_enumerate_str fun h' he hit hsz hk => wpAny_pyIter_enum he ?_
    have I2 : Inv X pins σ H1 { s1 with heap := h' } := I1.kept (t' := s1.toks) hk
    refine ⟨s1.heap.objs.size + 1, [s1.heap.objs.size + 1, s1.heap.objs.size], _, _, H1, rfl, I2, turn_enumS x t (s1.heap.objs.size + 1) s1.heap.objs.size, ⟨⟨.none, he⟩, hit, Nat.succ_ne_self _⟩, fun b hb => ?_, q⟩
    have e' : b = s1.heap.objs.size + 1 ∨ b = s1.heap.objs.size := by simpa using hb
    have hle : s1.heap.objs.size ≤ b := by
      rcases e' with z | z
      · rw [z]; exact Nat.le_add_right _ _
      · rw [z]; exact Nat.le_refl _
    exact I1.fpOk hle (I1.hok.fresh hle)
theorem for_enumS {l : List Nat} {g : TG} {tb : TS} {D : Ends} {σ : L2.St} {H : Hp} (Pv : Nat → L2.St → Hp → Prop) (h0 : Pv 0 σ H)
    (hs : ∀ i c T σ H, l[i]? = some c → Pv i σ H → H T = none → g (.ref T) σ (upd H T (.tup [.int (i : Nat), .str (S [c])])) fun σ2 H2 => tb { D with nx := Pv (i + 1), ct := Pv (i + 1), bk := D.nx } σ2 H2) (hd : ∀ σ H, Pv l.length σ H → D.nx σ H) :
    ∃ W : Nat → Nat → L2.St → Hp → Prop, (∃ m, W 0 m σ H) ∧ ∀ i m σ H, W i m σ H →
      ((ItEs (S l)).stop i H ∧ D.nx σ H) ∨ ((ItEs (S l)).go i H ∧ ∃ N : L2.St → Hp → Prop, (∀ σ' H', N σ' H' → ∃ m', m' < m ∧ W (i + 1) m' σ' H') ∧ ∀ x H', (ItEs (S l)).yld i H x H' → g x σ H' fun σ2 H2 => tb { D with nx := N, ct := N, bk := D.nx } σ2 H2) := by
  refine ⟨fun i m σ H => m = l.length - i ∧ i ≤ l.length ∧ Pv i σ H, ⟨l.length, by simp, Nat.zero_le _, h0⟩, ?_⟩
  rintro i m σ H ⟨rfl, hi, p⟩
  by_cases hlt : i < l.length
  · refine .inr ⟨by show i < l.toArray.size; simpa using hlt, Pv (i + 1), fun σ' H' p' => ⟨l.length - (i + 1), by omega, rfl, hlt, p'⟩, fun x H' y => ?_⟩
    obtain ⟨T, c, rfl, hT, rfl, hc⟩ := y
    exact hs i c T _ _ (by simpa using hc) p hT
  · have e : i = l.length := by omega
    subst e
    exact .inl ⟨by show l.length = l.toArray.size; simp, hd σ H p⟩
end Z
namespace Z
open PySem L2 SX
/-! ### where a beginning stands in a glob -/
abbrev nts (l : List Nat) : List V := l.map fun k : Nat => V.int (k : Int)
def st0 (g : List Nat) : Nat → Prop
  | 0 => True
  | i + 1 => g[i]? = some 42 ∧ st0 g i
def nxt (g : List Nat) (M : Nat → Prop) (c : Nat) : Nat → Prop
  | 0 => False
  | i + 1 => (g[i]? = some 42 ∧ (nxt g M c i ∨ M (i + 1))) ∨ (g[i]? ≠ some 42 ∧ M i ∧ (g[i]? = some 63 ∨ g[i]? = some c))
def stand (g b : List Nat) : Nat → Prop := b.foldl (fun M c => nxt g M c) (st0 g)
/-- closed along stars -/
def closed (g : List Nat) (M : Nat → Prop) : Prop := ∀ y, M y → g[y]? = some 42 → M (y + 1)
def within (g : List Nat) (M : Nat → Prop) : Prop := ∀ y, M y → y ≤ g.length
theorem st0_closed (g : List Nat) : closed g (st0 g) := fun _ h e => ⟨e, h⟩
theorem st0_within (g : List Nat) : within g (st0 g) := fun y h => by
  cases y with
  | zero => omega
  | succ i => have := (List.getElem?_eq_some_iff.mp h.1).1; omega
theorem nxt_closed (g : List Nat) (M : Nat → Prop) (c : Nat) : closed g (nxt g M c) := fun _ h e => .inl ⟨e, .inl h⟩
theorem nxt_within (g : List Nat) (M : Nat → Prop) (c : Nat) : within g (nxt g M c) := fun y h => by
  cases y with
  | zero => omega
  | succ i =>
    rcases h with ⟨h, _⟩ | ⟨_, _, h | h⟩ <;> (have := (List.getElem?_eq_some_iff.mp h).1; omega)
theorem stand_nil (g : List Nat) : stand g [] = st0 g := rfl
theorem stand_snoc (g b : List Nat) (c : Nat) : stand g (b ++ [c]) = nxt g (stand g b) c := by unfold stand; rw [List.foldl_append]; rfl
theorem stand_ok (g b : List Nat) : closed g (stand g b) ∧ within g (stand g b) := by
  unfold stand
  rw [← List.reverse_reverse b, List.foldl_reverse]
  cases b.reverse with
  | nil => exact ⟨st0_closed g, st0_within g⟩
  | cons c r => exact ⟨nxt_closed g _ c, nxt_within g _ c⟩
/-- the places, ascending -/
def Asd (ps : List Nat) (M : Nat → Prop) : Prop := ps.Pairwise (· < ·) ∧ ∀ y, y ∈ ps ↔ M y
theorem asd_one : ∀ {a b : List Nat}, a.Pairwise (· < ·) → b.Pairwise (· < ·) → (∀ y, y ∈ a ↔ y ∈ b) → a = b
  | [], [], _, _, _ => rfl
  | [], y :: b, _, _, h => by have := (h y).mpr (by simp); cases this
  | x :: a, [], _, _, h => by have := (h x).mp (by simp); cases this
  | x :: a, y :: b, pa, pb, h => by
    have ha := List.pairwise_cons.mp pa
    have hb := List.pairwise_cons.mp pb
    have e : x = y := by
      have h1 := (h x).mp (by simp)
      have h2 := (h y).mpr (by simp)
      rcases List.mem_cons.mp h1 with e | e
      · exact e
      · rcases List.mem_cons.mp h2 with f | f
        · exact f.symm
        · have := hb.1 x e; have := ha.1 y f; omega
    subst e
    rw [asd_one ha.2 hb.2 fun z => ?_]
    constructor
    · intro hz
      rcases List.mem_cons.mp ((h z).mp (List.mem_cons_of_mem _ hz)) with e | e
      · subst e; have := ha.1 z hz; omega
      · exact e
    · intro hz
      rcases List.mem_cons.mp ((h z).mpr (List.mem_cons_of_mem _ hz)) with e | e
      · subst e; have := hb.1 z hz; omega
      · exact e
theorem Asd.one {a b : List Nat} {M : Nat → Prop} (x : Asd a M) (y : Asd b M) : a = b := asd_one x.1 y.1 fun z => (x.2 z).trans (y.2 z).symm
theorem Asd.congr {a : List Nat} {M N : Nat → Prop} (x : Asd a M) (h : ∀ y, M y ↔ N y) : Asd a N := ⟨x.1, fun y => (x.2 y).trans (h y)⟩
theorem Asd.len {a : List Nat} {M : Nat → Prop} {g : List Nat} (x : Asd a M) (w : within g M) : a.length ≤ g.length + 1 := by
  have : ∀ (n : Nat) (l : List Nat), l.Pairwise (· < ·) → (∀ y ∈ l, y < n) → l.length ≤ n := by
    intro n
    induction n with
    | zero => intro l _ h; cases l with
      | nil => simp
      | cons y r => have := h y (by simp); omega
    | succ n ih =>
      intro l p h
      rcases List.eq_nil_or_concat l with e | ⟨r, z, e⟩
      · subst e; simp
      · subst e
        rw [List.concat_eq_append] at p h ⊢
        have h2 := ih r (List.pairwise_append.mp p).1 (fun y hy => by
          have := (List.pairwise_append.mp p).2.2 y hy z (by simp)
          have := h z (by simp)
          omega)
        rw [List.length_append]; simp; exact h2
  exact this (g.length + 1) a x.1 fun y hy => by have := w y ((x.2 y).mp hy); omega
/-- a row of stars behind x -/
def isRun (g : List Nat) (x k : Nat) : Prop := (∀ j, j < k → g[x + j]? = some 42) ∧ g[x + k]? ≠ some 42
/-- places that are built up: L so far, m the greatest one that was put in, A what was put in -/
structure Up (g L : List Nat) (m : Nat) (A : Nat → Prop) : Prop where
  asc : L.Pairwise (· < ·)
  cl : ∀ y ∈ L, g[y]? = some 42 → y + 1 ∈ L
  gap : ∀ y z, m ≤ y → y ≤ z → z ∈ L → y ∈ L
  has : ∀ y, A y → y ∈ L
  only : ∀ (N : Nat → Prop), closed g N → (∀ y, A y → N y) → ∀ y ∈ L, N y
theorem Up.nil (g : List Nat) : Up g [] 0 (fun _ => False) := ⟨.nil, (fun _ h => by cases h), (fun _ _ _ _ h => by cases h), (fun _ h => h.elim), (fun _ _ _ _ h => by cases h)⟩
theorem Up.stay {g L : List Nat} {m x z : Nat} {A : Nat → Prop} (u : Up g L m A) (hm : m ≤ x) (hz : z ∈ L) (hx : x ≤ z) : Up g L x (fun y => A y ∨ y = x) :=
  ⟨u.asc, u.cl, fun y z a b c => u.gap y z (by omega) b c, fun y h => h.elim (u.has y) fun e => by subst e; exact u.gap _ _ hm hx hz, fun N c h => u.only N c fun y a => h y (.inl a)⟩
theorem run_mem {x k y : Nat} : y ∈ List.range' x (k + 1) ↔ x ≤ y ∧ y ≤ x + k := by rw [List.mem_range'_1]; omega
theorem Up.more {g L : List Nat} {m x k : Nat} {A : Nat → Prop} (u : Up g L m A) (hl : ∀ y ∈ L, y < x) (hr : isRun g x k) : Up g (L ++ List.range' x (k + 1)) x (fun y => A y ∨ y = x) := by
  refine ⟨?_, ?_, ?_, ?_, ?_⟩
  · exact List.pairwise_append.mpr ⟨u.asc, List.pairwise_lt_range', fun a ha b hb => by have := hl a ha; have := (run_mem.mp hb).1; omega⟩
  · intro y hy e
    rcases List.mem_append.mp hy with h | h
    · exact List.mem_append_left _ (u.cl y h e)
    · refine List.mem_append_right _ (run_mem.mpr ?_)
      have := run_mem.mp h
      by_cases q : y = x + k
      · subst q; exact absurd e hr.2
      · omega
  · intro y z hy hyz hz
    rcases List.mem_append.mp hz with h | h
    · have := hl z h; omega
    · have := run_mem.mp h
      exact List.mem_append_right _ (run_mem.mpr ⟨by omega, by omega⟩)
  · intro y h
    rcases h with h | e
    · exact List.mem_append_left _ (u.has y h)
    · subst e; exact List.mem_append_right _ (run_mem.mpr ⟨Nat.le_refl _, by omega⟩)
  · intro N c h y hy
    rcases List.mem_append.mp hy with q | q
    · exact u.only N c (fun z a => h z (.inl a)) y q
    · obtain ⟨q1, q2⟩ := run_mem.mp q
      have : ∀ j, j ≤ k → N (x + j) := by
        intro j
        induction j with
        | zero => intro _; exact h x (.inr rfl)
        | succ j ih => intro hj; exact c _ (ih (by omega)) (hr.1 j (by omega))
      have := this (y - x) (by omega)
      rwa [show x + (y - x) = y by omega] at this
theorem Up.congr {g L : List Nat} {m : Nat} {A B : Nat → Prop} (u : Up g L m A) (h : ∀ y, A y ↔ B y) : Up g L m B :=
  ⟨u.asc, u.cl, u.gap, fun y b => u.has y ((h y).mpr b), fun N c q => u.only N c fun y a => q y ((h y).mp a)⟩
/-- what is put in by the places of M that are taken -/
def puts (g : List Nat) (c : Nat) (T : Nat → Prop) (y : Nat) : Prop := (T y ∧ ∃ i, y = i + 1 ∧ g[i]? = some 42) ∨ ∃ i, y = i + 1 ∧ T i ∧ (g[i]? = some 63 ∨ g[i]? = some c)
theorem puts_next {g : List Nat} {M : Nat → Prop} {c : Nat} (hc : c ≠ 42) (cl : closed g M) {L : List Nat} {m : Nat} (u : Up g L m (puts g c M)) : Asd L (nxt g M c) := by
  refine ⟨u.asc, fun y => ⟨fun hy => u.only _ (nxt_closed g M c) (fun y p => ?_) y hy, ?_⟩⟩
  · rcases p with ⟨t, i, rfl, e⟩ | ⟨i, rfl, t, e⟩
    · exact .inl ⟨e, .inr t⟩
    · refine .inr ⟨fun q => ?_, t, e⟩
      rcases e with e | e <;> rw [e] at q
      · cases q
      · exact hc (Option.some.inj q)
  · intro h
    induction y with
    | zero => exact h.elim
    | succ i ih =>
      rcases h with ⟨e, h | h⟩ | ⟨_, t, e⟩
      · exact u.cl i (ih h) e
      · exact u.has _ (.inl ⟨h, i, rfl, e⟩)
      · exact u.has _ (.inr ⟨i, rfl, t, e⟩)
theorem start_asd {g L : List Nat} {m : Nat} (u : Up g L m (fun y => y = 0)) : Asd L (st0 g) := by
  refine ⟨u.asc, fun y => ⟨fun hy => u.only _ (st0_closed g) (fun y e => by subst e; exact True.intro) y hy, ?_⟩⟩
  intro h
  induction y with
  | zero => exact u.has 0 rfl
  | succ i ih => exact u.cl i (ih h.2) h.1
/-! ### promises -/
def sp_add_place : Sp := fun vs H Q _ => ∃ (g : Str) (p : Addr) (x : Nat) (L : List Nat) (m : Nat) (A : Nat → Prop), vs = [.str g, .ref p, .int (x : Int)] ∧ H p = some (.lst (nts L)) ∧ Up (tl g) L m A ∧ m ≤ x ∧ x ≤ (tl g).length ∧ (∀ y ∈ L, y ≤ (tl g).length) ∧ (tl g).length ≤ 10000 ∧
  ∀ (L' : List Nat) (H' : Hp), H' p = some (.lst (nts L')) → (∀ b, b ≠ p → H' b = H b) → Up (tl g) L' x (fun y => A y ∨ y = x) → (∀ y ∈ L', y ≤ (tl g).length) → Q .non H'
def sp_follows (K : PySem.W.Frag) : Sp := fun vs H Q _ => ∃ (g : Str) (a : Addr) (c : Nat) (ps : List Nat) (M : Nat → Prop), vs = [.str g, .ref a, .str (S [c])] ∧ SqT K H a (nts ps) ∧ Asd ps M ∧ closed (tl g) M ∧ within (tl g) M ∧ c ≠ 42 ∧ (tl g).length ≤ 10000 ∧
  ∀ (q : Addr) (qs : List Nat) (H' : Hp), Same H H' → H' q = some (.tup (nts qs)) → Asd qs (nxt (tl g) M c) → Q (.ref q) H'
def sp_standing (K : PySem.W.Frag) : Sp := fun vs H Q _ => ∃ (g b : Str), vs = [.str g, .str b] ∧ (∀ c ∈ tl b, c ≠ 42) ∧ (tl g).length ≤ 10000 ∧
  ∀ (q : Addr) (qs : List Nat) (H' : Hp), Same H H' → H' q = some (.tup (nts qs)) → Asd qs (stand (tl g) (tl b)) → Q (.ref q) H'
open Classical in
def sp_fits (K : PySem.W.Frag) : Sp := fun vs H Q _ => ∃ (g b : Str), vs = [.str g, .str b] ∧ (∀ c ∈ tl b, c ≠ 42) ∧ (tl g).length ≤ 10000 ∧
  ∀ (H' : Hp), Same H H' → Q (.bl (decide (stand (tl g) (tl b) (tl g).length))) H'
theorem inV_nts (n : Nat) (l : List Nat) : inV (V.int (n : Int)) (nts l) = decide (n ∈ l) := by
  unfold inV nts
  induction l with
  | nil => rfl
  | cons y ys ih =>
    rw [List.map_cons, List.any_cons, ih]
    by_cases e : n = y
    · subst e; simp [eqV]
    · have : ¬ (y : Int) = (n : Int) := fun h => e (by omega)
      simp [eqV, e, this]
theorem flat_nts (xs : List Nat) : (nts xs).all flatV = true := List.all_eq_true.mpr fun x h => by
  obtain ⟨y, _, rfl⟩ := List.mem_map.mp h; rfl
theorem DVs.nats {K : PySem.W.Frag} {H : Hp} (xs : List Nat) : DVs K H (xs.map fun k : Nat => D.int (k : Int)) (nts xs) := by
  have := DVs.ints (K := K) (H := H) (xs.map fun k : Nat => (k : Int))
  rwa [List.map_map, List.map_map] at this
theorem DV.nats {K : PySem.W.Frag} {H : Hp} {p : Addr} {xs : List Nat} (h : SqT K H p (nts xs)) : DV K H (.tup (xs.map fun k : Nat => D.int (k : Int))) (.ref p) := by
  unfold DV
  exact ⟨p, _, rfl, h, DVs.nats xs⟩
theorem DL.nats {n : Nat} (xs : List Nat) (h : xs.length ≤ 1000000) : DL (n + 2) (.tup (xs.map fun k : Nat => D.int (k : Int))) := ⟨by rw [List.length_map]; exact h, fun d m => by obtain ⟨x, _, rfl⟩ := List.mem_map.mp m; exact True.intro⟩
end Z
namespace Z
open PySem L2 SX
/-! ### patterns -/
def parts (p : List Nat) : List (List Nat) := TL.spl [44] 0 [] p
theorem spl_bound (c0 : Nat) : ∀ (l acc : List Nat), (∀ q ∈ TL.spl [c0] 0 acc l, q.length ≤ acc.length + l.length) ∧ (TL.spl [c0] 0 acc l).length ≤ l.length + 1
  | [], acc => by
    rw [TL.spl_nil]
    exact ⟨fun q h => by rw [List.mem_singleton.mp h]; exact Nat.le_refl _, Nat.le_refl _⟩
  | c :: r, acc => by
    cases h : TL.pre [c0] (c :: r) with
    | true =>
      rw [TL.spl_hit h]
      have ih := spl_bound c0 r []
      refine ⟨fun q hq => ?_, ?_⟩
      · rcases List.mem_cons.mp hq with e | e
        · subst e; omega
        · have := ih.1 q e; rw [List.length_nil] at this; rw [List.length_cons]; omega
      · have := ih.2; show (TL.spl [c0] 0 [] r).length + 1 ≤ r.length + 1 + 1; omega
    | false =>
      rw [TL.spl_miss h]
      have ih := spl_bound c0 r (acc ++ [c])
      refine ⟨fun q hq => ?_, ?_⟩
      · have := ih.1 q hq; rw [List.length_append] at this; rw [List.length_cons]; simp at this; omega
      · rw [List.length_cons]; have := ih.2; omega
theorem parts_len {p q : List Nat} (h : q ∈ parts p) : q.length ≤ p.length := by have := (spl_bound 44 p []).1 q h; rw [List.length_nil] at this; omega
theorem parts_num (p : List Nat) : (parts p).length ≤ p.length + 1 := (spl_bound 44 p []).2
/-- an item: its sign, its glob -/
def isBar (it : List Nat) : Bool := decide (it.take 1 = [33])
def globOf (it : List Nat) : List Nat := if isBar it = true then it.drop 1 else it
theorem globOf_len (it : List Nat) : (globOf it).length ≤ it.length := by
  unfold globOf; split
  · rw [List.length_drop]; omega
  · exact Nat.le_refl _
def fit (g b : List Nat) : Prop := stand g b g.length
open Classical in
noncomputable def letsL (its : List (List Nat)) (b : List Nat) : Bool := its.foldl (fun ans it => if fit (globOf it) b then !isBar it else ans) false
open Classical in
theorem lets_skip (b : List Nat) : ∀ (its : List (List Nat)) (v : Bool), (∀ it ∈ its, ¬ fit (globOf it) b) → its.foldl (fun ans it => if fit (globOf it) b then !isBar it else ans) v = v
  | [], _, _ => rfl
  | x :: r, v, h => by rw [List.foldl_cons, if_neg (h x (by simp))]; exact lets_skip b r v fun y hy => h y (List.mem_cons_of_mem _ hy)
theorem lets_last {its : List (List Nat)} {b : List Nat} {i : Nat} {it : List Nat} (h : its[i]? = some it) (hf : fit (globOf it) b) (hn : ∀ (j : Nat) (y : List Nat), i < j → its[j]? = some y → ¬ fit (globOf y) b) : letsL its b = !isBar it := by
  classical
  unfold letsL
  have e : its = its.take i ++ it :: its.drop (i + 1) := by
    obtain ⟨h1, h2⟩ := List.getElem?_eq_some_iff.mp h
    rw [← h2, List.getElem_cons_drop, List.take_append_drop]
  rw [e, List.foldl_append, List.foldl_cons, if_pos hf]
  refine lets_skip b _ _ fun y hy => ?_
  obtain ⟨j, hj, e2⟩ := List.getElem_of_mem hy
  refine hn (i + 1 + j) y (by omega) ?_
  have := List.getElem?_eq_getElem hj
  rw [List.getElem?_drop, e2] at this
  exact this
theorem lets_none {its : List (List Nat)} {b : List Nat} (hn : ∀ (j : Nat) (y : List Nat), its[j]? = some y → ¬ fit (globOf y) b) : letsL its b = false := by
  classical
  unfold letsL
  refine lets_skip b _ _ fun y hy => ?_
  obtain ⟨j, hj, e⟩ := List.getElem_of_mem hy
  exact hn j y (by rw [List.getElem?_eq_getElem hj, e])
def Clean (b : List Nat) : Prop := ∀ c ∈ b, c ≠ 42
theorem bar_starts (x : Str) : Txt.startswith x (Str.ofString "!") = isBar (tl x) := by
  have e := StrLaws.subAt_one x 33 0
  have e0 : ((tl x)[0]? = some 33) ↔ (tl x).take 1 = [33] := by
    cases tl x with
    | nil => simp
    | cons y r => simp
  unfold Txt.startswith isBar
  rw [Bool.eq_iff_iff, Bool.and_eq_true, decide_eq_true_iff, decide_eq_true_iff, ← e0]
  exact e
theorem bar_cut (x : Str) : decide (V.str (cutS x none (some 1)) = V.str (Str.ofString "!")) = isBar (tl x) := by
  unfold isBar
  rw [Bool.eq_iff_iff, decide_eq_true_iff, decide_eq_true_iff]
  have e : tl (cutS x none (some 1)) = (tl x).take 1 := cutS_to (by decide)
  constructor
  · intro h
    have h2 := congrArg tl (V.str.inj h)
    rw [e] at h2; exact h2
  · intro h
    exact congrArg V.str (tl_ext (by rw [e, h]; rfl))
/-- the law's places: those that lie ahead of a star, too -/
def Lax (g : List Nat) (N M : Nat → Prop) : Prop := ∀ y, M y ↔ (N y ∨ (g[y]? = some 42 ∧ N (y + 1)))
theorem lax_start (g : List Nat) : Lax g (st0 g) (st0 g) := fun y => ⟨.inl, fun h => h.elim id fun k => k.2.2⟩
/-- what the law puts in, ahead of its last loop -/
def lawA (g : List Nat) (M : Nat → Prop) (c : Nat) (y : Nat) : Prop := (M y ∧ g[y]? = some 42) ∨ ∃ i, y = i + 1 ∧ M i ∧ (g[i]? = some 63 ∨ g[i]? = some c)
def lawB (g : List Nat) (A : Nat → Prop) : Nat → Prop
  | 0 => A 0
  | i + 1 => A (i + 1) ∨ (lawB g A i ∧ g[i]? = some 42)
theorem lax_next {g : List Nat} {N M : Nat → Prop} {c : Nat} (hc : c ≠ 42) (cl : closed g N) (l : Lax g N M) : Lax g (nxt g N c) (lawB g (lawA g M c)) := by
  have ns : ∀ i : Nat, (g[i]? = some 63 ∨ g[i]? = some c) → g[i]? ≠ some 42 := fun i h e => by
    rcases h with h | h <;> rw [h] at e
    · cases e
    · exact hc (Option.some.inj e)
  have bA : ∀ y, lawA g M c y → lawB g (lawA g M c) y := fun y h => by
    cases y with
    | zero => exact h
    | succ i => exact .inl h
  have fA : ∀ y, lawA g M c y → nxt g N c y ∨ (g[y]? = some 42 ∧ nxt g N c (y + 1)) := fun y h => by
    rcases h with ⟨m, e⟩ | ⟨i, rfl, m, k⟩
    · refine .inr ⟨e, .inl ⟨e, .inr ?_⟩⟩
      rcases (l y).mp m with n | ⟨_, n⟩
      · exact cl y n e
      · exact n
    · refine .inl (.inr ⟨ns i k, ?_, k⟩)
      rcases (l i).mp m with n | ⟨q, _⟩
      · exact n
      · exact absurd q (ns i k)
  have back : ∀ y, nxt g N c y → lawB g (lawA g M c) y := fun y => by
    induction y with
    | zero => intro h; exact h.elim
    | succ i ih =>
      rintro (⟨e, h | h⟩ | ⟨_, n, k⟩)
      · exact .inr ⟨ih h, e⟩
      · exact .inr ⟨bA i (.inl ⟨(l i).mpr (.inr ⟨e, h⟩), e⟩), e⟩
      · exact .inl (.inr ⟨i, rfl, (l i).mpr (.inl n), k⟩)
  intro y
  constructor
  · induction y with
    | zero => intro h; exact fA 0 h
    | succ i ih =>
      rintro (h | ⟨h, e⟩)
      · exact fA _ h
      · rcases ih h with n | ⟨_, n⟩
        · exact .inl (.inl ⟨e, .inl n⟩)
        · exact .inl n
  · rintro (h | ⟨e, h⟩)
    · exact back y h
    · rcases h with ⟨_, h | h⟩ | ⟨q, _⟩
      · exact back y h
      · exact bA y (.inl ⟨(l y).mpr (.inr ⟨e, h⟩), e⟩)
      · exact absurd e q
/-! ### promises -/
def itemV (it : List Nat) : List V := [.int (if isBar it = true then 0 else 1), .str (S (globOf it))]
def sp_items_of (K : PySem.W.Frag) : Sp := fun vs H Q _ => ∃ (p : Str), vs = [.str p] ∧ (tl p).length ≤ 3000 ∧
  ∀ (q : Addr) (ts : List Addr) (H' : Hp), Same H H' → H' q = some (.tup (ts.map V.ref)) → ts.length = (parts (tl p)).length → (∀ (i : Nat) (t : Addr) (it : List Nat), ts[i]? = some t → (parts (tl p))[i]? = some it → H' t = some (.tup (itemV it))) → Q (.ref q) H'
def sp_lets (K : PySem.W.Frag) : Sp := fun vs H Q _ => ∃ (p b : Str), vs = [.str p, .str b] ∧ (tl p).length ≤ 3000 ∧ Clean (tl b) ∧ ∀ H', Same H H' → Q (.bl (letsL (parts (tl p)) (tl b))) H'
def sp_lets_one (K : PySem.W.Frag) : Sp := fun vs H Q _ => ∃ (p : Str) (a : Addr) (bs : List Str), vs = [.str p, .ref a] ∧ SqT K H a (bs.map V.str) ∧ (tl p).length ≤ 3000 ∧ bs.length ≤ 1000 ∧ (∀ b ∈ bs, Clean (tl b)) ∧ ∀ H', Same H H' → Q (.bl (bs.any fun b => letsL (parts (tl p)) (tl b))) H'
open Classical in
def sp__law_fits (K : PySem.W.Frag) : Sp := fun vs H Q _ => ∃ (g b : Str), vs = [.str g, .str b] ∧ Clean (tl b) ∧ (tl g).length ≤ 10000 ∧ ∀ (H' : Hp), Same H H' → Q (.bl (decide (fit (tl g) (tl b)))) H'
def sp__law_lets (K : PySem.W.Frag) : Sp := sp_lets K
def sp__law_lets_some (K : PySem.W.Frag) : Sp := sp_lets_one K
theorem split_bar (p : Str) : Txt.split p (Str.ofString ",") = (parts (tl p)).map S := split_S (a := tl p) (b := [44]) (by decide) (by decide)

/-! ### lists of truth values -/
def Bs (bs : List Bool) (n : Nat) (M : Nat → Prop) : Prop := bs.length = n + 1 ∧ ∀ y, bs[y]? = some true ↔ M y
theorem Bs.set {bs : List Bool} {n k : Nat} {M : Nat → Prop} (h : Bs bs n M) (hk : k ≤ n) : Bs (bs.set k true) n (fun y => M y ∨ y = k) := by
  refine ⟨by rw [List.length_set]; exact h.1, fun y => ?_⟩
  rw [List.getElem?_set]
  by_cases e : k = y
  · subst e
    rw [if_pos rfl, if_pos (by have := h.1; omega)]
    exact ⟨fun _ => .inr rfl, fun _ => rfl⟩
  · rw [if_neg e]
    exact ⟨fun q => .inl ((h.2 y).mp q), fun q => q.elim (h.2 y).mpr fun z => absurd z.symm e⟩
theorem Bs.congr {bs : List Bool} {n : Nat} {M N : Nat → Prop} (h : Bs bs n M) (e : ∀ y, M y ↔ N y) : Bs bs n N := ⟨h.1, fun y => (h.2 y).trans (e y)⟩
theorem Bs.get {bs : List Bool} {n k : Nat} {M : Nat → Prop} (h : Bs bs n M) (hk : k ≤ n) : ∃ b : Bool, bs[k]? = some b ∧ (b = true ↔ M k) := by
  have hl : k < bs.length := by have := h.1; omega
  refine ⟨bs[k], List.getElem?_eq_getElem hl, ?_⟩
  rw [← h.2 k, List.getElem?_eq_getElem hl]
  exact ⟨fun e => by rw [e], fun e => Option.some.inj e⟩
theorem atI_bl {bs : List Bool} {k : Nat} {b : Bool} {z : Int} (hz : z = (k : Int)) (h : bs[k]? = some b) : atI (bs.map V.bl) z = some (.bl b) := at_of hz (by rw [List.getElem?_map, h]; rfl)
theorem ixN_pos {n k : Nat} {z : Int} (hz : z = (k : Int)) (h : k < n) : ixN n z = some k := by
  subst hz
  unfold ixN
  rw [if_pos (by omega), if_pos (by omega)]; rfl
theorem map_set_bl (bs : List Bool) (k : Nat) : (bs.map V.bl).set k (.bl true) = (bs.set k true).map V.bl := by rw [List.map_set]
theorem bs_false (n : Nat) : Bs (List.replicate (n + 1) false) n (fun _ => False) := by
  refine ⟨List.length_replicate, fun y => ⟨fun h => ?_, fun h => h.elim⟩⟩
  rw [List.getElem?_replicate] at h
  split at h <;> cases h
theorem flatten_one (n : Nat) : (List.replicate n [V.bl false]).flatten = (List.replicate n false).map V.bl := by
  induction n with
  | zero => rfl
  | succ n ih => rw [List.replicate_succ, List.flatten_cons, ih, List.replicate_succ, List.map_cons]; rfl
end Z
namespace Z
open PySem L2 SX
def sp13 (f n : Nat) : Sp := fun vs H Q _ => ∃ (s a : Addr) (c : Nat), vs = [.ref s] ∧ Src H s a (c + f) ∧ ∀ (x : Str) (H' : Hp), (tl x).length ≤ n → Ext s H H' → Src H' s a c → Q (.str x) H'
def sp13_bent : Sp := fun vs H Q _ => ∃ (s a : Addr) (x : Str) (c : Nat), vs = [.ref s, .str x] ∧ (tl x).length ≤ 1000 ∧ Src H s a (c + 10) ∧ ∀ (y : Str) (H' : Hp), (tl y).length ≤ (tl x).length + 3 → Ext s H H' → Src H' s a c → Q (.str y) H'
theorem ext_free {H H1 : Hp} {s a u : Addr} {c : Nat} (x : Ext s H H1) (S : Src H1 s a c) (h : H1 u = none) : H u = none := by
  cases e : H u with
  | none => rfl
  | some o =>
    by_cases q : u = s
    · subst q
      obtain ⟨xs, e2⟩ := S.lst
      rw [h] at e2; cases e2
    · have := x _ _ q e
      rw [h] at this; cases this
theorem joinL_len {s : List Nat} {n : Nat} : ∀ {ls : List (List Nat)}, (∀ l ∈ ls, l.length ≤ n) → (TL.joinL s ls).length ≤ ls.length * (n + s.length)
  | [], _ => by simp [TL.joinL]
  | [x], h => by have := h x (by simp); show x.length ≤ 1 * (n + s.length); omega
  | x :: y :: r, h => by
    have ih := joinL_len (s := s) (ls := y :: r) (fun l m => h l (List.mem_cons_of_mem _ m))
    have := h x (by simp)
    show (x ++ (s ++ TL.joinL s (y :: r))).length ≤ ((y :: r).length + 1) * (n + s.length)
    rw [List.length_append, List.length_append, Nat.succ_mul]
    omega
theorem tl_joinS (s : Str) (xs : List Str) : tl (Txt.join s xs) = TL.joinL (tl s) (xs.map tl) := by
  have h := join_S (tl s) (xs.map tl)
  rw [tl_mapS] at h
  exact congrArg tl h
theorem sum_len {n : Nat} : ∀ {xs : List Str}, (∀ x ∈ xs, (tl x).length ≤ n) → (xs.map (·.length)).sum ≤ xs.length * n
  | [], _ => by simp
  | x :: xs, h => by
    have := h x (by simp)
    have ih := sum_len (n := n) (xs := xs) (fun y m => h y (List.mem_cons_of_mem _ m))
    rw [List.map_cons, List.sum_cons, List.length_cons, Nat.succ_mul, tl_len]; omega
theorem cut_le (x : Str) (i j : Option Int) : (tl (cutS x i j)).length ≤ (tl x).length := by
  show ((List.drop _ (tl x)).take _).length ≤ _
  rw [List.length_take, List.length_drop]; omega
theorem len_mem {n : Nat} {xs : List Str} {w : V} (h : ∀ x ∈ xs, (tl x).length ≤ n) (m : w ∈ xs.map V.str) : ∃ x, w = V.str x ∧ (tl x).length ≤ n := by
  obtain ⟨x, hx, rfl⟩ := List.mem_map.mp m
  exact ⟨x, rfl, h x hx⟩
end Z
namespace Z
open PySem L2 SX
/-! ### patterns: scanning and splitting -/
def okc (c : Nat) : Bool := decide (c ∈ tl (Str.ofString "abcdefghijklmnopqrstuvwxyz0123456789.*?"))
theorem okc_44 : okc 44 = false := by decide +kernel
theorem okc_33 : okc 33 = false := by decide +kernel
def step (a c : Nat) : Bool := (decide (c = 33) && decide (a = 44)) || (decide (c = 44) && (decide (a ≠ 44) && decide (a ≠ 33))) || okc c
/-- all signs may follow each other, behind a -/
def runs : Nat → List Nat → Bool
  | _, [] => true
  | a, c :: r => step a c && runs c r
def lastOf : Nat → List Nat → Nat
  | a, [] => a
  | _, c :: r => lastOf c r
def globP (it : List Nat) : List Nat := if decide (it.take 1 = [33]) = true then it.drop 1 else it
def goodItem (it : List Nat) : Bool := decide (globP it ≠ []) && (globP it).all okc
/-- an item so far: what stands behind its ! is of glob signs -/
def part1 (acc : List Nat) : Bool := (globP acc).all okc
theorem runs_app (a : Nat) (l m : List Nat) : runs a (l ++ m) = (runs a l && runs (lastOf a l) m) := by
  induction l generalizing a with
  | nil => simp [runs, lastOf]
  | cons c r ih => show (step a c && runs c (r ++ m)) = ((step a c && runs c r) && runs (lastOf c r) m); rw [ih, Bool.and_assoc]
theorem last_app (a c : Nat) (l : List Nat) : lastOf a (l ++ [c]) = c := by
  induction l generalizing a with
  | nil => rfl
  | cons d r ih => exact ih d
theorem globP_app {acc : List Nat} {c : Nat} (h : acc ≠ []) : globP (acc ++ [c]) = globP acc ++ [c] := by
  cases acc with
  | nil => exact absurd rfl h
  | cons d r =>
    unfold globP
    show (if decide ([d] = [33]) = true then r ++ [c] else d :: (r ++ [c])) = (if decide ([d] = [33]) = true then r else d :: r) ++ [c]
    split <;> rfl
/-- the last sign ahead, as the scan sees it: the accumulated item behind a comma -/
theorem good_last {acc : List Nat} (h : part1 acc = true) : goodItem acc = (decide (lastOf 44 acc ≠ 44) && decide (lastOf 44 acc ≠ 33)) := by
  rcases List.eq_nil_or_concat acc with e | ⟨l, c, e⟩
  · subst e; decide
  · rw [List.concat_eq_append] at e
    subst e
    rw [last_app]
    unfold goodItem
    rw [show (globP (l ++ [c])).all okc = true from h, Bool.and_true]
    by_cases hl : l = []
    · subst hl
      by_cases e33 : c = 33
      · subst e33; decide
      · have g : globP ([] ++ [c]) = [c] := by
          unfold globP
          rw [if_neg (by simp [e33])]; rfl
        have oc : okc c = true := by
          have h' : (globP ([] ++ [c])).all okc = true := h
          rw [g] at h'
          simpa using h'
        have e44 : c ≠ 44 := fun e => by rw [e, okc_44] at oc; cases oc
        rw [g, decide_eq_true (show [c] ≠ [] by simp), decide_eq_true e44, decide_eq_true e33]; rfl
    · have g := globP_app (c := c) hl
      have h' : (globP (l ++ [c])).all okc = true := h
      rw [g, List.all_append] at h'
      have oc : okc c = true := by
        have := (Bool.and_eq_true_iff.mp h').2
        simpa using this
      have e44 : c ≠ 44 := fun e => by rw [e, okc_44] at oc; cases oc
      have e33 : c ≠ 33 := fun e => by rw [e, okc_33] at oc; cases oc
      rw [g, decide_eq_true (show globP l ++ [c] ≠ [] by simp), decide_eq_true e44, decide_eq_true e33]; rfl
theorem part_step {acc : List Nat} {c : Nat} (h : part1 acc = true) (hc : c ≠ 44) : part1 (acc ++ [c]) = step (lastOf 44 acc) c := by
  unfold step
  rw [decide_eq_false hc, Bool.false_and, Bool.or_false]
  by_cases hl : acc = []
  · subst hl
    by_cases e33 : c = 33
    · subst e33; decide
    · have g : globP ([] ++ [c]) = [c] := by
        unfold globP
        rw [if_neg (by simp [e33])]; rfl
      unfold part1
      rw [g, decide_eq_false e33, Bool.false_and, Bool.false_or]
      simp
  · unfold part1
    rw [globP_app hl, List.all_append, show (globP acc).all okc = true from h]
    have l44 : lastOf 44 acc ≠ 44 := by
      rcases List.eq_nil_or_concat acc with e | ⟨l, d, e⟩
      · exact absurd e hl
      · rw [List.concat_eq_append] at e
        subst e
        rw [last_app]
        intro e
        subst e
        by_cases hl2 : l = []
        · subst hl2
          revert h; decide +kernel
        · have h' : (globP (l ++ [44])).all okc = true := h
          rw [globP_app hl2, List.all_append] at h'
          have := (Bool.and_eq_true_iff.mp h').2
          simp [okc_44] at this
    rw [decide_eq_false l44, Bool.and_false, Bool.false_or]
    simp
theorem bad_part (l : List Nat) : ∀ acc : List Nat, part1 acc = false → (TL.spl [44] 0 acc l).all goodItem = false := by
  induction l with
  | nil =>
    intro acc h
    rw [TL.spl_nil]
    show (goodItem acc && true) = false
    unfold goodItem
    rw [show (globP acc).all okc = false from h, Bool.and_false]; rfl
  | cons c r ih =>
    intro acc h
    by_cases hc : c = 44
    · subst hc
      rw [TL.spl_hit (show TL.pre [44] (44 :: r) = true by show ([44] == [44]) = true; rfl)]
      show (goodItem acc && _) = false
      unfold goodItem
      rw [show (globP acc).all okc = false from h, Bool.and_false, Bool.false_and]
    · rw [TL.spl_miss (show TL.pre [44] (c :: r) = false by show ([c] == [44]) = false; simp [hc])]
      refine ih _ ?_
      have hl : acc ≠ [] := fun e => by rw [e] at h; revert h; decide
      unfold part1
      rw [globP_app hl, List.all_append, show (globP acc).all okc = false from h, Bool.false_and]
theorem spl_good (l : List Nat) : ∀ acc : List Nat, part1 acc = true → (TL.spl [44] 0 acc l).all goodItem = (runs (lastOf 44 acc) l && (decide (lastOf (lastOf 44 acc) l ≠ 44) && decide (lastOf (lastOf 44 acc) l ≠ 33))) := by
  induction l with
  | nil =>
    intro acc h
    rw [TL.spl_nil]
    show (goodItem acc && true) = _
    rw [Bool.and_true, good_last h]; rfl
  | cons c r ih =>
    intro acc h
    by_cases hc : c = 44
    · subst hc
      rw [TL.spl_hit (show TL.pre [44] (44 :: r) = true by show ([44] == [44]) = true; rfl)]
      show (goodItem acc && (TL.spl [44] 0 [] r).all goodItem) = ((step (lastOf 44 acc) 44 && runs 44 r) && _)
      rw [ih [] (by decide), good_last h]
      have : step (lastOf 44 acc) 44 = (decide (lastOf 44 acc ≠ 44) && decide (lastOf 44 acc ≠ 33)) := by
        unfold step
        rw [okc_44]; simp
      rw [this]
      show (_ && (runs 44 r && (decide (lastOf 44 r ≠ 44) && decide (lastOf 44 r ≠ 33)))) = _
      rw [show lastOf (lastOf 44 acc) (44 :: r) = lastOf 44 r from rfl]
      simp only [Bool.and_assoc]
    · rw [TL.spl_miss (show TL.pre [44] (c :: r) = false by show ([c] == [44]) = false; simp [hc])]
      by_cases hs : step (lastOf 44 acc) c = true
      · rw [ih (acc ++ [c]) (by rw [part_step h hc]; exact hs), last_app]
        show _ = ((step (lastOf 44 acc) c && runs c r) && _)
        rw [hs, Bool.true_and]; rfl
      · have hs' : step (lastOf 44 acc) c = false := Bool.eq_false_iff.mpr hs
        show _ = ((step (lastOf 44 acc) c && runs c r) && _)
        rw [hs', Bool.false_and, Bool.false_and]
        have np : part1 (acc ++ [c]) = false := by rw [part_step h hc]; exact hs'
        exact bad_part r _ np
theorem spl_count (l : List Nat) : ∀ acc : List Nat, (TL.spl [44] 0 acc l).length = l.count 44 + 1 := by
  induction l with
  | nil => intro acc; rw [TL.spl_nil]; rfl
  | cons c r ih =>
    intro acc
    by_cases hc : c = 44
    · subst hc
      rw [TL.spl_hit (show TL.pre [44] (44 :: r) = true by show ([44] == [44]) = true; rfl), List.count_cons_self]
      show (TL.spl [44] 0 [] r).length + 1 = _
      rw [ih]
    · rw [TL.spl_miss (show TL.pre [44] (c :: r) = false by show ([c] == [44]) = false; simp [hc]), ih, List.count_cons_of_ne hc]
/-- a pattern, as the law splits it -/
def isPat (l : List Nat) : Bool := decide (l.length ≤ 60) && (decide ((TL.spl [44] 0 [] l).length ≤ 8) && (TL.spl [44] 0 [] l).all goodItem)
def endOk (a : Nat) : Bool := decide (a ≠ 44) && decide (a ≠ 33)
theorem isPat_eq (l : List Nat) : isPat l = (decide (l.length ≤ 60) && (decide (l.count 44 ≤ 7) && (runs 44 l && endOk (lastOf 44 l)))) := by
  unfold isPat endOk
  rw [spl_good l [] (by decide), spl_count]
  rw [show decide (l.count 44 + 1 ≤ 8) = decide (l.count 44 ≤ 7) by rw [decide_eq_decide]; omega]
  rfl
/-- the beginning of some pattern, as the law asks it -/
def isBeg (l : List Nat) : Bool := isPat l || isPat (l ++ [97])
theorem isBeg_eq (l : List Nat) : isBeg l = (runs 44 l && (decide (l.count 44 ≤ 7) && (decide (l.length ≤ 59) || (decide (l.length ≤ 60) && endOk (lastOf 44 l))))) := by
  unfold isBeg
  rw [isPat_eq, isPat_eq, runs_app, last_app, List.length_append, List.count_append]
  rw [show runs (lastOf 44 l) [97] = true by show (step _ 97 && true) = true; unfold step; rw [show okc 97 = true by decide +kernel]; simp, show endOk 97 = true by decide]
  rw [show List.count 44 [97] = 0 by decide, Nat.add_zero, Bool.and_true, Bool.and_true]
  rw [show decide (l.length + [97].length ≤ 60) = decide (l.length ≤ 59) by rw [decide_eq_decide]; show l.length + 1 ≤ 60 ↔ _; omega]
  cases runs 44 l <;> cases decide (l.count 44 ≤ 7) <;> cases decide (l.length ≤ 59) <;> cases decide (l.length ≤ 60) <;> cases endOk (lastOf 44 l) <;> rfl
/-- a sign behind a, behind k commas, at the place n -/
def may (c a k n : Nat) : Bool := if c = 33 then decide (a = 44) && decide (n < 59) else if c = 44 then (decide (a ≠ 44) && decide (a ≠ 33)) && (decide (k < 7) && decide (n < 59)) else okc c && decide (n < 60)
theorem isBeg_snoc (l : List Nat) (c : Nat) : isBeg (l ++ [c]) = (isBeg l && may c (lastOf 44 l) (l.count 44) l.length) := by
  rw [isBeg_eq, isBeg_eq, runs_app, last_app, List.length_append, List.count_append]
  show ((runs 44 l && (step (lastOf 44 l) c && true)) && (decide (l.count 44 + List.count 44 [c] ≤ 7) && (decide (l.length + 1 ≤ 59) || (decide (l.length + 1 ≤ 60) && endOk c)))) = _
  unfold may step
  by_cases h33 : c = 33
  · subst h33
    rw [if_pos rfl, show List.count 44 [33] = 0 by decide, okc_33, show endOk 33 = false by decide, decide_eq_true (rfl : (33 : Nat) = 33), decide_eq_false (show ¬ (33 : Nat) = 44 by decide)]
    by_cases hn : l.length < 59
    · rw [decide_eq_true (show l.length + 1 ≤ 59 by omega), decide_eq_true (show l.length ≤ 59 by omega), decide_eq_true hn]
      cases runs 44 l <;> cases decide (lastOf 44 l = 44) <;> cases decide (l.count 44 ≤ 7) <;> simp
    · rw [decide_eq_false (show ¬ l.length + 1 ≤ 59 by omega), decide_eq_false hn]
      simp
  · rw [if_neg h33]
    by_cases h44 : c = 44
    · subst h44
      rw [if_pos rfl, show List.count 44 [44] = 1 by decide, okc_44, show endOk 44 = false by decide, decide_eq_true (rfl : (44 : Nat) = 44), decide_eq_false h33]
      rw [show decide (l.count 44 + 1 ≤ 7) = decide (l.count 44 < 7) by rw [decide_eq_decide]; omega]
      by_cases hn : l.length < 59
      · rw [decide_eq_true (show l.length + 1 ≤ 59 by omega), decide_eq_true (show l.length ≤ 59 by omega), decide_eq_true hn]
        by_cases hk : l.count 44 < 7
        · rw [decide_eq_true hk, decide_eq_true (show l.count 44 ≤ 7 by omega)]; simp
        · rw [decide_eq_false hk]; simp
      · rw [decide_eq_false (show ¬ l.length + 1 ≤ 59 by omega), decide_eq_false hn]
        simp
    · rw [if_neg h44, show List.count 44 [c] = 0 by rw [List.count_cons_of_ne h44]; rfl, decide_eq_false h33, decide_eq_false h44, Nat.add_zero]
      have : endOk c = true := by unfold endOk; rw [decide_eq_true h44, decide_eq_true h33]; rfl
      rw [this]
      by_cases hn : l.length < 60
      · rw [decide_eq_true (show l.length + 1 ≤ 60 by omega), decide_eq_true (show l.length ≤ 59 by omega), decide_eq_true hn]
        cases runs 44 l <;> cases okc c <;> cases decide (l.count 44 ≤ 7) <;> simp
      · rw [decide_eq_false (show ¬ l.length + 1 ≤ 59 by omega), decide_eq_false (show ¬ l.length + 1 ≤ 60 by omega), decide_eq_false hn]
        simp
theorem isPat_of_beg {l : List Nat} (h : isBeg l = true) : isPat l = endOk (lastOf 44 l) := by
  rw [isPat_eq]
  rw [isBeg_eq] at h
  simp only [Bool.and_eq_true, Bool.or_eq_true] at h
  obtain ⟨h1, h2, h3⟩ := h
  rw [h1, h2]
  have : l.length ≤ 60 := by rcases h3 with h | h
                             · have := of_decide_eq_true h; omega
                             · exact of_decide_eq_true h.1
  rw [decide_eq_true this]; rfl
theorem eqL {x y : Str} : V.str x = V.str y ↔ tl x = tl y := ⟨fun h => by injection h with h; rw [h], fun h => by rw [tl_ext h]⟩
theorem split_comma (x : Str) : Txt.split x (Str.ofString ",") = (TL.spl [44] 0 [] (tl x)).map S := split_S (a := tl x) (b := [44]) (by decide) (by decide)
def sp_isPat : Sp := fun vs H Q _ => ∃ (x : Str), vs = [.str x] ∧ (tl x).length ≤ 2000 ∧ ∀ H', Same H H' → Q (.bl (isPat (tl x))) H'
def sp_may_stand : Sp := fun vs H Q _ => ∃ (c a k n : Nat), vs = [.str (S [c]), .str (S [a]), .int (k : Int), .int (n : Int)] ∧ Q (.bl (may c a k n)) H
/-- where a text is wrong -/
def wrongAt (l : List Nat) (o : Option Nat) : Prop := match o with
  | some k => (∀ j, j < k → j < l.length → isBeg (l.take (j + 1)) = true) ∧ ((k < l.length ∧ isBeg (l.take (k + 1)) = false) ∨ (k = l.length ∧ isPat l = false))
  | none => (∀ j, j < l.length → isBeg (l.take (j + 1)) = true) ∧ isPat l = true
theorem wrongAt_one {l : List Nat} {o p : Option Nat} (x : wrongAt l o) (y : wrongAt l p) : o = p := by
  have key : ∀ (k m : Nat), wrongAt l (some k) → wrongAt l (some m) → ¬ k < m := fun k m x y h => by
    obtain ⟨_, x2⟩ := x
    obtain ⟨y1, y2⟩ := y
    have ml : m ≤ l.length := by rcases y2 with h | h <;> omega
    rcases x2 with x2 | x2
    · have := y1 k h x2.1
      rw [x2.2] at this; cases this
    · omega
  have mix : ∀ k : Nat, wrongAt l (some k) → wrongAt l none → False := fun k x y => by
    obtain ⟨_, x2⟩ := x
    obtain ⟨y1, y2⟩ := y
    rcases x2 with x2 | x2
    · have := y1 k x2.1
      rw [x2.2] at this; cases this
    · rw [x2.2] at y2; cases y2
  cases o with
  | none => cases p with
    | none => rfl
    | some m => exact (mix m y x).elim
  | some k => cases p with
    | none => exact (mix k x y).elim
    | some m =>
      have h1 := key k m x y
      have h2 := key m k y x
      rw [show k = m by omega]
def optV : Option Nat → V
  | none => .non
  | some k => .int (k : Int)
def sp_wrong_place : Sp := fun vs H Q _ => ∃ (x : Str), vs = [.str x] ∧ (tl x).length ≤ 2000 ∧ ∀ o H', wrongAt (tl x) o → Same H H' → Q (optV o) H'
def sgnI (it : List Nat) : Int := if decide (it.take 1 = [33]) = true then 0 else 1
def itemP (it : List Nat) : List V := [.int (sgnI it), .str (S (globP it))]
def itemD (it : List Nat) : D := .tup [.int (sgnI it), .str (S (globP it))]
def sp_sign_and_glob : Sp := fun vs H Q _ => ∃ (x : Str), vs = [.str x] ∧ (tl x).length ≤ 2000 ∧ ∀ (t : Addr), H t = none → Q (.ref t) (upd H t (.tup (itemP (tl x))))
def dueD (l : List Nat) : Option Nat → D
  | some k => .tup [.str (Str.ofString "bad"), .int (k : Int)]
  | none => .tup [.str (Str.ofString "read"), .tup ((TL.spl [44] 0 [] l).map itemD)]
def sp_due (K : PySem.W.Frag) : Sp := fun vs H Q _ => ∃ (x : Str), vs = [.str x] ∧ (tl x).length ≤ 1000 ∧ ∀ o v H', wrongAt (tl x) o → DV K H' (dueD (tl x) o) v → Same H H' → Q v H'
theorem DVs.items {K : PySem.W.Frag} {H : Hp} : ∀ {its : List (List Nat)} {ts : List Addr}, ts.length = its.length → (∀ (k : Nat) (t : Addr) (it : List Nat), ts[k]? = some t → its[k]? = some it → H t = some (.tup (itemP it))) → DVs K H (its.map itemD) (ts.map V.ref)
  | [], [], _, _ => by unfold DVs; rfl
  | [], _ :: _, h, _ => by simp at h
  | _ :: _, [], h, _ => by simp at h
  | it :: its, t :: ts, h, f => by
    refine ⟨.ref t, ts.map V.ref, rfl, ?_, DVs.items (by simpa using h) fun k t' it' h1 h2 => f (k + 1) t' it' (by simpa using h1) (by simpa using h2)⟩
    exact ⟨t, _, rfl, SqT.of (f 0 t it rfl rfl), _, _, rfl, by unfold DV; rfl, _, _, rfl, by unfold DV; rfl, rfl⟩
def sp_write_pattern (K : PySem.W.Frag) : Sp := fun vs H Q _ => ∃ (a : Addr) (ts : List Addr) (its : List (List Nat)), vs = [.ref a] ∧ SqT K H a (ts.map V.ref) ∧ ts.length = its.length ∧ its.length ≤ 100 ∧ (∀ it ∈ its, it.length ≤ 1000) ∧ (∀ (k : Nat) (t : Addr) (it : List Nat), ts[k]? = some t → its[k]? = some it → SqT K H t (itemP it)) ∧
  ∀ (y : Str) (H' : Hp), tl y = TL.joinL [44] its → Same H H' → Q (.str y) H'
theorem join_spl (l : List Nat) : ∀ acc : List Nat, TL.joinL [44] (TL.spl [44] 0 acc l) = acc ++ l := by
  induction l with
  | nil => intro acc; rw [TL.spl_nil, List.append_nil]; rfl
  | cons c r ih =>
    intro acc
    by_cases hc : c = 44
    · subst hc
      rw [TL.spl_hit (show TL.pre [44] (44 :: r) = true by show ([44] == [44]) = true; rfl)]
      have e := ih []
      have ne : TL.spl [44] 0 [] r ≠ [] := fun h => by
        have := spl_count r []
        rw [h] at this; cases this
      show TL.joinL [44] (acc :: TL.spl [44] 0 [] r) = _
      cases hs : TL.spl [44] 0 [] r with
      | nil => exact absurd hs ne
      | cons y ys =>
        show acc ++ ([44] ++ TL.joinL [44] (y :: ys)) = _
        rw [← hs, e]; rfl
    · rw [TL.spl_miss (show TL.pre [44] (c :: r) = false by show ([c] == [44]) = false; simp [hc]), ih, List.append_assoc]; rfl
theorem DVs.items_inv {K : PySem.W.Frag} {H : Hp} : ∀ {its : List (List Nat)} {vs : List V}, DVs K H (its.map itemD) vs → ∃ ts : List Addr, vs = ts.map V.ref ∧ ts.length = its.length ∧ ∀ (k : Nat) (t : Addr) (it : List Nat), ts[k]? = some t → its[k]? = some it → SqT K H t (itemP it)
  | [], vs, h => by unfold DVs at h; subst h; exact ⟨[], rfl, rfl, fun k t it h1 h2 => by simp at h1⟩
  | it :: its, vs, h => by
    obtain ⟨v, r, rfl, h1, h2⟩ := h
    obtain ⟨ts, rfl, hl, hk⟩ := DVs.items_inv h2
    unfold itemD DV at h1
    obtain ⟨a, xs, rfl, hS, h3⟩ := h1
    obtain ⟨v1, r1, rfl, e1, h4⟩ := h3
    obtain ⟨v2, r2, rfl, e2, h5⟩ := h4
    unfold DV at e1 e2
    unfold DVs at h5
    subst e1 e2 h5
    refine ⟨a :: ts, rfl, by rw [List.length_cons, hl, List.length_cons], fun k t it' g1 g2 => ?_⟩
    cases k with
    | zero =>
      have ea : a = t := Option.some.inj g1
      have ei : it = it' := Option.some.inj g2
      subst ea ei
      exact hS
    | succ k => exact hk k t it' (by simpa using g1) (by simpa using g2)
def sp_read_pattern (K : PySem.W.Frag) (C : Addr) : Sp := fun vs H Q E => ∃ (x : Str), vs = [.str x] ∧ (tl x).length ≤ 1000 ∧
  (∀ (u : Addr) (ts : List Addr) (H1 : Hp), wrongAt (tl x) none → Same H H1 → H1 u = some (.tup (ts.map V.ref)) → ts.length = (TL.spl [44] 0 [] (tl x)).length → (∀ (i : Nat) (t : Addr) (it : List Nat), ts[i]? = some t → (TL.spl [44] 0 [] (tl x))[i]? = some it → H1 t = some (.tup (itemP it))) → Q (.ref u) H1) ∧
  (∀ (k : Nat) (dd : Addr) (H1 : Hp), wrongAt (tl x) (some k) → Same H H1 → H1 dd = some (.xd [("at", .int (k : Int))]) → E (.ref C) (some dd) H1)
end Z
namespace Z
open PySem PySem.Spec PyProof.Rows L2 SX
/-! ### name = text[..]; text = text.replace(name, ''): the token of the name is known -/
theorem nsSet_det {M : Model} {Γ : PySem.Ctx} {E : Value → Pos → Shared → Prop} {p : Pos} {s : Shared} {a : Addr} {m : Str → Option Value} (hn : s.heap.Ns a m) (name : Str) (v : Value) :
    ∃ h', h'.Ns a (fun x => if x = name then some v else m x) ∧ ∀ Q, Sem.wp M Γ (nsSet a name v) Q E p s ↔ Q () p { s with heap := h', toks := s.toks + 1 } := by
  have key : ∃ h', ∀ Q, Sem.wp M Γ (nsSet a name v) Q E p s ↔ Q () p { s with heap := h', toks := s.toks + 1 } := by
    obtain ⟨o, es, ep, ho, hd, hk, hm⟩ := hn
    have hany : es.any (·.refKey) = false := by
      rw [Array.any_eq_false']
      intro e he
      obtain ⟨n, t, h⟩ := hk e he
      simp [DictEntry.refKey, h]
    apply Exists.intro
    intro Q
    simp only [nsSet, strHash, Sem.wp_bind', Sem.wp_cmd_ask, Sem.wp_pure', Sem.wp_cmd_mkText]
    rw [Sem.wp_loadPart_of M Γ E p { s with toks := s.toks + 1 } (o := o) _ ho]
    simp only [hd, aRefKeyMayBeTheName_eq, aRefKeyMayBeTheNameByArray, hany, Bool.and_false, Bool.false_eq_true, if_false, Sem.wp_cmd_updatePart]
    exact ⟨fun h => h.2, fun h => ⟨by rw [ho]; rfl, h⟩⟩
  obtain ⟨h', hq⟩ := key
  refine ⟨h', ?_, hq⟩
  have := (hq _).mp (Sem.wp_nsSet M Γ E p s hn name v (fun _ _ s' => ∃ h2 : Heap, h2.Ns a (fun x => if x = name then some v else m x) ∧ s' = { s with heap := h2, toks := s.toks + 1 }) (fun h2 a1 _ => ⟨h2, a1, rfl⟩))
  obtain ⟨h2, a1, e⟩ := this
  have e2 : h' = h2 := congrArg Shared.heap e
  rw [e2]; exact a1
theorem store_det {M : Model} {A : Around} {E : Value → Shared → Prop} {s : Shared} {env : Env} {name : Str} {m : Str → Option Value} {v : Value} {Q : Unit → Shared → Prop} (hl : env.kindOf name = some .local) (hn : s.heap.Ns env.locals m)
    (hp : (env.scope.kind == .class || (env.scope.kind == .module && env.locals != env.globals)) = false) (h : wpAny M A (storeName env name v) Q E s) :
    wpAny M A (storeName env name v) (fun u s' => Q u s' ∧ s'.heap.Ns env.locals (fun x => if x = name then some v else m x) ∧ s'.toks = s.toks + 1) E s := by
  rw [storeName_local hl hp] at h ⊢
  intro Γ p hΓ
  obtain ⟨h', a1, hq⟩ := nsSet_det (M := M) (Γ := Γ) (E := fun e _ s' => E e s') (p := p) hn name v
  have h1 := (hq _).mp (h Γ p hΓ)
  exact (hq _).mpr ⟨h1, a1, rfl⟩
section
variable {X : Cx}
def tRepS (l o : Nat) (tb : TE) (u : TS) : TS := fun D σ H => ∃ z : Str, σ[l]? = some (some (.str z)) ∧ tb σ H fun y H1 => ∃ (i : Int) (c : Nat), y = .int i ∧ 0 ≤ i ∧ i < 2 ^ 63 ∧ i < z.length ∧ z.cps[i.toNat]? = some c ∧ z.length ≤ 1000000 ∧
  u D ((σ.set o (some (.str ⟨#[c]⟩))).set l (some (.str (Txt.replace z ⟨#[c]⟩ (Str.ofString ""))))) H1
theorem psst_rep {l o j : Nat} {nl no : Str} {eb : Expr} {rest : List Stmt} {tb : TE} {u : TS} {p1 p2 p3 p4 p5 p6 p7 p8 c1 ap pos : Pos} (hN : X.N.Nodup) (hl : X.N[l]? = some nl) (ho : X.N[o]? = some no) (hlo : o ≠ l)
    (kl : X.env.scope.names.lookup nl = some .local) (ko : X.env.scope.names.lookup no = some .local) (hb : PE X eb tb) (hs : PlainIxT eb) (h2 : PSsT X rest u)
    (hs1 : swapsWith (.Subscript (.Name nl p2) eb p3) (some (.Name no p1)) p4.line X.env = pure false := by rfl)
    (hs2 : swapsWith (.Call (.Attribute (.Name nl p6) "replace" ap) [.Name no p7, .Constant (.str (Str.ofString "")) j c1] [] pos) (some (.Name nl p5)) p8.line X.env = pure false := by rfl)
    (hst : starEach [.Name no p7, .Constant (.str (Str.ofString "")) j c1] X.env = [(false, eval (.Name no p7) X.env), (false, eval (.Constant (.str (Str.ofString "")) j c1) X.env)] := by rfl)
    (hbase : attributeBase (.Name nl p6) "replace" X.env (eval (.Name nl p6) X.env) = eval (.Name nl p6) X.env := by rfl) (hline : (ap.endLine == pos.line) = true := by rfl)
    (hd : (nl == ("__debug__" : Str)) = false := by decide) (hc : (nl == ("__classdict__" : Str)) = false := by decide) (hd' : (no == ("__debug__" : Str)) = false := by decide) :
    PSsT X (.Assign [.Name no p1] (.Subscript (.Name nl p2) eb p3) p4 :: .Assign [.Name nl p5] (.Call (.Attribute (.Name nl p6) "replace" ap) [.Name no p7, .Constant (.str (Str.ofString "")) j c1] [] pos) p8 :: rest) (tRepS l o tb u) := by
  intro pins s σ H D h0 I h
  obtain ⟨z, hz, h⟩ := h
  refine wpAny_execs_cons (wpAny_Assign_Name (Subscript_ (raw_name hl (.inl kl) I hz (fun uz rz => ?_) hd hc)) hs1)
  obtain ⟨tz, rfl⟩ := rz
  refine wpAny_mono (PySem.wpAny_toks (hb.run pins s σ H _ I h)) (fun ub s2 q => ?_) (fun _ _ x => x.2)
  obtain ⟨hk, y, H1, I2, ry, i, c, rfl, i0, i63, il, hcc, hzl, q⟩ := q
  obtain ⟨ti, rfl⟩ := ry
  have e := PySem.StrLaws.seqIndex_nonneg i0 il
  have n0 : s2.toks ≠ 0 := by omega
  refine tail_any (typeIs_str s2 z tz) slot_str_getitem.lookup (getItem_str (c := c) (by
    have e1 : decide (i < -(2 ^ 63 : Int)) = false := decide_eq_false (by omega)
    have e2 : decide (i ≥ 2 ^ 63) = false := decide_eq_false (by omega)
    rw [e1, e2] <;> rfl) (by rw [e]; exact hcc) ?_) (hs _ _)
  have I2' := I2.tok (s2.toks + 1)
  obtain ⟨m, hn, _⟩ := id I2'.loc
  have hp : (X.env.scope.kind == .class || (X.env.scope.kind == .module && X.env.locals != X.env.globals)) = false := by rw [I2.ok.kind]; rfl
  have st := store_ok (M := model X.prog X.w) (A := X.A) (E := X.xe) (v := V.str ⟨#[c]⟩) (u := Value.str ⟨#[c]⟩ s2.toks) (Q := fun _ s' => Inv X pins (σ.set o (some (V.str ⟨#[c]⟩))) H1 s') I2' hN ho (.inl ko) ⟨_, rfl⟩ (fun s' I' => I') (.inr ko)
  refine wpAny_mono (store_det ko hn hp st) (fun _ s3 q3 => ?_) (fun _ _ x => x)
  obtain ⟨I3, hn3, ht3⟩ := q3
  have ht3' : s3.toks = s2.toks + 1 + 1 := ht3
  have hz3 : (σ.set o (some (V.str ⟨#[c]⟩)))[l]? = some (some (.str z)) := by rw [List.getElem?_set_ne hlo]; exact hz
  have B : wpAny (model X.prog X.w) X.A (exec (.Assign [.Name nl p5] (.Call (.Attribute (.Name nl p6) "replace" ap) [.Name no p7, .Constant (.str (Str.ofString "")) j c1] [] pos) p8) X.env) (fun f s4 => f = .next ∧ Inv X pins ((σ.set o (some (V.str ⟨#[c]⟩))).set l (some (.str (Txt.replace z ⟨#[c]⟩ (Str.ofString ""))))) H1 s4) X.xe s3 := by
    refine wpAny_Assign_Name (PySem.Call_method2 hbase hst hline (raw_name hl (.inl kl) I3 hz3 (fun uz2 rz2 => ?_) hd hc)) hs2
    obtain ⟨tz2, rfl⟩ := rz2
    refine ⟨"str", _, PySem.F.plainAttrs_str, PySem.F.slot_str_replace, PySem.F.type_str_replace, typeIs_str _ _ _, (fun _ e => nomatch e), Calls.callWith_builtin rfl (Calls.evalArgs_plain (Calls.spliced_cons ?_))⟩
    refine wpAny_Name (wpAny_loadName_local I3.ok.kind ko hn3 (if_pos rfl) ?_) hd'
    refine Calls.spliced_cons (Calls.Constant_str (Calls.spliced_nil ?_))
    have n1 : s3.toks ≠ 0 := by omega
    have n2 : s2.toks ≠ s3.toks := by omega
    refine PySem.SC.replace (u := s2.toks) (v := s3.toks) n0 n1 n2 ?_ ?_ fun t' k => ?_
    · rfl
    · show z.length + (z.length + 1) * 0 ≤ _; omega
    exact store_ok (v := V.str (Txt.replace z ⟨#[c]⟩ (Str.ofString ""))) (u := Value.str (Txt.replace z ⟨#[c]⟩ (Str.ofString "")) t') (I3.tok k) hN hl (.inl kl) ⟨_, rfl⟩ (fun s' I' => ⟨rfl, I'⟩) (.inr kl)
  refine wpAny_execs_cons (wpAny_mono (PySem.wpAny_toks B) (fun f s4 q4 => ?_) (fun _ _ x => x.2))
  obtain ⟨hk4, rfl, I4⟩ := q4
  exact h2 pins s4 _ H1 D (by omega) I4 q
end
end Z
namespace Z
open PySem L2 SX
/-! ### items that are joined, and split again -/
theorem spl_no {it : List Nat} : (44 ∉ it) → ∀ acc : List Nat, TL.spl [44] 0 acc it = [acc ++ it] := by
  induction it with
  | nil => intro _ acc; rw [TL.spl_nil, List.append_nil]
  | cons c r ih =>
    intro h acc
    have hc : c ≠ 44 := fun e => h (by rw [e]; exact List.mem_cons_self)
    rw [TL.spl_miss (show TL.pre [44] (c :: r) = false by show ([c] == [44]) = false; simp [hc]), ih (fun m => h (List.mem_cons_of_mem _ m)), List.append_assoc]; rfl
theorem spl_cut {it m : List Nat} : (44 ∉ it) → ∀ acc : List Nat, TL.spl [44] 0 acc (it ++ 44 :: m) = (acc ++ it) :: TL.spl [44] 0 [] m := by
  induction it with
  | nil =>
    intro _ acc
    rw [List.nil_append, TL.spl_hit (show TL.pre [44] (44 :: m) = true by show ([44] == [44]) = true; rfl), List.append_nil]; rfl
  | cons c r ih =>
    intro h acc
    have hc : c ≠ 44 := fun e => h (by rw [e]; exact List.mem_cons_self)
    show TL.spl [44] 0 acc (c :: (r ++ 44 :: m)) = _
    rw [TL.spl_miss (show TL.pre [44] (c :: (r ++ 44 :: m)) = false by show ([c] == [44]) = false; simp [hc]), ih (fun m => h (List.mem_cons_of_mem _ m)), List.append_assoc]; rfl
theorem spl_join : ∀ {its : List (List Nat)}, its ≠ [] → (∀ it ∈ its, 44 ∉ it) → TL.spl [44] 0 [] (TL.joinL [44] its) = its
  | [], h, _ => absurd rfl h
  | [x], _, h => by
    show TL.spl [44] 0 [] x = [x]
    rw [spl_no (h x (by simp))]; rfl
  | x :: y :: r, _, h => by
    show TL.spl [44] 0 [] (x ++ ([44] ++ TL.joinL [44] (y :: r))) = _
    rw [show x ++ ([44] ++ TL.joinL [44] (y :: r)) = x ++ 44 :: TL.joinL [44] (y :: r) from rfl, spl_cut (h x (by simp)), spl_join (by simp) (fun z m => h z (List.mem_cons_of_mem _ m))]; rfl
/-- a text whose items are right -/
def GP (l : List Nat) : Prop := (TL.spl [44] 0 [] l).all goodItem = true
def okG (l : List Nat) : Prop := l ≠ [] ∧ ∀ c ∈ l, okc c = true
theorem good_no {it : List Nat} (h : goodItem it = true) : 44 ∉ it := fun m => by
  unfold goodItem at h
  have h2 := List.all_eq_true.mp (Bool.and_eq_true_iff.mp h).2
  unfold globP at h2
  by_cases e : it.take 1 = [33]
  · rw [if_pos (decide_eq_true e)] at h2
    cases it with
    | nil => cases m
    | cons c r =>
      have : c = 33 := by simpa using e
      subst this
      rcases List.mem_cons.mp m with q | q
      · cases q
      · have := h2 44 q; rw [okc_44] at this; cases this
  · rw [if_neg (fun q => e (of_decide_eq_true q))] at h2
    have := h2 44 m; rw [okc_44] at this; cases this
theorem okG.no33 {g : List Nat} (h : okG g) : ¬ g.take 1 = [33] := fun e => by
  cases g with
  | nil => exact h.1 rfl
  | cons c r =>
    have : c = 33 := by simpa using e
    subst this
    have := h.2 33 (by simp); rw [okc_33] at this; cases this
theorem good_glob {g : List Nat} (h : okG g) : goodItem g = true ∧ goodItem (33 :: g) = true := by
  have ha : g.all okc = true := List.all_eq_true.mpr h.2
  constructor
  · unfold goodItem globP
    rw [if_neg (fun q => h.no33 (of_decide_eq_true q)), ha, decide_eq_true h.1]; rfl
  · have e : globP (33 :: g) = g := by unfold globP; rw [if_pos (decide_eq_true (by simp))]; rfl
    unfold goodItem
    rw [e, ha, decide_eq_true h.1]; rfl
theorem GP.join {its : List (List Nat)} (ne : its ≠ []) (h : ∀ it ∈ its, goodItem it = true) : GP (TL.joinL [44] its) := by
  unfold GP
  rw [spl_join ne fun it m => good_no (h it m)]
  exact List.all_eq_true.mpr h
theorem lastOf_app (m : List Nat) : ∀ (l : List Nat) (a : Nat), lastOf a (l ++ m) = lastOf (lastOf a l) m
  | [], _ => rfl
  | c :: r, _ => lastOf_app m r c
theorem runs_ok {m : List Nat} : ∀ a : Nat, (∀ c ∈ m, okc c = true) → runs a m = true := by
  induction m with
  | nil => intro a _; rfl
  | cons c r ih =>
    intro a h
    show (step a c && runs c r) = true
    rw [ih c (fun d hd => h d (List.mem_cons_of_mem _ hd))]
    unfold step
    rw [h c (by simp)]; simp
theorem last_ok {m : List Nat} : ∀ a : Nat, (∀ c ∈ m, okc c = true) → m ≠ [] → endOk (lastOf a m) = true := by
  induction m with
  | nil => intro a _ h; exact absurd rfl h
  | cons c r ih =>
    intro a h _
    show endOk (lastOf c r) = true
    by_cases e : r = []
    · subst e
      show endOk c = true
      have hc := h c (by simp)
      unfold endOk
      rw [decide_eq_true (show c ≠ 44 from fun e => by rw [e, okc_44] at hc; cases hc), decide_eq_true (show c ≠ 33 from fun e => by rw [e, okc_33] at hc; cases hc)]; rfl
    · exact ih c (fun d hd => h d (List.mem_cons_of_mem _ hd)) e
theorem GP_iff {l : List Nat} : GP l ↔ (runs 44 l && endOk (lastOf 44 l)) = true := by
  unfold GP
  rw [spl_good l [] (by decide)]; rfl
theorem GP.app {l m : List Nat} (h : GP l) (hm : ∀ c ∈ m, okc c = true) : GP (l ++ m) := by
  by_cases e : m = []
  · subst e; rw [List.append_nil]; exact h
  rw [GP_iff] at h ⊢
  obtain ⟨h1, h2⟩ := Bool.and_eq_true_iff.mp h
  rw [runs_app, lastOf_app, h1, runs_ok _ hm, last_ok _ hm e]; rfl
/-- the other sign -/
def turnI (it : List Nat) : List Nat := if isBar it = true then it.drop 1 else 33 :: it
def oppI (l : List Nat) : List (List Nat) := [42] :: (parts l).map turnI
def oppL (l : List Nat) : List Nat := TL.joinL [44] (oppI l)
theorem globOf_nb {x : List Nat} (h : isBar x = false) : globOf x = x := by unfold globOf; rw [if_neg (by rw [h]; exact Bool.false_ne_true)]
theorem turn_good {it : List Nat} (h : goodItem it = true) : goodItem (turnI it) = true ∧ globOf (turnI it) = globOf it ∧ isBar (turnI it) = !isBar it := by
  have hg : okG (globOf it) := by
    unfold goodItem at h
    obtain ⟨h1, h2⟩ := Bool.and_eq_true_iff.mp h
    exact ⟨of_decide_eq_true h1, List.all_eq_true.mp h2⟩
  unfold turnI
  by_cases e : isBar it = true
  · have eg : globOf it = it.drop 1 := by unfold globOf; rw [if_pos e]
    rw [if_pos e, ← eg]
    have nb : isBar (globOf it) = false := by unfold isBar; exact decide_eq_false hg.no33
    exact ⟨(good_glob hg).1, globOf_nb nb, by rw [nb, e]; rfl⟩
  · have e' : isBar it = false := by simpa using e
    have eg : globOf it = it := by unfold globOf; rw [if_neg e]
    rw [if_neg e]
    have hb : isBar (33 :: it) = true := by unfold isBar; exact decide_eq_true (by simp)
    rw [eg] at hg
    refine ⟨(good_glob hg).2, ?_, by rw [hb, e']; rfl⟩
    rw [eg]; unfold globOf; rw [if_pos hb]; rfl
theorem GP.good {l it : List Nat} (h : GP l) (m : it ∈ parts l) : goodItem it = true := List.all_eq_true.mp h it m
theorem opp_good {l : List Nat} (h : GP l) : ∀ it ∈ oppI l, goodItem it = true := fun it m => by
  rcases List.mem_cons.mp m with e | m
  · subst e; decide +kernel
  · obtain ⟨x, hx, rfl⟩ := List.mem_map.mp m
    exact (turn_good (h.good hx)).1
theorem opp_parts {l : List Nat} (h : GP l) : parts (oppL l) = oppI l := spl_join (by unfold oppI; simp) fun it m => good_no (opp_good h it m)
theorem isPat_opp {l : List Nat} (h : GP l) : isPat (oppL l) = (decide ((oppL l).length ≤ 60) && decide ((parts l).length ≤ 7)) := by
  unfold isPat
  have e : TL.spl [44] 0 [] (oppL l) = oppI l := opp_parts h
  rw [e, List.all_eq_true.mpr (opp_good h), Bool.and_true]
  rw [show decide ((oppI l).length ≤ 8) = decide ((parts l).length ≤ 7) by
    rw [decide_eq_decide]; unfold oppI; rw [List.length_cons, List.length_map]; omega]
theorem fit_star (b : List Nat) : fit [42] b := by
  have key : ∀ (b : List Nat) (M : Nat → Prop), M 1 → (b.foldl (fun M c => nxt [42] M c) M) 1 := by
    intro b
    induction b with
    | nil => intro M h; exact h
    | cons c r ih => intro M h; exact ih _ (.inl ⟨rfl, .inr h⟩)
  exact key b _ ⟨rfl, True.intro⟩
open Classical in
theorem lets_opp {l b : List Nat} (h : GP l) : letsL (oppI l) b = !letsL (parts l) b := by
  have key : ∀ (its : List (List Nat)) (v : Bool), (∀ it ∈ its, goodItem it = true) →
      (its.map turnI).foldl (fun ans it => if fit (globOf it) b then !isBar it else ans) (!v) = !(its.foldl (fun ans it => if fit (globOf it) b then !isBar it else ans) v) := by
    intro its
    induction its with
    | nil => intro v _; rfl
    | cons x r ih =>
      intro v hg
      obtain ⟨_, t2, t3⟩ := turn_good (hg x (by simp))
      rw [List.map_cons, List.foldl_cons, List.foldl_cons, t2, t3, ← ih _ (fun y hy => hg y (List.mem_cons_of_mem _ hy))]
      congr 1
      by_cases hf : fit (globOf x) b
      · rw [if_pos hf, if_pos hf]
      · rw [if_neg hf, if_neg hf]
  have := key (parts l) false fun it m => h.good m
  unfold letsL
  unfold oppI
  rw [List.foldl_cons]
  have g42 : globOf [42] = [42] := by decide +kernel
  rw [g42, if_pos (fit_star b), show (!isBar [42]) = !false by decide +kernel]
  exact this
theorem isBeg_take {l : List Nat} (h : isBeg l = true) (k : Nat) : isBeg (l.take k) = true := by
  have key : ∀ (m : Nat), m ≤ l.length → isBeg (l.take (l.length - m)) = true := by
    intro m
    induction m with
    | zero => intro _; rw [Nat.sub_zero, List.take_length]; exact h
    | succ m ih =>
      intro hm
      have h1 := ih (by omega)
      have e : l.length - m = l.length - (m + 1) + 1 := by omega
      have hi : l.length - (m + 1) < l.length := by omega
      rw [e, List.take_add_one, List.getElem?_eq_getElem hi] at h1
      have h2 : isBeg (l.take (l.length - (m + 1)) ++ [l[l.length - (m + 1)]]) = true := h1
      rw [isBeg_snoc] at h2
      exact (Bool.and_eq_true_iff.mp h2).1
  by_cases hk : k ≤ l.length
  · have := key (l.length - k) (by omega)
    rw [show l.length - (l.length - k) = k by omega] at this; exact this
  · rw [List.take_of_length_le (by omega)]; exact h
theorem pat_wrong {l : List Nat} {o : Option Nat} (w : wrongAt l o) : decide (optV o = V.non) = isPat l := by
  cases o with
  | none => rw [w.2]; rfl
  | some k =>
    cases e : isPat l with
    | false => exact decide_eq_false (fun h => by cases h)
    | true =>
      have hb : isBeg l = true := by unfold isBeg; rw [e]; rfl
      have := wrongAt_one w (p := none) ⟨fun j _ => isBeg_take hb _, e⟩
      cases this
def sp_is_pattern : Sp := fun vs H Q _ => ∃ (x : Str), vs = [.str x] ∧ (tl x).length ≤ 2000 ∧ ∀ H', Same H H' → Q (.bl (isPat (tl x))) H'
def oppD (l : List Nat) : D := if isPat (oppL l) = true then .tup [.str (Str.ofString "told"), .str (S (oppL l))] else .tup [.str (Str.ofString "large"), .str (Str.ofString "pattern")]
def sp_opp (K : PySem.W.Frag) : Sp := fun vs H Q _ => ∃ (x : Str), vs = [.str x] ∧ (tl x).length ≤ 200 ∧ GP (tl x) ∧ ∀ v H', DV K H' (oppD (tl x)) v → Same H H' → Q v H'
def sp_opposite (K : PySem.W.Frag) (C : Addr) : Sp := fun vs H Q E => ∃ (x : Str), vs = [.str x] ∧ (tl x).length ≤ 200 ∧ GP (tl x) ∧ (isPat (oppL (tl x)) = true → ∀ H', Same H H' → Q (.str (S (oppL (tl x)))) H') ∧
  (isPat (oppL (tl x)) = false → ∀ (dd : Addr) (H1 : Hp), Same H H1 → H1 dd = some (.xd [("part", .str (Str.ofString "pattern"))]) → E (.ref C) (some dd) H1)
def sp_write_patternL (K : PySem.W.Frag) : Sp := fun vs H Q _ => ∃ (a : Addr) (ts : List Addr) (its : List (List Nat)), vs = [.ref a] ∧ SqL K H a (ts.map V.ref) ∧ ts.length = its.length ∧ its.length ≤ 1000 ∧ (∀ it ∈ its, it.length ≤ 1000) ∧ (∀ (k : Nat) (t : Addr) (it : List Nat), ts[k]? = some t → its[k]? = some it → SqT K H t (itemP it)) ∧
  ∀ (y : Str) (H' : Hp), tl y = TL.joinL [44] its → Same H H' → Q (.str y) H'
def sp_sight (K : PySem.W.Frag) : Sp := fun vs H Q _ => ∃ (a b : Addr) (ps bs : List Str), vs = [.ref a, .ref b] ∧ SqT K H a (ps.map V.str) ∧ SqT K H b (bs.map V.str) ∧ (∀ p ∈ ps, (tl p).length ≤ 3000) ∧ ps.length ≤ 1000 ∧ bs.length ≤ 1000 ∧ (∀ b ∈ bs, Clean (tl b)) ∧
  ∀ (t : Addr) (H' : Hp), Same H H' → SqT K H' t ((ps.map fun p => if (bs.any fun b => letsL (parts (tl p)) (tl b)) = true then (1 : Int) else 0).map V.int) → Q (.ref t) H'
def sp_lets_someL (K : PySem.W.Frag) : Sp := fun vs H Q _ => ∃ (p : Str) (a : Addr) (bs : List Str), vs = [.str p, .ref a] ∧ SqL K H a (bs.map V.str) ∧ (tl p).length ≤ 3000 ∧ bs.length ≤ 1000 ∧ (∀ b ∈ bs, Clean (tl b)) ∧ ∀ H', Same H H' → Q (.bl (bs.any fun b => letsL (parts (tl p)) (tl b))) H'
def sp_pattern_right (K : PySem.W.Frag) : Sp := fun vs H Q _ => ∃ (p : Str) (a : Addr) (bs : List Str), vs = [.str p, .ref a] ∧ SqL K H a (bs.map V.str) ∧ (tl p).length ≤ 200 ∧ GP (tl p) ∧ bs.length ≤ 1000 ∧ (∀ b ∈ bs, Clean (tl b)) ∧ ∀ H', Same H H' → Q (.bl true) H'
/-! ### signs, boards, globs, patterns, as they are drawn -/
abbrev sgs (cs : List Nat) : List V := cs.map fun c => V.str (S [c])
def No42 (l : List Nat) : Prop := ∀ c ∈ l, c ≠ 42
theorem No42.app {a b : List Nat} (x : No42 a) (y : No42 b) : No42 (a ++ b) := fun c h => (List.mem_append.mp h).elim (x c) (y c)
def Sgns (cs : List Nat) : Prop := cs.length = 4 ∧ ∀ c ∈ cs, (97 ≤ c ∧ c ≤ 122) ∨ (48 ≤ c ∧ c ≤ 57)
theorem okc_low {c : Nat} (h : (97 ≤ c ∧ c ≤ 122) ∨ (48 ≤ c ∧ c ≤ 57)) : okc c = true := by
  have e : tl (Str.ofString "abcdefghijklmnopqrstuvwxyz0123456789.*?") = List.range' 97 26 ++ List.range' 48 10 ++ [46, 42, 63] := by decide +kernel
  unfold okc
  rw [e]
  refine decide_eq_true (List.mem_append_left _ (List.mem_append.mpr ?_))
  rw [List.mem_range'_1, List.mem_range'_1]
  omega
def Wds (us : List Str) : Prop := us ≠ [] ∧ us.length ≤ 9 ∧ ∀ x ∈ us, Nm (tl x) ∧ (tl x).length ≤ 8
/-- tuples stay -/
def TK (K : PySem.W.Frag) (H H' : Hp) : Prop := ∀ a xs, SqT K H a xs → SqT K H' a xs
theorem TK.same {K : PySem.W.Frag} {H H' : Hp} (h : Same H H') : TK K H H' := fun _ _ q => h.tup q
theorem TK.ext {K : PySem.W.Frag} {H H' : Hp} {s a : Addr} {c : Nat} (h : Ext s H H') (S : Src H s a c) : TK K H H' := fun _ _ q => h.seqT S.lst.choose_spec q
theorem TK.trans {K : PySem.W.Frag} {H H1 H2 : Hp} (x : TK K H H1) (y : TK K H1 H2) : TK K H H2 := fun a xs q => y a xs (x a xs q)
/-- signs of boards -/
def Bdc (l : List Nat) : Prop := ∀ c ∈ l, (97 ≤ c ∧ c ≤ 122) ∨ (48 ≤ c ∧ c ≤ 57) ∨ c = 46
theorem Low.bdc {l : List Nat} (h : Low l) : Bdc l := fun c m => (h c m).elim .inl fun q => .inr (.inl q)
theorem Bdc.clean {l : List Nat} (h : Bdc l) : Clean l := fun c m => by have := h c m; omega
theorem Bdc.okc {l : List Nat} (h : Bdc l) : ∀ c ∈ l, okc c = true := fun c m => by
  rcases h c m with q | q | q
  · exact okc_low (.inl q)
  · exact okc_low (.inr q)
  · subst q; decide +kernel
theorem Low.okc {l : List Nat} (h : Low l) : ∀ c ∈ l, Z.okc c = true := h.bdc.okc
theorem Nm.ne {l : List Nat} (h : Nm l) : l ≠ [] := fun e => by obtain ⟨⟨c, r, e2, _⟩, _⟩ := h; rw [e] at e2; cases e2
theorem joinL_mem {s : List Nat} : ∀ {ls : List (List Nat)} {c : Nat}, c ∈ TL.joinL s ls → c ∈ s ∨ ∃ l ∈ ls, c ∈ l
  | [], c, h => by cases h
  | [x], c, h => .inr ⟨x, by simp, h⟩
  | x :: y :: r, c, h => by
    have h' : c ∈ x ++ (s ++ TL.joinL s (y :: r)) := h
    rcases List.mem_append.mp h' with q | q
    · exact .inr ⟨x, by simp, q⟩
    · rcases List.mem_append.mp q with q | q
      · exact .inl q
      · rcases joinL_mem q with q | ⟨l, m, q⟩
        · exact .inl q
        · exact .inr ⟨l, List.mem_cons_of_mem _ m, q⟩
theorem joinL_ne {s : List Nat} {ls : List (List Nat)} (h : ls ≠ []) (hx : ∀ l ∈ ls, l ≠ []) : TL.joinL s ls ≠ [] := fun e => by
  match ls, h with
  | [x], _ => exact hx x (by simp) e
  | x :: y :: r, _ =>
    have e' : x ++ (s ++ TL.joinL s (y :: r)) = [] := e
    exact hx x (by simp) (List.append_eq_nil_iff.mp e').1
def sp8__law_new_name (K : PySem.W.Frag) : Sp := fun vs H Q _ => ∃ (s a u : Addr) (us : List Str) (c : Nat), vs = [.ref s, .ref u] ∧ SqL K H u (us.map V.str) ∧ u ≠ s ∧ us.length ≤ 9 ∧ Src H s a (c + 8) ∧
  ∀ (x : Str) (H' : Hp), Nm (tl x) → (tl x).length ≤ 8 → Ext s H H' → Src H' s a c → Q (.str x) H'
def sp8__law_names (K : PySem.W.Frag) : Sp := fun vs H Q _ => ∃ (s a : Addr) (m c : Nat), vs = [.ref s, .int m] ∧ m ≤ 9 ∧ Src H s a (c + 8 * m) ∧
  ∀ (u : Addr) (us : List Str) (H' : Hp), H u = none → H' u = some (.lst (us.map V.str)) → us.length = m → (∀ x ∈ us, Nm (tl x) ∧ (tl x).length ≤ 8) → Ext s H H' → Src H' s a c → Q (.ref u) H'
def sp2__law_words (K : PySem.W.Frag) : Sp := fun vs H Q _ => ∃ (s a : Addr) (c : Nat), vs = [.ref s] ∧ Src H s a (c + 100) ∧
  ∀ (u : Addr) (us : List Str) (H' : Hp), H u = none → H' u = some (.lst (us.map V.str)) → Wds us → Ext s H H' → Src H' s a c → Q (.ref u) H'
def sp2__law_board (K : PySem.W.Frag) : Sp := fun vs H Q _ => ∃ (s a u : Addr) (us : List Str) (c : Nat), vs = [.ref s, .ref u] ∧ SqL K H u (us.map V.str) ∧ u ≠ s ∧ Wds us ∧ Src H s a (c + 10) ∧
  ∀ (x : Str) (H' : Hp), Bdc (tl x) → tl x ≠ [] → (tl x).length ≤ 30 → Ext s H H' → Src H' s a c → Q (.str x) H'
def sp2__law_boards (K : PySem.W.Frag) : Sp := fun vs H Q _ => ∃ (s a u : Addr) (us : List Str) (m : Int) (c : Nat), vs = [.ref s, .ref u, .int m] ∧ SqL K H u (us.map V.str) ∧ u ≠ s ∧ Wds us ∧ 0 < m ∧ m ≤ 10 ∧ Src H s a (c + 200) ∧
  ∀ (t : Addr) (bs : List Str) (H' : Hp), H' t = some (.tup (bs.map V.str)) → bs.length ≤ 10 → (∀ x ∈ bs, Bdc (tl x) ∧ (tl x).length ≤ 30) → Ext s H H' → Src H' s a c → Q (.ref t) H'
def sp2__law_glob (K : PySem.W.Frag) : Sp := fun vs H Q _ => ∃ (s a u : Addr) (us : List Str) (c : Nat), vs = [.ref s, .ref u] ∧ SqL K H u (us.map V.str) ∧ u ≠ s ∧ Wds us ∧ Src H s a (c + 20) ∧
  ∀ (x : Str) (H' : Hp), okG (tl x) → (tl x).length ≤ 40 → Ext s H H' → Src H' s a c → Q (.str x) H'
def sp2__law_pattern (K : PySem.W.Frag) : Sp := fun vs H Q _ => ∃ (s a u : Addr) (us : List Str) (c : Nat), vs = [.ref s, .ref u] ∧ SqL K H u (us.map V.str) ∧ u ≠ s ∧ Wds us ∧ Src H s a (c + 200) ∧
  ∀ (x : Str) (H' : Hp), GP (tl x) → (tl x).length ≤ 130 → Ext s H H' → Src H' s a c → Q (.str x) H'
def sp__law_shuffled (K : PySem.W.Frag) : Sp := fun vs H Q _ => ∃ (s a r : Addr) (xs : List V) (c : Nat), vs = [.ref s, .ref r] ∧ SqL K H r xs ∧ r ≠ s ∧ xs.length ≤ 1000 ∧ Src H s a (c + xs.length) ∧
  ∀ (d : Addr) (ys : List V) (H' : Hp), H d = none → H' d = some (.lst ys) → ys.length = xs.length → (∀ y ∈ ys, y ∈ xs) → Ext s H H' → Src H' s a c → Q (.ref d) H'
def sp2__law_signs : Sp := fun vs H Q _ => ∃ (s a : Addr) (c : Nat), vs = [.ref s] ∧ Src H s a (c + 10) ∧
  ∀ (u : Addr) (cs : List Nat) (H' : Hp), H u = none → H' u = some (.lst (sgs cs)) → Sgns cs → Ext s H H' → Src H' s a c → Q (.ref u) H'
def sp2__law_free_glob (K : PySem.W.Frag) : Sp := fun vs H Q _ => ∃ (s a u : Addr) (cs : List Nat) (m : Int) (c : Nat), vs = [.ref s, .ref u, .int m] ∧ SqL K H u (sgs cs) ∧ u ≠ s ∧ Sgns cs ∧ 0 < m ∧ m ≤ 60 ∧ Src H s a (c + 100) ∧
  ∀ (g : Str) (H' : Hp), okG (tl g) → ((tl g).length : Int) ≤ m → Ext s H H' → Src H' s a c → Q (.str g) H'
def sp__law_put : Sp := fun vs H Q _ => ∃ (t : Str) (c : Nat), vs = [.str t, .str (S [c])] ∧ c ≠ 42 ∧ No42 (tl t) ∧ (tl t).length ≤ 9000 ∧ ∀ (y : Str) (H' : Hp), Same H H' → No42 (tl y) → (tl y).length ≤ (tl t).length + 1 → Q (.str y) H'
def sp__law_drawn (K : PySem.W.Frag) : Sp := fun vs H Q _ => ∃ (s a u w : Addr) (cs : List Nat) (us : List Str) (c : Nat), vs = [.ref s, .ref u, .ref w] ∧ SqL K H u (sgs cs) ∧ u ≠ s ∧ Sgns cs ∧ SqL K H w (us.map V.str) ∧ w ≠ s ∧ Wds us ∧ Src H s a (c + 2000) ∧
  ∀ (x : Str) (H' : Hp), GP (tl x) → (tl x).length ≤ 200 → Ext s H H' → Src H' s a c → Q (.str x) H'
def sp__law_board_for (K : PySem.W.Frag) : Sp := fun vs H Q _ => ∃ (s a u : Addr) (p : Str) (cs : List Nat) (c : Nat), vs = [.ref s, .str p, .ref u] ∧ (tl p).length ≤ 200 ∧ H u = some (.lst (sgs cs)) ∧ u ≠ s ∧ Sgns cs ∧ Src H s a (c + 2000) ∧
  ∀ (y : Str) (H' : Hp), No42 (tl y) → (tl y).length ≤ 500 → Ext s H H' → Src H' s a c → Q (.str y) H'
theorem strike_len (c : Nat) : ∀ {l : List Nat}, l.Nodup → l.length ≤ (l.filter (· != c)).length + 1
  | [], _ => by simp
  | x :: r, h => by
    have hh := List.nodup_cons.mp h
    by_cases e : x = c
    · subst e
      have : r.filter (· != x) = r := List.filter_eq_self.mpr fun y hy => by
        have : y ≠ x := fun e => hh.1 (e ▸ hy)
        simp [this]
      rw [List.filter_cons_of_neg (by simp), this, List.length_cons]; exact Nat.le_refl _
    · rw [List.filter_cons_of_pos (by simp [e]), List.length_cons, List.length_cons]
      have := strike_len c hh.2
      omega
theorem tl_strike (z : Str) (c : Nat) : tl (Txt.replace z ⟨#[c]⟩ (Str.ofString "")) = (tl z).filter (· != c) := PyProof.Rows.replace_strikes z c
theorem cut_mem (x : Str) (i j : Option Int) : ∀ c ∈ tl (cutS x i j), c ∈ tl x := fun c h => by
  have h' : c ∈ (List.drop _ (tl x)).take _ := h
  exact List.mem_of_mem_drop (List.mem_of_mem_take h')
/-- what is stripped at the end is a piece -/
theorem rstrip_sub (x y : Str) : (∀ c ∈ tl (Txt.rstripChars x y), c ∈ tl x) ∧ (tl (Txt.rstripChars x y)).length ≤ (tl x).length := by
  have e : ∃ i j, tl (Txt.rstripChars x y) = ((tl x).drop i).take (j - i) := by
    have h := PyProof.Rows.stripBy_eq y.cps.contains false true x
    apply Exists.intro; apply Exists.intro
    refine (congrArg tl h).trans ?_
    show (x.cps.extract _ _).toList = _
    rw [Array.toList_extract]
  obtain ⟨i, j, e⟩ := e
  rw [e]
  exact ⟨fun c m => List.mem_of_mem_drop (List.mem_of_mem_take m), by rw [List.length_take, List.length_drop]; omega⟩
/-- a walk over the signs of a text behind a token -/
theorem pit_str {X : Cx} {tg e : Expr} {te : TE} (he : PET X e te) : PIT X tg e (iStr te) := by
  intro pins s σ H R h0 I h
  refine thn (he pins s σ H _ h0 I h) fun v s1 hh => ?_
  obtain ⟨y, H1, I1, r1, x, rfl, q⟩ := hh
  obtain ⟨t, rfl⟩ := r1
  have J := fun (ty : String) (hty : ty = "str_ascii_iterator" ∨ ty = "str_iterator") => pi_one (tk := s1.toks) I1 (tg := tg) (R := R) ⟨.type ty, none, .fields #[.str x t, .int 0 0], #[]⟩ (turn_str _ x t ty hty) ⟨_, Heap.get?_push_size _ rfl, rfl, rfl⟩ q
  by_cases ha : x.cps.all (· < 128) = true
  · exact wpAny_pyIter_ascii ha (J _ (.inl rfl))
  · exact wpAny_pyIter_wide (by simpa using ha) (J _ (.inr rfl))
theorem strs_of {ws : List V} {bs : List Str} (h : ∀ y ∈ ws, y ∈ bs.map V.str) : ∃ cs : List Str, ws = cs.map V.str ∧ ∀ c ∈ cs, c ∈ bs := by
  induction ws with
  | nil => exact ⟨[], rfl, fun _ h => by cases h⟩
  | cons w ws ih =>
    obtain ⟨cs, e, k⟩ := ih fun y hy => h y (List.mem_cons_of_mem _ hy)
    obtain ⟨b, hb, rfl⟩ := List.mem_map.mp (h w (by simp))
    exact ⟨b :: cs, by rw [e]; rfl, fun c hc => by
      rcases List.mem_cons.mp hc with e | hc
      · rw [e]; exact hb
      · exact k c hc⟩
theorem joinL_sum : ∀ {ls : List (List Nat)}, ls ≠ [] → (TL.joinL [44] ls).length + 1 = (ls.map fun it => it.length + 1).sum
  | [], h => absurd rfl h
  | [x], _ => by show x.length + 1 = _; simp
  | x :: y :: r, _ => by
    have ih := joinL_sum (ls := y :: r) (by simp)
    show (x ++ ([44] ++ TL.joinL [44] (y :: r))).length + 1 = _
    rw [List.map_cons, List.sum_cons, ← ih, List.length_append, List.length_append]
    show x.length + (1 + _) + 1 = _
    omega
theorem turn_len (it : List Nat) : (turnI it).length ≤ it.length + 1 := by
  unfold turnI
  split
  · rw [List.length_drop]; omega
  · exact Nat.le_refl _
theorem turn_sum : ∀ ls : List (List Nat), ((ls.map turnI).map fun it => it.length + 1).sum ≤ (ls.map fun it => it.length + 1).sum + ls.length
  | [] => Nat.le_refl _
  | x :: r => by
    have := turn_sum r
    have := turn_len x
    rw [List.map_cons, List.map_cons, List.map_cons, List.sum_cons, List.sum_cons, List.length_cons]
    omega
theorem opp_len (l : List Nat) : (oppL l).length ≤ 2 * l.length + 3 := by
  have h1 := joinL_sum (ls := oppI l) (by unfold oppI; simp)
  have h2 := turn_sum (parts l)
  have h3 := parts_num l
  have ne : parts l ≠ [] := fun h => by
    have := spl_count l []
    have h' : TL.spl [44] 0 [] l = [] := h
    rw [h'] at this; cases this
  have h4 := joinL_sum ne
  have e : TL.joinL [44] (parts l) = l := join_spl l []
  rw [e] at h4
  have h5 : ((oppI l).map fun it => it.length + 1).sum = 2 + (((parts l).map turnI).map fun it => it.length + 1).sum := by
    unfold oppI; rw [List.map_cons, List.sum_cons]; rfl
  have h6 : (oppL l).length = (TL.joinL [44] (oppI l)).length := rfl
  omega
theorem joinL_snoc {y : List Nat} : ∀ {ls : List (List Nat)}, ls ≠ [] → TL.joinL [44] (ls ++ [y]) = TL.joinL [44] ls ++ 44 :: y
  | [], h => absurd rfl h
  | [x], _ => rfl
  | x :: z :: r, _ => by
    have ih := joinL_snoc (y := y) (ls := z :: r) (by simp)
    show x ++ ([44] ++ TL.joinL [44] (z :: r ++ [y])) = (x ++ ([44] ++ TL.joinL [44] (z :: r))) ++ 44 :: y
    rw [ih]; simp
theorem DL_opp (l : List Nat) : DL 3 (oppD l) := by
  unfold oppD
  split
  · refine ⟨by show 2 ≤ _; decide, fun x hx => ?_⟩
    rcases List.mem_cons.mp hx with e | hx
    · subst e; exact True.intro
    · rw [List.mem_singleton.mp hx]; exact True.intro
  · refine ⟨by show 2 ≤ _; decide, fun x hx => ?_⟩
    rcases List.mem_cons.mp hx with e | hx
    · subst e; exact True.intro
    · rw [List.mem_singleton.mp hx]; exact True.intro
theorem DV_pair {K : PySem.W.Frag} {H : Hp} {t : Addr} {x y : Str} (h : SqT K H t [V.str x, V.str y]) : DV K H (.tup [.str x, .str y]) (.ref t) :=
  ⟨t, _, rfl, h, _, _, rfl, by unfold DV; rfl, _, _, rfl, by unfold DV; rfl, rfl⟩
theorem DV_pair_inv {K : PySem.W.Frag} {H : Hp} {v : V} {x y : Str} (h : DV K H (.tup [.str x, .str y]) v) : ∃ t, v = .ref t ∧ SqT K H t [V.str x, V.str y] := by
  obtain ⟨t, vs, rfl, hS, h3⟩ := h
  obtain ⟨u1, r1, rfl, e1, h4⟩ := h3
  obtain ⟨u2, r2, rfl, e2, h5⟩ := h4
  unfold DV at e1 e2
  unfold DVs at h5
  subst e1 e2 h5
  exact ⟨t, rfl, hS⟩
end Z
namespace Z
open PySem PySem.W PySem.Calls PyProof.Rows L2
/-! ### sorted(tuples of texts and numbers), min and max of two texts -/
/-- a text where the shape says so, elsewhere a number -/
def Shp (shape : Nat → Bool) : Nat → List V → Prop
  | _, [] => True
  | i, .int _ :: r => shape i = false ∧ Shp shape (i + 1) r
  | i, .str _ :: r => shape i = true ∧ Shp shape (i + 1) r
  | _, _ :: _ => False
/-- what the sort asks of a tuple in the heap -/
def TupAt (h : Heap) (shape : Nat → Bool) (v : Value) : Prop := ∃ (a : Addr) (o : Obj) (us : List Value) (n : Nat) (as : List (Int ⊕ List Nat)), v = .ref a ∧ h.get? a = some o ∧ o.cls = .type "tuple" ∧ o.data = .seq us.toArray n ∧ tupItems shape 0 us = some as ∧
  ∃ f, us[0]? = some f ∧ (shape 0 = false → ∃ k t, f = .int k t) ∧ (shape 0 = true → ∃ x t, f = .str x t)
theorem TupAt.keep {h h' : Heap} {shape : Nat → Bool} {v : Value} (p : TupAt h shape v) (k : ∀ b o, h.get? b = some o → o.cls = .type "tuple" → h'.get? b = some o) : TupAt h' shape v := by
  obtain ⟨a, o, us, n, as, e, g, c, r⟩ := p
  exact ⟨a, o, us, n, as, e, k _ _ g c, c, r⟩
theorem shp_items {shape : Nat → Bool} : ∀ {ws : List V} {us : List Value} {i : Nat}, Shp shape i ws → Vals ws us → ∃ l, tupItems shape i us = some l
  | [], _, _, _, r => by cases r; exact ⟨[], by simp [tupItems]⟩
  | .int k :: ws, _, i, h, r => by
    cases r with
    | cons r1 r2 =>
      obtain ⟨t, rfl⟩ := r1
      obtain ⟨l, hl⟩ := shp_items h.2 r2
      exact ⟨.inl k :: l, by simp [tupItems, h.1, hl]⟩
  | .str x :: ws, _, i, h, r => by
    cases r with
    | cons r1 r2 =>
      obtain ⟨t, rfl⟩ := r1
      obtain ⟨l, hl⟩ := shp_items h.2 r2
      exact ⟨.inr x.cps.toList :: l, by simp [tupItems, h.1, hl]⟩
  | .non :: _, _, _, h, _ => by unfold Shp at h; exact h.elim
  | .bl _ :: _, _, _, h, _ => by unfold Shp at h; exact h.elim
  | .ref _ :: _, _, _, h, _ => by unfold Shp at h; exact h.elim
  | .ty _ :: _, _, _, h, _ => by unfold Shp at h; exact h.elim
  | .byt _ :: _, _, _, h, _ => by unfold Shp at h; exact h.elim
  | .flt _ :: _, _, _, h, _ => by unfold Shp at h; exact h.elim
theorem shp_first {shape : Nat → Bool} {ws : List V} {us : List Value} (h : Shp shape 0 ws) (ne : ws ≠ []) (r : Vals ws us) : ∃ f, us[0]? = some f ∧ (shape 0 = false → ∃ k t, f = .int k t) ∧ (shape 0 = true → ∃ x t, f = .str x t) := by
  cases r with
  | nil => exact absurd rfl ne
  | @cons w u ws us r1 r2 =>
    refine ⟨u, rfl, fun e => ?_, fun e => ?_⟩
    · cases w with
      | int k => obtain ⟨t, rfl⟩ := r1; exact ⟨k, t, rfl⟩
      | str x => have := h.1; rw [e] at this; cases this
      | _ => unfold Shp at h; exact h.elim
    · cases w with
      | str x => obtain ⟨t, rfl⟩ := r1; exact ⟨x, t, rfl⟩
      | int x => have := h.1; rw [e] at this; cases this
      | _ => unfold Shp at h; exact h.elim
section
variable {prog : Program} {w : World} {A : Around} {E : Value → Shared → Prop} {s : Shared}
theorem tups_of {h : Heap} {shape : Nat → Bool} : ∀ {vs : List Value}, (∀ v ∈ vs, TupAt h shape v) → ∃ fs, TupsOf h shape vs fs ∧ fs.length = vs.length
  | [], _ => ⟨[], .nil, rfl⟩
  | v :: vs, hp => by
    obtain ⟨fs, h1, h2⟩ := tups_of (vs := vs) fun y m => hp y (List.mem_cons_of_mem _ m)
    obtain ⟨a, o, us, n, as, e, g, c, d, _, f, hf, k1, k2⟩ := hp v (by simp)
    refine ⟨f :: fs, .cons ⟨a, o, us.toArray, n, e, g, c, d, ?_, k1, k2⟩ h1, by rw [List.length_cons, List.length_cons, h2]⟩
    simpa using hf
theorem tupkey {h : Heap} {shape : Nat → Bool} {v : Value} (p : TupAt h shape v) : ∃ as, (tupKind h shape).keyOf v = some as := by
  obtain ⟨a, o, us, n, as, rfl, g, c, d, i, _⟩ := p
  refine ⟨as, ?_⟩
  show tupKey h shape (.ref a) = some as
  unfold tupKey
  simp only [g, d]
  exact i
theorem sorted_tups {shape : Nat → Bool} {l : Addr} {vs : List Value} {Q : Value → Shared → Prop} (hl : s.heap.IsList l vs.toArray) (hz : vs.length ≤ sizeLine) (hp : ∀ v ∈ vs, TupAt s.heap shape v)
    (hq : ∀ out : List Value, out.Perm vs → Q (.ref (s.heap.objs.size + 1)) { s with heap := sortedAll s.heap vs out.toArray }) : wpAny (model prog w) A (call (.builtin "sorted") [.ref l]) Q E s := by
  refine Srt.sorted_any hl hz (fun two h1 a ha kp => ?_) hq
  intro h2 kp2
  have tup : ∀ v ∈ vs, TupAt h2 shape v := fun v m => ((hp v m).keep fun b o g _ => (kp b o g).2).keep fun b o g c => kp2 b o (fun z => by
    subst z
    have g' : h1.get? b = some o := g
    rw [ha] at g'
    cases g'
    exact absurd (Value.type.inj c) (by decide)) g
  obtain ⟨fs, t, fl⟩ := tups_of tup
  refine ⟨tuples' true, fun Q E q => tup_kind (shape := shape) (s := { s with heap := h2 }) (by omega) t q, fun p q mp mq => ?_⟩
  obtain ⟨as, ka⟩ := tupkey (tup _ mp)
  obtain ⟨bs, kb⟩ := tupkey (tup _ mq)
  exact ⟨_, tup_ltAt (s := { s with heap := h2 }) true _ _ _ _ as bs ka kb ⟨rfl, rfl⟩⟩
end
/-- sorted(xs), xs a list of tuples of one shape: a new list of the same tuples, in some order -/
def rSortedX (K : Frag) (shape : Nat → Bool) : List V → Hp → VK → Prop := fun vs H Q => ∃ (a : Addr) (ts : List Addr), vs = [V.ref a] ∧ SqL K H a (ts.map V.ref) ∧ (∀ t ∈ ts, ∃ ws, H t = some (.tup ws) ∧ Shp shape 0 ws ∧ ws ≠ []) ∧
  ∀ (ys : List Addr) (p : Addr), ys.Perm ts → H p = none → Q (.ref p) (upd H p (.lst (ys.map V.ref)))
theorem vals_refs : ∀ {ts : List Addr} {us : List Value}, Vals (ts.map V.ref) us → us = ts.map Value.ref
  | [], _, r => by cases r; rfl
  | t :: ts, _, r => by
    cases r with
    | cons r1 r2 => cases r1; rw [vals_refs r2]; rfl
theorem refs_vals : ∀ ts : List Addr, Vals (ts.map V.ref) (ts.map Value.ref)
  | [] => .nil
  | t :: ts => .cons rfl (refs_vals ts)
theorem perm_refs {ts : List Addr} {us : List Value} (h : us.Perm (ts.map Value.ref)) : ∃ ys : List Addr, us = ys.map Value.ref ∧ ys.Perm ts := by
  refine ⟨us.map fun u => match u with | .ref a => a | _ => 0, ?_, ?_⟩
  · rw [List.map_map]
    refine (List.map_id us).symm.trans (List.map_congr_left fun u m => ?_)
    obtain ⟨a, _, rfl⟩ := List.mem_map.mp (h.mem_iff.mp m)
    rfl
  · have := h.map fun u => match u with | Value.ref a => a | _ => 0
    rw [List.map_map] at this
    rwa [show ts.map ((fun u => match u with | Value.ref a => a | _ => 0) ∘ Value.ref) = ts from (List.map_congr_left fun _ _ => rfl).trans (List.map_id ts)] at this
section
variable {X : Cx}
theorem cr_sortedX {shape : Nat → Bool} : CallR X (.builtin "sorted") (rSortedX X.K shape) := by
  intro pins s σ H vs us Q I r h
  obtain ⟨a, ts, rfl, hs, ht, q⟩ := h
  obtain ⟨its, rv, hl, hz⟩ := I.list hs
  have e1 := vals_refs rv
  subst e1
  obtain ⟨u, rfl, ru⟩ := vals1 r
  obtain rfl : u = Value.ref a := ru
  rw [List.length_map] at hz
  refine sorted_tups (shape := shape) hl.isList (by rw [List.length_map]; exact hz) (fun v m => ?_) fun out po => ?_
  · obtain ⟨t, tm, rfl⟩ := List.mem_map.mp m
    obtain ⟨ws, hw, sh, ne⟩ := ht t tm
    have ok : ObjOk X.prog X.w H s.heap t (.tup ws) := I.hok t _ hw
    obtain ⟨_, xs, rx, o, g, c, n, d⟩ := ok
    obtain ⟨as, hi⟩ := shp_items sh rx
    exact ⟨t, o, xs, n, as, rfl, g, c, d, hi, shp_first sh ne rx⟩
  · obtain ⟨ys, rfl, py⟩ := perm_refs po
    have fr : H (s.heap.objs.size + 1) = none := I.hok.fresh (Nat.le_succ _)
    obtain ⟨n, hn⟩ := sortedAll_at s.heap (ts.map Value.ref) (ys.map Value.ref).toArray
    refine ⟨.ref _, upd H _ (.lst (ys.map V.ref)), I.laid (t' := s.toks) (fun b o g => sortedAll_old g) (Nat.le_succ _) ⟨?_, ys.map Value.ref, n, refs_vals ys, hn⟩, rfl, q ys _ py fr⟩
    rw [List.length_map, py.length_eq]; exact hz
end
section
variable {prog : Program} {w : World} {A : Around} {E : Value → Shared → Prop} {s : Shared}
theorem best1 (bt : Nat → Nat → Bool) : argBest bt 1 = 0 ∨ argBest bt 1 = 1 := by
  by_cases h : bt 1 (argBest bt 0) = true
  · exact .inr (if_pos h)
  · exact .inl (if_neg h)
/-- the larger one -/
theorem max_strs {x y : Str} {t u : Tok} {Q : Value → Shared → Prop} (calm : A.handled = none)
    (h : ∀ (k : Bool) (hp : Heap) (tk : Nat), (∀ b o, s.heap.get? b = some o → hp.get? b = some o) → Q (if k = true then .str y u else .str x t) { s with heap := hp, toks := tk }) : wpAny (model prog w) A (call (.builtin "max") [.str x t, .str y u]) Q E s := by
  have tp : (s.heap.push { cls := .type "tuple", data := .seq #[.str x t, .str y u] }).IsTuple s.heap.objs.size #[.str x t, .str y u] := ⟨_, Heap.get?_push_size _ rfl, rfl, 0, rfl⟩
  have z1 : (s.heap.push { cls := .type "tuple", data := .seq #[.str x t, .str y u] }).objs.size = s.heap.objs.size + 1 := Heap.size_push ..
  refine call_max_two (wpAny_pyIter_tuple tp ?_)
  refine ⟨_, [_, s.heap.objs.size], [_], _, _, _, fun i j => decide ((if j = 0 then x else y).cps.toList < (if i = 0 then x else y).cps.toList), rfl, Walks.tuple (A := A.in1) calm _ s.heap.objs.size (by rw [z1]; exact Nat.ne_of_lt (Nat.lt_succ_self _)) #[.str x t, .str y u], ⟨⟨_, Heap.get?_push_size _ rfl, rfl, rfl⟩, tp.push _⟩, fun b hb => ?_, by simp, fun i j vi vj s1 Q1 E1 gi gj q => ?_, fun v hp tk hv kp => ?_⟩
  · show b < ((s.heap.push _).push _).objs.size
    rw [Heap.size_push]
    simp only [List.mem_cons, List.not_mem_nil, or_false] at hb
    rcases hb with e | e <;> subst e
    · exact Nat.lt_succ_self _
    · rw [z1]; exact Nat.lt_succ_of_lt (Nat.lt_succ_self _)
  · have pick : ∀ {k : Nat} {v : Value}, (#[Value.str x t, Value.str y u])[k]? = some v → ∃ tt, v = .str (if k = 0 then x else y) tt := fun {k v} g => by
      match k, g with
      | 0, g => exact ⟨t, (Option.some.inj g).symm⟩
      | 1, g => exact ⟨u, (Option.some.inj g).symm⟩
      | k + 2, g => simp at g
    obtain ⟨ti, rfl⟩ := pick gi
    obtain ⟨tj, rfl⟩ := pick gj
    exact PySem.P.gt_str q
  · have old : ∀ b o, s.heap.get? b = some o → hp.get? b = some o := fun b o g => by
      refine kp b o (fun m => ?_) (Heap.get?_push_of_some _ (Heap.get?_push_of_some _ g))
      have lt := Heap.lt_size g
      rw [List.mem_singleton.mp m, z1] at lt
      exact absurd lt (Nat.not_lt_of_lt (Nat.lt_succ_self _))
    have cases2 : v = .str y u ∨ v = .str x t := by
      have hv' : (#[Value.str x t, Value.str y u])[argBest (fun i j => decide ((if j = 0 then x else y).cps.toList < (if i = 0 then x else y).cps.toList)) 1]? = some v := hv
      rcases best1 _ with e | e
      · rw [e] at hv'; exact .inr (Option.some.inj hv').symm
      · rw [e] at hv'; exact .inl (Option.some.inj hv').symm
    rcases cases2 with e | e
    · rw [e]; exact h true hp tk old
    · rw [e]; exact h false hp tk old
theorem min_strs {x y : Str} {t u : Tok} {Q : Value → Shared → Prop} (calm : A.handled = none)
    (h : ∀ (k : Bool) (hp : Heap) (tk : Nat), (∀ b o, s.heap.get? b = some o → hp.get? b = some o) → Q (if k = true then .str y u else .str x t) { s with heap := hp, toks := tk }) : wpAny (model prog w) A (call (.builtin "min") [.str x t, .str y u]) Q E s := by
  have tp : (s.heap.push { cls := .type "tuple", data := .seq #[.str x t, .str y u] }).IsTuple s.heap.objs.size #[.str x t, .str y u] := ⟨_, Heap.get?_push_size _ rfl, rfl, 0, rfl⟩
  have z1 : (s.heap.push { cls := .type "tuple", data := .seq #[.str x t, .str y u] }).objs.size = s.heap.objs.size + 1 := Heap.size_push ..
  refine call_min_two (wpAny_pyIter_tuple tp ?_)
  refine ⟨_, [_, s.heap.objs.size], [_], _, _, _, fun i j => decide ((if i = 0 then x else y).cps.toList < (if j = 0 then x else y).cps.toList), rfl, Walks.tuple (A := A.in1) calm _ s.heap.objs.size (by rw [z1]; exact Nat.ne_of_lt (Nat.lt_succ_self _)) #[.str x t, .str y u], ⟨⟨_, Heap.get?_push_size _ rfl, rfl, rfl⟩, tp.push _⟩, fun b hb => ?_, by simp, fun i j vi vj s1 Q1 E1 gi gj q => ?_, fun v hp tk hv kp => ?_⟩
  · show b < ((s.heap.push _).push _).objs.size
    rw [Heap.size_push]
    simp only [List.mem_cons, List.not_mem_nil, or_false] at hb
    rcases hb with e | e <;> subst e
    · exact Nat.lt_succ_self _
    · rw [z1]; exact Nat.lt_succ_of_lt (Nat.lt_succ_self _)
  · have pick : ∀ {k : Nat} {v : Value}, (#[Value.str x t, Value.str y u])[k]? = some v → ∃ tt, v = .str (if k = 0 then x else y) tt := fun {k v} g => by
      match k, g with
      | 0, g => exact ⟨t, (Option.some.inj g).symm⟩
      | 1, g => exact ⟨u, (Option.some.inj g).symm⟩
      | k + 2, g => simp at g
    obtain ⟨ti, rfl⟩ := pick gi
    obtain ⟨tj, rfl⟩ := pick gj
    exact PySem.P.lt_str q
  · have old : ∀ b o, s.heap.get? b = some o → hp.get? b = some o := fun b o g => by
      refine kp b o (fun m => ?_) (Heap.get?_push_of_some _ (Heap.get?_push_of_some _ g))
      have lt := Heap.lt_size g
      rw [List.mem_singleton.mp m, z1] at lt
      exact absurd lt (Nat.not_lt_of_lt (Nat.lt_succ_self _))
    have cases2 : v = .str y u ∨ v = .str x t := by
      have hv' : (#[Value.str x t, Value.str y u])[argBest (fun i j => decide ((if i = 0 then x else y).cps.toList < (if j = 0 then x else y).cps.toList)) 1]? = some v := hv
      rcases best1 _ with e | e
      · rw [e] at hv'; exact .inr (Option.some.inj hv').symm
      · rw [e] at hv'; exact .inl (Option.some.inj hv').symm
    rcases cases2 with e | e
    · rw [e]; exact h true hp tk old
    · rw [e]; exact h false hp tk old
end
section
variable {X : Cx}
/-- min, max of two texts: one of them -/
def rOne2 : List V → Hp → VK → Prop := fun xs H Q => ∃ x y : Str, xs = [.str x, .str y] ∧ Q (.str x) H ∧ Q (.str y) H
theorem call_maxS (hc : X.calm = true) : CallR X (.builtin "max") rOne2 := by
  intro pins s σ H xs us Q I r h
  obtain ⟨x, y, rfl, q1, q2⟩ := h
  obtain ⟨u, w', rfl, ⟨t, rfl⟩, ⟨t', rfl⟩⟩ := vals2 r
  refine max_strs (I.ok.hd hc) fun k hp tk old => ?_
  cases k with
  | true => exact ⟨.str y, H, I.kept old, ⟨t', rfl⟩, q2⟩
  | false => exact ⟨.str x, H, I.kept old, ⟨t, rfl⟩, q1⟩
theorem call_minS (hc : X.calm = true) : CallR X (.builtin "min") rOne2 := by
  intro pins s σ H xs us Q I r h
  obtain ⟨x, y, rfl, q1, q2⟩ := h
  obtain ⟨u, w', rfl, ⟨t, rfl⟩, ⟨t', rfl⟩⟩ := vals2 r
  refine min_strs (I.ok.hd hc) fun k hp tk old => ?_
  cases k with
  | true => exact ⟨.str y, H, I.kept old, ⟨t', rfl⟩, q2⟩
  | false => exact ⟨.str x, H, I.kept old, ⟨t, rfl⟩, q1⟩
end
end Z
namespace Z
open PySem PySem.Spec PyProof.Rows L2
theorem mulT1 (l : Addr) (its : Array Value) (n : Nat) (dd : Option Addr) (sl : Array (Option Value)) (u : Tok) : Meets (Builtin.«tuple.__mul__» ⟨[.ref l, .int 1 u], []⟩) (fun _ R s =>
    s.heap.get? l = some { cls := .type "tuple", dict := dd, data := .seq its n, slots := sl } ∧ R (.ok (.ret (.ref l))) s) := .of_wp fun prog w A R s h => by
  obtain ⟨hp, g, d, tk, os⟩ := s
  obtain ⟨at_, h⟩ := h
  have ix := AutoSeq1.idx_int
  have c1 : (its.isEmpty || (1 : Int) == 1) = true := by cases its.isEmpty <;> rfl
  wp_walk using wpAny_loadPart' at_
  repeat (first
    | (refine wpAny_ite_false (decide_eq_false (by decide)) ?_; wp_walk using wpAny_loadPart' at_)
    | (refine wpAny_ite_true (decide_eq_true (by first | decide | exact c1)) ?_; wp_walk using wpAny_loadPart' at_))
  exact ⟨_, rfl, h⟩
theorem mulT0 (l : Addr) (its : Array Value) (n : Nat) (dd : Option Addr) (sl : Array (Option Value)) (u : Tok) (ne : its.isEmpty = false) : Meets (Builtin.«tuple.__mul__» ⟨[.ref l, .int 0 u], []⟩) (fun _ R s =>
    s.heap.get? l = some { cls := .type "tuple", dict := dd, data := .seq its n, slots := sl } ∧ R (.ok (.ret (.ref s.heap.objs.size))) { s with heap := s.heap.push { cls := .type "tuple", data := .seq #[] }, toks := s.toks }) := .of_wp fun prog w A R s h => by
  obtain ⟨hp, g, d, tk, os⟩ := s
  obtain ⟨at_, h⟩ := h
  have ix := AutoSeq1.idx_int
  have c1 : (its.isEmpty || (0 : Int) == 1) = false := by rw [ne]; rfl
  wp_walk using wpAny_loadPart' at_
  repeat (first
    | (refine wpAny_ite_false (decide_eq_false (by first | decide | (rw [c1]; exact Bool.false_ne_true))) ?_; wp_walk using wpAny_loadPart' at_)
    | (refine wpAny_ite_true (decide_eq_true (by first | decide | rfl)) ?_; wp_walk using wpAny_loadPart' at_))
  exact ⟨_, rfl, h⟩
/-- t * k, of a tuple -/
def rMulT (K : PySem.W.Frag) : R2 := fun x y H Q => ∃ (l : Addr) (k : Nat) (xs : List V), x = .ref l ∧ y = .int (k : Int) ∧ SqT K H l xs ∧ xs ≠ [] ∧ k ≤ 1000 ∧ xs.length ≤ 1000 ∧ ∀ (p : Addr) (H' : Hp), Same H H' → SqT K H' p (List.replicate k xs).flatten → Q (.ref p) H'
section
variable {X : Cx}
theorem op_mulT : OpR X (binaryOp .Mult) (rMulT X.K) := by
  intro pins s σ H x y v u Q I rx ry h
  obtain ⟨l, k, xs, ex, ey, hT, ne, hk, hx, q⟩ := h
  by_cases h2 : 2 ≤ k
  · exact op_repT pins s σ H x y v u Q I rx ry ⟨l, _, xs, ex, ey, hT, ne, by omega, by omega, hx, fun p hp => q p _ (same_new hp) (SqT.of (by rw [upd_same]; rfl))⟩
  subst ex ey
  cases rx
  obtain ⟨t, rfl⟩ := ry
  obtain ⟨its, r, ⟨⟨cls, dd, data, sl⟩, at_, hc, n, hd⟩, hs⟩ := I.tuple hT
  simp only at hc hd
  subst hc hd
  have hi : its.toArray.isEmpty = false := by
    cases r with
    | nil => exact absurd rfl ne
    | cons _ _ => rfl
  have k01 : k = 0 ∨ k = 1 := by omega
  rcases k01 with e | e
  · subst e
    refine wpAny_binaryOp_repeat_ref (T := "tuple") (U := "int") (by decide) ⟨_, at_, rfl⟩ (fun s1 => typeIs_int s1 _ t) noFill_tuple_mul F.fills_int_mul F.slot_int_rmul repeat_tuple F.slot_int_index.lookup (call_meets F.slot_int_rmul (typeIs_int s _ t) F.entry_int_rmul (F.args_int_rmul_2 _ _) (int_rmul_tuple _ t l its.toArray n dd sl) ⟨at_, rfl, ⟨_, at_, rfl⟩, call_meets F.slot_tuple_mul ⟨_, at_, rfl⟩ F.entry_tuple_mul (F.args_tuple_mul_2 _ _) (mulT0 l its.toArray n dd sl t hi) ⟨at_, ?_⟩⟩)
    have fr : H s.heap.objs.size = none := I.hok.fresh (Nat.le_refl _)
    exact ⟨.ref _, upd H s.heap.objs.size (.tup []), I.laid (t' := s.toks) (fun b o g => Heap.get?_push_of_some _ g) (Nat.le_refl _) ⟨by show 0 ≤ sizeLine; decide, [], .nil, IsTup.new _ _⟩, rfl, q _ _ (same_new fr) (SqT.of upd_same)⟩
  · subst e
    refine wpAny_binaryOp_repeat_ref (T := "tuple") (U := "int") (by decide) ⟨_, at_, rfl⟩ (fun s1 => typeIs_int s1 _ t) noFill_tuple_mul F.fills_int_mul F.slot_int_rmul repeat_tuple F.slot_int_index.lookup (call_meets F.slot_int_rmul (typeIs_int s _ t) F.entry_int_rmul (F.args_int_rmul_2 _ _) (int_rmul_tuple _ t l its.toArray n dd sl) ⟨at_, rfl, ⟨_, at_, rfl⟩, call_meets F.slot_tuple_mul ⟨_, at_, rfl⟩ F.entry_tuple_mul (F.args_tuple_mul_2 _ _) (mulT1 l its.toArray n dd sl t) ⟨at_, ?_⟩⟩)
    exact ⟨.ref l, H, I, rfl, q l H (Same.refl _) (by show SqT X.K H l (xs ++ []); rw [List.append_nil]; exact hT)⟩
end
end Z
namespace Z
open PySem L2 SX
/-! ### data, by place -/
section
variable {K : PySem.W.Frag} {H : Hp}
theorem DV.any {ds : List D} {v : V} {i : Nat} {d : D} (h : DV K H (.tup ds) v) (e : ds[i]? = some d) : ∃ a us u, v = .ref a ∧ SqT K H a us ∧ us[i]? = some u ∧ DV K H d u := by
  obtain ⟨a, us, rfl, hS, hs⟩ := h
  obtain ⟨u, eu, du⟩ := hs.get e
  exact ⟨a, us, u, rfl, hS, eu, du⟩
theorem DV.sub {ds es : List D} {v : V} {i : Nat} (h : DV K H (.tup ds) v) (e : ds[i]? = some (.tup es)) : ∃ a us c ws, v = .ref a ∧ SqT K H a us ∧ us[i]? = some (V.ref c) ∧ SqT K H c ws ∧ DVs K H es ws := by
  obtain ⟨a, us, u, rfl, hS, eu, du⟩ := h.any e
  obtain ⟨c, ws, rfl, hc, hw⟩ := du
  exact ⟨a, us, c, ws, rfl, hS, eu, hc, hw⟩
theorem DV.leafS {ds : List D} {v : V} {i : Nat} {x : Str} (h : DV K H (.tup ds) v) (e : ds[i]? = some (.str x)) : ∃ a us, v = .ref a ∧ SqT K H a us ∧ us[i]? = some (V.str x) := by
  obtain ⟨a, us, u, rfl, hS, eu, du⟩ := h.any e
  unfold DV at du
  subst du
  exact ⟨a, us, rfl, hS, eu⟩
theorem DVs.map_get {α : Type} {f : α → D} : ∀ {l : List α} {us : List V} {i : Nat} {u : V}, DVs K H (l.map f) us → us[i]? = some u → ∃ x, l[i]? = some x ∧ DV K H (f x) u
  | [], _, i, u, h, e => by unfold DVs at h; subst h; simp at e
  | x :: l, us, i, u, h, e => by
    obtain ⟨v, r, rfl, q, t⟩ := h
    cases i with
    | zero =>
      have : v = u := Option.some.inj e
      subst this
      exact ⟨x, rfl, q⟩
    | succ i => exact DVs.map_get (i := i) t e
theorem DVs.map_len {α : Type} {f : α → D} {l : List α} {us : List V} (h : DVs K H (l.map f) us) : us.length = l.length := by rw [h.len, List.length_map]
/-- values that are data of some of these -/
theorem DVs.pick {α : Type} {f : α → D} {xs : List V} {l : List α} : ∀ {ys : List V}, DVs K H (l.map f) xs → (∀ y ∈ ys, y ∈ xs) → ∃ m : List α, DVs K H (m.map f) ys ∧ m.length = ys.length ∧ ∀ x ∈ m, x ∈ l
  | [], _, _ => ⟨[], by unfold List.map DVs; rfl, rfl, fun _ h => by cases h⟩
  | y :: ys, h, k => by
    obtain ⟨m, h1, h2, h3⟩ := DVs.pick h fun z hz => k z (List.mem_cons_of_mem _ hz)
    obtain ⟨i, hi⟩ := List.getElem?_of_mem (k y (by simp))
    obtain ⟨x, hx, dx⟩ := h.map_get hi
    refine ⟨x :: m, ?_, by rw [List.length_cons, List.length_cons, h2], fun z hz => ?_⟩
    · exact ⟨y, ys, rfl, dx, h1⟩
    · rcases List.mem_cons.mp hz with e | e
      · rw [e]; exact List.mem_of_getElem? hx
      · exact h3 z e
theorem DVs.snoc {α : Type} {f : α → D} {x : α} {u : V} : ∀ {l : List α} {us : List V}, DVs K H (l.map f) us → DV K H (f x) u → DVs K H ((l ++ [x]).map f) (us ++ [u])
  | [], _, h, d => by unfold List.map DVs at h; subst h; exact ⟨u, [], rfl, d, by unfold List.map DVs; rfl⟩
  | y :: l, us, h, d => by
    obtain ⟨v, r, rfl, q, t⟩ := h
    exact ⟨v, r ++ [u], rfl, q, DVs.snoc t d⟩
theorem DVs.tk {H' : Hp} (t : TK K H H') {ds : List D} {us : List V} (h : DVs K H ds us) : DVs K H' ds us := DVs.ext t h
theorem DV.tk {H' : Hp} (t : TK K H H') {d : D} {u : V} (h : DV K H d u) : DV K H' d u := DV.ext t h
end
theorem find_step {α : Type} {p : α → Bool} {l : List α} {i : Nat} {x : α} (h : (l.take i).find? p = none) (e : l[i]? = some x) (hx : p x = false) : (l.take (i + 1)).find? p = none := by
  rw [List.take_add_one, e, List.find?_append, h]
  show (none : Option α).or ([x].find? p) = none
  simp [hx]
theorem find_hit {α : Type} {p : α → Bool} {l : List α} {i : Nat} {x : α} (h : (l.take i).find? p = none) (e : l[i]? = some x) (hx : p x = true) : l.find? p = some x := by
  have el : l = l.take i ++ x :: l.drop (i + 1) := by
    obtain ⟨h1, h2⟩ := List.getElem?_eq_some_iff.mp e
    rw [← h2, List.getElem_cons_drop, List.take_append_drop]
  rw [el, List.find?_append, h]
  show (none : Option α).or ((x :: l.drop (i + 1)).find? p) = some x
  rw [List.find?_cons_of_pos hx]; rfl
/-! ### books -/
structure Si where
  n : Str
  o : Int
  m : Int
  r : Int
  p : Str
structure Fd where
  g : Str
  t : Str
  p : Str
  h : Int
  z : Int
structure Sw where
  p : Str
  a : Str
  y : D
structure Bk where
  w : Int
  x : Int
  y : Int
  si : List Si
  ln : List (Str × Str)
  fd : List Fd
  sw : List Sw
  li : List D
def siD (s : Si) : D := .tup [.str (Str.ofString "site"), .str s.n, .int s.o, .int s.m, .int s.r, .str s.p]
def lnD (l : Str × Str) : D := .tup [.str l.1, .str l.2]
def fdD (f : Fd) : D := .tup [.str (Str.ofString "feed"), .str f.g, .str f.t, .str f.p, .int f.h, .int f.z]
def swD (s : Sw) : D := .tup [.str (Str.ofString "steward"), .str s.p, .str s.a, s.y]
def bkD (b : Bk) : D := .tup [.str (Str.ofString "book"), .int b.w, .tup [.int b.x, .int b.y], .tup (b.si.map siD), .tup (b.ln.map lnD), .tup (b.fd.map fdD), .tup (b.sw.map swD), .tup b.li]
structure BkOk (b : Bk) : Prop where
  si : b.si.length ≤ 10
  ln : b.ln.length ≤ 30
  fd : b.fd.length ≤ 100
  sw : b.sw.length ≤ 10
  sp : ∀ s ∈ b.si, (tl s.p).length ≤ 3000
  wp : ∀ s ∈ b.sw, (tl s.p).length ≤ 3000
  sn : ∀ s ∈ b.si, Low (tl s.n) ∧ (tl s.n).length ≤ 8
  fn : ∀ f ∈ b.fd, Low (tl f.g) ∧ Low (tl f.t)
def siteOf (b : Bk) (n : Str) : Option Si := b.si.find? fun s => decide (s.n = n)
def feedOf (b : Bk) (g t : Str) : Option Fd := b.fd.find? fun f => decide (f.g = g) && decide (f.t = t)
noncomputable def stwOf (b : Bk) (d : List Nat) : Option Sw := b.sw.find? fun s => letsL (parts (tl s.p)) d
def polOf (b : Bk) (a : Str) : Option Sw := b.sw.find? fun s => decide (s.a = a)
def optD {α : Type} (f : α → D) : Option α → D
  | none => .non
  | some x => f x
def nearL (b : Bk) (n : Str) : List Str := ((b.ln.filter fun l => decide (l.1 = n)).map (·.2)) ++ ((b.ln.filter fun l => decide (l.2 = n)).map (·.1))
/-- the seals so far, and a board more -/
noncomputable def sealF (b : Bk) (acc : List Str) (d : Str) : List Str := match stwOf b (tl d) with
  | none => acc
  | some s => if s.a ∈ acc then acc else acc ++ [s.a]
noncomputable def sealsL (b : Bk) (bs : List Str) : List Str := bs.foldl (sealF b) []
def sp_site_of (K : PySem.W.Frag) : Sp := fun vs H Q _ => ∃ (b : Bk) (v : V) (n : Str), vs = [v, .str n] ∧ DV K H (bkD b) v ∧ ∀ u, DV K H (optD siD (siteOf b n)) u → Q u H
def sp_feed_of (K : PySem.W.Frag) : Sp := fun vs H Q _ => ∃ (b : Bk) (v : V) (g t : Str), vs = [v, .str g, .str t] ∧ DV K H (bkD b) v ∧ BkOk b ∧ Low (tl g) ∧ Low (tl t) ∧ ∀ u H', Same H H' → DV K H' (optD fdD (feedOf b g t)) u → Q u H'
def sp_neighbours (K : PySem.W.Frag) : Sp := fun vs H Q _ => ∃ (b : Bk) (v : V) (n : Str), vs = [v, .str n] ∧ DV K H (bkD b) v ∧ BkOk b ∧ ∀ (t : Addr) (ys : List Str) (H' : Hp), Same H H' → SqT K H' t (ys.map V.str) → ys.Perm (nearL b n) → PyProof.Rows.sortedS ys = true → Q (.ref t) H'
noncomputable def carriesB (b : Bk) (n : Str) (bs : List Str) : Bool := match siteOf b n with
  | none => false
  | some s => bs.any fun d => letsL (parts (tl s.p)) (tl d)
def sp_carries (K : PySem.W.Frag) : Sp := fun vs H Q _ => ∃ (b : Bk) (v : V) (n : Str) (a : Addr) (bs : List Str), vs = [v, .str n, .ref a] ∧ DV K H (bkD b) v ∧ BkOk b ∧ SqT K H a (bs.map V.str) ∧ bs.length ≤ 1000 ∧ (∀ d ∈ bs, Clean (tl d)) ∧ ∀ H', Same H H' → Q (.bl (carriesB b n bs)) H'
def swA (s : Sw) : D := .str s.a
def sp_steward_of (K : PySem.W.Frag) : Sp := fun vs H Q _ => ∃ (b : Bk) (v : V) (d : Str), vs = [v, .str d] ∧ DV K H (bkD b) v ∧ BkOk b ∧ Clean (tl d) ∧ ∀ u H', Same H H' → DV K H' (optD swA (stwOf b (tl d))) u → Q u H'
def sp_seals (K : PySem.W.Frag) : Sp := fun vs H Q _ => ∃ (b : Bk) (v : V) (a : Addr) (bs : List Str), vs = [v, .ref a] ∧ DV K H (bkD b) v ∧ BkOk b ∧ SqT K H a (bs.map V.str) ∧ bs.length ≤ 1000 ∧ (∀ d ∈ bs, Clean (tl d)) ∧ ∀ (t : Addr) H', Same H H' → SqT K H' t ((sealsL b bs).map V.str) → Q (.ref t) H'
def sp_policy_of (K : PySem.W.Frag) : Sp := fun vs H Q _ => ∃ (b : Bk) (v : V) (a : Str), vs = [v, .str a] ∧ DV K H (bkD b) v ∧ ∀ u, DV K H (optD Sw.y (polOf b a)) u → Q u H
/-! ### what the law draws -/
def sp3__law_pick (K : PySem.W.Frag) : Sp := fun vs H Q _ =>
  (∃ (s a r : Addr) (xs : List V) (c : Nat), vs = [.ref s, .ref r] ∧ SqL K H r xs ∧ r ≠ s ∧ xs ≠ [] ∧ xs.length ≤ 100000 ∧ Src H s a (c + 1) ∧ ∀ (v : V) (H' : Hp), v ∈ xs → Ext s H H' → Src H' s a c → Q v H') ∨
  (∃ (s a : Addr) (x : Str) (c : Nat), vs = [.ref s, .str x] ∧ tl x ≠ [] ∧ (tl x).length ≤ 100000 ∧ Src H s a (c + 1) ∧ ∀ (ch : Nat) (H' : Hp), ch ∈ tl x → Ext s H H' → Src H' s a c → Q (.str (S [ch])) H') ∨
  (∃ (s a r : Addr) (xs : List V) (c : Nat), vs = [.ref s, .ref r] ∧ SqT K H r xs ∧ xs ≠ [] ∧ xs.length ≤ 100000 ∧ Src H s a (c + 1) ∧ ∀ (v : V) (H' : Hp), v ∈ xs → Ext s H H' → Src H' s a c → Q v H')
def Nms (us : List Str) : Prop := us.Nodup ∧ ∀ x ∈ us, Nm (tl x) ∧ (tl x).length ≤ 8
def sp9__law_new_name (K : PySem.W.Frag) : Sp := fun vs H Q _ => ∃ (s a u : Addr) (us : List Str) (c : Nat), vs = [.ref s, .ref u] ∧ SqL K H u (us.map V.str) ∧ u ≠ s ∧ us.length ≤ 9 ∧ Src H s a (c + 8) ∧
  ∀ (x : Str) (H' : Hp), Nm (tl x) → (tl x).length ≤ 8 → x ∉ us → Ext s H H' → Src H' s a c → Q (.str x) H'
def sp9__law_names (K : PySem.W.Frag) : Sp := fun vs H Q _ => ∃ (s a : Addr) (m c : Nat), vs = [.ref s, .int m] ∧ m ≤ 9 ∧ Src H s a (c + 8 * m) ∧
  ∀ (u : Addr) (us : List Str) (H' : Hp), H u = none → H' u = some (.lst (us.map V.str)) → us.length = m → Nms us → Ext s H H' → Src H' s a c → Q (.ref u) H'
def sp_lines (K : PySem.W.Frag) : Sp := fun vs H Q _ => ∃ (s a u : Addr) (us : List Str) (c : Nat), vs = [.ref s, .ref u] ∧ SqL K H u (us.map V.str) ∧ u ≠ s ∧ 1 ≤ us.length ∧ us.length ≤ 9 ∧ (∀ x ∈ us, Low (tl x)) ∧ Src H s a (c + 100) ∧
  ∀ (L : Addr) (ws : List V) (ls : List (Str × Str)) (H' : Hp), H L = none → H' L = some (.lst ws) → DVs K H' (ls.map lnD) ws → ls.length ≤ 20 → (∀ l ∈ ls, Low (tl l.1) ∧ Low (tl l.2)) → Ext s H H' → Src H' s a c → Q (.ref L) H'
def sp_feeds (K : PySem.W.Frag) : Sp := fun vs H Q _ => ∃ (s a L w : Addr) (ws : List V) (ls : List (Str × Str)) (us : List Str) (k : Int) (c : Nat), vs = [.ref s, .ref L, .ref w, .int k] ∧ SqL K H L ws ∧ L ≠ s ∧ DVs K H (ls.map lnD) ws ∧ ls.length ≤ 20 ∧ (∀ l ∈ ls, Low (tl l.1) ∧ Low (tl l.2)) ∧ SqL K H w (us.map V.str) ∧ w ≠ s ∧ Wds us ∧ 0 < k ∧ k ≤ 100 ∧ Src H s a (c + 20000) ∧
  ∀ (u : V) (fs : List Fd) (H' : Hp), DV K H' (.tup (fs.map fdD)) u → fs.length ≤ 40 → (∀ f ∈ fs, Low (tl f.g) ∧ Low (tl f.t)) → Ext s H H' → Src H' s a c → Q u H'
def sp_sites (K : PySem.W.Frag) : Sp := fun vs H Q _ => ∃ (s a u w o : Addr) (us ws : List Str) (z : Int) (is : List Int) (c : Nat), vs = [.ref s, .ref u, .ref w, .int z, .ref o] ∧ SqL K H u (us.map V.str) ∧ u ≠ s ∧ us.length ≤ 9 ∧ SqL K H w (ws.map V.str) ∧ w ≠ s ∧ Wds ws ∧ H o = some (.lst (is.map V.int)) ∧ o ≠ s ∧ is.length = us.length ∧ Src H s a (c + 5000) ∧
  ∀ (v : V) (l : List Si) (H' : Hp), DV K H' (.tup (l.map siD)) v → l.map (·.n) = us → (∀ x ∈ l, (tl x.p).length ≤ 200) → Ext s H H' → Src H' s a c → Q v H'
def sp_book (K : PySem.W.Frag) : Sp := fun vs H Q _ => ∃ (s a w : Addr) (ws : List Str) (m : Nat) (c : Nat), vs = [.ref s, .int (m : Int), .ref w] ∧ 1 ≤ m ∧ m ≤ 9 ∧ SqL K H w (ws.map V.str) ∧ w ≠ s ∧ Wds ws ∧ Src H s a (c + 30000) ∧
  ∀ (v : V) (b : Bk) (H' : Hp), DV K H' (bkD b) v → BkOk b → b.sw = [] → b.si ≠ [] → (b.si.map (·.n)).Nodup → Ext s H H' → Src H' s a c → Q v H'
def sp_stewards (K : PySem.W.Frag) : Sp := fun vs H Q _ => ∃ (s a w : Addr) (v : V) (b : Bk) (ws : List Str) (c : Nat), vs = [.ref s, v, .ref w] ∧ DV K H (bkD b) v ∧ b.si ≠ [] ∧ BkOk b ∧ SqL K H w (ws.map V.str) ∧ w ≠ s ∧ Wds ws ∧ Src H s a (c + 5000) ∧
  ∀ (u : V) (l : List Sw) (H' : Hp), DV K H' (.tup (l.map swD)) u → l.length ≤ 3 → (∀ x ∈ l, (tl x.p).length ≤ 200 ∧ (tl x.a).length ≤ 20 ∧ DL 4 x.y) → (l.map (·.a)).Nodup → Ext s H H' → Src H' s a c → Q u H'
/-! ### sorted texts, told by what they are -/
open PyProof.Rows in
theorem eqv_pair (a b c d : Str) : PyData.eqv (.tuple [.str a, .str b]) (.tuple [.str c, .str d]) = (decide (a = c) && decide (b = d)) := by
  simp [PyData.eqv, PyData.eqvAll]
  by_cases h1 : a = c <;> by_cases h2 : b = d <;> simp [h1, h2]
theorem ok_low {x : Str} (h : Low (tl x)) : PyData.strOk x = true := by
  unfold PyData.strOk
  rw [← Array.all_toList, List.all_eq_true]
  intro c m
  have := h c m
  exact decide_eq_true (by omega)
theorem pair_shaped {x y : Str} (hx : Low (tl x)) (hy : Low (tl y)) : SeqAt.shaped (.tuple [.str x, .str y]) = true := by
  simp [SeqAt.shaped, PyData.canLay0, PyData.canLayAll0, PyData.depth, PyData.depthAll, ok_low hx, ok_low hy]
end Z
namespace Z
open PySem L2 SX
open PyProof.Rows PySem.Spec
theorem find_uniq {α : Type} {f : α → Str} : ∀ {l : List α} {i : Nat} {x : α}, (l.map f).Nodup → l[i]? = some x → l.find? (fun y => decide (f y = f x)) = some x
  | [], i, x, _, h => by simp at h
  | y :: r, i, x, nd, h => by
    rw [List.map_cons, List.nodup_cons] at nd
    cases i with
    | zero =>
      have : y = x := Option.some.inj h
      subst this
      rw [List.find?_cons_of_pos (by simp)]
    | succ i =>
      have hr : r[i]? = some x := h
      have ne : ¬ f y = f x := fun e => nd.1 (by rw [e]; exact List.mem_map_of_mem (List.mem_of_getElem? hr))
      rw [List.find?_cons_of_neg (by simpa using ne)]
      exact find_uniq nd.2 hr
theorem lt_anti : ∀ {a b : List Nat}, ltCps a b = false → ltCps b a = false → a = b
  | [], [], _, _ => rfl
  | [], _ :: _, h, _ => by simp [ltCps] at h
  | _ :: _, [], _, h => by simp [ltCps] at h
  | x :: a, y :: b, h, k => by
    simp only [ltCps, Bool.or_eq_false_iff, decide_eq_false_iff_not, Bool.and_eq_false_iff] at h k
    have e : x = y := by omega
    subst e
    have h2 := h.2.resolve_left (by simp)
    have k2 := k.2.resolve_left (by simp)
    rw [lt_anti h2 k2]
theorem lt_trans : ∀ {a b c : List Nat}, ltCps b a = false → ltCps c b = false → ltCps c a = false
  | [], _, [], _, _ => rfl
  | [], _, _ :: _, _, _ => by simp [ltCps]
  | _ :: _, [], _, h, _ => by simp [ltCps] at h
  | _ :: _, _ :: _, [], _, k => by simp [ltCps] at k
  | x :: a, y :: b, z :: c, h, k => by
    simp only [ltCps, Bool.or_eq_false_iff, decide_eq_false_iff_not, Bool.and_eq_false_iff] at h k ⊢
    refine ⟨by omega, ?_⟩
    by_cases e : z = x
    · have e1 : y = x := by omega
      have e2 : z = y := by omega
      subst e1
      subst e2
      exact .inr (lt_trans (h.2.resolve_left (by simp)) (k.2.resolve_left (by simp)))
    · exact .inl (by simpa using e)
theorem rising_pw : ∀ {l : List Str} {p : Str}, risingS p l = true → (∀ x ∈ l, ltCps x.cps.toList p.cps.toList = false) ∧ l.Pairwise (fun a b => ltCps b.cps.toList a.cps.toList = false)
  | [], _, _ => ⟨(fun _ h => by cases h), List.Pairwise.nil⟩
  | x :: r, p, h => by
    have h' : (!ltCps x.cps.toList p.cps.toList && risingS x r) = true := h
    obtain ⟨h1, h2⟩ := Bool.and_eq_true_iff.mp h'
    have h1' : ltCps x.cps.toList p.cps.toList = false := by simpa using h1
    obtain ⟨k1, k2⟩ := rising_pw h2
    refine ⟨fun y hy => ?_, List.pairwise_cons.mpr ⟨k1, k2⟩⟩
    rcases List.mem_cons.mp hy with e | e
    · rw [e]; exact h1'
    · exact lt_trans h1' (k1 y e)
theorem sorted_pw : ∀ {l : List Str}, sortedS l = true → l.Pairwise (fun a b => ltCps b.cps.toList a.cps.toList = false)
  | [], _ => List.Pairwise.nil
  | x :: r, h => List.pairwise_cons.mpr (rising_pw (show risingS x r = true from h))
theorem pw_uniq : ∀ {ys zs : List Str}, ys.Perm zs → ys.Pairwise (fun a b => ltCps b.cps.toList a.cps.toList = false) → zs.Pairwise (fun a b => ltCps b.cps.toList a.cps.toList = false) → ys = zs
  | [], zs, p, _, _ => p.nil_eq
  | y :: r, [], p, _, _ => absurd p.symm.nil_eq (by simp)
  | y :: r, z :: t, p, hy, hz => by
    obtain ⟨y1, y2⟩ := List.pairwise_cons.mp hy
    obtain ⟨z1, z2⟩ := List.pairwise_cons.mp hz
    have e : y = z := by
      have m1 : y ∈ z :: t := p.mem_iff.mp (by simp)
      have m2 : z ∈ y :: r := p.mem_iff.mpr (by simp)
      rcases List.mem_cons.mp m1 with e | e
      · exact e
      · rcases List.mem_cons.mp m2 with e2 | e2
        · exact e2.symm
        · exact tl_ext (lt_anti (z1 y e) (y1 z e2)) 
    subst e
    rw [pw_uniq ((List.perm_cons y).mp p) y2 z2]
theorem sorted_uniq {ys zs : List Str} (p : ys.Perm zs) (sy : sortedS ys = true) (sz : sortedS zs = true) : ys = zs := pw_uniq p (sorted_pw sy) (sorted_pw sz)
theorem seal_len (b : Bk) (acc : List Str) (d : Str) : (sealF b acc d).length ≤ acc.length + 1 := by
  unfold sealF
  split
  · omega
  · split
    · omega
    · rw [List.length_append]; exact Nat.le_refl _
theorem seals_len (b : Bk) : ∀ (bs acc : List Str), (bs.foldl (sealF b) acc).length ≤ acc.length + bs.length
  | [], _ => Nat.le_refl _
  | d :: r, acc => by
    have h1 := seals_len b r (sealF b acc d)
    have h2 := seal_len b acc d
    rw [List.foldl_cons, List.length_cons]; omega
end Z
namespace Z
open PySem L2 SX
theorem dls {K : PySem.W.Frag} {H : Hp} (x : Str) : DV K H (.str x) (.str x) := by unfold DV; rfl
theorem dli {K : PySem.W.Frag} {H : Hp} (x : Int) : DV K H (.int x) (.int x) := by unfold DV; rfl
theorem dln {K : PySem.W.Frag} {H : Hp} : DVs K H [] [] := by unfold DVs; rfl
theorem dlc {K : PySem.W.Frag} {H : Hp} {d : D} {ds : List D} {v : V} {vs : List V} (h : DV K H d v) (t : DVs K H ds vs) : DVs K H (d :: ds) (v :: vs) := ⟨v, vs, rfl, h, t⟩
theorem tk_put {K : PySem.W.Frag} {H : Hp} {M : Addr} {ys : List V} {o : HO} (h : H M = some (.lst ys)) : TK K H (upd H M o) := fun a xs q => Ext.seqT (s := M) (fun b o hb hh => by rw [upd_ne hb]; exact hh) h q
theorem tk_new {K : PySem.W.Frag} {H : Hp} {M : Addr} {o : HO} (h : H M = none) : TK K H (upd H M o) := TK.same (same_new h)
theorem sput {H H' : Hp} {a : Addr} {o : HO} (h : Same H H') (n : H a = none) : Same H (upd H' a o) := fun b u hb => by
  rw [upd_ne (ne_of_none hb n)]; exact h b u hb
theorem map_get {α : Type} {f : α → V} {l : List α} {i : Nat} {x : V} (h : (l.map f)[i]? = some x) : ∃ y, l[i]? = some y ∧ x = f y := by
  rw [List.getElem?_map] at h
  cases e : l[i]? with
  | none => rw [e] at h; cases h
  | some y => rw [e] at h; exact ⟨y, rfl, (Option.some.inj h).symm⟩
theorem iG {c : Bool} {A B : Prop} (h : c = true) (a : A) : if c = true then A else B := by rw [if_pos h]; exact a
theorem iN {c : Bool} {A B : Prop} (h : c = false) (b : B) : if c = true then A else B := by rw [if_neg (by rw [h]; exact Bool.false_ne_true)]; exact b
end Z
namespace Z
open PySem L2 SX
/-! ### notices -/
def tlS (s : String) : D := .str (Str.ofString s)
structure Nt where
  n : Str
  k : Nat
  au : Str
  da : Int
  bs : List Str
  ro : Str
  rf : List D
  w : Str
  ot : List D
  se : List Str
  bo : D
def idND (t : Nt) : D := .tup [.str t.n, .int (t.k : Nat)]
def ntD (t : Nt) : D := .tup [.str (Str.ofString "notice"), idND t, .str t.au, .int t.da, .tup (t.bs.map D.str), .str t.ro, .tup t.rf, .tup (.str t.w :: t.ot), .tup (t.se.map D.str), t.bo]
structure NtOk (t : Nt) : Prop where
  n : (tl t.n).length ≤ 8
  k : t.k ≤ 999999
  bs : t.bs.length ≤ 10 ∧ ∀ d ∈ t.bs, Clean (tl d)
  se : t.se.length ≤ 1000
  rf : t.rf.length ≤ 1000 ∧ ∀ d ∈ t.rf, DL 2 d
  ot : t.ot.length ≤ 1000 ∧ ∀ d ∈ t.ot, DL 2 d
  bo : DL 5 t.bo
noncomputable def missL (b : Bk) (t : Nt) : List Str := if t.w = Str.ofString "strike" then [] else (sealsL b t.bs).filter fun x => !decide (x ∈ t.se)
def idL (t : Nt) : List Nat := TL.numL t.k ++ 64 :: tl t.n
def subKey (t : Nt) : Str := S ([115, 58] ++ idL t ++ [58] ++ TL.numL t.se.length ++ [58, 48])
def subD (t : Nt) (g : Str) : D := .tup [.str (Str.ofString "letter"), .str (subKey t), .str g, .tup [.str (Str.ofString "submit"), ntD t, .str g, .tup []]]
noncomputable def subsD (b : Bk) (t : Nt) : D := match missL b t with
  | [] => .non
  | a :: _ => subD t a
def noteD (t : Nt) (sd : D) : D := .tup [.str (Str.ofString "letter"), .str (S ([110, 58] ++ idL t)), .str t.au, .tup [.str (Str.ofString "note"), idND t, sd]]
def copyD (t : Nt) (h m : Str) : D := .tup [.str (Str.ofString "letter"), .str (S ([99, 58] ++ idL t ++ [58] ++ tl h ++ [58] ++ tl m)), .str m, .tup [.str (Str.ofString "copy"), ntD t, .str h]]
theorem dvs_txt {K : PySem.W.Frag} {H : Hp} : ∀ {w : List Str} {us : List V}, DVs K H (w.map D.str) us → us = w.map V.str
  | [], us, h => by unfold List.map DVs at h; exact h
  | x :: w, us, h => by
    obtain ⟨v, r, rfl, q, t⟩ := h
    unfold DV at q
    subst q
    rw [dvs_txt t]; rfl
theorem txt_dvs {K : PySem.W.Frag} {H : Hp} : ∀ (w : List Str), DVs K H (w.map D.str) (w.map V.str)
  | [] => by unfold List.map DVs; rfl
  | x :: w => ⟨.str x, _, rfl, by unfold DV; rfl, txt_dvs w⟩
theorem filt54 {α : Type} {p : α → Bool} {l : List α} {i : Nat} {x : α} (h : l[i]? = some x) : (l.take (i + 1)).filter p = (l.take i).filter p ++ if p x = true then [x] else [] := by
  rw [List.take_add_one, h, List.filter_append]
  congr 1
  by_cases c : p x = true
  · rw [if_pos c]; simp [c]
  · rw [if_neg c]; simp [c]
theorem nt_at {K : PySem.W.Frag} {H : Hp} {t : Nt} {v : V} (h : DV K H (ntD t) v) : ∃ a us i b k ks z, v = .ref a ∧ SqT K H a us ∧ us.length = 10 ∧ us[1]? = some (V.ref i) ∧ SqT K H i [.str t.n, .int (t.k : Nat)] ∧ us[2]? = some (V.str t.au) ∧ us[4]? = some (V.ref b) ∧ SqT K H b (t.bs.map V.str) ∧ us[7]? = some (V.ref k) ∧ SqT K H k ks ∧ ks[0]? = some (V.str t.w) ∧ us[8]? = some (V.ref z) ∧ SqT K H z (t.se.map V.str) := by
  obtain ⟨a, us, rfl, hS, d⟩ := h
  have ul := d.len
  obtain ⟨u1, e1, i, is, rfl, hi, di⟩ := d.get (i := 1) (d := idND t) rfl
  obtain ⟨u2, e2, d2⟩ := d.get (i := 2) (d := .str t.au) rfl
  obtain ⟨u4, e4, b, bs, rfl, hb, db⟩ := d.get (i := 4) (d := .tup (t.bs.map D.str)) rfl
  obtain ⟨u7, e7, k, ks, rfl, hk, dk⟩ := d.get (i := 7) (d := .tup (.str t.w :: t.ot)) rfl
  obtain ⟨u8, e8, z, zs, rfl, hz, dz⟩ := d.get (i := 8) (d := .tup (t.se.map D.str)) rfl
  unfold DV at d2
  subst d2
  obtain ⟨w0, ew, dw⟩ := dk.get (i := 0) (d := .str t.w) rfl
  unfold DV at dw
  subst dw
  have di' : DVs K H [.str t.n, .int (t.k : Nat)] is := di
  obtain ⟨n0, r0, rfl, dn, di'⟩ := di'
  obtain ⟨n1, r1, rfl, dm, di'⟩ := di'
  unfold DV at dn dm
  unfold DVs at di'
  subst dn; subst dm; subst di'
  have := dvs_txt db
  subst this
  have := dvs_txt dz
  subst this
  exact ⟨a, us, i, b, k, ks, z, rfl, hS, ul, e1, hi, e2, e4, hb, e7, hk, ew, e8, hz⟩
theorem seals_few (b : Bk) : ∀ (l : List Str) (acc : List Str), (l.foldl (sealF b) acc).length ≤ acc.length + l.length
  | [], acc => Nat.le_refl _
  | d :: l, acc => by
    have h1 := seals_few b l (sealF b acc d)
    have h2 : (sealF b acc d).length ≤ acc.length + 1 := by
      unfold sealF
      cases stwOf b (tl d) with
      | none => exact Nat.le_succ _
      | some s =>
        show (if s.a ∈ acc then acc else acc ++ [s.a]).length ≤ _
        split
        · exact Nat.le_succ _
        · rw [List.length_append]; exact Nat.le_refl _
    rw [List.foldl_cons, List.length_cons]
    omega
theorem seals_ten {b : Bk} {bs : List Str} (h : bs.length ≤ 10) : (sealsL b bs).length ≤ 10 := by
  have := seals_few b bs []
  rw [List.length_nil] at this
  unfold sealsL
  omega
theorem miss_ten {b : Bk} {t : Nt} (h : t.bs.length ≤ 10) : (missL b t).length ≤ 10 := by
  unfold missL
  split
  · exact Nat.zero_le _
  · exact Nat.le_trans (List.length_filter_le _ _) (seals_ten h)
theorem log54 {n : Nat} (h : n ≤ 999999) : n.log2 < 1920 := by
  by_cases h0 : n = 0
  · subst h0; decide
  · exact Nat.lt_of_lt_of_le ((Nat.log2_lt h0).mpr (show n < 2 ^ 20 by have : (2 : Nat) ^ 20 = 1048576 := by decide
                                                                       omega)) (by decide)
theorem dl_txts {n : Nat} {l : List Str} (h : l.length ≤ 1000000) : DL (n + 2) (.tup (l.map D.str)) := ⟨by rw [List.length_map]; exact h, fun d hd => by
  obtain ⟨x, _, rfl⟩ := List.mem_map.mp hd
  trivial⟩
theorem js {a y : Str} (h : (tl a).length + (tl y).length ≤ 30000) : (a ++ y).length ≤ sizeLine := by
  rw [tl_len, tl_app, List.length_append]
  exact Nat.le_trans h (by decide)
theorem js2 {a y : Str} (h : (tl a).length + (tl y).length ≤ 30000) : a.length + y.length ≤ sizeLine := by
  rw [tl_len, tl_len y]
  exact Nat.le_trans h (by decide)
theorem dv_key {K : PySem.W.Frag} {H : Hp} {x : Str} {l : List Nat} (h : tl x = l) : DV K H (.str (S l)) (.str x) := by
  unfold DV
  exact congrArg V.str (tl_ext (by rw [h, tl_S]))
theorem numL_six {n : Nat} (h : n ≤ 999999) : (TL.numL n).length ≤ 6 := TL.numL_len (n := n) (k := 6) (by decide) (by omega)
theorem idL_len {t : Nt} (ok : NtOk t) : (idL t).length ≤ 15 := by
  have := numL_six ok.k
  have := ok.n
  unfold idL
  rw [List.length_append, List.length_cons]
  omega
theorem tl_int (n : Nat) : tl (Str.ofString (toString (n : Int))) = TL.numL n := TL.tl_num n
def DLs (n : Nat) (ds : List D) : Prop := ∀ d ∈ ds, DL n d
theorem dlN {n : Nat} : DLs n [] := fun _ h => by cases h
theorem dlC {n : Nat} {d : D} {ds : List D} (h : DL n d) (k : DLs n ds) : DLs n (d :: ds) := fun x hx => (List.mem_cons.mp hx).elim (fun e => e ▸ h) (k x)
theorem dlT {n : Nat} {ds : List D} (l : ds.length ≤ 1000000) (k : DLs n ds) : DL (n + 1) (.tup ds) := ⟨l, k⟩
theorem dvs_ints {K : PySem.W.Frag} {H : Hp} : ∀ (w : List Int), DVs K H (w.map D.int) (w.map V.int)
  | [] => by unfold List.map DVs; rfl
  | x :: w => ⟨.int x, _, rfl, by unfold DV; rfl, dvs_ints w⟩
theorem dls_ints {n : Nat} (w : List Int) : DLs (n + 1) (w.map D.int) := fun d hd => by
  obtain ⟨x, _, rfl⟩ := List.mem_map.mp hd
  trivial
theorem dls_txts {n : Nat} (w : List Str) : DLs (n + 1) (w.map D.str) := fun d hd => by
  obtain ⟨x, _, rfl⟩ := List.mem_map.mp hd
  trivial
theorem dvs_mem {K : PySem.W.Frag} {H : Hp} : ∀ {ds : List D} {us : List V} {v : V}, DVs K H ds us → v ∈ us → ∃ d, DV K H d v
  | [], us, v, h, m => by unfold DVs at h; subst h; cases m
  | d :: ds, us, v, h, m => by
    obtain ⟨u, r, rfl, q, t⟩ := h
    rcases List.mem_cons.mp m with e | m
    · exact ⟨d, e ▸ q⟩
    · exact dvs_mem t m
theorem dvs_app {K : PySem.W.Frag} {H : Hp} : ∀ {ds es : List D} {us vs : List V}, DVs K H ds us → DVs K H es vs → DVs K H (ds ++ es) (us ++ vs)
  | [], es, us, vs, h, k => by unfold DVs at h; subst h; exact k
  | d :: ds, es, us, vs, h, k => by
    obtain ⟨u, r, rfl, q, t⟩ := h
    exact ⟨u, r ++ vs, rfl, q, dvs_app t k⟩
theorem small54 {n : Nat} (h : n ≤ 30000) : n < sizeLine := Nat.lt_of_le_of_lt h (by decide)
theorem dl_up : ∀ {n : Nat} {d : D}, DL n d → DL (n + 1) d
  | 0, _, h => False.elim h
  | n + 1, .tup xs, h => ⟨h.1, fun x hx => dl_up (h.2 x hx)⟩
  | n + 1, .non, _ => trivial
  | n + 1, .int _, _ => trivial
  | n + 1, .str _, _ => trivial
  | n + 1, .bl _, _ => trivial
theorem dl_le {n m : Nat} {d : D} (h : DL n d) (le : n ≤ m) : DL m d := by
  induction le with
  | refl => exact h
  | step _ ih => exact dl_up ih
theorem dl_nt {t : Nt} (ok : NtOk t) : DL 6 (ntD t) :=
  dlT (by show 10 ≤ 1000000; decide) (dlC trivial (dlC (dlT (by show 2 ≤ 1000000; decide) (dlC trivial (dlC trivial dlN))) (dlC trivial (dlC trivial (dlC (dlT (by rw [List.length_map]; have := ok.bs.1; omega) (dls_txts _)) (dlC trivial (dlC (dlT (by have := ok.rf.1; omega) (fun d h => dl_le (ok.rf.2 d h) (by decide))) (dlC (dlT (by rw [List.length_cons]; have := ok.ot.1; omega) (dlC trivial (fun d h => dl_le (ok.ot.2 d h) (by decide)))) (dlC (dlT (by rw [List.length_map]; have := ok.se; omega) (dls_txts _)) (dlC ok.bo dlN))))))))))
theorem dl_sub {t : Nt} (ok : NtOk t) (g : Str) : DL 8 (subD t g) :=
  dlT (by show 4 ≤ 1000000; decide) (dlC trivial (dlC trivial (dlC trivial (dlC (dlT (by show 4 ≤ 1000000; decide) (dlC trivial (dlC (dl_nt ok) (dlC trivial (dlC (dlT (Nat.zero_le _) dlN) dlN))))) dlN))))
theorem dl_subs {b : Bk} {t : Nt} (ok : NtOk t) : DL 8 (subsD b t) := by
  unfold subsD
  cases missL b t with
  | nil => trivial
  | cons g l => exact dl_sub ok g
theorem dl_note {t : Nt} {sd : D} (h : DL 3 sd) : DL 8 (noteD t sd) :=
  dlT (by show 4 ≤ 1000000; decide) (dlC trivial (dlC trivial (dlC trivial (dlC (dlT (by show 3 ≤ 1000000; decide) (dlC trivial (dlC (dlT (by show 2 ≤ 1000000; decide) (dlC trivial (dlC trivial dlN))) (dlC (dl_le h (by decide)) dlN)))) dlN))))
theorem dl_copy {t : Nt} (ok : NtOk t) (h m : Str) : DL 8 (copyD t h m) :=
  dlT (by show 4 ≤ 1000000; decide) (dlC trivial (dlC trivial (dlC trivial (dlC (dlT (by show 3 ≤ 1000000; decide) (dlC trivial (dlC (dl_nt ok) (dlC trivial dlN)))) dlN))))
def sp_id_text (K : PySem.W.Frag) : Sp := fun vs H Q _ => ∃ (a : Addr) (x : Str) (n : Nat), vs = [.ref a] ∧ SqT K H a [.str x, .int (n : Int)] ∧ (tl x).length ≤ 2000 ∧ n ≤ 999999 ∧ ∀ y : Str, tl y = TL.numL n ++ 64 :: tl x → Q (.str y) H
def sp54_missing (K : PySem.W.Frag) : Sp := fun vs H Q _ => ∃ (b : Bk) (t : Nt) (v u : V), vs = [v, u] ∧ DV K H (bkD b) v ∧ BkOk b ∧ DV K H (ntD t) u ∧ NtOk t ∧ ∀ r H', Same H H' → DV K H' (.tup ((missL b t).map D.str)) r → Q r H'
def sp54_lacking (K : PySem.W.Frag) : Sp := fun vs H Q _ => ∃ (b : Bk) (t : Nt) (v u : V), vs = [v, u] ∧ DV K H (bkD b) v ∧ BkOk b ∧ DV K H (ntD t) u ∧ NtOk t ∧ ∀ p H', H p = none → Same H H' → H' p = some (.lst ((missL b t).map V.str)) → Q (.ref p) H'
def sp54_to (K : PySem.W.Frag) : Sp := fun vs H Q _ => ∃ (t : Nt) (u : V) (g : Str) (e : Addr), vs = [u, .str g, .str g, .ref e] ∧ DV K H (ntD t) u ∧ NtOk t ∧ SqT K H e [] ∧ ∀ r H', Same H H' → DV K H' (subD t g) r → Q r H'
def sp54_subs (K : PySem.W.Frag) : Sp := fun vs H Q _ => ∃ (b : Bk) (t : Nt) (v u : V), vs = [v, u] ∧ DV K H (bkD b) v ∧ BkOk b ∧ DV K H (ntD t) u ∧ NtOk t ∧ ∀ r H', Same H H' → DV K H' (subsD b t) r → Q r H'
def sp54_note (K : PySem.W.Frag) : Sp := fun vs H Q _ => ∃ (t : Nt) (sd : D) (u z : V), vs = [u, z] ∧ DV K H (ntD t) u ∧ NtOk t ∧ DV K H sd z ∧ ∀ r H', Same H H' → DV K H' (noteD t sd) r → Q r H'
def sp54_copy (K : PySem.W.Frag) : Sp := fun vs H Q _ => ∃ (t : Nt) (u : V) (h m : Str), vs = [u, .str h, .str m] ∧ DV K H (ntD t) u ∧ NtOk t ∧ (tl h).length ≤ 200 ∧ (tl m).length ≤ 200 ∧ ∀ r H', Same H H' → DV K H' (copyD t h m) r → Q r H'
def sp54_lid (K : PySem.W.Frag) : Sp := fun vs H Q _ => ∃ (t : Nt) (u : V), vs = [u] ∧ DV K H (ntD t) u ∧ NtOk t ∧ ∀ y : Str, tl y = idL t → Q (.str y) H
def sp54_body (K : PySem.W.Frag) : Sp := fun vs H Q _ => ∃ (s a : Addr) (c : Nat), vs = [.ref s] ∧ Src H s a (c + 200) ∧ ∀ (d : D) (v : V) (H' : Hp), DV K H' d v → DL 5 d → Ext s H H' → Src H' s a c → Q v H'
def sp54_basic (K : PySem.W.Frag) : Sp := fun vs H Q _ => ∃ (s a w m p : Addr) (ws us ps : List Str) (c : Nat), vs = [.ref s, .ref w, .ref m, .ref p] ∧ SqL K H w (ws.map V.str) ∧ w ≠ s ∧ Wds ws ∧ H m = some (.lst (us.map V.str)) ∧ m ≠ s ∧ us.length ≤ 10 ∧ H p = some (.lst (ps.map V.str)) ∧ p ≠ s ∧ ps ≠ [] ∧ ps.length ≤ 10 ∧ Src H s a (c + 210) ∧ ∀ (d : D) (v : V) (H' : Hp), DV K H' d v → Ext s H H' → Src H' s a c → Q v H'
def sp54_policy (K : PySem.W.Frag) : Sp := fun vs H Q _ => ∃ (s a w m p : Addr) (ws us ps : List Str) (c : Nat), vs = [.ref s, .ref w, .ref m, .ref p] ∧ SqL K H w (ws.map V.str) ∧ w ≠ s ∧ Wds ws ∧ H m = some (.lst (us.map V.str)) ∧ m ≠ s ∧ us.length ≤ 10 ∧ H p = some (.lst (ps.map V.str)) ∧ p ≠ s ∧ ps ≠ [] ∧ ps.length ≤ 10 ∧ Src H s a (c + 2000) ∧ ∀ (d : D) (v : V) (H' : Hp), DV K H' d v → Ext s H H' → Src H' s a c → Q v H'
def sp54_stewards (K : PySem.W.Frag) : Sp := fun vs H Q _ => ∃ (s a w : Addr) (v : V) (b : Bk) (ws : List Str) (m : Int) (c : Nat), vs = [.ref s, v, .ref w, .int m] ∧ 0 < m ∧ m ≤ 3 ∧ DV K H (bkD b) v ∧ b.si ≠ [] ∧ BkOk b ∧ SqL K H w (ws.map V.str) ∧ w ≠ s ∧ Wds ws ∧ Src H s a (c + 10000) ∧
  ∀ (u : V) (l : List Sw) (H' : Hp), DV K H' (bkD { b with sw := l }) u → l.length ≤ 3 → (∀ x ∈ l, (tl x.p).length ≤ 200 ∧ (tl x.a).length ≤ 20) → Ext s H H' → Src H' s a c → Q u H'
def sp54_kind (K : PySem.W.Frag) : Sp := fun vs H Q _ => ∃ (s a : Addr) (o : V) (od : D) (c : Nat), vs = [.ref s, o] ∧ DV K H od o ∧ DL 2 od ∧ Src H s a (c + 1) ∧ ∀ (w : Str) (ot : List D) (v : V) (H' : Hp), DV K H' (.tup (.str w :: ot)) v → ot.length ≤ 1 → (∀ d ∈ ot, DL 2 d) → Ext s H H' → Src H' s a c → Q v H'
def sp54_seals (K : PySem.W.Frag) : Sp := fun vs H Q _ => ∃ (s a t : Addr) (v : V) (b : Bk) (bs : List Str) (c : Nat), vs = [.ref s, v, .ref t] ∧ DV K H (bkD b) v ∧ b.si ≠ [] ∧ BkOk b ∧ SqT K H t (bs.map V.str) ∧ bs.length ≤ 10 ∧ (∀ d ∈ bs, Clean (tl d)) ∧ Src H s a (c + 100) ∧ ∀ (se : List Str) (v : V) (H' : Hp), DV K H' (.tup (se.map D.str)) v → se.length ≤ 100 → Ext s H H' → Src H' s a c → Q v H'
def sp54_notice (K : PySem.W.Frag) : Sp := fun vs H Q _ => ∃ (s a w : Addr) (v : V) (b : Bk) (ws : List Str) (c : Nat), vs = [.ref s, v, .ref w] ∧ DV K H (bkD b) v ∧ b.si ≠ [] ∧ BkOk b ∧ SqL K H w (ws.map V.str) ∧ w ≠ s ∧ Wds ws ∧ Src H s a (c + 1000) ∧ ∀ (t : Nt) (v : V) (H' : Hp), DV K H' (ntD t) v → NtOk t → t.se.length ≤ 100 → Ext s H H' → Src H' s a c → Q v H'
def sp54_right (K : PySem.W.Frag) : Sp := fun vs H Q _ => ∃ (s a : Addr) (b b2 : Bk) (t : Nt) (v v2 u : V) (c : Nat), vs = [.ref s, v, v2, u] ∧ DV K H (bkD b) v ∧ BkOk b ∧ DV K H (bkD b2) v2 ∧ BkOk b2 ∧ DV K H (ntD t) u ∧ NtOk t ∧ t.se.length ≤ 100 ∧ Src H s a (c + 20) ∧ ∀ H', Ext s H H' → Src H' s a c → Q (.bl true) H'
def sp54_others (K : PySem.W.Frag) : Sp := fun vs H Q _ => ∃ (t : Nt) (sd : D) (u z : V) (h m : Str), vs = [u, z, .str h, .str m] ∧ DV K H (ntD t) u ∧ NtOk t ∧ DV K H sd z ∧ DL 3 sd ∧ (tl h).length ≤ 200 ∧ (tl m).length ≤ 200 ∧ ∀ H', Same H H' → Q (.bl true) H'
def sp54_shuffled (K : PySem.W.Frag) : Sp := fun vs H Q _ => ∃ (s a r : Addr) (xs : List V) (c : Nat), vs = [.ref s, .ref r] ∧ (SqL K H r xs ∨ SqT K H r xs) ∧ xs.length ≤ 1000 ∧ Src H s a (c + xs.length) ∧
  ∀ (d : Addr) (ys : List V) (H' : Hp), H d = none → H' d = some (.lst ys) → ys.length = xs.length → (∀ y ∈ ys, y ∈ xs) → Ext s H H' → Src H' s a c → Q (.ref d) H'
end Z
namespace Z
open PySem L2
section
variable {P : Program} {w : World} {K : PySem.W.Frag} {mg : Str → Option Value} {base : Heap}
theorem ok__law_mix (D : Df K mg "_law_mix" s__law_mix ["seed", "turn"]) (T : Tx mg) : Cal P w K mg base "_law_mix" ["seed", "turn"] 1 sp__law_mix := by
  obtain ⟨f, fd, F, gf, bf⟩ := D
  refine ⟨f, fd, F.ok sc__law_mix (fun vs H Q E h => ?_) (fun cdv A outer s H vs Q E hr h => ?_), gf, F.kp, bf⟩
  · obtain ⟨x, y, rfl, _⟩ := h; rfl
  · obtain ⟨x, y, rfl, x0, x1, y0, y1, q⟩ := h
    refine ⟨_, (pss_cons (ps_set (i := 2) sc__law_mix.nd rfl (Or.inl rfl) (pe_op op_mod (pe_callTy call_int1 (by rfl) T.n_int (by decide +kernel) (pa_cons (pe_op op_add (pe_op op_add (pe_op op_mul (pv 0) pe_int) (pe_op op_mul (pv 1) pe_int)) pe_int) pa_nil)) pe_int))
      (pss_cons (ps_set (i := 2) sc__law_mix.nd rfl (Or.inl rfl) (pe_op op_mod (pe_callTy call_int1 (by rfl) T.n_int (by decide +kernel) (pa_cons (pe_op op_add (pe_op op_add (pe_op op_mul (pv 2) (pv 2)) (pe_op op_mul (pv 1) pe_int)) pe_int) pa_nil)) pe_int))
      (pss_cons (ps_set (i := 2) sc__law_mix.nd rfl (Or.inl rfl) (pe_op op_mod (pe_callTy call_int1 (by rfl) T.n_int (by decide +kernel) (pa_cons (pe_op op_add (pe_op op_add (pe_op op_mul (pv 2) pe_int) (pe_op op_mul (pe_op op_mul (pv 1) (pv 1)) pe_int)) pe_int) pa_nil)) pe_int))
      (pss_one (ps_ret (pv 2)))))), ?_⟩

    refine ⟨_, rfl, _, _, rfl, rfl, .inr (by decide), _, rfl, _, _, rfl, rfl, .inr (by decide), _, _, rfl, rfl, _, _, rfl, rfl, .inl ⟨_, rfl, _, _, rfl, rfl, (by show (0 : Int) < _; decide), ?_⟩⟩
    refine ⟨_, rfl, _, rfl, _, _, rfl, rfl, .inl ⟨by omega, by omega⟩, _, rfl, _, _, rfl, rfl, .inr (by decide), _, _, rfl, rfl, _, _, rfl, rfl, .inl ⟨_, rfl, _, _, rfl, rfl, (by show (0 : Int) < _; decide), ?_⟩⟩
    refine ⟨_, rfl, _, _, rfl, rfl, .inr (by decide), _, rfl, _, rfl, _, _, rfl, rfl, .inl ⟨by omega, by omega⟩, _, _, rfl, rfl, .inr (by decide), _, _, rfl, rfl, _, _, rfl, rfl, .inl ⟨_, rfl, _, _, rfl, rfl, (by show (0 : Int) < _; decide), ?_⟩⟩
    exact ⟨_, rfl, q _ (Int.emod_nonneg _ (by decide)) (by omega)⟩
end
end Z
namespace Z
open PySem L2
section
variable {P : Program} {w : World} {K : PySem.W.Frag} {mg : Str → Option Value} {base : Heap}
theorem ok__law_source (D : Df K mg "_law_source" s__law_source ["script"]) (T : Tx mg) (C__law_mix : Cal P w K mg base "_law_mix" ["seed", "turn"] 1 sp__law_mix) : Cal P w K mg base "_law_source" ["script"] 2 (sp__law_source K) := by
  obtain ⟨f__law_mix, fd__law_mix, G__law_mix, g__law_mix, k__law_mix, b__law_mix⟩ := C__law_mix
  obtain ⟨f, fd, F, gf, bf⟩ := D
  refine ⟨f, fd, F.ok sc__law_source (fun vs H Q E h => ?_) (fun cdv A outer s H vs Q E hr h => ?_), gf, F.kp, bf⟩
  · obtain ⟨a, ns, rfl, _⟩ := h; rfl
  · obtain ⟨a, ns, rfl, hS, hlen, q⟩ := h
    refine ⟨_, (pss_cons (ps_set (i := 1) sc__law_source.nd rfl (Or.inl rfl) pe_int)
      (pss_cons (ps_for PassesOwn.never rfl (pi_range1 (by rfl) T.n_range (pa_cons (pe_callB call_len_seq (by rfl) T.n_len PySem.boot_len (pa_cons (pv 0) pa_nil)) pa_nil)) (pg_name (i := 2) sc__law_source.nd rfl (Or.inl rfl))
      (pss_one (ps_set (i := 1) sc__law_source.nd rfl (Or.inl rfl) (pe_call G__law_mix (hr.mono (by decide)) (by rfl) g__law_mix k__law_mix b__law_mix .nil pass0 (pa_cons (pe_op op_add (pv 1) (pe_op op_mod (pe_callTy call_int1 (by rfl) T.n_int (by decide +kernel) (pa_cons (pe_ix ix_list (pv 0) (pv 2) (fun _ _ => rfl)) pa_nil)) pe_int)) (pa_cons (pv 2) pa_nil))))))
      (pss_one (ps_ret (pe_lst (pa_cons (pe_callTy call_list_of (by rfl) T.n_list (by decide +kernel) (pa_cons (pv 0) pa_nil)) (pa_cons pe_int (pa_cons pe_int (pa_cons (pv 1) (pa_cons pe_int pa_nil)))))))))), ?_⟩
    refine ⟨_, rfl, a, _, rfl, .inl hS, _, rfl, by rw [List.length_map]; omega, by rw [List.length_map]; omega, ?_⟩
    refine for_range (lo := 0) (n := (((ns.map V.int).length : Int)).toNat) (fun i σ H' => ∃ (e : Int) (v : Option V), σ = [some (.ref a), some (.int e), v] ∧ H' = H ∧ 0 ≤ e ∧ e < 2147483647) ⟨17, none, rfl, rfl, by decide, by decide⟩ ?_ ?_
    · rintro i σ H' hi ⟨e, v, rfl, rfl, e0, e1⟩
      rw [List.length_map] at hi
      have hi' : i < ns.length := by omega
      refine ⟨_, rfl, _, rfl, _, rfl, a, _, _, .int ns[i], rfl, rfl, hS, ?_, .inl ⟨_, rfl, _, _, rfl, rfl, (by show (0 : Int) < _; decide), _, _, rfl, rfl, _, rfl, ?_⟩⟩
      · rw [Int.zero_add]
        exact atI_nat (by rw [List.getElem?_map, List.getElem?_eq_getElem hi']; rfl)
      · refine ⟨_, _, rfl, ?_, ?_, ?_, ?_, fun v v0 v1 => ?_⟩
        · have := Int.emod_nonneg ns[i] (by decide : (2147483647 : Int) ≠ 0); omega
        · have := Int.emod_lt_of_pos ns[i] (by decide : (0 : Int) < 2147483647); omega
        · omega
        · omega
        · exact ⟨v, _, rfl, rfl, v0, v1⟩
    · rintro σ H' ⟨e, v, rfl, rfl, e0, e1⟩
      refine ⟨_, rfl, a, _, rfl, .inl hS, fun l hl => ?_⟩
      refine ⟨_, rfl, by show 5 ≤ sizeLine; decide, fun s hs => ?_⟩
      have hsl : s ≠ l := fun z => by rw [z, upd_same] at hs; cases hs
      have hs0 : H' s = none := by rw [upd_ne hsl] at hs; exact hs
      refine q s l _ hs0 ((same_new hl).trans (same_new hs)) ⟨ns, 0, 0, e, 0, upd_same, by rw [upd_ne hsl.symm, upd_same], hsl.symm, hlen, by decide, by decide, by decide, e0, e1, by decide, by decide⟩
end
end Z
namespace Z
open PySem L2
section
variable {P : Program} {w : World} {K : PySem.W.Frag} {mg : Str → Option Value} {base : Heap}
theorem ok__law_draw (D : Df K mg "_law_draw" s__law_draw ["source", "many"]) (T : Tx mg) (C__law_mix : Cal P w K mg base "_law_mix" ["seed", "turn"] 1 sp__law_mix) : Cal P w K mg base "_law_draw" ["source", "many"] 2 sp__law_draw := by
  obtain ⟨f__law_mix, fd__law_mix, G__law_mix, g__law_mix, k__law_mix, b__law_mix⟩ := C__law_mix
  obtain ⟨f, fd, F, gf, bf⟩ := D
  refine ⟨f, fd, F.ok sc__law_draw (fun vs H Q E h => ?_) (fun cdv A outer s H vs Q E hr h => ?_), gf, F.kp, bf⟩
  · obtain ⟨s, a, m, c, rfl, _⟩ := h; rfl
  · obtain ⟨s, a, m, c, rfl, m0, m1, hS, q⟩ := h
    refine ⟨_, (C8.pss_cut (ps_if (PW.pt (pw_and (pt_cmpR op_eq (pe_ix ix_list (pv 0) pe_int (fun _ _ => rfl)) pe_int (nomark _)) (pw_and (pt_cmpR op_lt (pe_ix ix_list (pv 0) pe_int (fun _ _ => rfl)) (pe_callB call_len_seq (by rfl) T.n_len PySem.boot_len (pa_cons (pe_ix ix_list (pv 0) pe_int (fun _ _ => rfl)) pa_nil)) (nomark _)) (pw_and1 (pt_cmpR op_eq (pe_op op_mod (pe_callTy call_int1 (by rfl) T.n_int (by decide +kernel) (pa_cons (pe_ix ix_list (pv 0) pe_int (fun _ _ => rfl)) pa_nil)) pe_int) pe_int (nomark _))))))
      (pss_cons (ps_set (i := 2) sc__law_draw.nd rfl (Or.inl rfl) (pe_ix ix_list (pe_ix ix_list (pv 0) pe_int (fun _ _ => rfl)) (pe_ix ix_list (pv 0) pe_int (fun _ _ => rfl)) (fun _ _ => rfl)))
        (pss_cons (ps_asg (pe_op op_add (pe_ix ix_list (pv 0) pe_int (fun _ _ => rfl)) pe_int) (pg_sub (pv 0) pe_int set_list))
        (pss_one (ps_if (pt_cmpR op_ge (pe_callB call_abs (by rfl) T.n_abs (by decide +kernel) (pa_cons (pv 2) pa_nil)) (pe_op op_pow pe_int pe_int) (nomark _))
        (pss_one (ps_asg (pe_op op_and (pe_callB call_abs (by rfl) T.n_abs (by decide +kernel) (pa_cons (pv 2) pa_nil)) (pe_op op_sub (pe_op op_shl pe_int pe_int) pe_int)) (pg_sub (pv 0) pe_int set_list)))
        (pss_one (ps_asg (pe_call G__law_mix (hr.mono (by decide)) (by rfl) g__law_mix k__law_mix b__law_mix .nil pass0 (pa_cons (pe_op op_add (pe_ix ix_list (pv 0) pe_int (fun _ _ => rfl)) (pe_op op_mod (pe_callTy call_int1 (by rfl) T.n_int (by decide +kernel) (pa_cons (pv 2) pa_nil)) pe_int)) (pa_cons (pe_ix ix_list (pv 0) pe_int (fun _ _ => rfl)) pa_nil))) (pg_sub (pv 0) pe_int set_list)))))))
      pss_nil)
      (pss_cons (ps_if (pt_cmpR op_gt (pe_ix ix_list (pv 0) pe_int (fun _ _ => rfl)) pe_int (nomark _))
      (pss_cons (ps_set (i := 3) sc__law_draw.nd rfl (Or.inl rfl) (pe_op op_mod (pe_callTy call_int1 (by rfl) T.n_int (by decide +kernel) (pa_cons (pe_ix ix_list (pv 0) pe_int (fun _ _ => rfl)) pa_nil)) (pv 1)))
        (pss_cons (ps_asg (pe_op op_fdivN (pe_callTy call_int1 (by rfl) T.n_int (by decide +kernel) (pa_cons (pe_ix ix_list (pv 0) pe_int (fun _ _ => rfl)) pa_nil)) (pv 1)) (pg_sub (pv 0) pe_int set_list))
        (pss_one (ps_ret (pv 3)))))
      pss_nil)
      (pss_cons (ps_asg (pe_op op_add (pe_ix ix_list (pv 0) pe_int (fun _ _ => rfl)) pe_int) (pg_sub (pv 0) pe_int set_list))
      (pss_one (ps_ret (pe_op op_mod (pe_callTy call_int1 (by rfl) T.n_int (by decide +kernel) (pa_cons (pe_op op_fdiv (pe_call G__law_mix (hr.mono (by decide)) (by rfl) g__law_mix k__law_mix b__law_mix .nil pass0 (pa_cons (pe_ix ix_list (pv 0) pe_int (fun _ _ => rfl)) (pa_cons (pe_ix ix_list (pv 0) pe_int (fun _ _ => rfl)) pa_nil))) pe_int) pa_nil)) (pv 1))))))), ?_⟩
    refine ⟨fun σ' H' => (∃ v2 v3, σ' = [some (.ref s), some (.int m), v2, v3]) ∧ Src H' s a (c + 1) ∧ Ext s H H', ?_, ?_⟩
    · obtain ⟨ns, i, b, e, t, h1, h2, as, h4, h5, h6, h7, h8, h9, h10, h11⟩ := id hS
      have hL : SqL K H s [.ref a, .int i, .int b, .int e, .int t] := SqL.of h1
      refine ⟨_, rfl, _, _, _, _, rfl, rfl, hL, rfl, rfl, _, rfl, ite2 (fun c1 => ?_) (fun c1 => iteF ⟨⟨_, _, rfl⟩, hS, Ext.refl _ _⟩)⟩
      refine ⟨_, rfl, _, _, _, _, rfl, rfl, hL, rfl, _, rfl, _, _, _, _, rfl, rfl, hL, rfl, a, _, rfl, .inl (SqL.of h2), _, _, rfl, rfl, _, rfl, ite2 (fun c2 => ?_) (fun c2 => iteF ⟨⟨_, _, rfl⟩, hS, Ext.refl _ _⟩)⟩
      refine ⟨_, rfl, _, _, _, _, rfl, rfl, hL, rfl, .inl ⟨_, rfl, _, _, rfl, rfl, (by show (0 : Int) < 6; decide), rfl, _, rfl, ite2 (fun c3 => ?_) (fun c3 => ⟨⟨_, _, rfl⟩, hS, Ext.refl _ _⟩)⟩⟩
      have hi : i < ns.length := by
        have := of_decide_eq_true c2
        rw [List.length_map] at this
        exact this
      have hi' : i.toNat < ns.length := by omega
      -- cell = source[0][source[1]]
      refine ⟨_, rfl, _, _, _, _, rfl, rfl, hL, rfl, _, rfl, _, _, _, _, rfl, rfl, hL, rfl, a, _, _, .int ns[i.toNat], rfl, rfl, SqL.of h2, at_of (j := i.toNat) (by omega) (by rw [List.getElem?_map, List.getElem?_eq_getElem hi']; rfl), ?_⟩
      -- source[1] = source[1] + 1
      refine ⟨_, rfl, _, _, _, _, rfl, rfl, hL, rfl, _, _, rfl, rfl, _, rfl, _, _, _, 1, rfl, rfl, h1, rfl, ?_⟩
      refine ⟨_, rfl, _, rfl, _, _, rfl, rfl, ⟨by decide, by decide, by decide⟩, _, _, rfl, rfl, _, rfl, ite2 (fun c4 => ?_) (fun c4 => ?_)⟩
      · refine ⟨_, rfl, _, rfl, _, _, rfl, rfl, ⟨by decide, by decide, by decide⟩, _, _, rfl, rfl, _, _, rfl, rfl, _, rfl, _, _, _, 2, rfl, rfl, upd_same, rfl, ?_⟩
        refine ⟨⟨_, _, rfl⟩, ?_, ?_⟩
        · refine ⟨ns, i + 1, _, e, t, upd_same, by rw [upd_ne as, upd_ne as]; exact h2, as, h4, by omega, by omega, ?_, h8, h9, h10, h11⟩
          exact and_nn (by split <;> omega) _
        · exact Ext.put.trans Ext.put
      · refine ⟨_, rfl, _, _, _, _, rfl, rfl, SqL.of upd_same, rfl, _, rfl, .inl ⟨_, rfl, _, _, rfl, rfl, (by show (0 : Int) < 2147483647; decide), _, _, rfl, rfl, _, rfl, _, _, _, _, rfl, rfl, SqL.of upd_same, rfl, _, _, rfl, ?_, ?_, ?_, ?_, fun v v0 v1 => ?_⟩⟩
        · have := Int.emod_nonneg ns[i.toNat] (by decide : (2147483647 : Int) ≠ 0); omega
        · have := Int.emod_lt_of_pos ns[i.toNat] (by decide : (0 : Int) < 2147483647); omega
        · omega
        · omega
        · refine ⟨_, rfl, _, _, _, 3, rfl, rfl, upd_same, rfl, ⟨_, _, rfl⟩, ?_, Ext.put.trans Ext.put⟩
          exact ⟨ns, i + 1, b, v, t, upd_same, by rw [upd_ne as, upd_ne as]; exact h2, as, h4, by omega, by omega, h7, v0, v1, h10, h11⟩
    · rintro σ' H' ⟨⟨v2, v3, rfl⟩, hS', hx⟩
      obtain ⟨ns, i, b, e, t, h1, h2, as, h4, h5, h6, h7, h8, h9, h10, h11⟩ := id hS'
      have hL : SqL K H' s [.ref a, .int i, .int b, .int e, .int t] := SqL.of h1
      refine ⟨_, rfl, _, _, _, _, rfl, rfl, hL, rfl, _, _, rfl, rfl, _, rfl, ite2 (fun c1 => ?_) (fun c1 => ?_)⟩
      · refine ⟨_, rfl, _, _, _, _, rfl, rfl, hL, rfl, .inl ⟨_, rfl, _, rfl, _, _, rfl, rfl, m0, ?_⟩⟩
        refine ⟨_, rfl, _, _, _, _, rfl, rfl, hL, rfl, .inl ⟨_, rfl, _, rfl, _, _, rfl, rfl, ⟨by omega, by omega⟩, _, rfl, _, _, _, 2, rfl, rfl, h1, rfl, ?_⟩⟩
        refine ⟨_, rfl, q _ _ (Int.emod_nonneg _ (by omega)) (Int.emod_lt_of_pos _ m0) (hx.trans Ext.put) ?_⟩
        refine ⟨ns, i, _, e, t, upd_same, by rw [upd_ne as]; exact h2, as, h4, h5, h6, ?_, h8, h9, h10, by omega⟩
        exact Int.fdiv_nonneg h7 (by omega)
      · refine ⟨_, rfl, _, _, _, _, rfl, rfl, hL, rfl, _, _, rfl, rfl, _, rfl, _, _, _, 4, rfl, rfl, h1, rfl, ?_⟩
        refine ⟨_, rfl, _, _, _, _, rfl, rfl, SqL.of upd_same, rfl, _, rfl, _, _, _, _, rfl, rfl, SqL.of upd_same, rfl, _, _, rfl, h8, by omega, by omega, by omega, fun v v0 v1 => ?_⟩
        refine ⟨_, _, rfl, rfl, ⟨by decide, by decide⟩, .inl ⟨_, rfl, _, rfl, _, _, rfl, rfl, m0, ?_⟩⟩
        refine q _ _ (Int.emod_nonneg _ (by omega)) (Int.emod_lt_of_pos _ m0) (hx.trans Ext.put) ?_
        exact ⟨ns, i, b, e, t + 1, upd_same, by rw [upd_ne as]; exact h2, as, h4, h5, h6, h7, h8, h9, by omega, by omega⟩
end
end Z
namespace Z
open PySem L2
section
variable {P : Program} {w : World} {K : PySem.W.Frag} {mg : Str → Option Value} {base : Heap}
theorem ok__law_is_int (D : Df K mg "_law_is_int" s__law_is_int ["value"]) (T : Tx mg)  : Cal P w K mg base "_law_is_int" ["value"] 1 (sp__law_is_int K) := by
  obtain ⟨f, fd, F, gf, bf⟩ := D
  refine ⟨f, fd, F.ok sc__law_is_int (fun vs H Q E h => ?_) (fun cdv A outer s H vs Q E hr h => ?_), gf, F.kp, bf⟩
  · obtain ⟨i, rfl, _⟩ := h; rfl
  · obtain ⟨i, rfl, q⟩ := h
    refine ⟨_, (pss_one (ps_ret (pe_and (pe_callB call_isi (by rfl) T.n_isinstance (by decide +kernel) (pa_cons (pv 0) (pa_cons (pe_bltn (v := .ty "int") (by rfl) T.n_int (by decide +kernel) rfl) pa_nil))) (pe_one (pe_not (pe_callB call_isi (by rfl) T.n_isinstance (by decide +kernel) (pa_cons (pv 0) (pa_cons (pe_bltn (v := .ty "bool") (by rfl) T.n_bool (by decide +kernel) rfl) pa_nil)))))))), ?_⟩
    refine ⟨_, rfl, _, _, _, _, true, rfl, .ty _, .base (.int i), kit_ty (by decide +kernel), _, rfl, ?_⟩
    refine iteT ⟨_, rfl, _, _, _, _, false, rfl, .ty _, .base (.int i), kit_ty (by decide +kernel), _, rfl, q⟩

theorem ok__law_same (D : Df K mg "_law_same" s__law_same ["actual", "due"]) (T : Tx mg) (C__law_is_int : Cal P w K mg base "_law_is_int" ["value"] 1 (sp__law_is_int K)) : ∀ n, Cal P w K mg base "_law_same" ["actual", "due"] (n + 1) (sp__law_same K n)
  | 0 => by
    obtain ⟨f, fd, F, gf, bf⟩ := D
    exact ⟨f, fd, ⟨fun vs H Q E h => by obtain ⟨_, _, _, _, _, _, h, _⟩ := h; exact h.elim, fun A outer s H args us vs Q E _ _ _ _ h => by obtain ⟨_, _, _, _, _, _, h, _⟩ := h; exact h.elim⟩, gf, F.kp, bf⟩
  | n + 1 => by
    obtain ⟨f__law_same, fd__law_same, G__law_same, g__law_same, k__law_same, b__law_same⟩ := ok__law_same D T C__law_is_int n
    obtain ⟨f__law_is_int, fd__law_is_int, G__law_is_int, g__law_is_int, k__law_is_int, b__law_is_int⟩ := C__law_is_int
    obtain ⟨f, fd, F, gf, bf⟩ := D
    refine ⟨f, fd, F.ok sc__law_same (fun vs H Q E h => ?_) (fun cdv A outer s H vs Q E hr h => ?_), gf, F.kp, bf⟩
    · obtain ⟨d, v, u, rfl, _⟩ := h; rfl
    · obtain ⟨d, v, u, rfl, hv, hu, hd, q⟩ := h
      refine ⟨_, (pss_cons (ps_if (pt_val (pe_callB call_isi (by rfl) T.n_isinstance (by decide +kernel) (pa_cons (pv 1) (pa_cons (pe_bltn (v := .ty "tuple") (by rfl) T.n_tuple (by decide +kernel) rfl) pa_nil))))
      (pss_cons (ps_if (PW.pt (pw_or (pt_not (pt_val (pe_callB call_isi (by rfl) T.n_isinstance (by decide +kernel) (pa_cons (pv 0) (pa_cons (pe_bltn (v := .ty "tuple") (by rfl) T.n_tuple (by decide +kernel) rfl) pa_nil))))) (pw_or1 (pt_cmpR op_ne (pe_callB call_len_seq (by rfl) T.n_len PySem.boot_len (pa_cons (pv 0) pa_nil)) (pe_callB call_len_seq (by rfl) T.n_len PySem.boot_len (pa_cons (pv 1) pa_nil)) (nomark _)))))
        (pss_one (ps_ret pe_bl))
        pss_nil)
        (pss_cons (ps_for PassesOwn.never rfl (pi_range1 (by rfl) T.n_range (pa_cons (pe_callB call_len_seq (by rfl) T.n_len PySem.boot_len (pa_cons (pv 1) pa_nil)) pa_nil)) (pg_name (i := 2) sc__law_same.nd rfl (Or.inl rfl))
        (pss_one (ps_if (pt_not (pt_val (pe_call G__law_same hr (by rfl) g__law_same k__law_same b__law_same .nil pass0 (pa_cons (pe_ix ix_tup (pv 0) (pv 2) (fun _ _ => rfl)) (pa_cons (pe_ix ix_tup (pv 1) (pv 2) (fun _ _ => rfl)) pa_nil)))))
          (pss_one (ps_ret pe_bl))
          pss_nil)))
        (pss_one (ps_ret pe_bl))))
      pss_nil)
      (pss_cons (ps_if (pt_cmpR op_isN (pv 1) pe_non (nomark _))
      (pss_one (ps_ret (pe_cmpR op_isN (pv 0) pe_non (nomark _))))
      pss_nil)
      (pss_cons (ps_if (pt_val (pe_callB call_isi (by rfl) T.n_isinstance (by decide +kernel) (pa_cons (pv 1) (pa_cons (pe_bltn (v := .ty "bool") (by rfl) T.n_bool (by decide +kernel) rfl) pa_nil))))
      (pss_one (ps_ret (pe_and (pe_callB call_isi (by rfl) T.n_isinstance (by decide +kernel) (pa_cons (pv 0) (pa_cons (pe_bltn (v := .ty "bool") (by rfl) T.n_bool (by decide +kernel) rfl) pa_nil))) (pe_one (pe_cmpR op_eq (pv 0) (pv 1) (nomark _))))))
      pss_nil)
      (pss_cons (ps_if (pt_val (pe_callB call_isi (by rfl) T.n_isinstance (by decide +kernel) (pa_cons (pv 1) (pa_cons (pe_bltn (v := .ty "int") (by rfl) T.n_int (by decide +kernel) rfl) pa_nil))))
      (pss_one (ps_ret (pe_and (pe_call G__law_is_int (hr.mono (by omega)) (by rfl) g__law_is_int k__law_is_int b__law_is_int .nil pass0 (pa_cons (pv 0) pa_nil)) (pe_one (pe_cmpR op_eq (pv 0) (pv 1) (nomark _))))))
      pss_nil)
      (pss_one (ps_ret (pe_and (pe_callB call_isi (by rfl) T.n_isinstance (by decide +kernel) (pa_cons (pv 0) (pa_cons (pe_bltn (v := .ty "str") (by rfl) T.n_str (by decide +kernel) rfl) pa_nil))) (pe_one (pe_cmpR op_eq (pv 0) (pv 1) (nomark _)))))))))), ?_⟩
      cases d with
      | non =>
        unfold DV at hv hu; subst hv hu
        refine ⟨_, rfl, _, _, _, _, false, rfl, .ty _, .base .non, kit_ty (by decide +kernel), _, rfl, iteF ?_⟩
        exact ⟨_, rfl, rfl, _, rfl, iteT ⟨_, rfl, rfl, q⟩⟩
      | bl b =>
        unfold DV at hv hu; subst hv hu
        refine ⟨_, rfl, _, _, _, _, false, rfl, .ty _, .base (.bl b), kit_ty (by decide +kernel), _, rfl, iteF ?_⟩
        refine ⟨_, rfl, rfl, _, rfl, iteF ?_⟩
        refine ⟨_, rfl, _, _, _, _, true, rfl, .ty _, .base (.bl b), kit_ty (by decide +kernel), _, rfl, iteT ?_⟩
        refine ⟨_, rfl, _, _, _, _, true, rfl, .ty _, .base (.bl b), kit_ty (by decide +kernel), _, rfl, iteT ?_⟩
        refine ⟨_, rfl, _, rfl, rfl, ?_⟩
        rw [decide_eq_true rfl]; exact q
      | int b =>
        unfold DV at hv hu; subst hv hu
        refine ⟨_, rfl, _, _, _, _, false, rfl, .ty _, .base (.int b), kit_ty (by decide +kernel), _, rfl, iteF ?_⟩
        refine ⟨_, rfl, rfl, _, rfl, iteF ?_⟩
        refine ⟨_, rfl, _, _, _, _, false, rfl, .ty _, .base (.int b), kit_ty (by decide +kernel), _, rfl, iteF ?_⟩
        refine ⟨_, rfl, _, _, _, _, true, rfl, .ty _, .base (.int b), kit_ty (by decide +kernel), _, rfl, iteT ?_⟩
        refine ⟨_, rfl, _, rfl, _, rfl, iteT ?_⟩
        refine ⟨_, rfl, _, rfl, rfl, ?_⟩
        rw [decide_eq_true rfl]; exact q
      | str b =>
        unfold DV at hv hu; subst hv hu
        refine ⟨_, rfl, _, _, _, _, false, rfl, .ty _, .base (.str b), kit_ty (by decide +kernel), _, rfl, iteF ?_⟩
        refine ⟨_, rfl, rfl, _, rfl, iteF ?_⟩
        refine ⟨_, rfl, _, _, _, _, false, rfl, .ty _, .base (.str b), kit_ty (by decide +kernel), _, rfl, iteF ?_⟩
        refine ⟨_, rfl, _, _, _, _, false, rfl, .ty _, .base (.str b), kit_ty (by decide +kernel), _, rfl, iteF ?_⟩
        refine ⟨_, rfl, _, _, _, _, true, rfl, .ty _, .base (.str b), kit_ty (by decide +kernel), _, rfl, iteT ?_⟩
        refine ⟨_, rfl, _, rfl, rfl, ?_⟩
        rw [decide_eq_true rfl]; exact q
      | tup ds =>
        unfold DV at hv hu
        obtain ⟨a, vs, rfl, ha, hvs⟩ := hv
        obtain ⟨b, us, rfl, hb, hus⟩ := hu
        have hl := hvs.len
        have hm := hus.len
        refine ⟨_, rfl, _, _, _, _, true, rfl, .ty _, TyX.ofT hb, kit_ty (by decide +kernel), _, rfl, iteT ?_⟩
        refine ⟨_, rfl, _, _, _, _, true, rfl, .ty _, TyX.ofT ha, kit_ty (by decide +kernel), _, rfl, iteF ?_⟩
        refine ⟨_, rfl, a, _, rfl, .inr ha, _, rfl, b, _, rfl, .inr hb, rfl, _, rfl, iteNS (by rw [hl, hm]) ?_⟩
        refine ⟨_, rfl, b, _, rfl, .inr hb, _, rfl, by omega, by have := hd.1; omega, ?_⟩
        refine for_range (lo := 0) (n := ((us.length : Int)).toNat) (fun i σ H' => ∃ (x : Option V), σ = [some (.ref a), some (.ref b), x] ∧ H' = H) ⟨none, rfl, rfl⟩ ?_ ?_
        · rintro i σ H' hi ⟨x, rfl, rfl⟩
          have hi' : i < us.length := by omega
          have hi2 : i < ds.length := by omega
          obtain ⟨v1, e1, q1⟩ := hvs.get (List.getElem?_eq_getElem hi2)
          obtain ⟨v2, e2, q2⟩ := hus.get (List.getElem?_eq_getElem hi2)
          refine ⟨_, rfl, _, rfl, a, _, _, v1, rfl, rfl, ha, at_of (j := i) (by omega) e1, _, rfl, _, rfl, b, _, _, v2, rfl, rfl, hb, at_of (j := i) (by omega) e2, ?_⟩
          refine ⟨ds[i], v1, v2, rfl, q1, q2, hd.2 _ (List.getElem_mem hi2), _, rfl, iteF ?_⟩
          exact ⟨_, rfl, rfl⟩
        · rintro σ H' ⟨x, rfl, rfl⟩
          exact q
end
end Z
namespace Z
open PySem L2 SX
section
variable {P : Program} {w : World} {K : PySem.W.Frag} {mg : Str → Option Value} {base : Heap}
theorem ok__law_row (D : Df K mg "_law_row" s__law_row ["source", "size"]) (T : Tx mg) (C__law_draw : Cal P w K mg base "_law_draw" ["source", "many"] 2 sp__law_draw) : Cal P w K mg base "_law_row" ["source", "size"] 3 sp__law_row := by
  obtain ⟨f__law_draw, fd__law_draw, G__law_draw, g__law_draw, k__law_draw, b__law_draw⟩ := C__law_draw
  obtain ⟨f, fd, F, gf, bf⟩ := D
  refine ⟨f, fd, F.ok sc__law_row (fun vs H Q E h => ?_) (fun cdv A outer s H vs Q E hr h => ?_), gf, F.kp, bf⟩
  · obtain ⟨s, a, m, c, rfl, _⟩ := h; rfl
  · obtain ⟨s, a, m', c, rfl, hm0, hm', hS, q⟩ := h
    obtain ⟨m, rfl⟩ := Int.eq_ofNat_of_zero_le hm0
    have hm : m ≤ 1000 := by omega
    rw [Int.toNat_natCast] at hS q
    refine ⟨_, (pss_cons (ps_set (i := 2) sc__law_row.nd rfl (Or.inr rfl) pe_str)
      (pss_one (ps_ret (pe_join pe_str (pe_lc (own := [("k", 3)]) (g := gName 3) (tt := tYes) rfl sc__law_row.nd (pi_range1 (by rfl) T.n_range (pa_cons (pv 1) pa_nil)) (blkOk_by (own := [("k", 3)]) (N := N__law_row) (sc := defScope s__law_row) (by decide +kernel)) (fun _ _ _ _ _ => pg_name (i := 3) sc__law_row.nd rfl (Or.inl rfl)) (fun _ _ _ _ _ => pts_nil) (fun _ _ _ _ _ => (pe_item_str (pv 2) (pe_call G__law_draw (hr.mono (by decide)) (by rfl) g__law_draw k__law_draw b__law_draw .nil pass0 (pa_cons (pv 0) (pa_cons (pe_callB call_lenS (by rfl) T.n_len PySem.boot_len (pa_cons (pv 2) pa_nil)) pa_nil))) (fun _ _ => rfl)))))))), ?_⟩
    refine ⟨⟨_, rfl⟩, _, rfl, _, rfl, by omega, by omega, fun D hD => ?_⟩
    have Ds : D ≠ s := hS.ne hD
    refine lc_range (lo := 0) (n := ((m : Int)).toNat) (fun i H' => ∃ xs : List Str, H' D = some (.lst (xs.map V.str)) ∧ xs.length = i ∧ (∀ x ∈ xs, ∃ c, tl x = [c] ∧ 32 ≤ c ∧ c ≤ 126) ∧ Ext s H H' ∧ Src H' s a (c + (m - i))) ?_ ?_ ?_
    · exact ⟨[], upd_same, rfl, (fun _ h => by cases h), Ext.new hD, (hS.new hD).mono (by omega)⟩
    · rintro i H' hi ⟨xs, hx, hl, hA, hE, hS'⟩
      refine ⟨rfl, _, rfl, _, rfl, _, rfl, _, rfl, by decide, s, a, _, c + (m - (i + 1)), rfl, by decide, by decide, by rw [show c + (m - (i + 1)) + 1 = c + (m - i) by omega]; exact hS', fun v H2 v0 v1 hE2 hS2 => ?_⟩
      obtain ⟨ch, e1, _, e3⟩ := at_str v0 v1
      refine ⟨_, _, ch, rfl, rfl, v0, Int.lt_of_lt_of_le v1 (by decide +kernel), v1, e1, xs.map V.str, hE2 _ _ Ds hx, ?_, ?_⟩
      · rw [List.length_map]; exact small1000 (by omega)
      · refine ⟨xs ++ [S [ch]], by rw [upd_same, List.map_append]; rfl, by rw [List.length_append]; simp [hl], fun x hx' => ?_, ?_, ?_⟩
        · rcases List.mem_append.mp hx' with h | h
          · exact hA x h
          · have : x = S [ch] := List.mem_singleton.mp h
            subst this
            exact ⟨ch, rfl, Asc.by_ (by decide +kernel) ch e3⟩
        · intro b o hb hH
          have : b ≠ D := ne_of_none hH hD
          rw [upd_ne this]; exact hE2 _ _ hb (hE _ _ hb hH)
        · exact hS2.put Ds (hS.nea hD)
    · rintro H' ⟨xs, hx, hl, hA, hE, hS'⟩
      refine ⟨_, D, xs, rfl, rfl, .inl (SqL.of hx), ?_, ?_⟩
      · rw [ones_room hA]
        omega
      · refine q _ H' ?_ ?_ hE (hS'.mono (by omega))
        · rw [ones_joinE hA]; exact ones_asc hA
        · rw [ones_joinE hA, heads_len]
          omega
end
end Z
namespace Z
open PySem L2 SX
theorem nodup_le : ∀ {l us : List (List Nat)}, l.Nodup → (∀ x ∈ l, x ∈ us) → l.length ≤ us.length
  | [], us, _, _ => Nat.zero_le _
  | x :: l, us, h, k => by
    have hh := List.nodup_cons.mp h
    have m := k x (by simp)
    have := nodup_le (us := us.erase x) hh.2 fun y hy => (List.mem_erase_of_ne (fun e : y = x => hh.1 (by rw [e] at hy; exact hy))).mpr (k y (List.mem_cons_of_mem _ hy))
    rw [List.length_erase_of_mem m] at this
    have p := List.length_pos_of_mem m
    rw [List.length_cons]; omega
def sfxL (j : Nat) : List Nat := if j = 0 then [] else [48 + j]
theorem sfx_nodup : ((List.range 10).map sfxL).Nodup := by decide +kernel
theorem tried_nodup (p : List Nat) {m : Nat} (h : m ≤ 10) : ((List.range m).map fun j => p ++ sfxL j).Nodup := by
  have h1 : ((List.range m).map sfxL).Nodup := by
    have e : List.range m = (List.range 10).take m := by rw [List.take_range, Nat.min_eq_left h]
    rw [e, List.map_take]
    exact sfx_nodup.sublist (List.take_sublist _ _)
  rw [List.nodup_iff_pairwise_ne, List.pairwise_map] at h1 ⊢
  exact h1.imp fun ne e => ne (List.append_cancel_left e)
section
variable {P : Program} {w : World} {K : PySem.W.Frag} {mg : Str → Option Value} {base : Heap}
theorem ok__law_pick (D : Df K mg "_law_pick" s__law_pick ["source", "row"]) (T : Tx mg)  (C__law_draw : Cal P w K mg base "_law_draw" ["source", "many"] 2 sp__law_draw) : Cal P w K mg base "_law_pick" ["source", "row"] 3 (sp3__law_pick K) := by
  obtain ⟨f__law_draw, fd__law_draw, G__law_draw, g__law_draw, k__law_draw, b__law_draw⟩ := C__law_draw
  obtain ⟨f, fd, F, gf, bf⟩ := D
  refine ⟨f, fd, F.ok sc__law_pick (fun vs H Q E h => ?_) (fun cdv A outer s₀ H vs Q E hr h => ?_), gf, F.kp, bf⟩
  · rcases h with ⟨s, a, r, xs, c, rfl, _⟩ | ⟨s, a, x, c, rfl, _⟩ | ⟨s, a, r, xs, c, rfl, _⟩ <;> rfl
  · refine ⟨_, (pss_one (ps_ret (pe_ix ix_seq (pv 1) (pe_call G__law_draw (hr.mono (by decide)) (by rfl) g__law_draw k__law_draw b__law_draw .nil pass0 (pa_cons (pv 0) (pa_cons (pe_callB call_len (by rfl) T.n_len PySem.boot_len (pa_cons (pv 1) pa_nil)) pa_nil))) (fun _ _ => rfl)))), ?_⟩
    rcases h with ⟨s, a, r, xs, c, rfl, hR, rs, ne, hl, hS, q⟩ | ⟨s, a, x, c, rfl, ne, hl, hS, q⟩ | ⟨s, a, r, xs, c, rfl, hR, ne, hl, hS, q⟩
    · have n0 : 0 < xs.length := List.length_pos_iff.mpr ne
      refine ⟨_, rfl, _, rfl, _, rfl, _, _, rfl, .inl ⟨xs, hR, rfl⟩, s, a, (xs.length : Int), c, rfl, by omega, by omega, hS, fun v H' v0 v1 hE hS' => ?_⟩
      have hv : v.toNat < xs.length := by omega
      exact .inl ⟨r, xs, v, xs[v.toNat], rfl, rfl, hE.seqL rs hR, atI_pos v0 (List.getElem?_eq_getElem hv), q _ _ (List.getElem_mem hv) hE hS'⟩
    · have n0 : 0 < (tl x).length := List.length_pos_iff.mpr ne
      have hx := tl_len x
      refine ⟨_, rfl, _, rfl, _, rfl, _, x.length, rfl, ⟨by rw [hx]; exact Nat.le_trans hl (by decide), rfl⟩, s, a, (x.length : Int), c, rfl, by omega, by omega, hS, fun v H' v0 v1 hE hS' => ?_⟩
      have hv : v.toNat < (tl x).length := by omega
      exact .inr (.inr ⟨x, v, (tl x)[v.toNat], rfl, rfl, by rw [hx]; exact Nat.le_trans hl (by decide), atI_pos v0 (List.getElem?_eq_getElem hv), q _ _ (List.getElem_mem hv) hE hS'⟩)
    · have n0 : 0 < xs.length := List.length_pos_iff.mpr ne
      refine ⟨_, rfl, _, rfl, _, rfl, _, _, rfl, .inr ⟨xs, hR, rfl⟩, s, a, (xs.length : Int), c, rfl, by omega, by omega, hS, fun v H' v0 v1 hE hS' => ?_⟩
      have hv : v.toNat < xs.length := by omega
      exact .inr (.inl ⟨r, xs, v, xs[v.toNat], rfl, rfl, TK.ext hE hS _ _ hR, atI_pos v0 (List.getElem?_eq_getElem hv), q _ _ (List.getElem_mem hv) hE hS'⟩)
end
section
variable {P : Program} {w : World} {K : PySem.W.Frag} {mg : Str → Option Value} {base : Heap}
theorem ok__law_new_name (D : Df K mg "_law_new_name" s__law_new_name ["source", "used"]) (T : Tx mg)  (C__law_draw : Cal P w K mg base "_law_draw" ["source", "many"] 2 sp__law_draw) : Cal P w K mg base "_law_new_name" ["source", "used"] 3 (sp9__law_new_name K) := by
  obtain ⟨f__law_draw, fd__law_draw, G__law_draw, g__law_draw, k__law_draw, b__law_draw⟩ := C__law_draw
  obtain ⟨f, fd, F, gf, bf⟩ := D
  refine ⟨f, fd, F.ok sc__law_new_name (fun vs H Q E h => ?_) (fun cdv A outer s₀ H vs Q E hr h => ?_), gf, F.kp, bf⟩
  · obtain ⟨s, a, u, us, c, rfl, _⟩ := h; rfl
  · obtain ⟨s, a, u, us, c, rfl, hU, hus, hul, hS, q⟩ := h
    refine ⟨_, (pss_cons (ps_set (i := 2) sc__law_new_name.nd rfl (Or.inl rfl) pe_str)
      (pss_cons (ps_set (i := 3) sc__law_new_name.nd rfl (Or.inl rfl) (pe_op op_add pe_int (pe_call G__law_draw (hr.mono (by decide)) (by rfl) g__law_draw k__law_draw b__law_draw .nil pass0 (pa_cons (pv 0) (pa_cons pe_int pa_nil)))))
      (pss_cons (ps_set (i := 4) sc__law_new_name.nd rfl (Or.inl rfl) (pe_item_str (pv 2) (pe_call G__law_draw (hr.mono (by decide)) (by rfl) g__law_draw k__law_draw b__law_draw .nil pass0 (pa_cons (pv 0) (pa_cons pe_int pa_nil))) (fun _ _ => rfl)))
      (pss_cons (ps_for PassesOwn.never rfl (pi_range1 (by rfl) T.n_range (pa_cons (pe_op op_sub (pv 3) pe_int) pa_nil)) (pg_name (i := 5) sc__law_new_name.nd rfl (Or.inl rfl))
      (pss_one (ps_set (i := 4) sc__law_new_name.nd rfl (Or.inl rfl) (pe_op op_add_str (pv 4) (pe_item_str (pe_op op_add_str (pv 2) pe_str) (pe_call G__law_draw (hr.mono (by decide)) (by rfl) g__law_draw k__law_draw b__law_draw .nil pass0 (pa_cons (pv 0) (pa_cons pe_int pa_nil))) (fun _ _ => rfl))))))
      (pss_cons (ps_for PassesOwn.never rfl (pi_range1 (by rfl) T.n_range (pa_cons (pe_op op_add (pe_callB call_len_seq (by rfl) T.n_len PySem.boot_len (pa_cons (pv 1) pa_nil)) pe_int) pa_nil)) (pg_name (i := 5) sc__law_new_name.nd rfl (Or.inl rfl))
      (pss_cons (ps_set (i := 6) sc__law_new_name.nd rfl (Or.inl rfl) (pe_op op_add_str (pv 4) (pe_ix ix_list (pe_lst (pa_cons pe_str (pa_cons (pe_callTy call_str_int (by rfl) T.n_str (by decide +kernel) (pa_cons (pv 5) pa_nil)) pa_nil))) (pe_callTy call_int1 (by rfl) T.n_int (by decide +kernel) (pa_cons (pe_cmpR op_gt (pv 5) pe_int (nomark _)) pa_nil)) (fun _ _ => rfl))))
        (pss_one (ps_if (pt_cmpR op_notIn_seq (pv 6) (pv 1) (by rfl))
        (pss_one (ps_ret (pv 6)))
        pss_nil))))
      (pss_one (ps_ret (pv 4)))))))), ?_⟩
    refine ⟨_, rfl, s, a, _, c + 7, rfl, by decide, by decide, hS, fun v1 H1 v10 v11 x1 S1 => ?_⟩
    refine ⟨_, _, rfl, rfl, ?_⟩
    refine ⟨_, rfl, _, rfl, s, a, _, c + 6, rfl, by decide, by decide, S1, fun v2 H2 v20 v21 x2 S2 => ?_⟩
    obtain ⟨ch, e1, _, e3⟩ := at_str (x := Str.ofString "abcdefghijklmnopqrstuvwxyz") v20 v21
    refine ⟨_, _, ch, rfl, rfl, v20, by omega, v21, e1, ?_⟩
    have hch : 97 ≤ ch ∧ ch ≤ 122 := alpha_mem e3
    refine ⟨_, rfl, _, _, rfl, rfl, _, rfl, by omega, by omega, ?_⟩
    refine for_range (lo := 0) (n := (1 + v1 - 1).toNat) (fun i σ H' => ∃ (x : Str) (v : Option V), σ = [some (.ref s), some (.ref u), some (.str "abcdefghijklmnopqrstuvwxyz"), some (.int (1 + v1)), some (.str x), v, none] ∧ Nm (tl x) ∧ (tl x).length = i + 1 ∧ Ext s H H' ∧ Src H' s a (c + (5 - i))) ?_ ?_ ?_
    · exact ⟨S [ch], none, rfl, ⟨⟨ch, [], rfl, hch⟩, fun y hy => by rw [List.mem_singleton.mp hy]; exact .inl hch⟩, rfl, x1.trans x2, S2.mono (by omega)⟩
    · rintro i σ H' hi ⟨x, v, rfl, hN, hl, hE, hS'⟩
      refine ⟨_, rfl, _, rfl, _, _, rfl, rfl, by decide +kernel, ?_⟩
      refine ⟨_, rfl, s, a, _, c + (5 - (i + 1)), rfl, by decide, by decide, hS'.mono (by omega), fun v3 H3 v30 v31 x3 S3 => ?_⟩
      obtain ⟨d, e1, _, e3⟩ := at_str (x := Str.ofString "abcdefghijklmnopqrstuvwxyz" ++ Str.ofString "0123456789") v30 v31
      refine ⟨_, _, d, rfl, rfl, v30, by omega, v31, e1, _, _, rfl, rfl, ?_, ?_⟩
      · rw [tl_len, hl]; exact Nat.le_trans (show i + 1 + 1 ≤ 10 by omega) (by decide)
      · exact ⟨_, _, rfl, by rw [tl_app]; exact hN.app (fun y hy => by rw [List.mem_singleton.mp hy]; exact low_mem e3), by rw [tl_app, List.length_append, hl]; rfl, hE.trans x3, S3⟩
    · rintro σ H3 ⟨x, v, rfl, hN, hl, hE, hS'⟩
      have hU3 : SqL K H3 u (us.map V.str) := hE.seqL hus hU
      refine ⟨_, rfl, u, _, rfl, .inl hU3, _, _, rfl, rfl, _, rfl, by rw [List.length_map]; omega, by rw [List.length_map]; omega, ?_⟩
      refine for_range (lo := 0) (n := ((((us.map V.str).length : Int)) + 1).toNat) (fun i σ H' => ∃ (v t : Option V), σ = [some (.ref s), some (.ref u), some (.str "abcdefghijklmnopqrstuvwxyz"), some (.int (1 + v1)), some (.str x), v, t] ∧ Same H3 H' ∧ ∀ j, j < i → tl x ++ sfxL j ∈ us.map tl) ⟨_, _, rfl, Same.refl _, fun j hj => by omega⟩ ?_ ?_
      · rintro i σ H' hi ⟨v', t', rfl, hM, hall⟩
        rw [List.length_map] at hi
        obtain ⟨y, hy, hyl, hya⟩ : ∃ y : Str, atI [V.str (Str.ofString ""), V.str (Str.ofString (toString (0 + (i : Int))))] (if decide ((0 : Int) < 0 + (i : Int)) = true then 1 else 0) = some (.str y) ∧ tl y = sfxL i ∧ Low (tl y) := by
          by_cases h0 : i = 0
          · subst h0
            exact ⟨Str.ofString "", rfl, rfl, Low.nil⟩
          · rw [if_pos (decide_eq_true (by omega))]
            refine ⟨_, rfl, ?_, ?_⟩
            · rw [Int.zero_add, num_S, tl_S, TL.numL_lt (by omega)]
              unfold sfxL; rw [if_neg h0]
            · rw [Int.zero_add, num_S, tl_S]
              exact low_num i
        have yl : (tl y).length ≤ 1 := by rw [hyl]; unfold sfxL; split <;> simp
        refine ⟨_, rfl, _, rfl, _, rfl, log_small (by omega), by show 2 ≤ sizeLine; decide, fun p hp => ?_⟩
        refine ⟨_, rfl, _, _, rfl, rfl, .inr ⟨_, rfl, p, _, _, _, rfl, rfl, SqL.of upd_same, hy, _, _, rfl, rfl, ?_, ?_⟩⟩
        · rw [tl_len, tl_len]; exact Nat.le_trans (show _ ≤ 70 by omega) (by decide)
        have hM' : Same H3 (upd H' p (HO.lst [V.str (Str.ofString ""), V.str (Str.ofString (toString (0 + (i : Int))))])) := hM.trans (same_new hp)
        have ein := inV_strs (x ++ y) us
        refine ⟨_, rfl, _, rfl, u, _, rfl, .inl (hM'.seq hU3), rfl, flat_strs us, _, rfl, ite2 (fun cc => ?_) (fun cc => ⟨_, _, rfl, hM', fun j hj => ?_⟩)⟩
        · refine ⟨_, rfl, q _ _ (by rw [tl_app]; exact hN.app hya) (by rw [tl_app, List.length_append]; omega) (fun m => ?_) (hE.trans (Ext.of hM')) ((hS'.ext hM').mono (by omega))⟩
          have cc' : (!inV (V.str (x ++ y)) (us.map V.str)) = true := cc
          rw [ein, decide_eq_true m] at cc'
          cases cc'
        · by_cases e : j < i
          · exact hall j e
          · have : j = i := by omega
            subst this
            have cc' : ¬ (!inV (V.str (x ++ y)) (us.map V.str)) = true := cc
            rw [ein] at cc'
            have m : x ++ y ∈ us := by simpa using cc'
            have := List.mem_map_of_mem (f := tl) m
            rw [tl_app, hyl] at this
            exact this
      · rintro σ H' ⟨v', t', rfl, hM, hall⟩
        rw [List.length_map] at hall
        have h1 := nodup_le (us := us.map tl) (tried_nodup (tl x) (m := us.length + 1) (by omega)) fun z hz => by
          obtain ⟨j, hj, rfl⟩ := List.mem_map.mp hz
          exact hall j (by have := List.mem_range.mp hj; omega)
        rw [List.length_map, List.length_map, List.length_range] at h1
        omega
end
section
variable {P : Program} {w : World} {K : PySem.W.Frag} {mg : Str → Option Value} {base : Heap}
theorem ok__law_names (D : Df K mg "_law_names" s__law_names ["source", "many"]) (T : Tx mg)  (C__law_new_name : Cal P w K mg base "_law_new_name" ["source", "used"] 3 (sp9__law_new_name K)) : Cal P w K mg base "_law_names" ["source", "many"] 4 (sp9__law_names K) := by
  obtain ⟨f__law_new_name, fd__law_new_name, G__law_new_name, g__law_new_name, k__law_new_name, b__law_new_name⟩ := C__law_new_name
  obtain ⟨f, fd, F, gf, bf⟩ := D
  refine ⟨f, fd, F.ok sc__law_names (fun vs H Q E h => ?_) (fun cdv A outer s₀ H vs Q E hr h => ?_), gf, F.kp, bf⟩
  · obtain ⟨s, a, m, c, rfl, _⟩ := h; rfl
  · obtain ⟨s, a, m, c, rfl, hm, hS, q⟩ := h
    refine ⟨_, (pss_cons (ps_set (i := 2) sc__law_names.nd rfl (Or.inl rfl) (pe_lst pa_nil))
      (pss_cons (ps_for PassesOwn.never rfl (pi_range1 (by rfl) T.n_range (pa_cons (pv 1) pa_nil)) (pg_name (i := 3) sc__law_names.nd rfl (Or.inl rfl))
      (pss_one (ps_expr (pe_bm PySem.F.plainAttrs_list PySem.F.slot_list_append PySem.F.type_list_append mt_append (pv 2) (pa_cons (pe_call G__law_new_name (hr.mono (by decide)) (by rfl) g__law_new_name k__law_new_name b__law_new_name .nil pass0 (pa_cons (pv 0) (pa_cons (pv 2) pa_nil))) pa_nil)))))
      (pss_one (ps_ret (pv 2))))), ?_⟩
    refine ⟨Nat.zero_le _, fun u hu => ?_⟩
    have us : u ≠ s := hS.ne hu
    have ua : u ≠ a := hS.nea hu
    refine ⟨_, rfl, _, rfl, by omega, by omega, ?_⟩
    refine for_range (lo := 0) (n := ((m : Int)).toNat) (fun i σ H' => ∃ (xs : List Str) (v : Option V), σ = [some (.ref s), some (.int m), some (.ref u), v] ∧ H' u = some (.lst (xs.map V.str)) ∧ xs.length = i ∧ Nms xs ∧ Ext s H H' ∧ Src H' s a (c + 8 * (m - i))) ?_ ?_ ?_
    · exact ⟨[], none, rfl, upd_same, rfl, ⟨List.nodup_nil, (fun _ h => by cases h)⟩, Ext.new hu, (hS.new hu).mono (by omega)⟩
    · rintro i σ H' hi ⟨xs, v, rfl, hx, hl, hA, hE, hS'⟩
      refine ⟨_, rfl, .inl ⟨rfl, _, SqL.of hx⟩, _, rfl, _, rfl, s, a, u, xs, c + 8 * (m - (i + 1)), rfl, SqL.of hx, us, by omega, by rw [show c + 8 * (m - (i + 1)) + 8 = c + 8 * (m - i) by omega]; exact hS', fun x H2 hN hl2 hnew hE2 hS2 => ?_⟩
      refine ⟨u, _, _, rfl, rfl, hE2 _ _ us hx, ?_, ?_⟩
      · rw [List.length_map]; exact small1000 (by omega)
      · refine ⟨xs ++ [x], _, rfl, by rw [upd_same, List.map_append]; rfl, by rw [List.length_append]; simp [hl], ⟨?_, fun y hy => ?_⟩, ?_, hS2.put us ua⟩
        · rw [List.nodup_append]
          exact ⟨hA.1, by simp, fun a ha b hb e => by rw [List.mem_singleton.mp hb] at e; exact hnew (e ▸ ha)⟩
        · rcases List.mem_append.mp hy with h | h
          · exact hA.2 y h
          · rw [List.mem_singleton.mp h]; exact ⟨hN, hl2⟩
        · intro b o hb hH
          rw [upd_ne (ne_of_none hH hu)]; exact hE2 _ _ hb (hE _ _ hb hH)
    · rintro σ H' ⟨xs, v, rfl, hx, hl, hA, hE, hS'⟩
      exact ⟨_, rfl, q u xs H' hu hx (by omega) hA hE (hS'.mono (by omega))⟩
end

end Z
namespace Z
open PySem L2 SX
section
variable {P : Program} {w : World} {K : PySem.W.Frag} {mg : Str → Option Value} {base : Heap}
theorem ok_add_place (D : Df K mg "add_place" s_add_place ["glob", "places", "place"]) (T : Tx mg)  : Cal P w K mg base "add_place" ["glob", "places", "place"] 1 sp_add_place := by
  obtain ⟨f, fd, F, gf, bf⟩ := D
  refine ⟨f, fd, F.ok sc_add_place (fun vs H Q E h => ?_) (fun cdv A outer s₀ H vs Q E hr h => ?_), gf, F.kp, bf⟩
  · obtain ⟨g, p, x, L, m, A, rfl, _⟩ := h; rfl
  · obtain ⟨g, p, x, L, m, A, rfl, hL, hU, hm, hx, hb, gl, q⟩ := h
    refine ⟨_, (pss_cons (ps_if (PW.pt (pw_and (pt_truth (pv 1) (by intro _; rfl)) (pw_and1 (pt_cmpR op_ge (pe_ix ix_list (pv 1) (pe_un un_neg pe_int) (fun _ _ => rfl)) (pv 2) (nomark _)))))
      (pss_one ps_retN)
      pss_nil)
      (pss_cons (ps_expr (pe_bm PySem.F.plainAttrs_list PySem.F.slot_list_append PySem.F.type_list_append mt_append (pv 1) (pa_cons (pv 2) pa_nil)))
      (pss_one (ps_while PassesOwn.never (PW.pt (pw_and (pt_cmpR op_lt (pv 2) (pe_callB call_lenS (by rfl) T.n_len PySem.boot_len (pa_cons (pv 0) pa_nil)) (nomark _)) (pw_and1 (pt_cmpR op_eq (pe_item_str (pv 0) (pv 2) (fun _ _ => rfl)) pe_str (nomark _)))))
      (pss_cons (ps_aug (i := 2) sc_add_place.nd rfl (Or.inl rfl) pe_int ip_add)
        (pss_one (ps_expr (pe_bm PySem.F.plainAttrs_list PySem.F.slot_list_append PySem.F.type_list_append mt_append (pv 1) (pa_cons (pv 2) pa_nil))))))))), ?_⟩
    have lg := tl_len g
    have small : ∀ n : Nat, n ≤ 30000 → n < sizeLine := fun n h => Nat.lt_of_le_of_lt h (by decide)
    have Ll : L.length ≤ (tl g).length + 1 := Asd.len (M := fun y => y ∈ L) ⟨hU.asc, fun _ => Iff.rfl⟩ hb
    refine ⟨_, rfl, !(nts L).isEmpty, .inl ⟨_, SqL.of hL, rfl⟩, ?_⟩
    -- what is put in
    have go : ∀ (hl : ∀ y ∈ L, y < x), tSeq (tDrop (tBM K "list" rAppend (tVar 1) (tCons (tVar 2) tNil))) (tWhile (tAnd (tTest (tOp (rI0 fun i j => V.bl (decide (i < j))) (tVar 2) (tCB (fun xs H Q => ∃ x : Str, xs = [.str x] ∧ x.length ≤ sizeLine ∧ Q (.int x.length) H) (tCons (tVar 0) tNil)))) (tTest (tOp rEq (tOp (fun x y H Q => ∃ z i c, x = .str z ∧ y = .int i ∧ 0 ≤ i ∧ i < 2 ^ 63 ∧ i < z.length ∧ z.cps[i.toNat]? = some c ∧ Q (.str ⟨#[c]⟩) H) (tVar 0) (tVar 2)) (tC (.str (Str.ofString "*")))))) (tSeq (tAug 2 (tC (.int 1)) (ipI fun i j => i + j)) (tDrop (tBM K "list" rAppend (tVar 1) (tCons (tVar 2) tNil))))) { nx := fun _ H' => Q .non H', rt := Q } [some (.str g), some (.ref p), some (.int (x : Int))] H := by
      intro hl
      refine ⟨_, rfl, .inl ⟨rfl, _, SqL.of hL⟩, _, rfl, p, _, _, rfl, rfl, hL, ?_, ?_⟩
      · rw [List.length_map]; exact small _ (by omega)
      refine ⟨fun n σ H' => ∃ k, σ = [some (.str g), some (.ref p), some (.int ((x + k : Nat) : Int))] ∧ H' p = some (.lst (nts (L ++ List.range' x (k + 1)))) ∧ (∀ b, b ≠ p → H' b = H b) ∧ (∀ j, j < k → (tl g)[x + j]? = some 42) ∧ x + k ≤ (tl g).length ∧ n = (tl g).length - (x + k), ⟨_, 0, rfl, ?_, fun b hb => upd_ne hb, fun j hj => by omega, by omega, rfl⟩, ?_⟩
      · rw [upd_same]; show some (HO.lst (nts L ++ nts [x])) = _; unfold nts; rw [← List.map_append]; rfl
      rintro n σ H' ⟨k, rfl, hp, hH, hs, hk, rfl⟩
      have stop : (tl g)[x + k]? ≠ some 42 → Q .non H' := fun ns => by
        refine q _ H' hp hH (hU.more hl ⟨hs, ns⟩) fun y hy => ?_
        rcases List.mem_append.mp hy with h | h
        · exact hb y h
        · have := (run_mem.mp h).2; omega
      refine ⟨_, rfl, _, rfl, g, rfl, Nat.le_of_lt (small _ (by omega)), _, _, rfl, rfl, _, rfl, ite2 (fun c1 => ?_) (fun c1 => iteF (stop fun e => ?_))⟩
      · have c1 : x + k < (tl g).length := by have := of_decide_eq_true c1; omega
        obtain ⟨d, g1, g2, g3⟩ := at_str (x := g) (i := ((x + k : Nat) : Int)) (by omega) (by omega)
        rw [Int.toNat_natCast] at g2
        refine ⟨_, rfl, _, rfl, g, _, d, rfl, rfl, by omega, by omega, by omega, g1, rfl, _, rfl, ite2 (fun c2 => ?_) (fun c2 => stop fun e => ?_)⟩
        · have ed : d = 42 := (List.cons.inj (congrArg tl (V.str.inj (of_decide_eq_true c2)))).1
          subst ed
          refine ⟨fun σ2 H2 => ∃ m', m' < (tl g).length - (x + k) ∧ ∃ k, σ2 = [some (.str g), some (.ref p), some (.int ((x + k : Nat) : Int))] ∧ H2 p = some (.lst (nts (L ++ List.range' x (k + 1)))) ∧ (∀ b, b ≠ p → H2 b = H b) ∧ (∀ j, j < k → (tl g)[x + j]? = some 42) ∧ x + k ≤ (tl g).length ∧ m' = (tl g).length - (x + k), fun σ2 H2 h => h, ?_⟩
          refine ⟨_, rfl, _, _, rfl, rfl, ?_⟩
          refine ⟨_, rfl, .inl ⟨rfl, _, SqL.of hp⟩, _, rfl, p, _, _, rfl, rfl, hp, ?_, ?_⟩
          · rw [List.length_map, List.length_append, List.length_range']; exact small _ (by omega)
          refine ⟨_, ?_, k + 1, rfl, ?_, fun b hb => by rw [upd_ne hb]; exact hH b hb, fun j hj => ?_, by omega, rfl⟩
          · omega
          · rw [upd_same]
            show some (HO.lst (nts (L ++ List.range' x (k + 1)) ++ nts [x + k + 1])) = _
            unfold nts
            rw [← List.map_append, List.append_assoc]
            congr 4
            rw [List.range'_concat (n := k + 1), Nat.one_mul, Nat.add_assoc]
          · by_cases e : j = k
            · subst e; exact g2
            · exact hs j (by omega)
        · rw [g2] at e
          have : d = 42 := Option.some.inj e
          subst this
          exact c2 (decide_eq_true rfl)
      · have := (List.getElem?_eq_some_iff.mp e).1
        exact c1 (decide_eq_true (by omega))
    by_cases hE : L = []
    · subst hE
      exact iteF (go fun _ h => by cases h)
    · rw [show (!(nts L).isEmpty) = true by unfold nts; cases L with | nil => exact absurd rfl hE | cons _ _ => rfl]
      refine iteT ?_
      obtain ⟨r, z, e⟩ : ∃ r z, L = r ++ [z] := ⟨L.dropLast, L.getLast hE, (List.dropLast_concat_getLast hE).symm⟩
      have hz : atI (nts L) (-1) = some (.int (z : Int)) := by rw [e]; unfold nts; rw [List.map_append]; exact atI_last _ _
      have zm : z ∈ L := by rw [e]; simp
      have zmax : ∀ y ∈ L, y ≤ z := fun y hy => by
        have ha := hU.asc
        rw [e] at hy ha
        rcases List.mem_append.mp hy with h | h
        · have := (List.pairwise_append.mp ha).2.2 y h z (by simp); omega
        · rw [List.mem_singleton.mp h]; exact Nat.le_refl _
      refine ⟨_, rfl, 1, rfl, p, _, _, _, rfl, rfl, SqL.of hL, hz, _, rfl, _, _, rfl, rfl, _, rfl, ite2 (fun c1 => ?_) (fun c1 => go fun y hy => ?_)⟩
      · have : x ≤ z := by have := of_decide_eq_true c1; omega
        exact q L H hL (fun _ _ => rfl) (hU.stay hm zm this) hb
      · have := zmax y hy
        simp at c1; omega
end
section
variable {P : Program} {w : World} {K : PySem.W.Frag} {mg : Str → Option Value} {base : Heap}
theorem ok_follows (D : Df K mg "follows" s_follows ["glob", "standing", "character"]) (T : Tx mg) (C_add_place : Cal P w K mg base "add_place" ["glob", "places", "place"] 1 sp_add_place) : Cal P w K mg base "follows" ["glob", "standing", "character"] 2 (sp_follows K) := by
  obtain ⟨f_add_place, fd_add_place, G_add_place, g_add_place, k_add_place, b_add_place⟩ := C_add_place
  obtain ⟨f, fd, F, gf, bf⟩ := D
  refine ⟨f, fd, F.ok sc_follows (fun vs H Q E h => ?_) (fun cdv A outer s₀ H vs Q E hr h => ?_), gf, F.kp, bf⟩
  · obtain ⟨g, a, c, ps, M, rfl, _⟩ := h; rfl
  · obtain ⟨g, a, c, ps, M, rfl, hA, hP, hC, hW, hc, gl, q⟩ := h
    refine ⟨_, (pss_cons (ps_set (i := 3) sc_follows.nd rfl (Or.inl rfl) (pe_lst pa_nil))
      (pss_cons (ps_for PassesOwn.never rfl (pi_tup (pv 1)) (pg_name (i := 4) sc_follows.nd rfl (Or.inl rfl))
      (C8.pss_cut (ps_if (PW.pt (pw_and (pt_cmpR op_gt (pv 4) pe_int (nomark _)) (pw_and1 (pt_cmpR op_eq (pe_item_str (pv 0) (pe_op op_sub (pv 4) pe_int) (fun _ _ => rfl)) pe_str (nomark _)))))
        (pss_one (ps_expr (pe_call G_add_place (hr.mono (by decide)) (by rfl) g_add_place k_add_place b_add_place .nil pass0 (pa_cons (pv 0) (pa_cons (pv 3) (pa_cons (pv 4) pa_nil))))))
        pss_nil)
        (pss_one (ps_if (PW.pt (pw_and (pt_cmpR op_lt (pv 4) (pe_callB call_lenS (by rfl) T.n_len PySem.boot_len (pa_cons (pv 0) pa_nil)) (nomark _)) (pw_and1 (pt_cmpR op_in_seq (pe_item_str (pv 0) (pv 4) (fun _ _ => rfl)) (pe_tup (pa_cons pe_str (pa_cons (pv 2) pa_nil))) (by rfl)))))
        (pss_one (ps_expr (pe_call G_add_place (hr.mono (by decide)) (by rfl) g_add_place k_add_place b_add_place .nil pass0 (pa_cons (pv 0) (pa_cons (pv 3) (pa_cons (pe_op op_add (pv 4) pe_int) pa_nil))))))
        pss_nil))))
      (pss_one (ps_ret (pe_callTy call_tuple_of (by rfl) T.n_tuple (by decide +kernel) (pa_cons (pv 3) pa_nil)))))), ?_⟩
    have lg := tl_len g
    have pl := hP.len hW
    have small : ∀ n : Nat, n ≤ 30000 → n < sizeLine := fun n h => Nat.lt_of_le_of_lt h (by decide)
    refine ⟨Nat.zero_le _, fun L hL => ?_⟩
    refine ⟨_, rfl, a, rfl, ⟨_, (same_new hL).tup hA⟩, ?_⟩
    refine for_tup (K := K) (a := a) (xs := nts ps) (fun i σ H' => ∃ (qs : List Nat) (m : Nat) (v : Option V), σ = [some (.str g), some (.ref a), some (.str (S [c])), some (.ref L), v] ∧ H' L = some (.lst (nts qs)) ∧ Same H H' ∧ Up (tl g) qs m (puts (tl g) c (fun y => y ∈ ps.take i)) ∧ (∀ y ∈ qs, y ≤ (tl g).length) ∧ (∀ y, y ∈ ps.drop i → m ≤ y)) ?_ ?_ ?_ ?_
    · exact ⟨[], 0, _, rfl, upd_same, same_new hL, (Up.nil _).congr fun y => ⟨fun h => h.elim, fun h => by
        rcases h with ⟨h, _⟩ | ⟨i, _, h, _⟩ <;> (rw [List.take_zero] at h; cases h)⟩, (fun _ h => by cases h), fun _ _ => Nat.zero_le _⟩
    · rintro i σ H' _ ⟨_, _, _, _, _, hS, _⟩
      exact hS.tup hA
    · rintro i y σ H' hi ⟨qs, m, v, rfl, hQ, hS, hU, hB, hm⟩
      rw [List.getElem?_map] at hi
      obtain ⟨x, hx, rfl⟩ := Option.map_eq_some_iff.mp hi
      have xm := List.mem_of_getElem? hx
      have xM := (hP.2 x).mp xm
      have xw := hW x xM
      have ed : ps.drop i = x :: ps.drop (i + 1) := by
        obtain ⟨h1, h2⟩ := List.getElem?_eq_some_iff.mp hx
        rw [← h2, List.getElem_cons_drop]
      have et : ps.take (i + 1) = ps.take i ++ [x] := by rw [List.take_add_one, hx]; rfl
      have mx : m ≤ x := hm x (by rw [ed]; simp)
      have later : ∀ z, z ∈ ps.drop (i + 1) → x < z := fun z hz => by
        have := hP.1.sublist (List.drop_sublist i ps)
        rw [ed] at this
        exact (List.pairwise_cons.mp this).1 z hz
      -- the place behind a star
      refine ⟨fun σ2 H2 => ∃ (qs2 : List Nat) (m2 : Nat), σ2 = [some (.str g), some (.ref a), some (.str (S [c])), some (.ref L), some (.int (x : Int))] ∧ H2 L = some (.lst (nts qs2)) ∧ Same H H2 ∧ Up (tl g) qs2 m2 (fun z => puts (tl g) c (fun y => y ∈ ps.take i) z ∨ (z = x ∧ ∃ j, x = j + 1 ∧ (tl g)[j]? = some 42)) ∧ (∀ y ∈ qs2, y ≤ (tl g).length) ∧ m2 ≤ x, ?_, ?_⟩
      · have no : (¬ ∃ j, x = j + 1 ∧ (tl g)[j]? = some 42) → ∃ (qs2 : List Nat) (m2 : Nat), ([some (V.str g), some (V.ref a), some (V.str (S [c])), some (V.ref L), some (V.int (x : Int))] : St) = [some (.str g), some (.ref a), some (.str (S [c])), some (.ref L), some (.int (x : Int))] ∧ H' L = some (.lst (nts qs2)) ∧ Same H H' ∧ Up (tl g) qs2 m2 (fun z => puts (tl g) c (fun y => y ∈ ps.take i) z ∨ (z = x ∧ ∃ j, x = j + 1 ∧ (tl g)[j]? = some 42)) ∧ (∀ y ∈ qs2, y ≤ (tl g).length) ∧ m2 ≤ x := fun h =>
          ⟨qs, m, rfl, hQ, hS, hU.congr fun y => ⟨.inl, fun z => z.elim id fun w => absurd w.2 h⟩, hB, mx⟩
        refine ⟨_, rfl, _, _, rfl, rfl, _, rfl, ite2 (fun c1 => ?_) (fun c1 => iteF (no fun ⟨j, e, _⟩ => c1 (decide_eq_true (by omega))))⟩
        have x1 : 0 < x := by have := of_decide_eq_true c1; omega
        obtain ⟨d, g1, g2, g3⟩ := at_str (x := g) (i := (x : Int) - 1) (by omega) (by omega)
        rw [show ((x : Int) - 1).toNat = x - 1 by omega] at g2
        refine ⟨_, rfl, _, rfl, _, _, rfl, rfl, g, _, d, rfl, rfl, by omega, by omega, by omega, g1, rfl, _, rfl, ite2 (fun c2 => ?_) (fun c2 => no fun ⟨j, e, h⟩ => ?_)⟩
        · have e42 : d = 42 := (List.cons.inj (congrArg tl (V.str.inj (of_decide_eq_true c2)))).1
          subst e42
          refine ⟨_, rfl, _, rfl, _, rfl, g, L, x, qs, m, _, rfl, hQ, hU, mx, xw, hB, gl, fun qs' H2 h1 h2 h3 h4 => ?_⟩
          refine ⟨qs', x, rfl, h1, fun b o hb => ?_, h3.congr fun y => ⟨fun z => z.elim .inl fun e => .inr ⟨e, x - 1, by omega, g2⟩, fun z => z.elim .inl fun w => .inr w.1⟩, h4, Nat.le_refl _⟩
          rw [h2 b (ne_of_none hb hL)]; exact hS _ _ hb
        · rw [show x - 1 = j by omega] at g2
          rw [g2] at h
          have : d = 42 := Option.some.inj h
          subst this
          exact c2 (decide_eq_true rfl)
      · rintro σ2 H2 ⟨qs2, m2, rfl, hQ2, hS2, hU2, hB2, hm2⟩
        have ends : ∀ (qs3 : List Nat) (m3 : Nat) (H3 : Hp) (Z : Prop), H3 L = some (.lst (nts qs3)) → Same H H3 → Up (tl g) qs3 m3 (fun z => (puts (tl g) c (fun y => y ∈ ps.take i) z ∨ (z = x ∧ ∃ j, x = j + 1 ∧ (tl g)[j]? = some 42)) ∨ (z = x + 1 ∧ ((tl g)[x]? = some 63 ∨ (tl g)[x]? = some c))) → (∀ y ∈ qs3, y ≤ (tl g).length) → m3 ≤ x + 1 →
            ∃ (qs : List Nat) (m : Nat) (v : Option V), ([some (V.str g), some (V.ref a), some (V.str (S [c])), some (V.ref L), some (V.int (x : Int))] : St) = [some (.str g), some (.ref a), some (.str (S [c])), some (.ref L), v] ∧ H3 L = some (.lst (nts qs)) ∧ Same H H3 ∧ Up (tl g) qs m (puts (tl g) c (fun y => y ∈ ps.take (i + 1))) ∧ (∀ y ∈ qs, y ≤ (tl g).length) ∧ (∀ y, y ∈ ps.drop (i + 1) → m ≤ y) := fun qs3 m3 H3 _ h1 h2 h3 h4 h5 => by
          refine ⟨qs3, m3, _, rfl, h1, h2, h3.congr fun z => ?_, h4, fun y hy => by have := later y hy; omega⟩
          unfold puts
          rw [et]
          simp only [List.mem_append, List.mem_singleton]
          constructor
          · rintro (((⟨h, k⟩ | ⟨j, e, h, k⟩) | ⟨e, k⟩) | ⟨e, k⟩)
            · exact .inl ⟨.inl h, k⟩
            · exact .inr ⟨j, e, .inl h, k⟩
            · exact .inl ⟨.inr e, by rw [e]; exact k⟩
            · exact .inr ⟨x, e, .inr rfl, k⟩
          · rintro (⟨h | e, k⟩ | ⟨j, e, h | e2, k⟩)
            · exact .inl (.inl (.inl ⟨h, k⟩))
            · exact .inl (.inr ⟨e, by rw [e] at k; exact k⟩)
            · exact .inl (.inl (.inr ⟨j, e, h, k⟩))
            · subst e2; exact .inr ⟨e, k⟩
        have no : (¬ ((tl g)[x]? = some 63 ∨ (tl g)[x]? = some c)) → _ := fun h => ends qs2 m2 H2 True hQ2 hS2 (hU2.congr fun z => ⟨.inl, fun w => w.elim id fun q => absurd q.2 h⟩) hB2 (by omega)
        have noT : ∀ (t : Addr) (us : List V), H2 t = none → (¬ ((tl g)[x]? = some 63 ∨ (tl g)[x]? = some c)) → _ := fun t us ht h => ends qs2 m2 (upd H2 t (.tup us)) True ((same_new ht) _ _ hQ2) (hS2.trans (same_new ht)) (hU2.congr fun z => ⟨.inl, fun w => w.elim id fun q => absurd q.2 h⟩) hB2 (by omega)
        refine ⟨_, rfl, _, rfl, g, rfl, Nat.le_of_lt (small _ (by omega)), _, _, rfl, rfl, _, rfl, ite2 (fun c1 => ?_) (fun c1 => iteF (no fun e => ?_))⟩
        · have xl : x < (tl g).length := by have := of_decide_eq_true c1; omega
          obtain ⟨d, g1, g2, g3⟩ := at_str (x := g) (i := (x : Int)) (by omega) (by omega)
          rw [Int.toNat_natCast] at g2
          refine ⟨_, rfl, _, rfl, g, _, d, rfl, rfl, by omega, by omega, by omega, g1, ?_⟩
          refine ⟨_, rfl, by show 2 ≤ sizeLine; decide, fun t ht => ?_⟩
          refine ⟨t, [Str.ofString "?", S [c]].map V.str, rfl, .inr (SqT.of upd_same), rfl, flat_strs _, _, rfl, ?_⟩
          have eb : (if false = true then !inV (V.str (S [d])) ([Str.ofString "?", S [c]].map V.str) else inV (V.str (S [d])) ([Str.ofString "?", S [c]].map V.str)) = decide (S [d] ∈ [Str.ofString "?", S [c]]) := inV_strs _ _
          by_cases hin : S [d] ∈ [Str.ofString "?", S [c]]
          · have hmt : (tl g)[x]? = some 63 ∨ (tl g)[x]? = some c := by
              rw [g2]
              rcases List.mem_cons.mp hin with e | e
              · exact .inl (congrArg some (List.cons.inj (congrArg tl e)).1)
              · exact .inr (congrArg some (List.cons.inj (congrArg tl (List.mem_singleton.mp e))).1)
            refine ite2 (fun _ => ?_) (fun h => (h (eb.trans (decide_eq_true hin))).elim)
            refine ⟨_, rfl, _, rfl, _, rfl, _, _, rfl, rfl, g, L, x + 1, qs2, m2, _, rfl, (same_new ht) _ _ hQ2, hU2, by omega, by omega, hB2, gl, fun qs' H3 h1 h2 h3 h4 => ?_⟩
            refine ends qs' (x + 1) H3 True h1 (fun b o hb => ?_) (h3.congr fun z => ⟨fun w => w.elim .inl fun e => .inr ⟨e, hmt⟩, fun w => w.elim .inl fun q => .inr q.1⟩) h4 (Nat.le_refl _)
            rw [h2 b (ne_of_none hb hL)]; exact (hS2.trans (same_new ht)) _ _ hb
          · refine ite2 (fun h => (hin (of_decide_eq_true (eb.symm.trans h))).elim) (fun _ => noT t _ ht fun e => hin ?_)
            rw [g2] at e
            rcases e with e | e
            · have : d = 63 := Option.some.inj e
              subst this; exact List.mem_cons_self
            · have : d = c := Option.some.inj e
              subst this; exact List.mem_cons_of_mem _ (List.mem_singleton.mpr rfl)
        · have : x < (tl g).length := by rcases e with e | e <;> exact (List.getElem?_eq_some_iff.mp e).1
          exact c1 (decide_eq_true (by omega))
    · rintro σ H' ⟨qs, m, v, rfl, hQ, hS, hU, hB, hm⟩
      rw [List.length_map, List.take_length] at hU
      refine ⟨_, rfl, L, _, rfl, .inl ⟨SqL.of hQ, fun t ht => ?_⟩⟩
      exact q t qs _ (hS.trans (same_new ht)) upd_same (puts_next hc hC (hU.congr fun y => by
        unfold puts
        simp only [hP.2]))
end
section
variable {P : Program} {w : World} {K : PySem.W.Frag} {mg : Str → Option Value} {base : Heap}
theorem ok_standing (D : Df K mg "standing" s_standing ["glob", "beginning"]) (T : Tx mg) (C_add_place : Cal P w K mg base "add_place" ["glob", "places", "place"] 1 sp_add_place) (C_follows : Cal P w K mg base "follows" ["glob", "standing", "character"] 2 (sp_follows K)) : Cal P w K mg base "standing" ["glob", "beginning"] 3 (sp_standing K) := by
  obtain ⟨f_add_place, fd_add_place, G_add_place, g_add_place, k_add_place, b_add_place⟩ := C_add_place
  obtain ⟨f_follows, fd_follows, G_follows, g_follows, k_follows, b_follows⟩ := C_follows
  obtain ⟨f, fd, F, gf, bf⟩ := D
  refine ⟨f, fd, F.ok sc_standing (fun vs H Q E h => ?_) (fun cdv A outer s₀ H vs Q E hr h => ?_), gf, F.kp, bf⟩
  · obtain ⟨g, b, rfl, _⟩ := h; rfl
  · obtain ⟨g, b, rfl, hb, gl, q⟩ := h
    refine ⟨_, (pss_cons (ps_set (i := 2) sc_standing.nd rfl (Or.inl rfl) (pe_lst pa_nil))
      (pss_cons (ps_expr (pe_call G_add_place (hr.mono (by decide)) (by rfl) g_add_place k_add_place b_add_place .nil pass0 (pa_cons (pv 0) (pa_cons (pv 2) (pa_cons pe_int pa_nil)))))
      (pss_cons (ps_set (i := 3) sc_standing.nd rfl (Or.inl rfl) (pe_callTy call_tuple_of (by rfl) T.n_tuple (by decide +kernel) (pa_cons (pv 2) pa_nil)))
      (pss_cons (ps_for PassesOwn.never rfl (pi_str (pv 1)) (pg_name (i := 4) sc_standing.nd rfl (Or.inl rfl))
      (pss_one (ps_set (i := 3) sc_standing.nd rfl (Or.inl rfl) (pe_call G_follows (hr.mono (by decide)) (by rfl) g_follows k_follows b_follows .nil pass0 (pa_cons (pv 0) (pa_cons (pv 3) (pa_cons (pv 4) pa_nil)))))))
      (pss_one (ps_ret (pv 3))))))), ?_⟩
    refine ⟨Nat.zero_le _, fun L hL => ?_⟩
    refine ⟨_, rfl, _, rfl, g, L, 0, [], 0, _, rfl, upd_same, Up.nil _, Nat.le_refl _, Nat.zero_le _, (fun _ h => by cases h), gl, fun L' H1 h1 h2 h3 h4 => ?_⟩
    have s1 : Same H H1 := fun bb o hh => by rw [h2 bb (ne_of_none hh hL), upd_ne (ne_of_none hh hL)]; exact hh
    have a0 := start_asd (h3.congr fun y => ⟨fun h => h.elim (fun z => z.elim) id, .inr⟩)
    refine ⟨_, rfl, L, _, rfl, .inl ⟨SqL.of h1, fun t ht => ?_⟩⟩
    refine ⟨_, rfl, _, rfl, ?_⟩
    refine for_str (l := tl b) (fun i σ H' => ∃ (t : Addr) (ps : List Nat) (v : Option V), σ = [some (.str g), some (.str b), some (.ref L), some (.ref t), v] ∧ H' t = some (.tup (nts ps)) ∧ Same H H' ∧ Asd ps (stand (tl g) ((tl b).take i))) ⟨t, L', _, rfl, upd_same, s1.trans (same_new ht), a0⟩ ?_ ?_
    · rintro i c σ H' hi ⟨t', ps, v, rfl, hT, hS, hP⟩
      have cb := hb c (List.mem_of_getElem? hi)
      have e : (tl b).take (i + 1) = (tl b).take i ++ [c] := by rw [List.take_add_one, hi]; rfl
      obtain ⟨cl, wi⟩ := stand_ok (tl g) ((tl b).take i)
      refine ⟨_, rfl, _, rfl, _, rfl, g, t', c, ps, _, rfl, SqT.of hT, hP, cl, wi, cb, gl, fun q' qs H2 m2 e2 a2 => ?_⟩
      exact ⟨q', qs, _, rfl, e2, hS.trans m2, by rw [e, stand_snoc]; exact a2⟩
    · rintro σ H' ⟨t', ps, v, rfl, hT, hS, hP⟩
      rw [List.take_length] at hP
      exact ⟨_, rfl, q t' ps H' hS hT hP⟩
end
section
variable {P : Program} {w : World} {K : PySem.W.Frag} {mg : Str → Option Value} {base : Heap}
theorem ok_fits (D : Df K mg "fits" s_fits ["glob", "board"]) (T : Tx mg) (C_standing : Cal P w K mg base "standing" ["glob", "beginning"] 3 (sp_standing K)) : Cal P w K mg base "fits" ["glob", "board"] 4 (sp_fits K) := by
  obtain ⟨f_standing, fd_standing, G_standing, g_standing, k_standing, b_standing⟩ := C_standing
  obtain ⟨f, fd, F, gf, bf⟩ := D
  refine ⟨f, fd, F.ok sc_fits (fun vs H Q E h => ?_) (fun cdv A outer s₀ H vs Q E hr h => ?_), gf, F.kp, bf⟩
  · obtain ⟨g, b, rfl, _⟩ := h; rfl
  · obtain ⟨g, b, rfl, hb, gl, q⟩ := h
    refine ⟨_, (pss_one (ps_ret (pe_cmpR op_in_seq (pe_callB call_lenS (by rfl) T.n_len PySem.boot_len (pa_cons (pv 0) pa_nil)) (pe_call G_standing (hr.mono (by decide)) (by rfl) g_standing k_standing b_standing .nil pass0 (pa_cons (pv 0) (pa_cons (pv 1) pa_nil))) (by rfl)))), ?_⟩
    have lg := tl_len g
    refine ⟨_, rfl, g, rfl, Nat.le_trans (show g.length ≤ 10000 by omega) (by decide), ?_⟩
    refine ⟨_, rfl, _, rfl, g, b, rfl, hb, gl, fun t ps H1 m1 e1 a1 => ?_⟩
    refine ⟨t, _, rfl, .inr (SqT.of e1), rfl, flat_nts ps, ?_⟩
    have eb : (if false = true then !inV (V.int (g.length : Int)) (nts ps) else inV (V.int (g.length : Int)) (nts ps)) = decide (g.length ∈ ps) := inV_nts _ _
    have e2 : decide (g.length ∈ ps) = @decide (stand (tl g) (tl b) (tl g).length) (Classical.propDecidable _) := by
      rw [Bool.eq_iff_iff]
      simp only [decide_eq_true_iff]
      rw [lg]; exact a1.2 _
    rw [eb, e2]
    exact q H1 m1
end

end Z
namespace Z
open PySem L2 SX
section
variable {P : Program} {w : World} {K : PySem.W.Frag} {mg : Str → Option Value} {base : Heap}
theorem ok_items_of (D : Df K mg "items_of" s_items_of ["pattern"]) (T : Tx mg)  : Cal P w K mg base "items_of" ["pattern"] 1 (sp_items_of K) := by
  obtain ⟨f, fd, F, gf, bf⟩ := D
  refine ⟨f, fd, F.ok sc_items_of (fun vs H Q E h => ?_) (fun cdv A outer s₀ H vs Q E hr h => ?_), gf, F.kp, bf⟩
  · obtain ⟨p, rfl, _⟩ := h; rfl
  · obtain ⟨p, rfl, pl, q⟩ := h
    refine ⟨_, (pss_one (ps_ret (pe_callTy call_tuple_of (by rfl) T.n_tuple (by decide +kernel) (pa_cons (pe_lc (own := [("item", 1)]) (g := gName 1) (tt := tYes) rfl sc_items_of.nd (pi_list (pe_split (pv 0) pe_str)) (blkOk_by (own := [("item", 1)]) (N := N_items_of) (sc := defScope s_items_of) (by decide +kernel)) (fun _ _ _ _ _ => pg_name (i := 1) sc_items_of.nd rfl (Or.inl rfl)) (fun _ _ _ _ _ => pts_nil) (fun _ _ _ _ _ => (pe_ifExp (pt_val (pe_m1 PySem.F.slot_str_startswith PySem.F.type_str_startswith mt_startswith (pv 1) pe_str)) (pe_tup (pa_cons pe_int (pa_cons (pe_slice sl_str (pv 1) (po_some pe_int) po_none) pa_nil))) (pe_tup (pa_cons pe_int (pa_cons (pv 1) pa_nil)))))) pa_nil)))), ?_⟩
    have lp := tl_len p
    have small : ∀ n : Nat, n ≤ 30000 → n < sizeLine := fun n h => Nat.lt_of_le_of_lt h (by decide)
    refine ⟨_, rfl, ⟨_, rfl⟩, p, Str.ofString ",", rfl, rfl, rfl, Nat.le_of_lt (small _ (by omega)), fun B hB => ?_⟩
    rw [split_bar]
    have pn := parts_num (tl p)
    have hB1 : (upd H B (HO.lst (((parts (tl p)).map S).map V.str))) B = some (.lst (((parts (tl p)).map S).map V.str)) := upd_same
    refine ⟨B, rfl, ⟨_, SqL.of hB1⟩, fun D hD => ?_⟩
    refine lc_list (K := K) (a := B) (xs := ((parts (tl p)).map S).map V.str) (fun i H' => ∃ ts : List Addr, H' D = some (.lst (ts.map V.ref)) ∧ ts.length = i ∧ Same (upd H B (HO.lst (((parts (tl p)).map S).map V.str))) H' ∧ (∀ (j : Nat) (t : Addr) (it : List Nat), ts[j]? = some t → (parts (tl p))[j]? = some it → H' t = some (.tup (itemV it)))) ⟨[], upd_same, rfl, same_new hD, fun j t it h => by simp at h⟩ (fun i H' _ h => by obtain ⟨_, _, _, h, _⟩ := h; exact SqL.of (h _ _ hB1)) ?_ ?_
    · rintro i x H' hi ⟨ts, h1, h2, h3, h4⟩
      rw [List.getElem?_map, List.getElem?_map] at hi
      obtain ⟨y, hy, rfl⟩ := Option.map_eq_some_iff.mp hi
      obtain ⟨it, hit, rfl⟩ := Option.map_eq_some_iff.mp hy
      have il := parts_len (List.mem_of_getElem? hit)
      have ilt : i < (parts (tl p)).length := (List.getElem?_eq_some_iff.mp hit).1
      have fin : ∀ (t : Addr), H' t = none → ∃ acc, (upd H' t (HO.tup (itemV it))) D = some (.lst acc) ∧ acc.length < sizeLine ∧ ∃ ts : List Addr, (upd (upd H' t (HO.tup (itemV it))) D (HO.lst (acc ++ [V.ref t]))) D = some (.lst (ts.map V.ref)) ∧ ts.length = i + 1 ∧ Same (upd H B (HO.lst (((parts (tl p)).map S).map V.str))) (upd (upd H' t (HO.tup (itemV it))) D (HO.lst (acc ++ [V.ref t]))) ∧ (∀ (j : Nat) (t' : Addr) (it' : List Nat), ts[j]? = some t' → (parts (tl p))[j]? = some it' → (upd (upd H' t (HO.tup (itemV it))) D (HO.lst (acc ++ [V.ref t]))) t' = some (.tup (itemV it'))) := fun t ht => by
        have tD : t ≠ D := (ne_of_none h1 ht).symm
        refine ⟨ts.map V.ref, (same_new ht) _ _ h1, by rw [List.length_map]; exact small _ (by omega), ts ++ [t], by rw [upd_same, List.map_append]; rfl, by rw [List.length_append]; simp [h2], fun b o hb => ?_, fun j t' it' hj hj2 => ?_⟩
        · rw [upd_ne (ne_of_none hb hD)]; exact (h3.trans (same_new ht)) _ _ hb
        · by_cases e : j < ts.length
          · rw [List.getElem?_append_left e] at hj
            have h5 := h4 j t' it' hj hj2
            have : t' ≠ D := fun q => by rw [q, h1] at h5; cases h5
            rw [upd_ne this]; exact (same_new ht) _ _ h5
          · rw [List.getElem?_append_right (by omega)] at hj
            have ej : j - ts.length = 0 := by
              have := (List.getElem?_eq_some_iff.mp hj).1
              simp at this; omega
            rw [ej] at hj
            have : t = t' := by simpa using hj
            subst this
            have : j = i := by omega
            subst this
            rw [hit] at hj2
            cases hj2
            rw [upd_ne tD, upd_same]
      refine ⟨rfl, _, rfl, ⟨_, rfl⟩, _, _, rfl, rfl, _, rfl, ?_⟩
      rw [bar_starts]
      refine ite2 (fun cc => ?_) (fun cc => ?_)
      · refine ⟨_, rfl, 1, rfl, S it, rfl, Nat.le_of_lt (small _ (by show (S it).length ≤ _; rw [S_len]; omega)), by show 2 ≤ sizeLine; decide, fun t ht => ?_⟩
        have e : [V.int 0, V.str (cutS (S it) (some 1) none)] = itemV it := by
          unfold itemV globOf
          have cc' : isBar it = true := cc
          rw [if_pos cc', if_pos cc']
          have : cutS (S it) (some 1) none = S (it.drop 1) := tl_ext (cutS_from (by decide))
          rw [this]
        rw [e]
        exact fin t ht
      · refine ⟨_, rfl, by show 2 ≤ sizeLine; decide, fun t ht => ?_⟩
        have e : [V.int 1, V.str (S it)] = itemV it := by
          unfold itemV globOf
          have cc' : ¬ isBar it = true := cc
          rw [if_neg cc', if_neg cc']
        rw [e]
        exact fin t ht
    · rintro H' ⟨ts, h1, h2, h3, h4⟩
      rw [List.length_map, List.length_map] at h2
      refine ⟨D, _, rfl, .inl ⟨SqL.of h1, fun u hu => ?_⟩⟩
      exact q u ts _ (((same_new hB).trans h3).trans (same_new hu)) upd_same h2 fun i t it a b => (same_new hu) _ _ (h4 i t it a b)
end
section
variable {P : Program} {w : World} {K : PySem.W.Frag} {mg : Str → Option Value} {base : Heap}
theorem ok_lets (D : Df K mg "lets" s_lets ["pattern", "board"]) (T : Tx mg) (C_fits : Cal P w K mg base "fits" ["glob", "board"] 4 (sp_fits K)) (C_items_of : Cal P w K mg base "items_of" ["pattern"] 1 (sp_items_of K)) : Cal P w K mg base "lets" ["pattern", "board"] 5 (sp_lets K) := by
  obtain ⟨f_fits, fd_fits, G_fits, g_fits, k_fits, b_fits⟩ := C_fits
  obtain ⟨f_items_of, fd_items_of, G_items_of, g_items_of, k_items_of, b_items_of⟩ := C_items_of
  obtain ⟨f, fd, F, gf, bf⟩ := D
  refine ⟨f, fd, F.ok sc_lets (fun vs H Q E h => ?_) (fun cdv A outer s₀ H vs Q E hr h => ?_), gf, F.kp, bf⟩
  · obtain ⟨p, b, rfl, _⟩ := h; rfl
  · obtain ⟨p, b, rfl, pl, hb, q⟩ := h
    refine ⟨_, (pss_cons (ps_for PassesOwn.never rfl (RT.pi_revA (by rfl) T.n_reversed (pe_call G_items_of (hr.mono (by decide)) (by rfl) g_items_of k_items_of b_items_of .nil pass0 (pa_cons (pv 0) pa_nil))) (pg_tup rfl (pgs_cons (pg_name (i := 2) sc_lets.nd rfl (Or.inl rfl)) (pgs_cons (pg_name (i := 3) sc_lets.nd rfl (Or.inl rfl)) pgs_nil)))
      (pss_one (ps_if (pt_val (pe_call G_fits (hr.mono (by decide)) (by rfl) g_fits k_fits b_fits .nil pass0 (pa_cons (pv 3) (pa_cons (pv 1) pa_nil))))
        (pss_one (ps_ret (pe_cmpR op_eq (pv 2) pe_int (nomark _))))
        pss_nil)))
      (pss_one (ps_ret pe_bl))), ?_⟩
    refine ⟨_, rfl, p, rfl, pl, fun u ts H1 m1 e1 l1 g1 => ?_⟩
    refine ⟨u, _, rfl, .inr ⟨SqT.of e1, ?_⟩⟩
    have ln : (ts.map V.ref).length = (parts (tl p)).length := by rw [List.length_map]; exact l1
    refine RT.for_ItvT (K := K) (a := u) (xs := ts.map V.ref) (fun i σ H' => (∃ v2 v3 : Option V, σ = [some (.str p), some (.str b), v2, v3]) ∧ Same H1 H' ∧ ∀ (j : Nat) (y : List Nat), (parts (tl p)).length ≤ j + i → (parts (tl p))[j]? = some y → ¬ fit (globOf y) (tl b)) ⟨⟨_, _, rfl⟩, Same.refl _, fun j y h1 h2 => by have := (List.getElem?_eq_some_iff.mp h2).1; omega⟩ (fun i σ H' h => SqT.of (h.2.1 _ _ e1)) ?_ ?_
    · rintro i x σ H' hi hx ⟨⟨v2, v3, rfl⟩, hS, hN⟩
      rw [ln] at hi hx
      rw [List.getElem?_map] at hx
      obtain ⟨t, ht, rfl⟩ := Option.map_eq_some_iff.mp hx
      obtain ⟨it, hit⟩ : ∃ it, (parts (tl p))[(parts (tl p)).length - 1 - i]? = some it := ⟨_, List.getElem?_eq_getElem (show (parts (tl p)).length - 1 - i < (parts (tl p)).length by omega)⟩
      have il := parts_len (List.mem_of_getElem? hit)
      have gl := globOf_len it
      have hT := hS _ _ (g1 _ t it ht hit)
      refine ⟨t, _, rfl, SqT.of hT, rfl, _, _, rfl, _, _, rfl, rfl, ?_⟩
      refine ⟨_, rfl, _, rfl, S (globOf it), b, rfl, hb, by show (globOf it).length ≤ _; omega, fun H2 m2 => ?_⟩
      refine ⟨_, rfl, ite2 (fun cc => ?_) (fun cc => ⟨⟨_, _, rfl⟩, hS.trans m2, fun j y h1 h2 => ?_⟩)⟩
      · have hf : fit (globOf it) (tl b) := @of_decide_eq_true _ (Classical.propDecidable _) cc
        refine ⟨_, rfl, rfl, ?_⟩
        have e := lets_last hit hf fun j y h1 h2 => hN j y (by omega) h2
        have e2 : decide (V.int (if isBar it = true then 0 else 1) = V.int 1) = letsL (parts (tl p)) (tl b) := by
          rw [e]; cases isBar it <;> rfl
        show Q (.bl (decide (V.int (if isBar it = true then 0 else 1) = V.int 1))) H2
        rw [e2]
        exact q H2 (m1.trans (hS.trans m2))
      · by_cases e : j = (parts (tl p)).length - 1 - i
        · subst e
          rw [hit] at h2; cases h2
          exact fun hf => cc (@decide_eq_true _ (Classical.propDecidable _) hf)
        · exact hN j y (by omega) h2
    · rintro σ H' ⟨⟨v2, v3, rfl⟩, hS, hN⟩
      rw [ln] at hN
      have := q H' (m1.trans hS)
      rw [lets_none fun j y h => hN j y (by omega) h] at this
      exact this
end

end Z
namespace Z
open PySem L2 SX
section
variable {P : Program} {w : World} {K : PySem.W.Frag} {mg : Str → Option Value} {base : Heap}
theorem ok__law_fits (D : Df K mg "_law_fits" s__law_fits ["glob", "board"]) (T : Tx mg)  : Cal P w K mg base "_law_fits" ["glob", "board"] 1 (sp__law_fits K) := by
  obtain ⟨f, fd, F, gf, bf⟩ := D
  refine ⟨f, fd, F.ok sc__law_fits (fun vs H Q E h => ?_) (fun cdv A outer s₀ H vs Q E hr h => ?_), gf, F.kp, bf⟩
  · obtain ⟨g, b, rfl, _⟩ := h; rfl
  · obtain ⟨g, b, rfl, hb, gl, q⟩ := h
    refine ⟨_, (pss_cons (ps_set (i := 2) sc__law_fits.nd rfl (Or.inl rfl) (pe_op L2.op_cat (pe_lst (pa_cons pe_bl pa_nil)) (pe_op L2.op_rep (pe_lst (pa_cons pe_bl pa_nil)) (pe_callB call_lenS (by rfl) T.n_len PySem.boot_len (pa_cons (pv 0) pa_nil)))))
      (pss_cons (ps_for PassesOwn.never rfl (pi_range1 (by rfl) T.n_range (pa_cons (pe_callB call_lenS (by rfl) T.n_len PySem.boot_len (pa_cons (pv 0) pa_nil)) pa_nil)) (pg_name (i := 3) sc__law_fits.nd rfl (Or.inl rfl))
      (pss_one (ps_if (PW.pt (pw_and (pt_truth (pe_ix ix_list (pv 2) (pv 3) (fun _ _ => rfl)) (by intro _; rfl)) (pw_and1 (pt_cmpR op_eq (pe_item_str (pv 0) (pv 3) (fun _ _ => rfl)) pe_str (nomark _)))))
        (pss_one (ps_asg pe_bl (pg_sub (pv 2) (pe_op op_add (pv 3) pe_int) set_list)))
        pss_nil)))
      (pss_cons (ps_for PassesOwn.never rfl (pi_str (pv 1)) (pg_name (i := 4) sc__law_fits.nd rfl (Or.inl rfl))
      (pss_cons (ps_set (i := 5) sc__law_fits.nd rfl (Or.inl rfl) (pe_op L2.op_rep (pe_lst (pa_cons pe_bl pa_nil)) (pe_op op_add (pe_callB call_lenS (by rfl) T.n_len PySem.boot_len (pa_cons (pv 0) pa_nil)) pe_int)))
        (pss_cons (ps_for PassesOwn.never rfl (pi_range1 (by rfl) T.n_range (pa_cons (pe_callB call_lenS (by rfl) T.n_len PySem.boot_len (pa_cons (pv 0) pa_nil)) pa_nil)) (pg_name (i := 3) sc__law_fits.nd rfl (Or.inl rfl))
        (C8.pss_cut (ps_if (PW.pt (pw_and (pt_truth (pe_ix ix_list (pv 2) (pv 3) (fun _ _ => rfl)) (by intro _; rfl)) (pw_and1 (pt_cmpR op_eq (pe_item_str (pv 0) (pv 3) (fun _ _ => rfl)) pe_str (nomark _)))))
          (pss_one (ps_asg pe_bl (pg_sub (pv 5) (pv 3) set_list)))
          pss_nil)
          (pss_one (ps_if (PW.pt (pw_and (pt_truth (pe_ix ix_list (pv 2) (pv 3) (fun _ _ => rfl)) (by intro _; rfl)) (pw_and1 (pt_cmpR op_in_seq (pe_item_str (pv 0) (pv 3) (fun _ _ => rfl)) (pe_tup (pa_cons pe_str (pa_cons (pv 4) pa_nil))) (by rfl)))))
          (pss_one (ps_asg pe_bl (pg_sub (pv 5) (pe_op op_add (pv 3) pe_int) set_list)))
          pss_nil))))
        (pss_cons (ps_for PassesOwn.never rfl (pi_range1 (by rfl) T.n_range (pa_cons (pe_callB call_lenS (by rfl) T.n_len PySem.boot_len (pa_cons (pv 0) pa_nil)) pa_nil)) (pg_name (i := 3) sc__law_fits.nd rfl (Or.inl rfl))
        (pss_one (ps_if (PW.pt (pw_and (pt_truth (pe_ix ix_list (pv 5) (pv 3) (fun _ _ => rfl)) (by intro _; rfl)) (pw_and1 (pt_cmpR op_eq (pe_item_str (pv 0) (pv 3) (fun _ _ => rfl)) pe_str (nomark _)))))
          (pss_one (ps_asg pe_bl (pg_sub (pv 5) (pe_op op_add (pv 3) pe_int) set_list)))
          pss_nil)))
        (pss_one (ps_set (i := 2) sc__law_fits.nd rfl (Or.inl rfl) (pv 5)))))))
      (pss_one (ps_ret (pe_ix ix_list (pv 2) (pe_callB call_lenS (by rfl) T.n_len PySem.boot_len (pa_cons (pv 0) pa_nil)) (fun _ _ => rfl))))))), ?_⟩
    have lg := tl_len g
    have small : ∀ n : Nat, n ≤ 30000 → n < sizeLine := fun n h => Nat.lt_of_le_of_lt h (by decide)
    refine ⟨by show 1 ≤ sizeLine; decide, fun p1 h1 => ⟨by show 1 ≤ sizeLine; decide, fun p2 h2 => ?_⟩⟩
    refine ⟨_, rfl, g, rfl, Nat.le_of_lt (small _ (by omega)), p2, _, [V.bl false], rfl, rfl, upd_same, by omega, by omega, ?_, fun p3 h3 => ?_⟩
    · show 1 * _ ≤ _; rw [Nat.one_mul]; exact Nat.le_of_lt (small _ (by omega))
    have hp1 : upd (upd (upd H p1 (HO.lst [V.bl true])) p2 (HO.lst [V.bl false])) p3 (HO.lst (List.replicate ((g.length : Int)).toNat [V.bl false]).flatten) p1 = some (.lst [V.bl true]) := (same_new h3) _ _ ((same_new h2) _ _ upd_same)
    refine ⟨p1, p3, _, _, rfl, rfl, hp1, upd_same, ?_, fun L hL => ?_⟩
    · rw [flatten_one, List.length_map, List.length_replicate]; exact Nat.le_of_lt (small _ (show 1 + _ ≤ _ by omega))
    have s4 := ((same_new h1).trans (same_new h2)).trans ((same_new h3).trans (same_new (o := HO.lst ([V.bl true] ++ (List.replicate ((g.length : Int)).toNat [V.bl false]).flatten)) hL))
    have hL4 : upd (upd (upd (upd H p1 (HO.lst [V.bl true])) p2 (HO.lst [V.bl false])) p3 (HO.lst (List.replicate ((g.length : Int)).toNat [V.bl false]).flatten)) L (HO.lst ([V.bl true] ++ (List.replicate ((g.length : Int)).toNat [V.bl false]).flatten)) L = some (.lst ((true :: List.replicate (tl g).length false).map V.bl)) := by
      rw [upd_same, flatten_one, show ((g.length : Int)).toNat = (tl g).length by omega]; rfl
    have B0 : Bs (true :: List.replicate (tl g).length false) (tl g).length (fun y => st0 (tl g) y ∧ y ≤ 0) := by
      refine ⟨by rw [List.length_cons, List.length_replicate], fun y => ?_⟩
      cases y with
      | zero => exact ⟨fun _ => ⟨True.intro, Nat.le_refl _⟩, fun _ => rfl⟩
      | succ y =>
        rw [List.getElem?_cons_succ, List.getElem?_replicate]
        constructor
        · intro h; split at h <;> cases h
        · intro h; have := h.2; omega
    generalize (upd (upd (upd (upd H p1 (HO.lst [V.bl true])) p2 (HO.lst [V.bl false])) p3 (HO.lst (List.replicate ((g.length : Int)).toNat [V.bl false]).flatten)) L (HO.lst ([V.bl true] ++ (List.replicate ((g.length : Int)).toNat [V.bl false]).flatten))) = H4 at hL4 s4 ⊢
    have HL : H L = none := by
      have := hL
      refine Same.free ?_ this
      exact ((same_new h1).trans (same_new h2)).trans (same_new h3)
    refine ⟨_, rfl, g, rfl, Nat.le_of_lt (small _ (by omega)), _, rfl, by omega, by omega, ?_⟩
    refine for_range (lo := 0) (n := ((g.length : Int)).toNat) (fun i σ H' => ∃ (bs : List Bool) (v3 : Option V), σ = [some (.str g), some (.str b), some (.ref L), v3, none, none] ∧ H' L = some (.lst (bs.map V.bl)) ∧ Same H H' ∧ Bs bs (tl g).length (fun y => st0 (tl g) y ∧ y ≤ i)) ⟨_, _, rfl, hL4, s4, B0⟩ ?_ ?_
    · rintro i σ H' hi ⟨bs, v3, rfl, hl, hS, hB⟩
      have hi' : i < (tl g).length := by omega
      obtain ⟨bi, e1, e2⟩ := hB.get (k := i) (by omega)
      have no : ¬ (st0 (tl g) i ∧ (tl g)[i]? = some 42) → ∃ (bs : List Bool) (v3 : Option V), ([some (V.str g), some (V.str b), some (V.ref L), some (V.int (0 + (i : Int))), none, none] : St) = [some (.str g), some (.str b), some (.ref L), v3, none, none] ∧ H' L = some (.lst (bs.map V.bl)) ∧ Same H H' ∧ Bs bs (tl g).length (fun y => st0 (tl g) y ∧ y ≤ i + 1) := fun h => ⟨bs, _, rfl, hl, hS, hB.congr fun y => ⟨fun z => ⟨z.1, by omega⟩, fun z => ⟨z.1, by
        by_cases e : y = i + 1
        · subst e; exact absurd ⟨z.1.2, z.1.1⟩ h
        · omega⟩⟩⟩
      refine ⟨_, rfl, _, rfl, L, _, _, _, rfl, rfl, SqL.of hl, atI_bl (k := i) (by omega) e1, bi, rfl, ite2 (fun c1 => ?_) (fun c1 => iteF (no fun h => c1 (e2.mpr ⟨h.1, Nat.le_refl _⟩)))⟩
      obtain ⟨d, g1, g2, g3⟩ := at_str (x := g) (i := 0 + (i : Int)) (by omega) (by omega)
      rw [show (0 + (i : Int)).toNat = i by omega] at g2
      refine ⟨_, rfl, _, rfl, g, _, d, rfl, rfl, by omega, by omega, by omega, g1, rfl, _, rfl, ite2 (fun c2 => ?_) (fun c2 => no fun h => ?_)⟩
      · have e42 : d = 42 := (List.cons.inj (congrArg tl (V.str.inj (of_decide_eq_true c2)))).1
        subst e42
        refine ⟨_, rfl, _, rfl, _, _, rfl, rfl, L, _, _, i + 1, rfl, rfl, hl, ixN_pos (by omega) (by rw [List.length_map]; have := hB.1; omega), ?_⟩
        refine ⟨bs.set (i + 1) true, _, rfl, by rw [upd_same, map_set_bl], fun bb o hh => by rw [upd_ne (ne_of_none hh HL)]; exact hS _ _ hh, (hB.set (k := i + 1) (by omega)).congr fun y => ⟨fun z => z.elim (fun w => ⟨w.1, by omega⟩) fun e => ?_, fun z => ?_⟩⟩
        · subst e; exact ⟨⟨g2, (e2.mp c1).1⟩, Nat.le_refl _⟩
        · by_cases e : y = i + 1
          · exact .inr e
          · exact .inl ⟨z.1, by omega⟩
      · rw [g2] at h
        have : d = 42 := Option.some.inj h.2
        subst this
        exact c2 (decide_eq_true rfl)
    rintro σ H5 ⟨bs0, v3, rfl, hl0, hS0, hB0⟩
    -- the signs
    refine ⟨_, rfl, b, rfl, ?_⟩
    refine for_str (l := tl b) (fun j σ H' => ∃ (L : Addr) (bs : List Bool) (M : Nat → Prop) (v3 v4 v5 : Option V), σ = [some (.str g), some (.str b), some (.ref L), v3, v4, v5] ∧ H' L = some (.lst (bs.map V.bl)) ∧ Same H H' ∧ Bs bs (tl g).length M ∧ Lax (tl g) (stand (tl g) ((tl b).take j)) M) ⟨L, bs0, _, _, _, _, rfl, hl0, hS0, hB0.congr (N := st0 (tl g)) fun y => ⟨fun z => z.1, fun z => ⟨z, by have := st0_within (tl g) y z; omega⟩⟩, lax_start _⟩ ?_ ?_
    · rintro j c σ H' hj ⟨L, bs, M, v3, v4, v5, rfl, hl, hS, hB, hLx⟩
      have hc := hb c (List.mem_of_getElem? hj)
      have et : (tl b).take (j + 1) = (tl b).take j ++ [c] := by rw [List.take_add_one, hj]; rfl
      obtain ⟨cl, wi⟩ := stand_ok (tl g) ((tl b).take j)
      have hLx' := lax_next hc cl hLx
      rw [← stand_snoc, ← et] at hLx'
      have Mw : within (tl g) M := fun y m => by
        rcases (hLx y).mp m with n | ⟨e, _⟩
        · exact wi y n
        · have := (List.getElem?_eq_some_iff.mp e).1; omega
      refine ⟨by show 1 ≤ sizeLine; decide, fun p6 h6 => ?_⟩
      refine ⟨_, rfl, g, rfl, Nat.le_of_lt (small _ (by omega)), _, _, rfl, rfl, p6, _, [V.bl false], rfl, rfl, upd_same, by omega, by omega, ?_, fun A hA => ?_⟩
      · show 1 * _ ≤ _; rw [Nat.one_mul]; exact Nat.le_of_lt (small _ (by omega))
      have eA : upd (upd H' p6 (HO.lst [V.bl false])) A (HO.lst (List.replicate ((g.length : Int) + 1).toNat [V.bl false]).flatten) A = some (.lst ((List.replicate ((tl g).length + 1) false).map V.bl)) := by
        rw [upd_same, flatten_one, show ((g.length : Int) + 1).toNat = (tl g).length + 1 by omega]
      have sA : Same H' (upd (upd H' p6 (HO.lst [V.bl false])) A (HO.lst (List.replicate ((g.length : Int) + 1).toNat [V.bl false]).flatten)) := (same_new h6).trans (same_new hA)
      have HA' : H' A = none := Same.free (same_new h6) hA
      have LA : L ≠ A := ne_of_none hl HA'
      have HA : H A = none := Same.free hS HA'
      generalize (upd (upd H' p6 (HO.lst [V.bl false])) A (HO.lst (List.replicate ((g.length : Int) + 1).toNat [V.bl false]).flatten)) = H7 at eA sA ⊢
      refine ⟨_, rfl, g, rfl, Nat.le_of_lt (small _ (by omega)), _, rfl, by omega, by omega, ?_⟩
      refine for_range (lo := 0) (n := ((g.length : Int)).toNat) (fun i σ H8 => ∃ (as : List Bool) (v3 : Option V), σ = [some (.str g), some (.str b), some (.ref L), v3, some (.str (S [c])), some (.ref A)] ∧ H8 A = some (.lst (as.map V.bl)) ∧ H8 L = some (.lst (bs.map V.bl)) ∧ Same H H8 ∧ Bs as (tl g).length (fun y => (M y ∧ (tl g)[y]? = some 42 ∧ y < i) ∨ ∃ k, k < i ∧ y = k + 1 ∧ M k ∧ ((tl g)[k]? = some 63 ∨ (tl g)[k]? = some c))) ⟨_, _, rfl, eA, sA _ _ hl, hS.trans sA, (bs_false _).congr fun y => ⟨fun z => z.elim, fun z => by
        rcases z with ⟨_, _, z⟩ | ⟨k, z, _⟩ <;> omega⟩⟩ ?_ ?_
      · rintro i σ H8 hi ⟨as, v3, rfl, ha, hl8, hS8, hB8⟩
        have hi' : i < (tl g).length := by omega
        obtain ⟨bi, e1, e2⟩ := hB.get (k := i) (by omega)
        obtain ⟨d, g1, g2, g3⟩ := at_str (x := g) (i := 0 + (i : Int)) (by omega) (by omega)
        rw [show (0 + (i : Int)).toNat = i by omega] at g2
        refine ⟨fun σ2 H9 => ∃ (as : List Bool), σ2 = [some (.str g), some (.str b), some (.ref L), some (.int (0 + (i : Int))), some (.str (S [c])), some (.ref A)] ∧ H9 A = some (.lst (as.map V.bl)) ∧ H9 L = some (.lst (bs.map V.bl)) ∧ Same H H9 ∧ Bs as (tl g).length (fun y => (M y ∧ (tl g)[y]? = some 42 ∧ y < i + 1) ∨ ∃ k, k < i ∧ y = k + 1 ∧ M k ∧ ((tl g)[k]? = some 63 ∨ (tl g)[k]? = some c)), ?_, ?_⟩
        · have no : ¬ (M i ∧ (tl g)[i]? = some 42) → ∃ (as : List Bool), ([some (V.str g), some (V.str b), some (V.ref L), some (V.int (0 + (i : Int))), some (V.str (S [c])), some (V.ref A)] : St) = [some (.str g), some (.str b), some (.ref L), some (.int (0 + (i : Int))), some (.str (S [c])), some (.ref A)] ∧ H8 A = some (.lst (as.map V.bl)) ∧ H8 L = some (.lst (bs.map V.bl)) ∧ Same H H8 ∧ Bs as (tl g).length (fun y => (M y ∧ (tl g)[y]? = some 42 ∧ y < i + 1) ∨ ∃ k, k < i ∧ y = k + 1 ∧ M k ∧ ((tl g)[k]? = some 63 ∨ (tl g)[k]? = some c)) := fun h => ⟨as, rfl, ha, hl8, hS8, hB8.congr fun y => ⟨fun z => z.elim (fun w => .inl ⟨w.1, w.2.1, by omega⟩) .inr, fun z => z.elim (fun w => .inl ⟨w.1, w.2.1, by
            by_cases e : y = i
            · subst e; exact absurd ⟨w.1, w.2.1⟩ h
            · omega⟩) .inr⟩⟩
          refine ⟨_, rfl, _, rfl, L, _, _, _, rfl, rfl, SqL.of hl8, atI_bl (k := i) (by omega) e1, bi, rfl, ite2 (fun c1 => ?_) (fun c1 => iteF (no fun h => c1 (e2.mpr h.1)))⟩
          refine ⟨_, rfl, _, rfl, g, _, d, rfl, rfl, by omega, by omega, by omega, g1, rfl, _, rfl, ite2 (fun c2 => ?_) (fun c2 => no fun h => ?_)⟩
          · have e42 : d = 42 := (List.cons.inj (congrArg tl (V.str.inj (of_decide_eq_true c2)))).1
            subst e42
            refine ⟨_, rfl, _, rfl, A, _, _, i, rfl, rfl, ha, ixN_pos (by omega) (by rw [List.length_map]; have := hB8.1; omega), ?_⟩
            refine ⟨as.set i true, rfl, by rw [upd_same, map_set_bl], by rw [upd_ne LA]; exact hl8, fun bb o hh => by rw [upd_ne (ne_of_none hh HA)]; exact hS8 _ _ hh, (hB8.set (k := i) (by omega)).congr fun y => ⟨fun z => ?_, fun z => ?_⟩⟩
            · rcases z with (w | w) | e
              · exact .inl ⟨w.1, w.2.1, by omega⟩
              · exact .inr w
              · subst e; exact .inl ⟨e2.mp c1, g2, by omega⟩
            · rcases z with w | w
              · by_cases e : y = i
                · exact .inr e
                · exact .inl (.inl ⟨w.1, w.2.1, by omega⟩)
              · exact .inl (.inr w)
          · rw [g2] at h
            have : d = 42 := Option.some.inj h.2
            subst this
            exact c2 (decide_eq_true rfl)
        · rintro σ2 H9 ⟨as2, rfl, ha9, hl9, hS9, hB9⟩
          have ends : ∀ (as3 : List Bool) (H10 : Hp), H10 A = some (.lst (as3.map V.bl)) → H10 L = some (.lst (bs.map V.bl)) → Same H H10 → Bs as3 (tl g).length (fun y => ((M y ∧ (tl g)[y]? = some 42 ∧ y < i + 1) ∨ ∃ k, k < i ∧ y = k + 1 ∧ M k ∧ ((tl g)[k]? = some 63 ∨ (tl g)[k]? = some c)) ∨ (y = i + 1 ∧ M i ∧ ((tl g)[i]? = some 63 ∨ (tl g)[i]? = some c))) → ∃ (as : List Bool) (v3 : Option V), ([some (V.str g), some (V.str b), some (V.ref L), some (V.int (0 + (i : Int))), some (V.str (S [c])), some (V.ref A)] : St) = [some (.str g), some (.str b), some (.ref L), v3, some (.str (S [c])), some (.ref A)] ∧ H10 A = some (.lst (as.map V.bl)) ∧ H10 L = some (.lst (bs.map V.bl)) ∧ Same H H10 ∧ Bs as (tl g).length (fun y => (M y ∧ (tl g)[y]? = some 42 ∧ y < i + 1) ∨ ∃ k, k < i + 1 ∧ y = k + 1 ∧ M k ∧ ((tl g)[k]? = some 63 ∨ (tl g)[k]? = some c)) := fun as3 H10 h1 h2 h3 h4 => ⟨as3, _, rfl, h1, h2, h3, h4.congr fun y => ⟨fun z => by
            rcases z with (w | ⟨k, w1, w2⟩) | ⟨w1, w2⟩
            · exact .inl w
            · exact .inr ⟨k, by omega, w2⟩
            · exact .inr ⟨i, by omega, w1, w2⟩, fun z => by
            rcases z with w | ⟨k, w1, w2, w3⟩
            · exact .inl (.inl w)
            · by_cases e : k = i
              · subst e; exact .inr ⟨w2, w3⟩
              · exact .inl (.inr ⟨k, by omega, w2, w3⟩)⟩⟩
          refine ⟨_, rfl, _, rfl, L, _, _, _, rfl, rfl, SqL.of hl9, atI_bl (k := i) (by omega) e1, bi, rfl, ite2 (fun c1 => ?_) (fun c1 => iteF (ends as2 H9 ha9 hl9 hS9 (hB9.congr fun y => ⟨.inl, fun z => z.elim id fun w => absurd (e2.mpr w.2.1) c1⟩)))⟩
          refine ⟨_, rfl, _, rfl, g, _, d, rfl, rfl, by omega, by omega, by omega, g1, ?_⟩
          refine ⟨_, rfl, by show 2 ≤ sizeLine; decide, fun t ht => ?_⟩
          refine ⟨t, [Str.ofString "?", S [c]].map V.str, rfl, .inr (SqT.of upd_same), rfl, flat_strs _, _, rfl, ?_⟩
          have eb : (if false = true then !inV (V.str (S [d])) ([Str.ofString "?", S [c]].map V.str) else inV (V.str (S [d])) ([Str.ofString "?", S [c]].map V.str)) = decide (S [d] ∈ [Str.ofString "?", S [c]]) := inV_strs _ _
          have tn := same_new (o := HO.tup [V.str (Str.ofString "?"), V.str (S [c])]) ht
          by_cases hin : S [d] ∈ [Str.ofString "?", S [c]]
          · have hmt : (tl g)[i]? = some 63 ∨ (tl g)[i]? = some c := by
              rw [g2]
              rcases List.mem_cons.mp hin with e | e
              · exact .inl (congrArg some (List.cons.inj (congrArg tl e)).1)
              · exact .inr (congrArg some (List.cons.inj (congrArg tl (List.mem_singleton.mp e))).1)
            refine ite2 (fun _ => ?_) (fun h => (h (eb.trans (decide_eq_true hin))).elim)
            refine ⟨_, rfl, _, rfl, _, _, rfl, rfl, A, _, _, i + 1, rfl, rfl, tn _ _ ha9, ixN_pos (by omega) (by rw [List.length_map]; have := hB9.1; omega), ?_⟩
            refine ends (as2.set (i + 1) true) _ (by rw [upd_same, map_set_bl]) (by rw [upd_ne LA]; exact tn _ _ hl9) (fun bb o hh => by rw [upd_ne (ne_of_none hh HA)]; exact (hS9.trans tn) _ _ hh) ((hB9.set (k := i + 1) (by omega)).congr fun y => ⟨fun z => z.elim .inl fun e => .inr ⟨e, e2.mp c1, hmt⟩, fun z => z.elim .inl fun w => .inr w.1⟩)
          · refine ite2 (fun h => (hin (of_decide_eq_true (eb.symm.trans h))).elim) (fun _ => ends as2 _ (tn _ _ ha9) (tn _ _ hl9) (hS9.trans tn) (hB9.congr fun y => ⟨.inl, fun z => z.elim id fun w => absurd ?_ hin⟩))
            have e := w.2.2
            rw [g2] at e
            rcases e with e | e
            · have : d = 63 := Option.some.inj e
              subst this; exact List.mem_cons_self
            · have : d = c := Option.some.inj e
              subst this; exact List.mem_cons_of_mem _ (List.mem_singleton.mpr rfl)
      -- along the stars
      rintro σ8 H8 ⟨as, v3', rfl, ha, hl8, hS8, hB8⟩
      have hB8' : Bs as (tl g).length (lawA (tl g) M c) := hB8.congr fun y => by
        unfold lawA
        constructor
        · rintro (w | ⟨k, _, w⟩)
          · exact .inl ⟨w.1, w.2.1⟩
          · exact .inr ⟨k, w⟩
        · rintro (w | ⟨k, w⟩)
          · exact .inl ⟨w.1, w.2, by have := (List.getElem?_eq_some_iff.mp w.2).1; omega⟩
          · refine .inr ⟨k, ?_, w⟩
            have : k < (tl g).length := by rcases w.2.2 with e | e <;> exact (List.getElem?_eq_some_iff.mp e).1
            omega
      refine ⟨_, rfl, g, rfl, Nat.le_of_lt (small _ (by omega)), _, rfl, by omega, by omega, ?_⟩
      refine for_range (lo := 0) (n := ((g.length : Int)).toNat) (fun i σ H9 => ∃ (as : List Bool) (v3 : Option V), σ = [some (.str g), some (.str b), some (.ref L), v3, some (.str (S [c])), some (.ref A)] ∧ H9 A = some (.lst (as.map V.bl)) ∧ Same H H9 ∧ Bs as (tl g).length (fun y => (y ≤ i ∧ lawB (tl g) (lawA (tl g) M c) y) ∨ (i < y ∧ lawA (tl g) M c y))) ⟨as, _, rfl, ha, hS8, hB8'.congr fun y => ?_⟩ ?_ ?_
      · cases y with
        | zero => exact ⟨fun z => .inl ⟨Nat.le_refl _, z⟩, fun z => z.elim (fun w => w.2) fun w => w.2⟩
        | succ y => exact ⟨fun z => .inr ⟨by omega, z⟩, fun z => z.elim (fun w => by omega) fun w => w.2⟩
      · rintro i σ H9 hi ⟨as, v3, rfl, ha, hS9, hB9⟩
        have hi' : i < (tl g).length := by omega
        obtain ⟨bi, e1, e2⟩ := hB9.get (k := i) (by omega)
        have e3 : bi = true ↔ lawB (tl g) (lawA (tl g) M c) i := e2.trans ⟨fun z => z.elim (fun w => w.2) fun w => by omega, fun z => .inl ⟨Nat.le_refl _, z⟩⟩
        have no : ¬ (lawB (tl g) (lawA (tl g) M c) i ∧ (tl g)[i]? = some 42) → ∃ (as : List Bool) (v3 : Option V), ([some (V.str g), some (V.str b), some (V.ref L), some (V.int (0 + (i : Int))), some (V.str (S [c])), some (V.ref A)] : St) = [some (.str g), some (.str b), some (.ref L), v3, some (.str (S [c])), some (.ref A)] ∧ H9 A = some (.lst (as.map V.bl)) ∧ Same H H9 ∧ Bs as (tl g).length (fun y => (y ≤ i + 1 ∧ lawB (tl g) (lawA (tl g) M c) y) ∨ (i + 1 < y ∧ lawA (tl g) M c y)) := fun h => ⟨as, _, rfl, ha, hS9, hB9.congr fun y => by
          by_cases e : y = i + 1
          · subst e
            constructor
            · rintro (w | w)
              · omega
              · exact .inl ⟨Nat.le_refl _, .inl w.2⟩
            · rintro (⟨_, w | w⟩ | w)
              · exact .inr ⟨by omega, w⟩
              · exact absurd w h
              · omega
          · constructor
            · rintro (w | w)
              · exact .inl ⟨by omega, w.2⟩
              · exact .inr ⟨by omega, w.2⟩
            · rintro (w | w)
              · exact .inl ⟨by omega, w.2⟩
              · exact .inr ⟨by omega, w.2⟩⟩
        refine ⟨_, rfl, _, rfl, A, _, _, _, rfl, rfl, SqL.of ha, atI_bl (k := i) (by omega) e1, bi, rfl, ite2 (fun c1 => ?_) (fun c1 => iteF (no fun h => c1 (e3.mpr h.1)))⟩
        obtain ⟨d, g1, g2, g3⟩ := at_str (x := g) (i := 0 + (i : Int)) (by omega) (by omega)
        rw [show (0 + (i : Int)).toNat = i by omega] at g2
        refine ⟨_, rfl, _, rfl, g, _, d, rfl, rfl, by omega, by omega, by omega, g1, rfl, _, rfl, ite2 (fun c2 => ?_) (fun c2 => no fun h => ?_)⟩
        · have e42 : d = 42 := (List.cons.inj (congrArg tl (V.str.inj (of_decide_eq_true c2)))).1
          subst e42
          refine ⟨_, rfl, _, rfl, _, _, rfl, rfl, A, _, _, i + 1, rfl, rfl, ha, ixN_pos (by omega) (by rw [List.length_map]; have := hB9.1; omega), ?_⟩
          refine ⟨as.set (i + 1) true, _, rfl, by rw [upd_same, map_set_bl], fun bb o hh => by rw [upd_ne (ne_of_none hh HA)]; exact hS9 _ _ hh, (hB9.set (k := i + 1) (by omega)).congr fun y => ?_⟩
          by_cases e : y = i + 1
          · subst e
            exact ⟨fun _ => .inl ⟨Nat.le_refl _, .inr ⟨e3.mp c1, g2⟩⟩, fun _ => .inr rfl⟩
          · constructor
            · rintro ((w | w) | w)
              · exact .inl ⟨by omega, w.2⟩
              · exact .inr ⟨by omega, w.2⟩
              · exact absurd w e
            · rintro (w | w)
              · exact .inl (.inl ⟨by omega, w.2⟩)
              · exact .inl (.inr ⟨by omega, w.2⟩)
        · rw [g2] at h
          have : d = 42 := Option.some.inj h.2
          subst this
          exact c2 (decide_eq_true rfl)
      · rintro σ9 H9 ⟨as, v3, rfl, ha, hS9, hB9⟩
        refine ⟨_, rfl, A, as, lawB (tl g) (lawA (tl g) M c), _, _, _, rfl, ha, hS9, hB9.congr fun y => ⟨fun z => z.elim (fun w => w.2) fun w => ?_, fun z => ?_⟩, hLx'⟩
        · have hw := w.1
          exfalso
          rcases w.2 with ⟨m, _⟩ | ⟨k, e, m, r⟩
          · have := Mw y m; omega
          · have : k < (tl g).length := by rcases r with r | r <;> exact (List.getElem?_eq_some_iff.mp r).1
            omega
        · by_cases e : y ≤ ((g.length : Int)).toNat
          · exact .inl ⟨e, z⟩
          · exfalso
            have h9 := (hLx' y).mp z
            obtain ⟨_, wi2⟩ := stand_ok (tl g) ((tl b).take (j + 1))
            rcases h9 with n | ⟨q, _⟩
            · have := wi2 y n; omega
            · have := (List.getElem?_eq_some_iff.mp q).1; omega
    · rintro σ H' ⟨L, bs, M, v3, v4, v5, rfl, hl, hS, hB, hLx⟩
      rw [List.take_length] at hLx
      obtain ⟨bi, e1, e2⟩ := hB.get (k := (tl g).length) (Nat.le_refl _)
      refine ⟨_, rfl, _, rfl, g, rfl, Nat.le_of_lt (small _ (by omega)), L, _, _, .bl bi, rfl, rfl, SqL.of hl, atI_bl (k := (tl g).length) (by omega) e1, ?_⟩
      have ef : bi = @decide (fit (tl g) (tl b)) (Classical.propDecidable _) := by
        rw [Bool.eq_iff_iff, e2]
        simp only [decide_eq_true_iff]
        refine (hLx _).trans ⟨fun z => z.elim id fun w => ?_, .inl⟩
        have := (List.getElem?_eq_some_iff.mp w.1).1; omega
      rw [ef]
      exact q H' hS
end

end Z
namespace Z
open PySem L2 SX
section
variable {P : Program} {w : World} {K : PySem.W.Frag} {mg : Str → Option Value} {base : Heap}
theorem ok__law_lets (D : Df K mg "_law_lets" s__law_lets ["pattern", "board"]) (T : Tx mg) (C__law_fits : Cal P w K mg base "_law_fits" ["glob", "board"] 1 (sp__law_fits K)) : Cal P w K mg base "_law_lets" ["pattern", "board"] 2 (sp__law_lets K) := by
  obtain ⟨f__law_fits, fd__law_fits, G__law_fits, g__law_fits, k__law_fits, b__law_fits⟩ := C__law_fits
  obtain ⟨f, fd, F, gf, bf⟩ := D
  refine ⟨f, fd, F.ok sc__law_lets (fun vs H Q E h => ?_) (fun cdv A outer s₀ H vs Q E hr h => ?_), gf, F.kp, bf⟩
  · obtain ⟨p, b, rfl, _⟩ := h; rfl
  · obtain ⟨p, b, rfl, pl, hb, q⟩ := h
    refine ⟨_, (pss_cons (ps_set (i := 2) sc__law_lets.nd rfl (Or.inl rfl) pe_bl)
      (pss_cons (ps_for PassesOwn.never rfl (pi_list (pe_split (pv 0) pe_str)) (pg_name (i := 3) sc__law_lets.nd rfl (Or.inl rfl))
      (pss_one (ps_if (pt_cmpR op_eq (pe_slice sl_str (pv 3) po_none (po_some pe_int)) pe_str (nomark _))
        (pss_one (ps_if (pt_val (pe_call G__law_fits (hr.mono (by decide)) (by rfl) g__law_fits k__law_fits b__law_fits .nil pass0 (pa_cons (pe_slice sl_str (pv 3) (po_some pe_int) po_none) (pa_cons (pv 1) pa_nil))))
          (pss_one (ps_set (i := 2) sc__law_lets.nd rfl (Or.inl rfl) pe_bl))
          pss_nil))
        (pss_one (ps_if (pt_val (pe_call G__law_fits (hr.mono (by decide)) (by rfl) g__law_fits k__law_fits b__law_fits .nil pass0 (pa_cons (pv 3) (pa_cons (pv 1) pa_nil))))
          (pss_one (ps_set (i := 2) sc__law_lets.nd rfl (Or.inl rfl) pe_bl))
          pss_nil)))))
      (pss_one (ps_ret (pv 2))))), ?_⟩
    have lp := tl_len p
    have small : ∀ n : Nat, n ≤ 30000 → n ≤ sizeLine := fun n h => Nat.le_trans h (by decide)
    refine ⟨_, rfl, ⟨_, rfl⟩, p, Str.ofString ",", rfl, rfl, rfl, small _ (by omega), fun B hB => ?_⟩
    rw [split_bar]
    have hB1 : (upd H B (HO.lst (((parts (tl p)).map S).map V.str))) B = some (.lst (((parts (tl p)).map S).map V.str)) := upd_same
    refine ⟨B, rfl, ⟨_, SqL.of hB1⟩, ?_⟩
    refine for_list (K := K) (a := B) (xs := ((parts (tl p)).map S).map V.str) (fun i σ H' => (∃ v3 : Option V, σ = [some (.str p), some (.str b), some (.bl (letsL ((parts (tl p)).take i) (tl b))), v3]) ∧ Same (upd H B (HO.lst (((parts (tl p)).map S).map V.str))) H') ⟨⟨_, rfl⟩, Same.refl _⟩ (fun i σ H' _ h => SqL.of (h.2 _ _ hB1)) ?_ ?_
    · rintro i x σ H' hi ⟨⟨v3, rfl⟩, hS⟩
      rw [List.getElem?_map, List.getElem?_map] at hi
      obtain ⟨y, hy, rfl⟩ := Option.map_eq_some_iff.mp hi
      obtain ⟨it, hit, rfl⟩ := Option.map_eq_some_iff.mp hy
      have il := parts_len (List.mem_of_getElem? hit)
      have et : (parts (tl p)).take (i + 1) = (parts (tl p)).take i ++ [it] := by rw [List.take_add_one, hit]; rfl
      have step : letsL ((parts (tl p)).take (i + 1)) (tl b) = (if @decide (fit (globOf it) (tl b)) (Classical.propDecidable _) = true then !isBar it else letsL ((parts (tl p)).take i) (tl b)) := by
        rw [et]
        show List.foldl _ _ (_ ++ [it]) = _
        rw [List.foldl_append]
        show (@ite _ (fit (globOf it) (tl b)) (Classical.propDecidable _) (!isBar it) (letsL ((parts (tl p)).take i) (tl b))) = _
        by_cases h : fit (globOf it) (tl b)
        · rw [if_pos h, if_pos (@decide_eq_true _ (Classical.propDecidable _) h)]
        · rw [if_neg h, if_neg (fun e => h (@of_decide_eq_true _ (Classical.propDecidable _) e))]
      refine ⟨_, rfl, 1, rfl, S it, rfl, small _ (by show (S it).length ≤ _; rw [S_len]; omega), rfl, _, rfl, ?_⟩
      rw [bar_cut]
      refine ite2 (fun cc => ?_) (fun cc => ?_)
      · have cc' : isBar it = true := cc
        have eg : globOf it = it.drop 1 := by unfold globOf; rw [if_pos cc']
        have ec : tl (cutS (S it) (some 1) none) = globOf it := by rw [eg]; exact cutS_from (by decide)
        refine ⟨_, rfl, 1, rfl, S it, rfl, small _ (by show (S it).length ≤ _; rw [S_len]; omega), _, rfl, cutS (S it) (some 1) none, b, rfl, hb, by rw [ec]; have := globOf_len it; omega, fun H2 m2 => ?_⟩
        rw [ec]
        refine ⟨_, rfl, ite2 (fun c2 => ?_) (fun c2 => ?_)⟩
        · refine ⟨⟨some (.str (S it)), ?_⟩, hS.trans m2⟩
          rw [step, if_pos c2, cc']; rfl
        · refine ⟨⟨some (.str (S it)), ?_⟩, hS.trans m2⟩
          rw [step, if_neg c2]; rfl
      · have cc' : ¬ isBar it = true := cc
        have eg : globOf it = it := by unfold globOf; rw [if_neg cc']
        refine ⟨_, rfl, _, rfl, S it, b, rfl, hb, by show it.length ≤ _; omega, fun H2 m2 => ?_⟩
        rw [show tl (S it) = globOf it from eg.symm]
        refine ⟨_, rfl, ite2 (fun c2 => ?_) (fun c2 => ?_)⟩
        · refine ⟨⟨some (.str (S it)), ?_⟩, hS.trans m2⟩
          rw [step, if_pos c2, show isBar it = false by simpa using cc']; rfl
        · refine ⟨⟨some (.str (S it)), ?_⟩, hS.trans m2⟩
          rw [step, if_neg c2]; rfl
    · rintro σ H' ⟨⟨v3, rfl⟩, hS⟩
      rw [List.length_map, List.length_map, List.take_length]
      exact ⟨_, rfl, q H' ((same_new hB).trans hS)⟩
end

end Z
namespace Z
open PySem L2 SX
section
variable {P : Program} {w : World} {K : PySem.W.Frag} {mg : Str → Option Value} {base : Heap}
theorem ok__law_words (D : Df K mg "_law_words" s__law_words ["source"]) (T : Tx mg)  (C__law_draw : Cal P w K mg base "_law_draw" ["source", "many"] 2 sp__law_draw) (C__law_names : Cal P w K mg base "_law_names" ["source", "many"] 4 (sp9__law_names K)) : Cal P w K mg base "_law_words" ["source"] 5 (sp2__law_words K) := by
  obtain ⟨f__law_draw, fd__law_draw, G__law_draw, g__law_draw, k__law_draw, b__law_draw⟩ := C__law_draw
  obtain ⟨f__law_names, fd__law_names, G__law_names, g__law_names, k__law_names, b__law_names⟩ := C__law_names
  obtain ⟨f, fd, F, gf, bf⟩ := D
  refine ⟨f, fd, F.ok sc__law_words (fun vs H Q E h => ?_) (fun cdv A outer s₀ H vs Q E hr h => ?_), gf, F.kp, bf⟩
  · obtain ⟨s, a, c, rfl, _⟩ := h; rfl
  · obtain ⟨s, a, c, rfl, hS, q⟩ := h
    refine ⟨_, (pss_one (ps_ret (pe_call G__law_names (hr.mono (by decide)) (by rfl) g__law_names k__law_names b__law_names .nil pass0 (pa_cons (pv 0) (pa_cons (pe_op op_add pe_int (pe_call G__law_draw (hr.mono (by decide)) (by rfl) g__law_draw k__law_draw b__law_draw .nil pass0 (pa_cons (pv 0) (pa_cons pe_int pa_nil)))) pa_nil))))), ?_⟩
    refine ⟨_, rfl, _, rfl, s, a, _, c + 99, rfl, by decide, by decide, hS, fun v H1 v0 v1 x1 S1 => ?_⟩
    obtain ⟨m, rfl⟩ := Int.eq_ofNat_of_zero_le v0
    refine ⟨_, _, rfl, rfl, s, a, m + 2, c + 50, ?_, by omega, S1.mono (by omega), fun u us H2 hu h2 ul uA x2 S2 => ?_⟩
    · show [V.ref s, V.int (2 + (m : Int))] = [V.ref s, V.int ((m + 2 : Nat) : Int)]
      rw [show ((m + 2 : Nat) : Int) = 2 + (m : Int) by omega]
    · have hu0 : H u = none := ext_free x1 S1 hu
      exact q u us H2 hu0 h2 ⟨fun e => by rw [e] at ul; simp at ul, by omega, uA.2⟩ (x1.trans x2) (S2.mono (by omega))
end
section
variable {P : Program} {w : World} {K : PySem.W.Frag} {mg : Str → Option Value} {base : Heap}
theorem ok__law_board (D : Df K mg "_law_board" s__law_board ["source", "words"]) (T : Tx mg)  (C__law_draw : Cal P w K mg base "_law_draw" ["source", "many"] 2 sp__law_draw) (C__law_pick : Cal P w K mg base "_law_pick" ["source", "row"] 3 (sp3__law_pick K)) : Cal P w K mg base "_law_board" ["source", "words"] 4 (sp2__law_board K) := by
  obtain ⟨f__law_draw, fd__law_draw, G__law_draw, g__law_draw, k__law_draw, b__law_draw⟩ := C__law_draw
  obtain ⟨f__law_pick, fd__law_pick, G__law_pick, g__law_pick, k__law_pick, b__law_pick⟩ := C__law_pick
  obtain ⟨f, fd, F, gf, bf⟩ := D
  refine ⟨f, fd, F.ok sc__law_board (fun vs H Q E h => ?_) (fun cdv A outer s₀ H vs Q E hr h => ?_), gf, F.kp, bf⟩
  · obtain ⟨s, a, u, us, c, rfl, _⟩ := h; rfl
  · obtain ⟨s, a, u, us, c, rfl, hU, hus, hW, hS, q⟩ := h
    refine ⟨_, (pss_cons (ps_set (i := 2) sc__law_board.nd rfl (Or.inl rfl) (pe_op op_add pe_int (pe_call G__law_draw (hr.mono (by decide)) (by rfl) g__law_draw k__law_draw b__law_draw .nil pass0 (pa_cons (pv 0) (pa_cons pe_int pa_nil)))))
      (pss_one (ps_ret (pe_join pe_str (pe_lc (own := [("k", 3)]) (g := gName 3) (tt := tYes) rfl sc__law_board.nd (pi_range1 (by rfl) T.n_range (pa_cons (pv 2) pa_nil)) (blkOk_by (own := [("k", 3)]) (N := N__law_board) (sc := defScope s__law_board) (by decide +kernel)) (fun _ _ _ _ _ => pg_name (i := 3) sc__law_board.nd rfl (Or.inl rfl)) (fun _ _ _ _ _ => pts_nil) (fun _ _ _ _ _ => (pe_call G__law_pick (hr.mono (by decide)) (by rfl) g__law_pick k__law_pick b__law_pick .nil pass0 (pa_cons (pv 0) (pa_cons (pv 1) pa_nil))))))))), ?_⟩
    obtain ⟨un, ul, uA⟩ := hW
    refine ⟨_, rfl, s, a, _, c + 9, rfl, by decide, by decide, hS, fun v H1 v0 v1 x1 S1 => ?_⟩
    refine ⟨_, _, rfl, rfl, ?_⟩
    refine ⟨⟨_, rfl⟩, _, rfl, _, rfl, by omega, by omega, fun D hD => ?_⟩
    refine lc_strs (n := (1 + v).toNat) (d := 1) (c := c) (fun x => Nm (tl x) ∧ (tl x).length ≤ 8) hD (S1.mono (by omega)) (by omega) (fun _ => rfl) (fun i c' Hx R hi hE' hS' k => ?_) (fun xs H3 hx3 hl3 hA3 hE3 hS3 => ?_)
    · refine ⟨_, rfl, _, rfl, .inl ⟨s, a, u, us.map V.str, c', rfl, hE'.seqL hus (x1.seqL hus hU), hus, fun e => un (List.map_eq_nil_iff.mp e), by rw [List.length_map]; omega, hS', fun w H4 wm x4 S4 => ?_⟩⟩
      obtain ⟨z, zm, rfl⟩ := List.mem_map.mp wm
      exact k z H4 (uA z zm) x4 S4
    · have hs := sum_len (n := 8) (xs := xs) fun x m => (hA3 x m).2
      refine ⟨_, D, xs, rfl, rfl, .inl (SqL.of hx3), ?_, ?_⟩
      · show _ + xs.length * 1 ≤ _; omega
      refine q _ H3 ?_ ?_ ?_ (x1.trans hE3) hS3
      · rw [tl_joinS]
        intro ch hc
        rcases joinL_mem hc with e | ⟨l, m, e⟩
        · rw [List.mem_singleton.mp e]; exact .inr (.inr rfl)
        · obtain ⟨x, hx, rfl⟩ := List.mem_map.mp m
          exact (hA3 x hx).1.2.bdc ch e
      · rw [tl_joinS]
        refine joinL_ne (fun e => ?_) (fun l m => ?_)
        · have := List.map_eq_nil_iff.mp e
          rw [this] at hl3; simp at hl3; omega
        · obtain ⟨x, hx, rfl⟩ := List.mem_map.mp m
          exact (hA3 x hx).1.ne
      · rw [tl_joinS]
        refine Nat.le_trans (joinL_len (n := 8) fun l m => ?_) ?_
        · obtain ⟨x, hx, rfl⟩ := List.mem_map.mp m
          exact (hA3 x hx).2
        · rw [List.length_map]; show xs.length * (8 + 1) ≤ 30; omega
end
section
variable {P : Program} {w : World} {K : PySem.W.Frag} {mg : Str → Option Value} {base : Heap}
theorem ok__law_glob (D : Df K mg "_law_glob" s__law_glob ["source", "words"]) (T : Tx mg)  (C__law_board : Cal P w K mg base "_law_board" ["source", "words"] 4 (sp2__law_board K)) (C__law_pick : Cal P w K mg base "_law_pick" ["source", "row"] 3 (sp3__law_pick K)) : Cal P w K mg base "_law_glob" ["source", "words"] 5 (sp2__law_glob K) := by
  obtain ⟨f__law_board, fd__law_board, G__law_board, g__law_board, k__law_board, b__law_board⟩ := C__law_board
  obtain ⟨f__law_pick, fd__law_pick, G__law_pick, g__law_pick, k__law_pick, b__law_pick⟩ := C__law_pick
  obtain ⟨f, fd, F, gf, bf⟩ := D
  refine ⟨f, fd, F.ok sc__law_glob (fun vs H Q E h => ?_) (fun cdv A outer s₀ H vs Q E hr h => ?_), gf, F.kp, bf⟩
  · obtain ⟨s, a, u, us, c, rfl, _⟩ := h; rfl
  · obtain ⟨s, a, u, us, c, rfl, hU, hus, hW, hS, q⟩ := h
    refine ⟨_, (pss_cons (ps_set (i := 2) sc__law_glob.nd rfl (Or.inl rfl) (pe_call G__law_pick (hr.mono (by decide)) (by rfl) g__law_pick k__law_pick b__law_pick .nil pass0 (pa_cons (pv 0) (pa_cons (pv 1) pa_nil))))
      (pss_cons (ps_set (i := 3) sc__law_glob.nd rfl (Or.inl rfl) (pe_lst (pa_cons (pe_call G__law_board (hr.mono (by decide)) (by rfl) g__law_board k__law_board b__law_board .nil pass0 (pa_cons (pv 0) (pa_cons (pv 1) pa_nil))) (pa_cons (pe_op op_add_str (pv 2) pe_str) (pa_cons (pe_op op_add_str pe_str (pv 2)) (pa_cons (pe_op op_add_str (pv 2) pe_str) (pa_cons (pe_op op_add_str (pe_op op_add_str pe_str (pe_slice sl_str (pv 2) (po_some pe_int) po_none)) pe_str) pa_nil)))))))
      (pss_one (ps_ret (pe_call G__law_pick (hr.mono (by decide)) (by rfl) g__law_pick k__law_pick b__law_pick .nil pass0 (pa_cons (pv 0) (pa_cons (pe_op L2.op_cat (pv 3) (pe_lst (pa_cons (pe_op op_add_str (pe_op op_add_str pe_str (pe_slice sl_str (pv 2) (po_some (pe_un un_neg pe_int)) po_none)) pe_str) (pa_cons (pe_op op_add_str (pv 2) pe_str) (pa_cons pe_str pa_nil))))) pa_nil))))))), ?_⟩
    obtain ⟨un, ul, uA⟩ := id hW
    have small : ∀ n : Nat, n ≤ 30000 → n ≤ sizeLine := fun n h => Nat.le_trans h (by decide)
    refine ⟨_, rfl, _, rfl, .inl ⟨s, a, u, us.map V.str, c + 19, rfl, hU, hus, fun e => un (List.map_eq_nil_iff.mp e), by rw [List.length_map]; omega, hS, fun w H1 wm x1 S1 => ?_⟩⟩
    obtain ⟨z, zm, rfl⟩ := List.mem_map.mp wm
    have zl := (uA z zm).2
    have zn := (uA z zm).1.ne
    have zo := (uA z zm).1.2.okc
    have lz := tl_len z
    refine ⟨_, rfl, _, rfl, s, a, u, us, c + 9, rfl, x1.seqL hus hU, hus, hW, S1, fun x H2 xB xn xl x2 S2 => ?_⟩
    have ap : ∀ {p q : List Nat}, (∀ c ∈ p, okc c = true) → (∀ c ∈ q, okc c = true) → ∀ c ∈ p ++ q, okc c = true := fun h1 h2 c m => (List.mem_append.mp m).elim (h1 c) (h2 c)
    have w1 : ∀ c ∈ tl (Str.ofString ".*"), okc c = true := by decide +kernel
    have w2 : ∀ c ∈ tl (Str.ofString "*."), okc c = true := by decide +kernel
    have w3 : ∀ c ∈ tl (Str.ofString "*"), okc c = true := by decide +kernel
    have w4 : ∀ c ∈ tl (Str.ofString "?"), okc c = true := by decide +kernel
    have w5 : ∀ c ∈ tl (Str.ofString "?*"), okc c = true := by decide +kernel
    have w6 : ∀ c ∈ tl (Str.ofString ".?*"), okc c = true := by decide +kernel
    have l1 : okG (tl (z ++ Str.ofString ".*")) ∧ (tl (z ++ Str.ofString ".*")).length ≤ 40 := by
      rw [tl_app]; exact ⟨⟨fun e => zn (List.append_eq_nil_iff.mp e).1, ap zo w1⟩, by rw [List.length_append]; show _ + 2 ≤ _; omega⟩
    have l2 : okG (tl (Str.ofString "*." ++ z)) ∧ (tl (Str.ofString "*." ++ z)).length ≤ 40 := by
      rw [tl_app]; exact ⟨⟨fun e => zn (List.append_eq_nil_iff.mp e).2, ap w2 zo⟩, by rw [List.length_append]; show 2 + _ ≤ _; omega⟩
    have l3 : okG (tl (z ++ Str.ofString "*")) ∧ (tl (z ++ Str.ofString "*")).length ≤ 40 := by
      rw [tl_app]; exact ⟨⟨fun e => zn (List.append_eq_nil_iff.mp e).1, ap zo w3⟩, by rw [List.length_append]; show _ + 1 ≤ _; omega⟩
    have lc1 : (tl (cutS z (some 1) none)).length ≤ 8 := Nat.le_trans (cut_le _ _ _) zl
    have l4 : okG (tl (Str.ofString "?" ++ cutS z (some 1) none ++ Str.ofString "*")) ∧ (tl (Str.ofString "?" ++ cutS z (some 1) none ++ Str.ofString "*")).length ≤ 40 := by
      rw [tl_app, tl_app]
      exact ⟨⟨by show 63 :: _ ≠ []; simp, ap (ap w4 fun c m => zo c (cut_mem _ _ _ c m)) w3⟩, by rw [List.length_append, List.length_append]; show (1 + _) + 1 ≤ _; omega⟩
    have lc2 : (tl (cutS z (some (-1)) none)).length ≤ 8 := Nat.le_trans (cut_le _ _ _) zl
    have l5 : okG (tl (Str.ofString "*" ++ cutS z (some (-1)) none ++ Str.ofString "?*")) ∧ (tl (Str.ofString "*" ++ cutS z (some (-1)) none ++ Str.ofString "?*")).length ≤ 40 := by
      rw [tl_app, tl_app]
      exact ⟨⟨by show 42 :: _ ≠ []; simp, ap (ap w3 fun c m => zo c (cut_mem _ _ _ c m)) w5⟩, by rw [List.length_append, List.length_append]; show (1 + _) + 2 ≤ _; omega⟩
    have l6 : okG (tl (z ++ Str.ofString ".?*")) ∧ (tl (z ++ Str.ofString ".?*")).length ≤ 40 := by
      rw [tl_app]; exact ⟨⟨fun e => zn (List.append_eq_nil_iff.mp e).1, ap zo w6⟩, by rw [List.length_append]; show _ + 3 ≤ _; omega⟩
    refine ⟨_, rfl, _, _, rfl, rfl, small _ (by rw [tl_len, tl_len]; show _ + 2 ≤ _; omega), _, rfl, _, _, rfl, rfl, small _ (by rw [tl_len, tl_len]; show 2 + _ ≤ _; omega), _, rfl, _, _, rfl, rfl, small _ (by rw [tl_len, tl_len]; show _ + 1 ≤ _; omega), ?_⟩
    refine ⟨_, rfl, 1, rfl, z, rfl, small _ (by omega), _, _, rfl, rfl, small _ (by rw [tl_len, tl_len]; show 1 + _ ≤ _; omega), _, _, rfl, rfl, small _ (by rw [tl_len, tl_len, tl_app, List.length_append]; show (1 + _) + 1 ≤ _; omega), by show 5 ≤ sizeLine; decide, fun M hM => ?_⟩
    have n1 := same_new (o := HO.lst ([x, z ++ Str.ofString ".*", Str.ofString "*." ++ z, z ++ Str.ofString "*", Str.ofString "?" ++ cutS z (some 1) none ++ Str.ofString "*"].map V.str)) hM
    refine ⟨_, rfl, _, rfl, _, rfl, 1, rfl, -1, rfl, z, rfl, small _ (by omega), _, _, rfl, rfl, small _ (by rw [tl_len, tl_len]; show 1 + _ ≤ _; omega), _, _, rfl, rfl, small _ (by rw [tl_len, tl_len, tl_app, List.length_append]; show (1 + _) + 2 ≤ _; omega), _, rfl, _, _, rfl, rfl, small _ (by rw [tl_len, tl_len]; show _ + 3 ≤ _; omega), by show 3 ≤ sizeLine; decide, fun N hN => ?_⟩
    have n2 := same_new (o := HO.lst ([Str.ofString "*" ++ cutS z (some (-1)) none ++ Str.ofString "?*", z ++ Str.ofString ".?*", Str.ofString "*"].map V.str)) hN
    refine ⟨M, N, _, _, rfl, rfl, n2 _ _ upd_same, upd_same, by show 5 + 3 ≤ sizeLine; decide, fun R hR => ?_⟩
    have n3 := same_new (o := HO.lst (([x, z ++ Str.ofString ".*", Str.ofString "*." ++ z, z ++ Str.ofString "*", Str.ofString "?" ++ cutS z (some 1) none ++ Str.ofString "*"] ++ [Str.ofString "*" ++ cutS z (some (-1)) none ++ Str.ofString "?*", z ++ Str.ofString ".?*", Str.ofString "*"]).map V.str)) hR
    have S3 := ((S2.ext n1).ext n2).ext n3
    refine .inl ⟨s, a, R, ([x, z ++ Str.ofString ".*", Str.ofString "*." ++ z, z ++ Str.ofString "*", Str.ofString "?" ++ cutS z (some 1) none ++ Str.ofString "*"] ++ [Str.ofString "*" ++ cutS z (some (-1)) none ++ Str.ofString "?*", z ++ Str.ofString ".?*", Str.ofString "*"]).map V.str, c + 8, rfl, SqL.of upd_same, (((S2.ext n1).ext n2).ne hR), by simp, by show 8 ≤ 100000; decide, S3, fun w H4 wm x4 S4 => ?_⟩
    obtain ⟨y, ym, rfl⟩ := List.mem_map.mp wm
    have yy : okG (tl y) ∧ (tl y).length ≤ 40 := by
      simp only [List.mem_append, List.mem_cons, List.not_mem_nil, or_false] at ym
      rcases ym with (e | e | e | e | e) | (e | e | e) <;> subst e
      · exact ⟨⟨xn, xB.okc⟩, by omega⟩
      · exact l1
      · exact l2
      · exact l3
      · exact l4
      · exact l5
      · exact l6
      · exact ⟨⟨by decide, w3⟩, by decide⟩
    exact q y H4 yy.1 yy.2 (x1.trans (x2.trans ((Ext.of (n1.trans (n2.trans n3))).trans x4))) (S4.mono (by omega))
end
section
variable {P : Program} {w : World} {K : PySem.W.Frag} {mg : Str → Option Value} {base : Heap}
theorem ok__law_pattern (D : Df K mg "_law_pattern" s__law_pattern ["source", "words"]) (T : Tx mg)  (C__law_draw : Cal P w K mg base "_law_draw" ["source", "many"] 2 sp__law_draw) (C__law_glob : Cal P w K mg base "_law_glob" ["source", "words"] 5 (sp2__law_glob K)) : Cal P w K mg base "_law_pattern" ["source", "words"] 6 (sp2__law_pattern K) := by
  obtain ⟨f__law_draw, fd__law_draw, G__law_draw, g__law_draw, k__law_draw, b__law_draw⟩ := C__law_draw
  obtain ⟨f__law_glob, fd__law_glob, G__law_glob, g__law_glob, k__law_glob, b__law_glob⟩ := C__law_glob
  obtain ⟨f, fd, F, gf, bf⟩ := D
  refine ⟨f, fd, F.ok sc__law_pattern (fun vs H Q E h => ?_) (fun cdv A outer s₀ H vs Q E hr h => ?_), gf, F.kp, bf⟩
  · obtain ⟨s, a, u, us, c, rfl, _⟩ := h; rfl
  · obtain ⟨s, a, u, us, c, rfl, hU, hus, hW, hS, q⟩ := h
    refine ⟨_, (pss_cons (ps_set (i := 2) sc__law_pattern.nd rfl (Or.inl rfl) (pe_op op_add pe_int (pe_call G__law_draw (hr.mono (by decide)) (by rfl) g__law_draw k__law_draw b__law_draw .nil pass0 (pa_cons (pv 0) (pa_cons pe_int pa_nil)))))
      (pss_cons (ps_setLc (i := 3) (own := [("k", 4)]) (g := gName 4) (tt := tYes) rfl sc__law_pattern.nd rfl rfl (sw_true rfl rfl rfl (by decide +kernel)) (pi_range1 (by rfl) T.n_range (pa_cons (pv 2) pa_nil)) (blkOk_by (own := [("k", 4)]) (N := N__law_pattern) (sc := defScope s__law_pattern) (by decide +kernel)) (fun _ _ _ _ _ => pg_name (i := 4) sc__law_pattern.nd rfl (Or.inl rfl)) (fun _ _ _ _ _ => pts_nil) (fun _ _ _ _ _ => (pe_op op_add_str (pe_ix (ix_listQ (K := K) rfl) (pe_lst (pa_cons pe_str (pa_cons pe_str pa_nil))) (pe_callTy call_int1 (by rfl) T.n_int (by decide +kernel) (pa_cons (pe_and (pe_cmpR op_gt (pv 4) pe_int (nomark _)) (pe_one (pe_cmpR op_eq (pe_call G__law_draw (hr.mono (by decide)) (by rfl) g__law_draw k__law_draw b__law_draw .nil pass0 (pa_cons (pv 0) (pa_cons pe_int pa_nil))) pe_int (nomark _)))) pa_nil)) (fun _ _ => rfl)) (pe_call G__law_glob (hr.mono (by decide)) (by rfl) g__law_glob k__law_glob b__law_glob .nil pass0 (pa_cons (pv 0) (pa_cons (pv 1) pa_nil))))))
      (pss_cons (ps_while PassesOwn.never (PW.pt (pw_and (pt_cmpR op_gt (pe_callB call_len_seq (by rfl) T.n_len PySem.boot_len (pa_cons (pv 3) pa_nil)) pe_int (nomark _)) (pw_and1 (pt_cmpR op_gt (pe_callB call_lenS (by rfl) T.n_len PySem.boot_len (pa_cons (pe_join pe_str (pv 3)) pa_nil)) pe_int (nomark _)))))
      (pss_one (ps_expr (pe_bm0 PySem.F.plainAttrs_list PySem.F.slot_list_pop PySem.F.type_list_pop mt_pop (pv 3)))))
      (pss_one (ps_ret (pe_join pe_str (pv 3))))))), ?_⟩
    have small : ∀ n : Nat, n ≤ 30000 → n ≤ sizeLine := fun n h => Nat.le_trans h (by decide)
    refine ⟨_, rfl, s, a, _, c + 199, rfl, by decide, by decide, hS, fun v H1 v0 v1 x1 S1 => ?_⟩
    refine ⟨_, _, rfl, rfl, ?_⟩
    refine ⟨_, rfl, _, rfl, by omega, by omega, fun D hD => ?_⟩
    refine lc_strs (n := (1 + v).toNat) (d := 22) (c := c) (fun x => goodItem (tl x) = true ∧ (tl x).length ≤ 41) hD (S1.mono (by omega)) (by omega) (fun _ => rfl) (fun i c' Hx R hi hE' hS' k => ?_) (fun xs H3 hx3 hl3 hA3 hE3 hS3 => ?_)
    · have fin : ∀ (z : Str) (H4 : Hp), (z = Str.ofString "" ∨ z = Str.ofString "!") → Ext s Hx H4 → Src H4 s a (c' + 20) → ∀ (g : Str) (H5 : Hp), okG (tl g) → (tl g).length ≤ 40 → Ext s H4 H5 → Src H5 s a c' → z.length + g.length ≤ sizeLine ∧ R (.str (z ++ g)) H5 := fun z H4 zz x4 S4 g H5 go gl x5 S5 => by
        have zl : (tl z).length ≤ 1 := by rcases zz with e | e <;> subst e <;> decide
        refine ⟨small _ (by rw [tl_len, tl_len]; omega), k _ H5 ⟨?_, by rw [tl_app, List.length_append]; omega⟩ (x4.trans x5) S5⟩
        rw [tl_app]
        rcases zz with e | e <;> subst e
        · exact (good_glob go).1
        · exact (good_glob go).2
      refine ⟨by show 2 ≤ sizeLine; decide, fun p hp => ?_⟩
      have S2 := hS'.new (o := HO.lst ([Str.ofString "", Str.ofString "!"].map V.str)) hp
      have ps := hS'.ne hp
      refine ⟨_, rfl, _, _, rfl, rfl, _, rfl, ite2 (fun _ => ?_) (fun _ => ?_)⟩
      · refine ⟨_, rfl, s, a, _, c' + 21, rfl, by decide, by decide, S2, fun w H4 w0 w1 x4 S4 => ?_⟩
        obtain ⟨z, zm, ez⟩ := strs_at [Str.ofString "", Str.ofString "!"] (v := if decide (V.int w = V.int 1) = true then 1 else 0) (by split <;> decide) (by split <;> decide)
        have zl : z = Str.ofString "" ∨ z = Str.ofString "!" := by
          rcases List.mem_cons.mp zm with e | e
          · exact .inl e
          · exact .inr (List.mem_singleton.mp e)
        refine ⟨rfl, .inr ⟨_, rfl, p, _, _, _, rfl, rfl, SqL.of (x4 _ _ ps upd_same), ez, ?_⟩⟩
        have xx := hE'.trans ((Ext.new hp).trans x4)
        refine ⟨_, rfl, _, rfl, s, a, u, us, c', rfl, xx.seqL hus (x1.seqL hus hU), hus, hW, S4.mono (by omega), fun g H5 go gl x5 S5 => ?_⟩
        obtain ⟨f1, f2⟩ := fin z H4 zl ((Ext.new hp).trans x4) (S4.mono (by omega)) g H5 go gl x5 S5
        exact ⟨_, _, rfl, rfl, f1, f2⟩
      · refine .inr ⟨_, rfl, p, _, _, .str (Str.ofString ""), rfl, rfl, SqL.of upd_same, rfl, ?_⟩
        have xx := hE'.trans (Ext.new (o := HO.lst ([Str.ofString "", Str.ofString "!"].map V.str)) (s := s) hp)
        refine ⟨_, rfl, _, rfl, s, a, u, us, c', rfl, xx.seqL hus (x1.seqL hus hU), hus, hW, S2.mono (by omega), fun g H5 go gl x5 S5 => ?_⟩
        obtain ⟨f1, f2⟩ := fin (Str.ofString "") _ (.inl rfl) (Ext.new hp) (S2.mono (by omega)) g H5 go gl x5 S5
        exact ⟨_, _, rfl, rfl, f1, f2⟩
    have Ds := S1.ne hD
    have Da := S1.nea hD
    have jl : ∀ ys : List Str, (∀ x ∈ ys, goodItem (tl x) = true ∧ (tl x).length ≤ 41) → ys.length ≤ 3 → (tl (Txt.join (Str.ofString ",") ys)).length ≤ 130 := fun ys hy hl => by
      rw [tl_joinS]
      refine Nat.le_trans (joinL_len (n := 41) fun l m => ?_) ?_
      · obtain ⟨x, hx, rfl⟩ := List.mem_map.mp m
        exact (hy x hx).2
      · rw [List.length_map]; show ys.length * (41 + 1) ≤ 130; omega
    have jg : ∀ ys : List Str, (∀ x ∈ ys, goodItem (tl x) = true ∧ (tl x).length ≤ 41) → ys ≠ [] → GP (tl (Txt.join (Str.ofString ",") ys)) := fun ys hy hn => by
      rw [tl_joinS]
      refine GP.join (fun e => hn (List.map_eq_nil_iff.mp e)) fun it m => ?_
      obtain ⟨x, hx, rfl⟩ := List.mem_map.mp m
      exact (hy x hx).1
    have js : ∀ ys : List Str, (∀ x ∈ ys, goodItem (tl x) = true ∧ (tl x).length ≤ 41) → ys.length ≤ 3 → (ys.map (·.length)).sum + ys.length * (Str.ofString ",").length ≤ 16777216 := fun ys hy hl => by
      have := sum_len (n := 41) fun x m => (hy x m).2
      show _ + ys.length * 1 ≤ _; omega
    refine ⟨fun n σ H' => ∃ ys : List Str, σ = [some (.ref s), some (.ref u), some (.int (1 + v)), some (.ref D), none] ∧ H' D = some (.lst (ys.map V.str)) ∧ (∀ x ∈ ys, goodItem (tl x) = true ∧ (tl x).length ≤ 41) ∧ ys.length ≤ 3 ∧ ys ≠ [] ∧ Ext s H H' ∧ Src H' s a c ∧ n = ys.length, ⟨_, xs, rfl, hx3, hA3, by omega, (fun e => by rw [e] at hl3; simp at hl3; omega), x1.trans hE3, hS3, rfl⟩, ?_⟩
    rintro n σ H' ⟨ys, rfl, hy, yA, yl, yn, hE, hS', rfl⟩
    have fin : ∃ a_1, [some (V.ref s), some (V.ref u), some (V.int (1 + v)), some (V.ref D), none][3]? = some (some a_1) ∧ ∃ a p zs, V.str (Str.ofString ",") = V.str a ∧ [a_1] = [V.ref p] ∧ (SqL K H' p (zs.map V.str) ∨ SqT K H' p (zs.map V.str)) ∧ (zs.map (·.length)).sum + zs.length * a.length ≤ 16777216 ∧ Q (V.str (Txt.join a zs)) H' := ⟨_, rfl, _, D, ys, rfl, rfl, .inl (SqL.of hy), js ys yA yl, q _ H' (jg ys yA yn) (jl ys yA yl) hE hS'⟩
    refine ⟨_, rfl, D, _, rfl, .inl (SqL.of hy), _, _, rfl, rfl, _, rfl, ite2 (fun c1 => ?_) (fun c1 => iteF ⟨⟨_, rfl⟩, fin⟩)⟩
    have y1 : 1 < ys.length := by have := of_decide_eq_true c1; rw [List.length_map] at this; omega
    have ll : (tl (Txt.join (Str.ofString ",") ys)).length ≤ 130 := jl ys yA yl
    refine ⟨⟨_, rfl⟩, _, rfl, _, D, ys, rfl, rfl, .inl (SqL.of hy), js ys yA yl, _, rfl, small _ (by rw [tl_len]; omega), _, _, rfl, rfl, _, rfl, ite2 (fun c2 => ?_) (fun c2 => ⟨⟨_, rfl⟩, fin⟩)⟩
    refine ⟨fun σ2 H2 => ∃ m', m' < ys.length ∧ ∃ ys : List Str, σ2 = [some (.ref s), some (.ref u), some (.int (1 + v)), some (.ref D), none] ∧ H2 D = some (.lst (ys.map V.str)) ∧ (∀ x ∈ ys, goodItem (tl x) = true ∧ (tl x).length ≤ 41) ∧ ys.length ≤ 3 ∧ ys ≠ [] ∧ Ext s H H2 ∧ Src H2 s a c ∧ m' = ys.length, fun σ2 H2 h => h, ?_⟩
    obtain ⟨r, z, e⟩ : ∃ r z, ys = r ++ [z] := ⟨ys.dropLast, ys.getLast (by intro e; rw [e] at y1; simp at y1), (List.dropLast_concat_getLast _).symm⟩
    subst e
    refine ⟨_, rfl, .inl ⟨rfl, _, SqL.of hy⟩, D, _, .str z, rfl, rfl, hy, ?_, ?_⟩
    · rw [List.map_append, List.length_append, List.length_map]
      show (r.map V.str ++ [V.str z])[r.length + 1 - 1]? = _
      rw [Nat.add_sub_cancel, List.getElem?_append_right (by rw [List.length_map]; exact Nat.le_refl _), List.length_map, Nat.sub_self]; rfl
    · have ed : ((r ++ [z]).map V.str).dropLast = r.map V.str := by rw [List.map_append]; exact List.dropLast_concat
      rw [ed]
      rw [List.length_append] at y1 yl
      refine ⟨_, ?_, r, rfl, upd_same, fun x hx => yA x (List.mem_append_left _ hx), by omega, (fun e => by rw [e] at y1; simp at y1), fun b o hb hh => ?_, hS'.put Ds Da, rfl⟩
      · rw [List.length_append]; show _ < _ + 1; omega
      · have : H1 D = none := hD
        have hh1 := x1 _ _ hb hh
        rw [upd_ne (ne_of_none hh1 hD)]; exact hE _ _ hb hh
end
section
variable {P : Program} {w : World} {K : PySem.W.Frag} {mg : Str → Option Value} {base : Heap}
theorem ok__law_boards (D : Df K mg "_law_boards" s__law_boards ["source", "words", "most"]) (T : Tx mg)  (C__law_board : Cal P w K mg base "_law_board" ["source", "words"] 4 (sp2__law_board K)) (C__law_draw : Cal P w K mg base "_law_draw" ["source", "many"] 2 sp__law_draw) : Cal P w K mg base "_law_boards" ["source", "words", "most"] 5 (sp2__law_boards K) := by
  obtain ⟨f__law_board, fd__law_board, G__law_board, g__law_board, k__law_board, b__law_board⟩ := C__law_board
  obtain ⟨f__law_draw, fd__law_draw, G__law_draw, g__law_draw, k__law_draw, b__law_draw⟩ := C__law_draw
  obtain ⟨f, fd, F, gf, bf⟩ := D
  refine ⟨f, fd, F.ok sc__law_boards (fun vs H Q E h => ?_) (fun cdv A outer s₀ H vs Q E hr h => ?_), gf, F.kp, bf⟩
  · obtain ⟨s, a, u, us, m, c, rfl, _⟩ := h; rfl
  · obtain ⟨s, a, u, us, m, c, rfl, hU, hus, hW, m0, m1, hS, q⟩ := h
    refine ⟨_, (pss_cons (ps_set (i := 3) sc__law_boards.nd rfl (Or.inl rfl) (pe_lst pa_nil))
      (pss_cons (ps_for PassesOwn.never rfl (pi_range1 (by rfl) T.n_range (pa_cons (pe_op op_add pe_int (pe_call G__law_draw (hr.mono (by decide)) (by rfl) g__law_draw k__law_draw b__law_draw .nil pass0 (pa_cons (pv 0) (pa_cons (pv 2) pa_nil)))) pa_nil)) (pg_name (i := 4) sc__law_boards.nd rfl (Or.inl rfl))
      (pss_cons (ps_set (i := 5) sc__law_boards.nd rfl (Or.inl rfl) (pe_call G__law_board (hr.mono (by decide)) (by rfl) g__law_board k__law_board b__law_board .nil pass0 (pa_cons (pv 0) (pa_cons (pv 1) pa_nil))))
        (pss_one (ps_if (pt_cmpR op_notIn_seq (pv 5) (pv 3) (by rfl))
        (pss_one (ps_expr (pe_bm PySem.F.plainAttrs_list PySem.F.slot_list_append PySem.F.type_list_append mt_append (pv 3) (pa_cons (pv 5) pa_nil))))
        pss_nil))))
      (pss_one (ps_ret (pe_callTy call_tuple_of (by rfl) T.n_tuple (by decide +kernel) (pa_cons (pv 3) pa_nil)))))), ?_⟩
    refine ⟨Nat.zero_le _, fun L hL => ?_⟩
    have Ls := hS.ne hL
    have La := hS.nea hL
    refine ⟨_, rfl, _, rfl, s, a, m, c + 190, rfl, m0, by omega, (hS.new hL).mono (by omega), fun v H1 v0 v1 x1 S1 => ?_⟩
    refine ⟨_, _, rfl, rfl, _, rfl, by omega, by omega, ?_⟩
    refine for_range (lo := 0) (n := (1 + v).toNat) (fun i σ H' => ∃ (bs : List Str) (v4 v5 : Option V), σ = [some (.ref s), some (.ref u), some (.int m), some (.ref L), v4, v5] ∧ H' L = some (.lst (bs.map V.str)) ∧ bs.length ≤ i ∧ (∀ x ∈ bs, Bdc (tl x) ∧ (tl x).length ≤ 30) ∧ Ext s H H' ∧ Src H' s a (c + (190 - 15 * i))) ?_ ?_ ?_
    · exact ⟨[], _, _, rfl, x1 _ _ Ls upd_same, Nat.le_refl _, (fun _ h => by cases h), (Ext.new hL).trans x1, S1.mono (by omega)⟩
    · rintro i σ H' hi ⟨bs, v4, v5, rfl, hl, l1, hB, hE, hS'⟩
      refine ⟨_, rfl, _, rfl, s, a, u, us, c + (190 - 15 * i) - 10, rfl, hE.seqL hus hU, hus, hW, hS'.mono (by omega), fun x H2 xB xn xl x2 S2 => ?_⟩
      have hl2 := x2 _ _ Ls hl
      refine ⟨_, rfl, _, rfl, L, _, rfl, .inl (SqL.of hl2), rfl, flat_strs bs, _, rfl, ite2 (fun _ => ?_) (fun _ => ⟨bs, _, _, rfl, hl2, by omega, hB, hE.trans x2, S2.mono (by omega)⟩)⟩
      refine ⟨_, rfl, .inl ⟨rfl, _, SqL.of hl2⟩, _, rfl, L, _, _, rfl, rfl, hl2, ?_, ?_⟩
      · rw [List.length_map]; exact small1000 (by omega)
      · refine ⟨bs ++ [x], _, _, rfl, by rw [upd_same, List.map_append]; rfl, by rw [List.length_append]; show _ + 1 ≤ _; omega, fun y hy => ?_, fun b o hb hh => ?_, (S2.put Ls La).mono (by omega)⟩
        · rcases List.mem_append.mp hy with h | h
          · exact hB y h
          · rw [List.mem_singleton.mp h]; exact ⟨xB, xl⟩
        · rw [upd_ne (ne_of_none hh hL)]; exact x2 _ _ hb (hE _ _ hb hh)
    · rintro σ H' ⟨bs, v4, v5, rfl, hl, l1, hB, hE, hS'⟩
      refine ⟨_, rfl, L, _, rfl, .inl ⟨SqL.of hl, fun t ht => ?_⟩⟩
      exact q t bs _ upd_same (by omega) hB (hE.trans (Ext.new ht)) ((hS'.new ht).mono (by omega))
end

end Z
namespace Z
open PySem L2 SX
theorem filt_step {α : Type} {p : α → Bool} {l : List α} {i : Nat} {x : α} (e : l[i]? = some x) : (l.take (i + 1)).filter p = (l.take i).filter p ++ (if p x = true then [x] else []) := by
  rw [List.take_add_one, e, List.filter_append]
  show _ ++ [x].filter p = _
  congr 1
  by_cases h : p x = true
  · rw [if_pos h, List.filter_cons_of_pos h]; rfl
  · rw [if_neg h, List.filter_cons_of_neg h]; rfl
theorem sealF_none {b : Bk} {acc : List Str} {d : Str} (h : stwOf b (tl d) = none) : sealF b acc d = acc := by unfold sealF; rw [h]
theorem sealF_some {b : Bk} {acc : List Str} {d : Str} {s : Sw} (h : stwOf b (tl d) = some s) : sealF b acc d = if s.a ∈ acc then acc else acc ++ [s.a] := by unfold sealF; rw [h]
theorem seals_step {b : Bk} {bs : List Str} {i : Nat} {d : Str} (e : bs[i]? = some d) : sealsL b (bs.take (i + 1)) = sealF b (sealsL b (bs.take i)) d := by
  unfold sealsL
  rw [List.take_add_one, e, List.foldl_append]; rfl
theorem str_eq {x y : Str} (h : decide (V.str x = V.str y) = true) : x = y := by injection of_decide_eq_true h
theorem str_ne {x y : Str} (h : ¬ decide (V.str x = V.str y) = true) : decide (x = y) = false := decide_eq_false fun e => h (decide_eq_true (by rw [e]))
theorem DV_str {K : PySem.W.Frag} {H : Hp} {v : V} {x : Str} (h : DV K H (.str x) v) : v = .str x := by unfold DV at h; exact h
theorem DV_non {K : PySem.W.Frag} {H : Hp} {v : V} (h : DV K H .non v) : v = .non := by unfold DV at h; exact h
section
variable {P : Program} {w : World} {K : PySem.W.Frag} {mg : Str → Option Value} {base : Heap}
theorem ok_steward_of (D : Df K mg "steward_of" s_steward_of ["book", "board"]) (T : Tx mg)  (C_lets : Cal P w K mg base "lets" ["pattern", "board"] 5 (sp_lets K)) : Cal P w K mg base "steward_of" ["book", "board"] 6 (sp_steward_of K) := by
  obtain ⟨f_lets, fd_lets, G_lets, g_lets, k_lets, b_lets⟩ := C_lets
  obtain ⟨f, fd, F, gf, bf⟩ := D
  refine ⟨f, fd, F.ok sc_steward_of (fun vs H Q E h => ?_) (fun cdv A outer s₀ H vs Q E hr h => ?_), gf, F.kp, bf⟩
  · obtain ⟨b, v, d, rfl, _⟩ := h; rfl
  · obtain ⟨b, v, d, rfl, hb, ok, cl, q⟩ := h
    refine ⟨_, (pss_cons (ps_for PassesOwn.never rfl (pi_tup (pe_ix ix_tup (pv 0) pe_int (fun _ _ => rfl))) (pg_name (i := 2) sc_steward_of.nd rfl (Or.inl rfl))
      (pss_one (ps_if (pt_val (pe_call G_lets (hr.mono (by decide)) (by rfl) g_lets k_lets b_lets .nil pass0 (pa_cons (pe_ix ix_tup (pv 2) pe_int (fun _ _ => rfl)) (pa_cons (pv 1) pa_nil))))
        (pss_one (ps_ret (pe_ix ix_tup (pv 2) pe_int (fun _ _ => rfl))))
        pss_nil)))
      (pss_one (ps_ret pe_non))), ?_⟩
    obtain ⟨ba, bus, c, ws, rfl, hB, e3, hC, hw⟩ := DV.sub (i := 6) (es := b.sw.map swD) hb rfl
    refine ⟨_, rfl, ba, bus, 6, .ref c, rfl, rfl, hB, atI_nat (j := 6) e3, c, rfl, ⟨_, hC⟩, ?_⟩
    refine for_tup (K := K) (a := c) (xs := ws) (fun i σ H' => (∃ v2 : Option V, σ = [some (.ref ba), some (.str d), v2]) ∧ Same H H' ∧ (b.sw.take i).find? (fun s => letsL (parts (tl s.p)) (tl d)) = none) ⟨⟨_, rfl⟩, Same.refl _, rfl⟩ (fun i σ H' _ h => h.2.1.tup hC) ?_ ?_
    · rintro i x σ H' hi ⟨⟨v2, rfl⟩, hM, hN⟩
      obtain ⟨si, hsi, dx⟩ := hw.map_get hi
      obtain ⟨sa, sus, rfl, hS, e1⟩ := DV.leafS (i := 1) (x := si.p) dx rfl
      obtain ⟨_, sus', e, hS2, e2⟩ := DV.leafS (i := 2) (x := si.a) dx rfl
      cases e
      refine ⟨_, rfl, sa, sus, 1, _, rfl, rfl, hM.tup hS, atI_nat (j := 1) e1, _, rfl, si.p, d, rfl, ok.wp si (List.mem_of_getElem? hsi), cl, fun H2 m2 => ⟨_, rfl, ite2 (fun cc => ?_) (fun cc => ?_)⟩⟩
      · have hf : stwOf b (tl d) = some si := find_hit hN hsi cc
        exact ⟨_, rfl, sa, sus', 2, _, rfl, rfl, (hM.trans m2).tup hS2, atI_nat (j := 2) e2, q _ _ (hM.trans m2) (by rw [hf]; show DV K _ (.str _) _; unfold DV; rfl)⟩
      · exact ⟨⟨_, rfl⟩, hM.trans m2, find_step hN hsi (by simpa using cc)⟩
    · rintro σ H' ⟨⟨v2, rfl⟩, hM, hN⟩
      rw [hw.map_len, List.take_length] at hN
      exact q _ _ hM (by rw [show stwOf b (tl d) = none from hN]; unfold optD DV; rfl)
end
section
variable {P : Program} {w : World} {K : PySem.W.Frag} {mg : Str → Option Value} {base : Heap}
theorem ok__law_steward (D : Df K mg "_law_steward" s__law_steward ["book", "board"]) (T : Tx mg)  (C__law_lets : Cal P w K mg base "_law_lets" ["pattern", "board"] 2 (sp__law_lets K)) : Cal P w K mg base "_law_steward" ["book", "board"] 3 (sp_steward_of K) := by
  obtain ⟨f__law_lets, fd__law_lets, G__law_lets, g__law_lets, k__law_lets, b__law_lets⟩ := C__law_lets
  obtain ⟨f, fd, F, gf, bf⟩ := D
  refine ⟨f, fd, F.ok sc__law_steward (fun vs H Q E h => ?_) (fun cdv A outer s₀ H vs Q E hr h => ?_), gf, F.kp, bf⟩
  · obtain ⟨b, v, d, rfl, _⟩ := h; rfl
  · obtain ⟨b, v, d, rfl, hb, ok, cl, q⟩ := h
    refine ⟨_, (pss_cons (ps_for PassesOwn.never rfl (pi_tup (pe_ix ix_tup (pv 0) pe_int (fun _ _ => rfl))) (pg_name (i := 2) sc__law_steward.nd rfl (Or.inl rfl))
      (pss_one (ps_if (pt_val (pe_call G__law_lets (hr.mono (by decide)) (by rfl) g__law_lets k__law_lets b__law_lets .nil pass0 (pa_cons (pe_ix ix_tup (pv 2) pe_int (fun _ _ => rfl)) (pa_cons (pv 1) pa_nil))))
        (pss_one (ps_ret (pe_ix ix_tup (pv 2) pe_int (fun _ _ => rfl))))
        pss_nil)))
      (pss_one (ps_ret pe_non))), ?_⟩
    obtain ⟨ba, bus, c, ws, rfl, hB, e3, hC, hw⟩ := DV.sub (i := 6) (es := b.sw.map swD) hb rfl
    refine ⟨_, rfl, ba, bus, 6, .ref c, rfl, rfl, hB, atI_nat (j := 6) e3, c, rfl, ⟨_, hC⟩, ?_⟩
    refine for_tup (K := K) (a := c) (xs := ws) (fun i σ H' => (∃ v2 : Option V, σ = [some (.ref ba), some (.str d), v2]) ∧ Same H H' ∧ (b.sw.take i).find? (fun s => letsL (parts (tl s.p)) (tl d)) = none) ⟨⟨_, rfl⟩, Same.refl _, rfl⟩ (fun i σ H' _ h => h.2.1.tup hC) ?_ ?_
    · rintro i x σ H' hi ⟨⟨v2, rfl⟩, hM, hN⟩
      obtain ⟨si, hsi, dx⟩ := hw.map_get hi
      obtain ⟨sa, sus, rfl, hS, e1⟩ := DV.leafS (i := 1) (x := si.p) dx rfl
      obtain ⟨_, sus', e, hS2, e2⟩ := DV.leafS (i := 2) (x := si.a) dx rfl
      cases e
      refine ⟨_, rfl, sa, sus, 1, _, rfl, rfl, hM.tup hS, atI_nat (j := 1) e1, _, rfl, si.p, d, rfl, ok.wp si (List.mem_of_getElem? hsi), cl, fun H2 m2 => ⟨_, rfl, ite2 (fun cc => ?_) (fun cc => ?_)⟩⟩
      · have hf : stwOf b (tl d) = some si := find_hit hN hsi cc
        exact ⟨_, rfl, sa, sus', 2, _, rfl, rfl, (hM.trans m2).tup hS2, atI_nat (j := 2) e2, q _ _ (hM.trans m2) (by rw [hf]; show DV K _ (.str _) _; unfold DV; rfl)⟩
      · exact ⟨⟨_, rfl⟩, hM.trans m2, find_step hN hsi (by simpa using cc)⟩
    · rintro σ H' ⟨⟨v2, rfl⟩, hM, hN⟩
      rw [hw.map_len, List.take_length] at hN
      exact q _ _ hM (by rw [show stwOf b (tl d) = none from hN]; unfold optD DV; rfl)
end

end Z
namespace Z
open PySem L2 SX
theorem iteGo {c : Bool} {A B : Prop} (h : c = true) (a : A) : if c = true then A else B := by rw [if_pos h]; exact a
theorem iteNo {c : Bool} {A B : Prop} (h : c = false) (b : B) : if c = true then A else B := by rw [if_neg (by rw [h]; exact Bool.false_ne_true)]; exact b
section
variable {P : Program} {w : World} {K : PySem.W.Frag} {mg : Str → Option Value} {base : Heap}
theorem ok_needed_seals (D : Df K mg "needed_seals" s_needed_seals ["book", "boards"]) (T : Tx mg)  (C_steward_of : Cal P w K mg base "steward_of" ["book", "board"] 6 (sp_steward_of K)) : Cal P w K mg base "needed_seals" ["book", "boards"] 7 (sp_seals K) := by
  obtain ⟨f_steward_of, fd_steward_of, G_steward_of, g_steward_of, k_steward_of, b_steward_of⟩ := C_steward_of
  obtain ⟨f, fd, F, gf, bf⟩ := D
  refine ⟨f, fd, F.ok sc_needed_seals (fun vs H Q E h => ?_) (fun cdv A outer s₀ H vs Q E hr h => ?_), gf, F.kp, bf⟩
  · obtain ⟨b, v, a, bs, rfl, _⟩ := h; rfl
  · obtain ⟨b, v, a, bs, rfl, hb, ok, hA, bl, bc, q⟩ := h
    refine ⟨_, (pss_cons (ps_set (i := 2) sc_needed_seals.nd rfl (Or.inl rfl) (pe_lst pa_nil))
      (pss_cons (ps_for PassesOwn.never rfl (pi_tup (pv 1)) (pg_name (i := 3) sc_needed_seals.nd rfl (Or.inl rfl))
      (pss_cons (ps_set (i := 4) sc_needed_seals.nd rfl (Or.inl rfl) (pe_call G_steward_of (hr.mono (by decide)) (by rfl) g_steward_of k_steward_of b_steward_of .nil pass0 (pa_cons (pv 0) (pa_cons (pv 3) pa_nil))))
        (pss_one (ps_if (PW.pt (pw_and (pt_cmpR op_notN (pv 4) pe_non (nomark _)) (pw_and1 (pt_cmpR op_notIn_seq (pv 4) (pv 2) (by rfl)))))
        (pss_one (ps_expr (pe_bm PySem.F.plainAttrs_list PySem.F.slot_list_append PySem.F.type_list_append mt_append (pv 2) (pa_cons (pv 4) pa_nil))))
        pss_nil))))
      (pss_one (ps_ret (pe_callTy call_tuple_of (by rfl) T.n_tuple (by decide +kernel) (pa_cons (pv 2) pa_nil)))))), ?_⟩
    refine ⟨Nat.zero_le _, fun L hL => ?_⟩
    refine ⟨_, rfl, a, rfl, ⟨_, (same_new hL).tup hA⟩, ?_⟩
    refine for_tup (K := K) (a := a) (xs := bs.map V.str) (fun i σ H' => (∃ v3 v4 : Option V, σ = [some v, some (.ref a), some (.ref L), v3, v4]) ∧ H' L = some (.lst ((sealsL b (bs.take i)).map V.str)) ∧ (sealsL b (bs.take i)).length ≤ i ∧ Same H H') ⟨⟨_, _, rfl⟩, upd_same, Nat.le_refl _, same_new hL⟩ (fun i σ H' _ h => h.2.2.2.tup hA) ?_ ?_
    · rintro i x σ H' hi ⟨⟨v3, v4, rfl⟩, h1, hl, hM⟩
      rw [List.getElem?_map] at hi
      obtain ⟨d, hd, rfl⟩ := Option.map_eq_some_iff.mp hi
      have ib := (List.getElem?_eq_some_iff.mp hd).1
      have es := seals_step (b := b) hd
      refine ⟨_, rfl, _, rfl, b, v, d, rfl, DV.tk (TK.same hM) hb, ok, bc d (List.mem_of_getElem? hd), fun u H2 m2 du => ?_⟩
      have h2 := m2 _ _ h1
      cases hs : stwOf b (tl d) with
      | none =>
        rw [hs] at du
        obtain rfl := DV_non du
        rw [sealF_none hs] at es
        refine ⟨_, rfl, rfl, _, rfl, ?_⟩
        refine iteNo (by simp) ?_
        exact iteF ⟨⟨_, _, rfl⟩, by rw [es]; exact h2, by rw [es]; omega, hM.trans m2⟩
      | some s =>
        rw [hs] at du
        obtain rfl := DV_str du
        rw [sealF_some hs] at es
        refine ⟨_, rfl, rfl, _, rfl, ?_⟩
        refine iteGo (by simp) ?_
        have ein := inV_strs s.a (sealsL b (bs.take i))
        refine ⟨_, rfl, _, rfl, L, _, rfl, .inl (SqL.of h2), rfl, flat_strs _, _, rfl, ite2 (fun cc => ?_) (fun cc => ?_)⟩
        · have cc' : (!inV (V.str s.a) ((sealsL b (bs.take i)).map V.str)) = true := cc
          rw [ein] at cc'
          have nm : s.a ∉ sealsL b (bs.take i) := by simpa using cc'
          rw [if_neg nm] at es
          refine ⟨_, rfl, .inl ⟨rfl, _, SqL.of h2⟩, _, rfl, L, _, _, rfl, rfl, h2, ?_, ⟨_, _, rfl⟩, ?_, ?_, fun bb o hh => ?_⟩
          · rw [List.length_map]; exact small1000 (by omega)
          · rw [upd_same, es, List.map_append]; rfl
          · rw [es, List.length_append]; show _ + 1 ≤ _; omega
          · rw [upd_ne (ne_of_none hh hL)]; exact (hM.trans m2) _ _ hh
        · have cc' : ¬ (!inV (V.str s.a) ((sealsL b (bs.take i)).map V.str)) = true := cc
          rw [ein] at cc'
          have nm : s.a ∈ sealsL b (bs.take i) := by simpa using cc'
          rw [if_pos nm] at es
          exact ⟨⟨_, _, rfl⟩, by rw [es]; exact h2, by rw [es]; omega, hM.trans m2⟩
    · rintro σ H' ⟨⟨v3, v4, rfl⟩, h1, hl, hM⟩
      rw [List.length_map, List.take_length] at h1
      refine ⟨_, rfl, L, _, rfl, .inl ⟨SqL.of h1, fun t ht => ?_⟩⟩
      exact q t _ (hM.trans (same_new ht)) (SqT.of upd_same)
end
section
variable {P : Program} {w : World} {K : PySem.W.Frag} {mg : Str → Option Value} {base : Heap}
theorem ok__law_needed (D : Df K mg "_law_needed" s__law_needed ["book", "boards"]) (T : Tx mg)  (C__law_steward : Cal P w K mg base "_law_steward" ["book", "board"] 3 (sp_steward_of K)) : Cal P w K mg base "_law_needed" ["book", "boards"] 4 (sp_seals K) := by
  obtain ⟨f__law_steward, fd__law_steward, G__law_steward, g__law_steward, k__law_steward, b__law_steward⟩ := C__law_steward
  obtain ⟨f, fd, F, gf, bf⟩ := D
  refine ⟨f, fd, F.ok sc__law_needed (fun vs H Q E h => ?_) (fun cdv A outer s₀ H vs Q E hr h => ?_), gf, F.kp, bf⟩
  · obtain ⟨b, v, a, bs, rfl, _⟩ := h; rfl
  · obtain ⟨b, v, a, bs, rfl, hb, ok, hA, bl, bc, q⟩ := h
    refine ⟨_, (pss_cons (ps_set (i := 2) sc__law_needed.nd rfl (Or.inl rfl) (pe_lst pa_nil))
      (pss_cons (ps_for PassesOwn.never rfl (pi_tup (pv 1)) (pg_name (i := 3) sc__law_needed.nd rfl (Or.inl rfl))
      (pss_cons (ps_set (i := 4) sc__law_needed.nd rfl (Or.inl rfl) (pe_call G__law_steward (hr.mono (by decide)) (by rfl) g__law_steward k__law_steward b__law_steward .nil pass0 (pa_cons (pv 0) (pa_cons (pv 3) pa_nil))))
        (pss_one (ps_if (PW.pt (pw_and (pt_cmpR op_notN (pv 4) pe_non (nomark _)) (pw_and1 (pt_cmpR op_notIn_seq (pv 4) (pv 2) (by rfl)))))
        (pss_one (ps_expr (pe_bm PySem.F.plainAttrs_list PySem.F.slot_list_append PySem.F.type_list_append mt_append (pv 2) (pa_cons (pv 4) pa_nil))))
        pss_nil))))
      (pss_one (ps_ret (pe_callTy call_tuple_of (by rfl) T.n_tuple (by decide +kernel) (pa_cons (pv 2) pa_nil)))))), ?_⟩
    refine ⟨Nat.zero_le _, fun L hL => ?_⟩
    refine ⟨_, rfl, a, rfl, ⟨_, (same_new hL).tup hA⟩, ?_⟩
    refine for_tup (K := K) (a := a) (xs := bs.map V.str) (fun i σ H' => (∃ v3 v4 : Option V, σ = [some v, some (.ref a), some (.ref L), v3, v4]) ∧ H' L = some (.lst ((sealsL b (bs.take i)).map V.str)) ∧ (sealsL b (bs.take i)).length ≤ i ∧ Same H H') ⟨⟨_, _, rfl⟩, upd_same, Nat.le_refl _, same_new hL⟩ (fun i σ H' _ h => h.2.2.2.tup hA) ?_ ?_
    · rintro i x σ H' hi ⟨⟨v3, v4, rfl⟩, h1, hl, hM⟩
      rw [List.getElem?_map] at hi
      obtain ⟨d, hd, rfl⟩ := Option.map_eq_some_iff.mp hi
      have ib := (List.getElem?_eq_some_iff.mp hd).1
      have es := seals_step (b := b) hd
      refine ⟨_, rfl, _, rfl, b, v, d, rfl, DV.tk (TK.same hM) hb, ok, bc d (List.mem_of_getElem? hd), fun u H2 m2 du => ?_⟩
      have h2 := m2 _ _ h1
      cases hs : stwOf b (tl d) with
      | none =>
        rw [hs] at du
        obtain rfl := DV_non du
        rw [sealF_none hs] at es
        refine ⟨_, rfl, rfl, _, rfl, ?_⟩
        refine iteNo (by simp) ?_
        exact iteF ⟨⟨_, _, rfl⟩, by rw [es]; exact h2, by rw [es]; omega, hM.trans m2⟩
      | some s =>
        rw [hs] at du
        obtain rfl := DV_str du
        rw [sealF_some hs] at es
        refine ⟨_, rfl, rfl, _, rfl, ?_⟩
        refine iteGo (by simp) ?_
        have ein := inV_strs s.a (sealsL b (bs.take i))
        refine ⟨_, rfl, _, rfl, L, _, rfl, .inl (SqL.of h2), rfl, flat_strs _, _, rfl, ite2 (fun cc => ?_) (fun cc => ?_)⟩
        · have cc' : (!inV (V.str s.a) ((sealsL b (bs.take i)).map V.str)) = true := cc
          rw [ein] at cc'
          have nm : s.a ∉ sealsL b (bs.take i) := by simpa using cc'
          rw [if_neg nm] at es
          refine ⟨_, rfl, .inl ⟨rfl, _, SqL.of h2⟩, _, rfl, L, _, _, rfl, rfl, h2, ?_, ⟨_, _, rfl⟩, ?_, ?_, fun bb o hh => ?_⟩
          · rw [List.length_map]; exact small1000 (by omega)
          · rw [upd_same, es, List.map_append]; rfl
          · rw [es, List.length_append]; show _ + 1 ≤ _; omega
          · rw [upd_ne (ne_of_none hh hL)]; exact (hM.trans m2) _ _ hh
        · have cc' : ¬ (!inV (V.str s.a) ((sealsL b (bs.take i)).map V.str)) = true := cc
          rw [ein] at cc'
          have nm : s.a ∈ sealsL b (bs.take i) := by simpa using cc'
          rw [if_pos nm] at es
          exact ⟨⟨_, _, rfl⟩, by rw [es]; exact h2, by rw [es]; omega, hM.trans m2⟩
    · rintro σ H' ⟨⟨v3, v4, rfl⟩, h1, hl, hM⟩
      rw [List.length_map, List.take_length] at h1
      refine ⟨_, rfl, L, _, rfl, .inl ⟨SqL.of h1, fun t ht => ?_⟩⟩
      exact q t _ (hM.trans (same_new ht)) (SqT.of upd_same)
end

end Z
namespace Z
open PySem L2 SX
theorem room65 {k : Nat} {A : Around} (r : Room k A) : A.units + 65 < cLine := by have := r.un; omega
abbrev LP := Addr × (Str × Str)
def LPok (s : Addr) (H : Hp) (p : LP) : Prop := p.1 ≠ s ∧ H p.1 = some (.tup [.str p.2.1, .str p.2.2]) ∧ Low (tl p.2.1) ∧ Low (tl p.2.2)
theorem LPok.ext {s : Addr} {H H' : Hp} {p : LP} (x : Ext s H H') (h : LPok s H p) : LPok s H' p := ⟨h.1, x _ _ h.1 h.2.1, h.2.2⟩
theorem LPok.upd {s : Addr} {H : Hp} {p : LP} {L : Addr} {o : HO} (e : L ≠ p.1) (h : LPok s H p) : LPok s (upd H L o) p := ⟨h.1, by rw [upd_ne e.symm]; exact h.2.1, h.2.2⟩
def lpD (p : LP) : PyData := .tuple [.str p.2.1, .str p.2.2]
theorem lp_dp {K : PySem.W.Frag} {s : Addr} {H : Hp} : ∀ {ps : List LP}, (∀ p ∈ ps, LPok s H p) → DpAll K H (ps.map fun p => V.ref p.1) (ps.map lpD)
  | [], _ => .nil
  | p :: ps, h => .cons (.tup (SqT.of (h p (by simp)).2.1) (.cons (.str _) (.cons (.str _) .nil))) (lp_dp fun q hq => h q (List.mem_cons_of_mem _ hq))
theorem lp_lay {s : Addr} {H : Hp} : ∀ {ps : List LP}, (∀ p ∈ ps, LPok s H p) → PyData.canLayAll0 (ps.map lpD) = true ∧ PyData.depthAll (ps.map lpD) ≤ 2
  | [], _ => ⟨by simp [PyData.canLayAll0], by simp [PyData.depthAll]⟩
  | p :: ps, h => by
    obtain ⟨h1, h2⟩ := lp_lay (ps := ps) fun q hq => h q (List.mem_cons_of_mem _ hq)
    obtain ⟨_, _, l1, l2⟩ := h p (by simp)
    have h3 := pair_shaped l1 l2
    have h4 := SeqAt.canLay_of_shaped h3
    have h5 : (lpD p).depth ≤ 2 := by simp [lpD, PyData.depth, PyData.depthAll]
    constructor
    · rw [List.map_cons]
      simp only [PyData.canLayAll0, h1, Bool.and_true]
      exact h4
    · rw [List.map_cons]
      simp only [PyData.depthAll]
      omega
theorem lp_shaped {s : Addr} {H : Hp} {ps : List LP} (h : ∀ p ∈ ps, LPok s H p) : SeqAt.shaped (.list (ps.map lpD)) = true := by
  obtain ⟨h1, h2⟩ := lp_lay h
  have h3 : PyData.depth (.list (ps.map lpD)) ≤ 64 := by simp only [PyData.depth]; omega
  show (PyData.canLay0 (.list (ps.map lpD)) && decide (PyData.depth (.list (ps.map lpD)) ≤ 64)) = true
  rw [Bool.and_eq_true]
  exact ⟨by simp only [PyData.canLay0]; exact h1, decide_eq_true h3⟩
theorem lp_out {K : PySem.W.Frag} {s : Addr} {H : Hp} {ps : List LP} (h : ∀ p ∈ ps, LPok s H p) : ∀ {ys : List Addr}, (∀ y ∈ ys, ∃ p ∈ ps, p.1 = y) → ∃ ls : List (Str × Str), DVs K H (ls.map lnD) (ys.map V.ref) ∧ ls.length = ys.length ∧ ∀ l ∈ ls, Low (tl l.1) ∧ Low (tl l.2)
  | [], _ => ⟨[], by unfold List.map DVs; rfl, rfl, fun _ h => by cases h⟩
  | y :: ys, k => by
    obtain ⟨ls, d, e, w⟩ := lp_out h (ys := ys) fun z hz => k z (List.mem_cons_of_mem _ hz)
    obtain ⟨p, hp, rfl⟩ := k y (by simp)
    obtain ⟨_, hh, l1, l2⟩ := h p hp
    refine ⟨p.2 :: ls, ⟨_, _, rfl, DV_pair (SqT.of hh), d⟩, by rw [List.length_cons, List.length_cons, e], fun l hl => ?_⟩
    rcases List.mem_cons.mp hl with e | e
    · rw [e]; exact ⟨l1, l2⟩
    · exact w l e
section
variable {P : Program} {w : World} {K : PySem.W.Frag} {mg : Str → Option Value} {base : Heap}
theorem ok__law_lines (D : Df K mg "_law_lines" s__law_lines ["source", "names"]) (T : Tx mg)  (C__law_draw : Cal P w K mg base "_law_draw" ["source", "many"] 2 sp__law_draw) (C__law_pick : Cal P w K mg base "_law_pick" ["source", "row"] 3 (sp3__law_pick K)) : Cal P w K mg base "_law_lines" ["source", "names"] 4 (sp_lines K) := by
  obtain ⟨f__law_draw, fd__law_draw, G__law_draw, g__law_draw, k__law_draw, b__law_draw⟩ := C__law_draw
  obtain ⟨f__law_pick, fd__law_pick, G__law_pick, g__law_pick, k__law_pick, b__law_pick⟩ := C__law_pick
  obtain ⟨f, fd, F, gf, bf⟩ := D
  refine ⟨f, fd, F.ok sc__law_lines (fun vs H Q E h => ?_) (fun cdv A outer s₀ H vs Q E hr h => ?_), gf, F.kp, bf⟩
  · obtain ⟨s, a, u, us, c, rfl, _⟩ := h; rfl
  · obtain ⟨s, a, u, us, c, rfl, hU, hus, u1, u9, uA, hS, q⟩ := h
    refine ⟨_, (pss_cons (ps_set (i := 2) sc__law_lines.nd rfl (Or.inl rfl) (pe_lst pa_nil))
      (pss_cons (ps_for PassesOwn.never rfl (pi_range2 (by rfl) T.n_range (pa_cons pe_int (pa_cons (pe_callB call_len_seq (by rfl) T.n_len PySem.boot_len (pa_cons (pv 1) pa_nil)) pa_nil))) (pg_name (i := 3) sc__law_lines.nd rfl (Or.inl rfl))
      (pss_cons (ps_set (i := 4) sc__law_lines.nd rfl (Or.inl rfl) (pe_ix ix_list (pv 1) (pe_call G__law_draw (hr.mono (by decide)) (by rfl) g__law_draw k__law_draw b__law_draw .nil pass0 (pa_cons (pv 0) (pa_cons (pv 3) pa_nil))) (fun _ _ => rfl)))
        (pss_one (ps_expr (pe_bm PySem.F.plainAttrs_list PySem.F.slot_list_append PySem.F.type_list_append mt_append (pv 2) (pa_cons (pe_tup (pa_cons (pe_callB (call_minS rfl) (by rfl) T.n_min (by decide +kernel) (pa_cons (pv 4) (pa_cons (pe_ix ix_list (pv 1) (pv 3) (fun _ _ => rfl)) pa_nil))) (pa_cons (pe_callB (call_maxS rfl) (by rfl) T.n_max (by decide +kernel) (pa_cons (pv 4) (pa_cons (pe_ix ix_list (pv 1) (pv 3) (fun _ _ => rfl)) pa_nil))) pa_nil))) pa_nil))))))
      (pss_cons (ps_for PassesOwn.never rfl (pi_range1 (by rfl) T.n_range (pa_cons (pe_call G__law_draw (hr.mono (by decide)) (by rfl) g__law_draw k__law_draw b__law_draw .nil pass0 (pa_cons (pv 0) (pa_cons (pe_callB call_len_seq (by rfl) T.n_len PySem.boot_len (pa_cons (pv 1) pa_nil)) pa_nil))) pa_nil)) (pg_name (i := 3) sc__law_lines.nd rfl (Or.inl rfl))
      (pss_cons (ps_set (i := 4) sc__law_lines.nd rfl (Or.inl rfl) (pe_call G__law_pick (hr.mono (by decide)) (by rfl) g__law_pick k__law_pick b__law_pick .nil pass0 (pa_cons (pv 0) (pa_cons (pv 1) pa_nil))))
        (pss_cons (ps_set (i := 5) sc__law_lines.nd rfl (Or.inl rfl) (pe_call G__law_pick (hr.mono (by decide)) (by rfl) g__law_pick k__law_pick b__law_pick .nil pass0 (pa_cons (pv 0) (pa_cons (pv 1) pa_nil))))
        (pss_one (ps_if (PW.pt (pw_and (pt_cmpR op_ne (pv 4) (pv 5) (nomark _)) (pw_and1 (pt_cmpR (op_notInD (room65 hr)) (pe_tup (pa_cons (pe_callB (call_minS rfl) (by rfl) T.n_min (by decide +kernel) (pa_cons (pv 4) (pa_cons (pv 5) pa_nil))) (pa_cons (pe_callB (call_maxS rfl) (by rfl) T.n_max (by decide +kernel) (pa_cons (pv 4) (pa_cons (pv 5) pa_nil))) pa_nil))) (pv 2) (by rfl)))))
        (pss_one (ps_expr (pe_bm PySem.F.plainAttrs_list PySem.F.slot_list_append PySem.F.type_list_append mt_append (pv 2) (pa_cons (pe_tup (pa_cons (pe_callB (call_minS rfl) (by rfl) T.n_min (by decide +kernel) (pa_cons (pv 4) (pa_cons (pv 5) pa_nil))) (pa_cons (pe_callB (call_maxS rfl) (by rfl) T.n_max (by decide +kernel) (pa_cons (pv 4) (pa_cons (pv 5) pa_nil))) pa_nil))) pa_nil))))
        pss_nil)))))
      (pss_one (ps_ret (pe_callB (cr_sortedX (shape := fun _ => true)) (by rfl) T.n_sorted (by decide +kernel) (pa_cons (pv 2) pa_nil))))))), ?_⟩
    refine ⟨Nat.zero_le _, fun L hL => ?_⟩
    have Ls := hS.ne hL
    have La := hS.nea hL
    have keep : ∀ {H1 : Hp} (o : HO), Ext s H H1 → Ext s H (upd H1 L o) := fun o x b w hb hh => by
      rw [upd_ne (ne_of_none hh hL)]; exact x _ _ hb hh
    -- a pair is put at the end
    have put : ∀ (ps : List LP) (H1 : Hp) (x y : Str) (t : Addr) (c' : Nat), x ∈ us → y ∈ us → H1 L = some (.lst (ps.map fun p => V.ref p.1)) → (∀ p ∈ ps, LPok s H1 p) → Ext s H H1 → Src H1 s a c' → H1 t = none →
        (upd H1 t (HO.tup [V.str x, V.str y])) L = some (.lst (ps.map fun p => V.ref p.1)) ∧
        (upd (upd H1 t (HO.tup [V.str x, V.str y])) L (HO.lst ((ps.map fun p => V.ref p.1) ++ [V.ref t]))) L = some (.lst ((ps ++ [(t, (x, y))]).map fun p => V.ref p.1)) ∧
        (∀ p ∈ ps ++ [(t, (x, y))], LPok s (upd (upd H1 t (HO.tup [V.str x, V.str y])) L (HO.lst ((ps.map fun p => V.ref p.1) ++ [V.ref t]))) p) ∧
        Ext s H (upd (upd H1 t (HO.tup [V.str x, V.str y])) L (HO.lst ((ps.map fun p => V.ref p.1) ++ [V.ref t]))) ∧ Src (upd (upd H1 t (HO.tup [V.str x, V.str y])) L (HO.lst ((ps.map fun p => V.ref p.1) ++ [V.ref t]))) s a c' := fun ps H1 x y t c' hx hy h1 hp hE hS' ht => by
      have n1 := same_new (o := HO.tup [V.str x, V.str y]) ht
      have tL : L ≠ t := ne_of_none h1 ht
      have ts := hS'.ne ht
      refine ⟨n1 _ _ h1, by rw [upd_same, List.map_append]; rfl, fun p hp' => ?_, keep _ (hE.trans (Ext.of n1)), (hS'.ext n1).put Ls La⟩
      rcases List.mem_append.mp hp' with e | e
      · have := hp p e
        refine LPok.upd (fun e2 => ?_) ((LPok.ext (Ext.of n1) this))
        have h2 := this.2.1
        rw [← e2, h1] at h2
        cases h2
      · rw [List.mem_singleton.mp e]
        exact LPok.upd tL ⟨ts, upd_same, uA x hx, uA y hy⟩
    refine ⟨_, rfl, u, _, rfl, .inl ((same_new hL).seq hU), 1, _, rfl, ⟨by decide, by decide, by rw [List.length_map]; omega, by rw [List.length_map]; omega⟩, ?_⟩
    refine for_range (lo := 1) (n := (((us.map V.str).length : Int) - 1).toNat) (fun i σ H' => ∃ (ps : List LP) (v3 v4 : Option V), σ = [some (.ref s), some (.ref u), some (.ref L), v3, v4, none] ∧ H' L = some (.lst (ps.map fun p => V.ref p.1)) ∧ (∀ p ∈ ps, LPok s H' p) ∧ ps.length ≤ i ∧ Ext s H H' ∧ Src H' s a (c + (100 - i))) ?_ ?_ ?_
    · exact ⟨[], _, _, rfl, upd_same, (fun _ h => by cases h), Nat.le_refl _, Ext.new hL, hS.new hL⟩
    · rintro i σ H' hi ⟨ps, v3, v4, rfl, h1, hp, hl, hE, hS'⟩
      rw [List.length_map] at hi
      refine ⟨_, rfl, _, rfl, _, rfl, s, a, _, c + (100 - (i + 1)), rfl, by omega, by omega, hS'.mono (by omega), fun v H2 v0 v1 x2 S2 => ?_⟩
      obtain ⟨x, xm, ex⟩ := strs_at us v0 (by omega)
      obtain ⟨y, ym, ey⟩ := strs_at us (v := 1 + (i : Int)) (by omega) (by omega)
      have xx := hE.trans x2
      refine ⟨u, _, _, _, rfl, rfl, xx.seqL hus hU, ex, ?_⟩
      have h2 := x2 _ _ Ls h1
      have hp2 : ∀ p ∈ ps, LPok s H2 p := fun p m => (hp p m).ext x2
      refine ⟨_, rfl, .inl ⟨rfl, _, SqL.of h2⟩, ?_⟩
      refine ⟨_, rfl, _, rfl, _, rfl, u, _, _, _, rfl, rfl, xx.seqL hus hU, ey, x, y, rfl, ?_, ?_⟩ <;> refine ⟨_, rfl, _, rfl, _, rfl, u, _, _, _, rfl, rfl, xx.seqL hus hU, ey, x, y, rfl, ?_, ?_⟩ <;> refine ⟨by show 2 ≤ sizeLine; decide, fun t ht => ?_⟩ <;>
        exact ⟨L, _, _, rfl, rfl, (put ps H2 _ _ t _ (by first | exact xm | exact ym) (by first | exact xm | exact ym) h2 hp2 xx S2 ht).1, by rw [List.length_map]; exact small1000 (by omega), _, _, _, rfl, (put ps H2 _ _ t _ (by first | exact xm | exact ym) (by first | exact xm | exact ym) h2 hp2 xx S2 ht).2.1, (put ps H2 _ _ t _ (by first | exact xm | exact ym) (by first | exact xm | exact ym) h2 hp2 xx S2 ht).2.2.1, by rw [List.length_append]; show _ + 1 ≤ _; omega, (put ps H2 _ _ t _ (by first | exact xm | exact ym) (by first | exact xm | exact ym) h2 hp2 xx S2 ht).2.2.2.1, (put ps H2 _ _ t _ (by first | exact xm | exact ym) (by first | exact xm | exact ym) h2 hp2 xx S2 ht).2.2.2.2⟩
    · rintro σ H1 ⟨ps, v3, v4, rfl, h1, hp, hl, hE, hS'⟩
      rw [List.length_map] at hl
      refine ⟨_, rfl, _, rfl, u, _, rfl, .inl (hE.seqL hus hU), s, a, _, c + 90, rfl, by rw [List.length_map]; omega, by rw [List.length_map]; omega, hS'.mono (by rw [List.length_map]; omega), fun v H2 v0 v1 x2 S2 => ?_⟩
      rw [List.length_map] at v1
      refine ⟨_, rfl, by omega, by omega, ?_⟩
      refine for_range (lo := 0) (n := v.toNat) (fun i σ H' => ∃ (ps : List LP) (v3 v4 v5 : Option V), σ = [some (.ref s), some (.ref u), some (.ref L), v3, v4, v5] ∧ H' L = some (.lst (ps.map fun p => V.ref p.1)) ∧ (∀ p ∈ ps, LPok s H' p) ∧ ps.length ≤ i + 8 ∧ Ext s H H' ∧ Src H' s a (c + (90 - 2 * i))) ?_ ?_ ?_
      · exact ⟨ps, _, _, _, rfl, x2 _ _ Ls h1, fun p m => (hp p m).ext x2, by omega, hE.trans x2, S2⟩
      · rintro i σ H3 hi ⟨ps, v3, v4, v5, rfl, h3, hp3, hl3, hE3, hS3⟩
        have ne : us.map V.str ≠ [] := fun e => by have := List.map_eq_nil_iff.mp e; rw [this] at u1; simp at u1
        refine ⟨_, rfl, _, rfl, .inl ⟨s, a, u, us.map V.str, c + (90 - 2 * (i + 1)) + 1, rfl, hE3.seqL hus hU, hus, ne, by rw [List.length_map]; omega, hS3.mono (by omega), fun w H4 wm x4 S4 => ?_⟩⟩
        obtain ⟨x, xm, rfl⟩ := List.mem_map.mp wm
        refine ⟨_, rfl, _, rfl, .inl ⟨s, a, u, us.map V.str, c + (90 - 2 * (i + 1)), rfl, (hE3.trans x4).seqL hus hU, hus, ne, by rw [List.length_map]; omega, S4, fun w H5 wm x5' S5' => ?_⟩⟩
        obtain ⟨y, ym, rfl⟩ := List.mem_map.mp wm
        have h5' := x5' _ _ Ls (x4 _ _ Ls h3)
        have hp5' : ∀ p ∈ ps, LPok s H5 p := fun p m => ((hp3 p m).ext x4).ext x5'
        have e5' := (hE3.trans x4).trans x5'
        refine ⟨_, rfl, _, rfl, rfl, _, rfl, ite2 (fun _ => ?_) (fun _ => iteF ⟨ps, _, _, _, rfl, h5', hp5', by omega, e5', S5'⟩)⟩
        refine ⟨_, rfl, _, rfl, x, y, rfl, ?_, ?_⟩ <;> refine ⟨_, rfl, _, rfl, x, y, rfl, ?_, ?_⟩ <;> refine ⟨by show 2 ≤ sizeLine; decide, fun t1 ht1 => ?_⟩ <;>
          refine ⟨_, rfl, _, ps.map lpD, .tup (SqT.of upd_same) (.cons (.str _) (.cons (.str _) .nil)), .lst (SqL.of ((same_new ht1) _ _ h5')) (lp_dp fun p m => (hp5' p m).ext (Ext.of (same_new ht1))), pair_shaped (uA _ (by first | exact xm | exact ym)) (uA _ (by first | exact xm | exact ym)), lp_shaped hp5', _, rfl, ite2 (fun _ => ?_) (fun _ => ⟨ps, _, _, _, rfl, (same_new ht1) _ _ h5', fun p m => (hp5' p m).ext (Ext.of (same_new ht1)), by omega, e5'.trans (Ext.of (same_new ht1)), S5'.ext (same_new ht1)⟩)⟩ <;>
          (generalize hG : upd H5 t1 _ = H6
           have n6 : Same H5 H6 := by rw [← hG]; exact same_new ht1
           have h5 := n6 _ _ h5'
           have hp5 : ∀ p ∈ ps, LPok s H6 p := fun p m => (hp5' p m).ext (Ext.of n6)
           have x5 := e5'.trans (Ext.of (s := s) n6)
           have S5 := S5'.ext n6
           refine ⟨_, rfl, .inl ⟨rfl, _, SqL.of h5⟩, ?_⟩
           refine ⟨_, rfl, _, rfl, x, y, rfl, ?_, ?_⟩ <;> refine ⟨_, rfl, _, rfl, x, y, rfl, ?_, ?_⟩ <;> refine ⟨by show 2 ≤ sizeLine; decide, fun t ht => ?_⟩ <;>
             exact ⟨L, _, _, rfl, rfl, (put ps H6 _ _ t _ (by first | exact xm | exact ym) (by first | exact xm | exact ym) h5 hp5 x5 S5 ht).1, by rw [List.length_map]; exact small1000 (by omega), _, _, _, _, rfl, (put ps H6 _ _ t _ (by first | exact xm | exact ym) (by first | exact xm | exact ym) h5 hp5 x5 S5 ht).2.1, (put ps H6 _ _ t _ (by first | exact xm | exact ym) (by first | exact xm | exact ym) h5 hp5 x5 S5 ht).2.2.1, by rw [List.length_append]; show _ + 1 ≤ _; omega, (put ps H6 _ _ t _ (by first | exact xm | exact ym) (by first | exact xm | exact ym) h5 hp5 x5 S5 ht).2.2.2.1, (put ps H6 _ _ t _ (by first | exact xm | exact ym) (by first | exact xm | exact ym) h5 hp5 x5 S5 ht).2.2.2.2⟩)
      · rintro σ H3 ⟨ps, v3, v4, v5, rfl, h3, hp3, hl3, hE3, hS3⟩
        have em : (ps.map fun p => V.ref p.1) = (ps.map (·.1)).map V.ref := by rw [List.map_map]; rfl
        rw [em] at h3
        refine ⟨_, rfl, L, ps.map (·.1), rfl, SqL.of h3, fun t ht => ?_, fun ys p py hp => ?_⟩
        · obtain ⟨p, hp, rfl⟩ := List.mem_map.mp ht
          exact ⟨_, (hp3 p hp).2.1, ⟨rfl, rfl, True.intro⟩, by simp⟩
        · have n := same_new (o := HO.lst (ys.map V.ref)) hp
          obtain ⟨ls, d, e, w⟩ := lp_out (K := K) (fun p m => (hp3 p m).ext (Ext.of n)) (ys := ys) fun y hy => by
            obtain ⟨p, hp, e⟩ := List.mem_map.mp (py.mem_iff.mp hy)
            exact ⟨p, hp, e⟩
          have le := py.length_eq
          rw [List.length_map] at le
          exact q p _ ls _ (ext_free hE3 hS3 hp) upd_same d (by omega) w (hE3.trans (Ext.of n)) ((hS3.ext n).mono (by omega))
end

end Z
namespace Z
open PySem L2 SX
section
variable {P : Program} {w : World} {K : PySem.W.Frag} {mg : Str → Option Value} {base : Heap}
theorem ok__law_feeds (D : Df K mg "_law_feeds" s__law_feeds ["source", "lines", "words", "wide"]) (T : Tx mg)  (C__law_draw : Cal P w K mg base "_law_draw" ["source", "many"] 2 sp__law_draw) (C__law_pattern : Cal P w K mg base "_law_pattern" ["source", "words"] 6 (sp2__law_pattern K)) (C__law_shuffled : Cal P w K mg base "_law_shuffled" ["source", "row"] 3 (sp54_shuffled K)) : Cal P w K mg base "_law_feeds" ["source", "lines", "words", "wide"] 7 (sp_feeds K) := by
  obtain ⟨f__law_draw, fd__law_draw, G__law_draw, g__law_draw, k__law_draw, b__law_draw⟩ := C__law_draw
  obtain ⟨f__law_pattern, fd__law_pattern, G__law_pattern, g__law_pattern, k__law_pattern, b__law_pattern⟩ := C__law_pattern
  obtain ⟨f__law_shuffled, fd__law_shuffled, G__law_shuffled, g__law_shuffled, k__law_shuffled, b__law_shuffled⟩ := C__law_shuffled
  obtain ⟨f, fd, F, gf, bf⟩ := D
  refine ⟨f, fd, F.ok sc__law_feeds (fun vs H Q E h => ?_) (fun cdv A outer s₀ H vs Q E hr h => ?_), gf, F.kp, bf⟩
  · obtain ⟨s, a, L, w, ws, ls, us, k, c, rfl, _⟩ := h; rfl
  · obtain ⟨s, a, L, w, ws, ls, us, k, c, rfl, hL, Ls, hw, ll, lA, hW, wns, hWds, k0, k1, hS, q⟩ := h
    refine ⟨_, (pss_cons (ps_set (i := 4) sc__law_feeds.nd rfl (Or.inl rfl) (pe_lst pa_nil))
      (pss_cons (ps_for PassesOwn.never rfl (pi_list (pv 1)) (pg_name (i := 5) sc__law_feeds.nd rfl (Or.inl rfl))
      (pss_one (ps_for PassesOwn.never rfl (pi_range1 (by rfl) T.n_range (pa_cons pe_int pa_nil)) (pg_name (i := 6) sc__law_feeds.nd rfl (Or.inl rfl))
        (pss_cons (ps_set (i := 7) sc__law_feeds.nd rfl (Or.inl rfl) (pe_ix ix_tup (pv 5) (pv 6) (fun _ _ => rfl)))
          (pss_cons (ps_set (i := 8) sc__law_feeds.nd rfl (Or.inl rfl) (pe_ix ix_tup (pv 5) (pe_op op_sub pe_int (pv 6)) (fun _ _ => rfl)))
          (pss_one (ps_if (pt_cmpR op_ne (pe_call G__law_draw (hr.mono (by decide)) (by rfl) g__law_draw k__law_draw b__law_draw .nil pass0 (pa_cons (pv 0) (pa_cons pe_int pa_nil))) pe_int (nomark _))
          (pss_cons (ps_set (i := 9) sc__law_feeds.nd rfl (Or.inl rfl) pe_str)
            (C8.pss_cut (ps_if (pt_cmpR op_eq (pe_call G__law_draw (hr.mono (by decide)) (by rfl) g__law_draw k__law_draw b__law_draw .nil pass0 (pa_cons (pv 0) (pa_cons (pv 3) pa_nil))) pe_int (nomark _))
            (pss_one (ps_set (i := 9) sc__law_feeds.nd rfl (Or.inl rfl) (pe_call G__law_pattern (hr.mono (by decide)) (by rfl) g__law_pattern k__law_pattern b__law_pattern .nil pass0 (pa_cons (pv 0) (pa_cons (pv 2) pa_nil)))))
            pss_nil)
            (pss_cons (ps_set (i := 10) sc__law_feeds.nd rfl (Or.inl rfl) (pe_op op_add pe_int (pe_call G__law_draw (hr.mono (by decide)) (by rfl) g__law_draw k__law_draw b__law_draw .nil pass0 (pa_cons (pv 0) (pa_cons pe_int pa_nil)))))
            (pss_cons (ps_set (i := 11) sc__law_feeds.nd rfl (Or.inl rfl) (pe_op op_add pe_int (pe_call G__law_draw (hr.mono (by decide)) (by rfl) g__law_draw k__law_draw b__law_draw .nil pass0 (pa_cons (pv 0) (pa_cons pe_int pa_nil)))))
            (pss_one (ps_expr (pe_bm PySem.F.plainAttrs_list PySem.F.slot_list_append PySem.F.type_list_append mt_append (pv 4) (pa_cons (pe_tup (pa_cons pe_str (pa_cons (pv 7) (pa_cons (pv 8) (pa_cons (pv 9) (pa_cons (pv 10) (pa_cons (pv 11) pa_nil))))))) pa_nil))))))))
          pss_nil)))))))
      (pss_one (ps_ret (pe_callTy call_tuple_of (by rfl) T.n_tuple (by decide +kernel) (pa_cons (pe_call G__law_shuffled (hr.mono (by decide)) (by rfl) g__law_shuffled k__law_shuffled b__law_shuffled .nil pass0 (pa_cons (pv 0) (pa_cons (pv 4) pa_nil))) pa_nil)))))), ?_⟩
    refine ⟨Nat.zero_le _, fun M hM => ?_⟩
    have Ms := hS.ne hM
    have Ma := hS.nea hM
    have keep : ∀ {H1 : Hp} (o : HO), Ext s H H1 → Ext s H (upd H1 M o) := fun o x b w hb hh => by
      rw [upd_ne (ne_of_none hh hM)]; exact x _ _ hb hh
    refine ⟨_, rfl, L, rfl, ⟨_, (same_new hM).seq hL⟩, ?_⟩
    refine for_list (K := K) (a := L) (xs := ws) (fun i σ H' => ∃ (fs : List Fd) (vs' : List V) (v5 v6 v7 v8 v9 v10 v11 : Option V), σ = [some (.ref s), some (.ref L), some (.ref w), some (.int k), some (.ref M), v5, v6, v7, v8, v9, v10, v11] ∧ H' M = some (.lst vs') ∧ DVs K H' (fs.map fdD) vs' ∧ fs.length ≤ 2 * i ∧ (∀ f ∈ fs, Low (tl f.g) ∧ Low (tl f.t)) ∧ Ext s H H' ∧ Src H' s a (c + (20000 - 600 * i))) ?_ (fun i σ H' _ h => by obtain ⟨_, _, _, _, _, _, _, _, _, _, _, _, _, _, hE, _⟩ := h; exact hE.seqL Ls hL) ?_ ?_
    · exact ⟨[], [], _, _, _, _, _, _, _, rfl, upd_same, dln, Nat.le_refl _, (fun _ h => by cases h), Ext.new hM, (hS.new hM).mono (by omega)⟩
    · rintro i x σ H1 hi ⟨fs, vs', v5, v6, v7, v8, v9, v10, v11, rfl, h1, hd, hl, hA, hE, hS'⟩
      obtain ⟨l, hll, dx⟩ := hw.map_get hi
      obtain ⟨t, rfl, hT⟩ := DV_pair_inv dx
      have lb := lA l (List.mem_of_getElem? hll)
      have il := (List.getElem?_eq_some_iff.mp hll).1
      refine ⟨2, rfl, by decide, by decide, ?_⟩
      refine for_range (lo := 0) (n := 2) (fun j σ H' => ∃ (fs : List Fd) (vs' : List V) (v6 v7 v8 v9 v10 v11 : Option V), σ = [some (.ref s), some (.ref L), some (.ref w), some (.int k), some (.ref M), some (.ref t), v6, v7, v8, v9, v10, v11] ∧ H' M = some (.lst vs') ∧ DVs K H' (fs.map fdD) vs' ∧ fs.length ≤ 2 * i + j ∧ (∀ f ∈ fs, Low (tl f.g) ∧ Low (tl f.t)) ∧ Ext s H H' ∧ Src H' s a (c + (20000 - 600 * i - 300 * j))) ?_ ?_ ?_
      · exact ⟨fs, vs', _, _, _, _, _, _, rfl, h1, hd, by omega, hA, hE, hS'⟩
      · rintro j σ H2 hj ⟨fs, vs', v6, v7, v8, v9, v10, v11, rfl, h2, hd, hl, hA, hE, hS2⟩
        have hT2 := TK.ext hE hS _ _ hT
        obtain ⟨g, hg, lg, h, hh, lh⟩ : ∃ g : Str, atI [V.str l.1, V.str l.2] (0 + (j : Int)) = some (.str g) ∧ Low (tl g) ∧ ∃ h : Str, atI [V.str l.1, V.str l.2] (1 - (0 + (j : Int))) = some (.str h) ∧ Low (tl h) := by
          have : j = 0 ∨ j = 1 := by omega
          rcases this with e | e <;> subst e
          · exact ⟨_, rfl, lb.1, _, rfl, lb.2⟩
          · exact ⟨_, rfl, lb.2, _, rfl, lb.1⟩
        refine ⟨_, rfl, _, rfl, t, _, _, _, rfl, rfl, hT2, hg, ?_⟩
        refine ⟨_, rfl, _, rfl, _, _, rfl, rfl, t, _, _, _, rfl, rfl, hT2, hh, ?_⟩
        refine ⟨_, rfl, s, a, _, c + (20000 - 600 * i - 300 * j - 1), rfl, by decide, by decide, hS2.mono (by omega), fun v H3 v0 v1 x3 S3 => ⟨rfl, _, rfl, ite2 (fun _ => ?_) (fun _ => ?_)⟩⟩
        rotate_left
        · exact ⟨fs, vs', _, _, _, _, _, _, rfl, x3 _ _ Ms h2, hd.tk (TK.ext x3 hS2), by omega, hA, hE.trans x3, S3.mono (by omega)⟩
        have h3 := x3 _ _ Ms h2
        have hd3 := hd.tk (TK.ext x3 hS2)
        have e3 := hE.trans x3
        refine ⟨fun σ' H' => ∃ (p : Str), σ' = [some (.ref s), some (.ref L), some (.ref w), some (.int k), some (.ref M), some (.ref t), some (.int (0 + (j : Int))), some (.str g), some (.str h), some (.str p), v10, v11] ∧ H' M = some (.lst vs') ∧ DVs K H' (fs.map fdD) vs' ∧ Ext s H H' ∧ Src H' s a (c + (20000 - 600 * i - 300 * j - 210)), ?_, ?_⟩
        · refine ⟨_, rfl, _, rfl, s, a, _, c + (20000 - 600 * i - 300 * j - 2), rfl, k0, by omega, S3.mono (by omega), fun v' H4 w0 w1 x4 S4 => ⟨rfl, _, rfl, ite2 (fun _ => ?_) (fun _ => ⟨_, rfl, x4 _ _ Ms h3, hd3.tk (TK.ext x4 S3), e3.trans x4, S4.mono (by omega)⟩)⟩⟩
          refine ⟨_, rfl, _, rfl, s, a, w, us, c + (20000 - 600 * i - 300 * j - 202), rfl, (e3.trans x4).seqL wns hW, wns, hWds, S4.mono (by omega), fun p H5 pg pl x5 S5 => ?_⟩
          exact ⟨p, rfl, x5 _ _ Ms (x4 _ _ Ms h3), (hd3.tk (TK.ext x4 S3)).tk (TK.ext x5 S4), (e3.trans x4).trans x5, S5.mono (by omega)⟩
        · rintro σ' H4 ⟨p, rfl, h4, hd4, e4, S4⟩
          refine ⟨_, rfl, s, a, _, c + (20000 - 600 * i - 300 * j - 211), rfl, by decide, by decide, S4.mono (by omega), fun hp H5 _ _ x5 S5 => ⟨_, _, rfl, rfl, ?_⟩⟩
          refine ⟨_, rfl, s, a, _, c + (20000 - 600 * i - 300 * j - 212), rfl, by decide, by decide, S5.mono (by omega), fun sz H6 _ _ x6 S6 => ⟨_, _, rfl, rfl, ?_⟩⟩
          have h6 := x6 _ _ Ms (x5 _ _ Ms h4)
          have hd6 := (hd4.tk (TK.ext x5 S4)).tk (TK.ext x6 S5)
          refine ⟨_, rfl, .inl ⟨rfl, _, SqL.of h6⟩, _, rfl, _, rfl, _, rfl, _, rfl, _, rfl, by show 6 ≤ sizeLine; decide, fun r hr' => ?_⟩
          have n7 := same_new (o := HO.tup [V.str (Str.ofString "feed"), V.str g, V.str h, V.str p, V.int (1 + hp), V.int (1 + sz)]) hr'
          have h7 := n7 _ _ h6
          have vl : vs'.length = fs.length := hd6.map_len
          refine ⟨M, _, _, rfl, rfl, h7, small1000 (by omega), fs ++ [⟨g, h, p, 1 + hp, 1 + sz⟩], _, _, _, _, _, _, _, rfl, upd_same, DVs.snoc (hd6.tk ((TK.same n7).trans (tk_put h7))) ?_, by rw [List.length_append]; show _ + 1 ≤ _; omega, fun f hf => ?_, keep _ ((e4.trans (x5.trans x6)).trans (Ext.of n7)), ((S6.ext n7).put Ms Ma).mono (by omega)⟩
          · exact ⟨r, _, rfl, tk_put h7 _ _ (SqT.of upd_same), dlc (dls _) (dlc (dls _) (dlc (dls _) (dlc (dls _) (dlc (dli _) (dlc (dli _) dln)))))⟩
          · rcases List.mem_append.mp hf with e | e
            · exact hA f e
            · rw [List.mem_singleton.mp e]; exact ⟨lg, lh⟩
      · rintro σ H2 ⟨fs, vs', v6, v7, v8, v9, v10, v11, rfl, h2, hd, hl, hA, hE, hS2⟩
        exact ⟨fs, vs', _, _, _, _, _, _, _, rfl, h2, hd, by omega, hA, hE, hS2.mono (by omega)⟩
    · rintro σ H1 ⟨fs, vs', v5, v6, v7, v8, v9, v10, v11, rfl, h1, hd, hl, hA, hE, hS'⟩
      have wl := hw.map_len
      have vl : vs'.length = fs.length := hd.map_len
      refine ⟨_, rfl, _, rfl, s, a, M, vs', c + 100, rfl, .inl (SqL.of h1), by omega, hS'.mono (by omega), fun D ys H2 hD h2 yl ym x2 S2 => ?_⟩
      obtain ⟨m, dm, lm, km⟩ := DVs.pick (hd.tk (TK.ext x2 hS')) ym
      refine ⟨D, _, rfl, .inl ⟨SqL.of h2, fun T hT => ?_⟩⟩
      have n := same_new (o := HO.tup ys) hT
      exact q (.ref T) m _ ⟨T, _, rfl, SqT.of upd_same, dm.tk (TK.same n)⟩ (by omega) (fun f hf => hA f (km f hf)) (hE.trans (x2.trans (Ext.of n))) ((S2.ext n).mono (by omega))
end
section
variable {P : Program} {w : World} {K : PySem.W.Frag} {mg : Str → Option Value} {base : Heap}
theorem ok__law_sites (D : Df K mg "_law_sites" s__law_sites ["source", "names", "words", "window", "offsets"]) (T : Tx mg)  (C__law_draw : Cal P w K mg base "_law_draw" ["source", "many"] 2 sp__law_draw) (C__law_pattern : Cal P w K mg base "_law_pattern" ["source", "words"] 6 (sp2__law_pattern K)) : Cal P w K mg base "_law_sites" ["source", "names", "words", "window", "offsets"] 7 (sp_sites K) := by
  obtain ⟨f__law_draw, fd__law_draw, G__law_draw, g__law_draw, k__law_draw, b__law_draw⟩ := C__law_draw
  obtain ⟨f__law_pattern, fd__law_pattern, G__law_pattern, g__law_pattern, k__law_pattern, b__law_pattern⟩ := C__law_pattern
  obtain ⟨f, fd, F, gf, bf⟩ := D
  refine ⟨f, fd, F.ok sc__law_sites (fun vs H Q E h => ?_) (fun cdv A outer s₀ H vs Q E hr h => ?_), gf, F.kp, bf⟩
  · obtain ⟨s, a, u, w, o, us, ws, z, is, c, rfl, _⟩ := h; rfl
  · obtain ⟨s, a, u, w, o, us, ws, z, is, c, rfl, hU, hus, ul, hW, wns, hWds, ho, os, il, hS, q⟩ := h
    refine ⟨_, (pss_cons (ps_set (i := 5) sc__law_sites.nd rfl (Or.inl rfl) (pe_lst pa_nil))
      (pss_cons (ps_set (i := 6) sc__law_sites.nd rfl (Or.inl rfl) (pe_callB (cr_max rfl) (by rfl) T.n_max (by decide +kernel) (pa_cons (pe_op L2.op_cat (pe_lst (pa_cons pe_int pa_nil)) (pv 4)) pa_nil)))
      (pss_cons (ps_for PassesOwn.never rfl (pi_range1 (by rfl) T.n_range (pa_cons (pe_callB call_len_seq (by rfl) T.n_len PySem.boot_len (pa_cons (pv 1) pa_nil)) pa_nil)) (pg_name (i := 7) sc__law_sites.nd rfl (Or.inl rfl))
      (pss_cons (ps_set (i := 8) sc__law_sites.nd rfl (Or.inl rfl) pe_str)
        (C8.pss_cut (ps_if (pt_cmpR op_eq (pe_call G__law_draw (hr.mono (by decide)) (by rfl) g__law_draw k__law_draw b__law_draw .nil pass0 (pa_cons (pv 0) (pa_cons pe_int pa_nil))) pe_int (nomark _))
        (pss_one (ps_set (i := 8) sc__law_sites.nd rfl (Or.inl rfl) (pe_call G__law_pattern (hr.mono (by decide)) (by rfl) g__law_pattern k__law_pattern b__law_pattern .nil pass0 (pa_cons (pv 0) (pa_cons (pv 2) pa_nil)))))
        pss_nil)
        (pss_cons (ps_set (i := 9) sc__law_sites.nd rfl (Or.inl rfl) (pe_op op_add (pe_op op_add (pv 3) (pv 6)) (pe_call G__law_draw (hr.mono (by decide)) (by rfl) g__law_draw k__law_draw b__law_draw .nil pass0 (pa_cons (pv 0) (pa_cons pe_int pa_nil)))))
        (pss_cons (ps_set (i := 10) sc__law_sites.nd rfl (Or.inl rfl) (pe_call G__law_draw (hr.mono (by decide)) (by rfl) g__law_draw k__law_draw b__law_draw .nil pass0 (pa_cons (pv 0) (pa_cons pe_int pa_nil))))
        (pss_one (ps_expr (pe_bm PySem.F.plainAttrs_list PySem.F.slot_list_append PySem.F.type_list_append mt_append (pv 5) (pa_cons (pe_tup (pa_cons pe_str (pa_cons (pe_ix ix_list (pv 1) (pv 7) (fun _ _ => rfl)) (pa_cons (pe_ix ix_list (pv 4) (pv 7) (fun _ _ => rfl)) (pa_cons (pv 9) (pa_cons (pv 10) (pa_cons (pv 8) pa_nil))))))) pa_nil)))))))))
      (pss_one (ps_ret (pe_callTy call_tuple_of (by rfl) T.n_tuple (by decide +kernel) (pa_cons (pv 5) pa_nil))))))), ?_⟩
    refine ⟨Nat.zero_le _, fun M hM => ?_⟩
    have Ms := hS.ne hM
    have Ma := hS.nea hM
    have keep : ∀ {H1 : Hp} (o : HO), Ext s H H1 → Ext s H (upd H1 M o) := fun o x b w hb hh => by
      rw [upd_ne (ne_of_none hh hM)]; exact x _ _ hb hh
    refine ⟨by show 1 ≤ sizeLine; decide, fun N hN => ?_⟩
    have n1 := same_new (o := HO.lst []) hM
    have n2 := same_new (o := HO.lst [V.int 0]) hN
    refine ⟨_, rfl, N, o, _, _, rfl, rfl, upd_same, n2 _ _ (n1 _ _ ho), by rw [List.length_map]; show 1 + is.length ≤ _; exact Nat.le_trans (show 1 + is.length ≤ 30000 by omega) (by decide), fun R hR => ?_⟩
    have n3 := same_new (o := HO.lst ([V.int 0] ++ is.map V.int)) hR
    refine ⟨R, 0 :: is, rfl, SqL.of upd_same, by simp, fun gr _ _ => ?_⟩
    have nn := n1.trans (n2.trans n3)
    have hM3 := (n2.trans n3) _ _ (upd_same (H := H) (a := M) (o := HO.lst []))
    have S3 := hS.ext nn
    have E3 : Ext s H _ := Ext.of nn
    generalize upd (upd (upd H M (HO.lst [])) N (HO.lst [V.int 0])) R (HO.lst ([V.int 0] ++ is.map V.int)) = H3 at nn hM3 S3 E3 ⊢
    refine ⟨_, rfl, u, _, rfl, .inl (E3.seqL hus hU), _, rfl, by rw [List.length_map]; omega, by rw [List.length_map]; omega, ?_⟩
    refine for_range (lo := 0) (n := ((us.map V.str).length : Int).toNat) (fun i σ H' => ∃ (l : List Si) (vs' : List V) (v7 v8 v9 v10 : Option V), σ = [some (.ref s), some (.ref u), some (.ref w), some (.int z), some (.ref o), some (.ref M), some (.int gr), v7, v8, v9, v10] ∧ H' M = some (.lst vs') ∧ DVs K H' (l.map siD) vs' ∧ l.map (·.n) = us.take i ∧ (∀ x ∈ l, (tl x.p).length ≤ 200) ∧ Ext s H H' ∧ Src H' s a (c + (5000 - 300 * i))) ?_ ?_ ?_
    · exact ⟨[], [], _, _, _, _, rfl, hM3, dln, rfl, (fun _ h => by cases h), E3, S3.mono (by omega)⟩
    · rintro i σ H4 hi ⟨l, vs', v7, v8, v9, v10, rfl, h4, hd4, hn, hp, e4, S4⟩
      rw [List.length_map] at hi
      have hi' : i < us.length := by omega
      obtain ⟨n, hn'⟩ : ∃ n, us[i]? = some n := ⟨_, List.getElem?_eq_getElem hi'⟩
      obtain ⟨oz, ho'⟩ : ∃ y, is[i]? = some y := ⟨_, List.getElem?_eq_getElem (by omega)⟩
      have an : atI (us.map V.str) (0 + (i : Int)) = some (.str n) := at_of (j := i) (by omega) (by rw [List.getElem?_map, hn']; rfl)
      have ao : atI (is.map V.int) (0 + (i : Int)) = some (.int oz) := at_of (j := i) (by omega) (by rw [List.getElem?_map, ho']; rfl)
      refine ⟨fun σ' H' => ∃ (p : Str), σ' = [some (.ref s), some (.ref u), some (.ref w), some (.int z), some (.ref o), some (.ref M), some (.int gr), some (.int (0 + (i : Int))), some (.str p), v9, v10] ∧ (tl p).length ≤ 200 ∧ H' M = some (.lst vs') ∧ DVs K H' (l.map siD) vs' ∧ Ext s H H' ∧ Src H' s a (c + (5000 - 300 * i - 210)), ?_, ?_⟩
      · refine ⟨_, rfl, s, a, _, c + (5000 - 300 * i - 2), rfl, by decide, by decide, S4.mono (by omega), fun v' H5 w0 w1 x5 S5 => ⟨rfl, _, rfl, ite2 (fun _ => ?_) (fun _ => ⟨_, rfl, by decide, x5 _ _ Ms h4, hd4.tk (TK.ext x5 S4), e4.trans x5, S5.mono (by omega)⟩)⟩⟩
        refine ⟨_, rfl, _, rfl, s, a, w, ws, c + (5000 - 300 * i - 202), rfl, (e4.trans x5).seqL wns hW, wns, hWds, S5.mono (by omega), fun p H6 pg pl x6 S6 => ?_⟩
        exact ⟨p, rfl, by omega, x6 _ _ Ms (x5 _ _ Ms h4), (hd4.tk (TK.ext x5 S4)).tk (TK.ext x6 S5), (e4.trans x5).trans x6, S6.mono (by omega)⟩
      · rintro σ' H5 ⟨p, rfl, pl, h5, hd5, e5, S5⟩
        refine ⟨_, rfl, _, rfl, _, _, rfl, rfl, _, rfl, s, a, _, c + (5000 - 300 * i - 211), rfl, by decide, by decide, S5.mono (by omega), fun mm H6 _ _ x6 S6 => ⟨_, _, rfl, rfl, ?_⟩⟩
        refine ⟨_, rfl, s, a, _, c + (5000 - 300 * i - 212), rfl, by decide, by decide, S6.mono (by omega), fun tm H7 _ _ x7 S7 => ?_⟩
        have h7 := x7 _ _ Ms (x6 _ _ Ms h5)
        have hd7 := (hd5.tk (TK.ext x6 S5)).tk (TK.ext x7 S6)
        have e7 := (e5.trans x6).trans x7
        refine ⟨_, rfl, .inl ⟨rfl, _, SqL.of h7⟩, _, rfl, _, rfl, u, _, _, _, rfl, rfl, e7.seqL hus hU, an, _, rfl, _, rfl, o, _, _, _, rfl, rfl, SqL.of (e7 _ _ os ho), ao, _, rfl, _, rfl, _, rfl, by show 6 ≤ sizeLine; decide, fun r hr' => ?_⟩
        have n8 := same_new (o := HO.tup [V.str (Str.ofString "site"), V.str n, V.int oz, V.int (z + gr + mm), V.int tm, V.str p]) hr'
        have h8 := n8 _ _ h7
        have vl : vs'.length = l.length := hd7.map_len
        have ll : l.length ≤ 9 := by
          have := congrArg List.length hn
          rw [List.length_map, List.length_take] at this; omega
        refine ⟨M, _, _, rfl, rfl, h8, small1000 (by omega), l ++ [⟨n, oz, z + gr + mm, tm, p⟩], _, _, _, _, _, rfl, upd_same, DVs.snoc (hd7.tk ((TK.same n8).trans (tk_put h8))) ?_, ?_, fun x hx => ?_, keep _ (e7.trans (Ext.of n8)), ((S7.ext n8).put Ms Ma).mono (by omega)⟩
        · exact ⟨r, _, rfl, tk_put h8 _ _ (SqT.of upd_same), dlc (dls _) (dlc (dls _) (dlc (dli _) (dlc (dli _) (dlc (dli _) (dlc (dls _) dln)))))⟩
        · rw [List.map_append, hn, List.take_add_one, hn']; rfl
        · rcases List.mem_append.mp hx with e | e
          · exact hp x e
          · rw [List.mem_singleton.mp e]; exact pl
    · rintro σ H4 ⟨l, vs', v7, v8, v9, v10, rfl, h4, hd4, hn, hp, e4, S4⟩
      rw [List.length_map, Int.toNat_natCast, List.take_length] at hn
      refine ⟨_, rfl, M, _, rfl, .inl ⟨SqL.of h4, fun T hT => ?_⟩⟩
      have n := same_new (o := HO.tup vs') hT
      exact q (.ref T) l _ ⟨T, _, rfl, SqT.of upd_same, hd4.tk (TK.same n)⟩ hn hp (e4.trans (Ext.of n)) ((S4.ext n).mono (by omega))
end

end Z
namespace Z
open PySem L2 SX
section
variable {P : Program} {w : World} {K : PySem.W.Frag} {mg : Str → Option Value} {base : Heap}
theorem ok__law_book (D : Df K mg "_law_book" s__law_book ["source", "many", "words"]) (T : Tx mg)  (C__law_draw : Cal P w K mg base "_law_draw" ["source", "many"] 2 sp__law_draw) (C__law_feeds : Cal P w K mg base "_law_feeds" ["source", "lines", "words", "wide"] 7 (sp_feeds K)) (C__law_lines : Cal P w K mg base "_law_lines" ["source", "names"] 4 (sp_lines K)) (C__law_names : Cal P w K mg base "_law_names" ["source", "many"] 4 (sp9__law_names K)) (C__law_sites : Cal P w K mg base "_law_sites" ["source", "names", "words", "window", "offsets"] 7 (sp_sites K)) : Cal P w K mg base "_law_book" ["source", "many", "words"] 8 (sp_book K) := by
  obtain ⟨f__law_draw, fd__law_draw, G__law_draw, g__law_draw, k__law_draw, b__law_draw⟩ := C__law_draw
  obtain ⟨f__law_feeds, fd__law_feeds, G__law_feeds, g__law_feeds, k__law_feeds, b__law_feeds⟩ := C__law_feeds
  obtain ⟨f__law_lines, fd__law_lines, G__law_lines, g__law_lines, k__law_lines, b__law_lines⟩ := C__law_lines
  obtain ⟨f__law_names, fd__law_names, G__law_names, g__law_names, k__law_names, b__law_names⟩ := C__law_names
  obtain ⟨f__law_sites, fd__law_sites, G__law_sites, g__law_sites, k__law_sites, b__law_sites⟩ := C__law_sites
  obtain ⟨f, fd, F, gf, bf⟩ := D
  refine ⟨f, fd, F.ok sc__law_book (fun vs H Q E h => ?_) (fun cdv A outer s₀ H vs Q E hr h => ?_), gf, F.kp, bf⟩
  · obtain ⟨s, a, w, ws, m, c, rfl, _⟩ := h; rfl
  · obtain ⟨s, a, w, ws, m, c, rfl, m1, m9, hW, wns, hWds, hS, q⟩ := h
    refine ⟨_, (pss_cons (ps_set (i := 3) sc__law_book.nd rfl (Or.inl rfl) (pe_call G__law_names (hr.mono (by decide)) (by rfl) g__law_names k__law_names b__law_names .nil pass0 (pa_cons (pv 0) (pa_cons (pv 1) pa_nil))))
      (pss_cons (ps_set (i := 4) sc__law_book.nd rfl (Or.inl rfl) (pe_op op_add pe_int (pe_call G__law_draw (hr.mono (by decide)) (by rfl) g__law_draw k__law_draw b__law_draw .nil pass0 (pa_cons (pv 0) (pa_cons pe_int pa_nil)))))
      (pss_cons (ps_setLc (i := 5) (own := [("k", 11)]) (g := gName 11) (tt := tYes) rfl sc__law_book.nd rfl rfl (sw_true rfl rfl rfl (by decide +kernel)) (pi_range1 (by rfl) T.n_range (pa_cons (pv 1) pa_nil)) (blkOk_by (own := [("k", 11)]) (N := N__law_book) (sc := defScope s__law_book) (by decide +kernel)) (fun _ _ _ _ _ => pg_name (i := 11) sc__law_book.nd rfl (Or.inl rfl)) (fun _ _ _ _ _ => pts_nil) (fun _ _ _ _ _ => (pe_call G__law_draw (hr.mono (by decide)) (by rfl) g__law_draw k__law_draw b__law_draw .nil pass0 (pa_cons (pv 0) (pa_cons pe_int pa_nil)))))
      (pss_cons (ps_set (i := 6) sc__law_book.nd rfl (Or.inl rfl) (pe_op op_add pe_int (pe_call G__law_draw (hr.mono (by decide)) (by rfl) g__law_draw k__law_draw b__law_draw .nil pass0 (pa_cons (pv 0) (pa_cons pe_int pa_nil)))))
      (pss_cons (ps_set (i := 7) sc__law_book.nd rfl (Or.inl rfl) (pe_tup (pa_cons (pv 6) (pa_cons (pe_op op_add (pv 6) (pe_call G__law_draw (hr.mono (by decide)) (by rfl) g__law_draw k__law_draw b__law_draw .nil pass0 (pa_cons (pv 0) (pa_cons pe_int pa_nil)))) pa_nil))))
      (pss_cons (ps_set (i := 8) sc__law_book.nd rfl (Or.inl rfl) (pe_call G__law_lines (hr.mono (by decide)) (by rfl) g__law_lines k__law_lines b__law_lines .nil pass0 (pa_cons (pv 0) (pa_cons (pv 3) pa_nil))))
      (pss_cons (ps_set (i := 9) sc__law_book.nd rfl (Or.inl rfl) (pe_slice (sl_tupS (K := K) rfl) (pe_call G__law_feeds (hr.mono (by decide)) (by rfl) g__law_feeds k__law_feeds b__law_feeds .nil pass0 (pa_cons (pv 0) (pa_cons (pv 8) (pa_cons (pv 2) (pa_cons pe_int pa_nil))))) po_none (po_some pe_int)))
      (pss_cons (ps_set (i := 10) sc__law_book.nd rfl (Or.inl rfl) (pe_call G__law_sites (hr.mono (by decide)) (by rfl) g__law_sites k__law_sites b__law_sites .nil pass0 (pa_cons (pv 0) (pa_cons (pv 3) (pa_cons (pv 2) (pa_cons (pv 4) (pa_cons (pv 5) pa_nil)))))))
      (pss_one (ps_ret (pe_tup (pa_cons pe_str (pa_cons (pv 4) (pa_cons (pv 7) (pa_cons (pv 10) (pa_cons (pe_callTy call_tuple_of (by rfl) T.n_tuple (by decide +kernel) (pa_cons (pv 8) pa_nil)) (pa_cons (pv 9) (pa_cons (pe_tup pa_nil) (pa_cons (pe_tup pa_nil) pa_nil))))))))))))))))))), ?_⟩
    have small : ∀ n : Nat, n ≤ 30000 → n < sizeLine := fun n h => Nat.lt_of_le_of_lt h (by decide)
    refine ⟨_, rfl, _, rfl, s, a, m, c + 29900, rfl, m9, hS.mono (by omega), fun u us H1 hu hus ul uN x1 S1 => ?_⟩
    have us' : u ≠ s := hS.ne hu
    refine ⟨_, rfl, s, a, _, c + 29899, rfl, by decide, by decide, S1.mono (by omega), fun z H2 _ _ x2 S2 => ⟨_, _, rfl, rfl, ?_⟩⟩
    refine ⟨_, rfl, _, rfl, by omega, by omega, fun D hD => ?_⟩
    have Ds := S2.ne hD
    have Da := S2.nea hD
    refine lc_range (lo := 0) (n := ((m : Int)).toNat) (fun i H' => ∃ is : List Int, H' D = some (.lst (is.map V.int)) ∧ is.length = i ∧ Ext s H2 H' ∧ Src H' s a (c + (29899 - i))) ?_ ?_ ?_
    · exact ⟨[], upd_same, rfl, Ext.new hD, S2.new hD⟩
    · rintro i H' hi ⟨is, h1, hl, hE, hS'⟩
      refine ⟨rfl, _, rfl, s, a, _, c + (29899 - (i + 1)), rfl, by decide, by decide, hS'.mono (by omega), fun y H3 _ _ x3 S3 => ⟨_, x3 _ _ Ds h1, by rw [List.length_map]; exact small _ (by omega), is ++ [y], by rw [upd_same, List.map_append]; rfl, by rw [List.length_append, hl]; rfl, fun b o hb hh => ?_, S3.put Ds Da⟩⟩
      rw [upd_ne (ne_of_none hh hD)]; exact x3 _ _ hb (hE _ _ hb hh)
    rintro H3 ⟨is, h3, hl3, hE3, S3⟩
    have e3 := (x1.trans x2).trans hE3
    refine ⟨_, rfl, s, a, _, c + 29889, rfl, by decide, by decide, S3.mono (by omega), fun f1 H4 _ _ x4 S4 => ⟨_, _, rfl, rfl, ?_⟩⟩
    refine ⟨_, rfl, _, rfl, _, rfl, s, a, _, c + 29888, rfl, by decide, by decide, S4.mono (by omega), fun f2 H5 _ _ x5 S5 => ⟨_, _, rfl, rfl, by show 2 ≤ sizeLine; decide, fun W hW' => ?_⟩⟩
    have n5 := same_new (o := HO.tup [V.int (1 + f1), V.int (1 + f1 + f2)]) hW'
    have Ws := S5.ne hW'
    have e5 := ((e3.trans x4).trans x5).trans (Ext.of n5)
    have S5' := S5.ext n5
    have hW5 : (upd H5 W (HO.tup [V.int (1 + f1), V.int (1 + f1 + f2)])) W = some _ := upd_same
    have e15 : Ext s H1 (upd H5 W (HO.tup [V.int (1 + f1), V.int (1 + f1 + f2)])) := (((x2.trans hE3).trans x4).trans x5).trans (Ext.of n5)
    have e35 : Ext s H3 (upd H5 W (HO.tup [V.int (1 + f1), V.int (1 + f1 + f2)])) := (x4.trans x5).trans (Ext.of n5)
    generalize upd H5 W (HO.tup [V.int (1 + f1), V.int (1 + f1 + f2)]) = H6 at e5 S5' hW5 e15 e35 ⊢
    have hU6 := e15 _ _ us' hus
    refine ⟨_, rfl, _, rfl, s, a, u, us, c + 29700, rfl, SqL.of hU6, us', by omega, by omega, fun x hx => (uN.2 x hx).1.2, S5'.mono (by omega), fun L lws ls H7 hL0 hL dl ll lw x7 S7 => ?_⟩
    have Ls := S5'.ne hL0
    -- the feeds
    refine ⟨_, rfl, _, rfl, _, rfl, s, a, L, w, lws, ls, ws, 3, c + 9000, rfl, SqL.of hL, Ls, dl, ll, lw, (e5.trans x7).seqL wns hW, wns, hWds, by decide, by decide, S7.mono (by omega), fun fu fs H8 df fl fw x8 S8 => ?_⟩
    obtain ⟨fa, fvs, rfl, hF, dF⟩ := df
    refine ⟨24, rfl, fa, fvs, rfl, hF, fun F1 H9 m9' hF1 => ?_⟩
    rw [cutV_to (by decide)] at hF1
    obtain ⟨fm, dm, lm, km⟩ := DVs.pick dF (ys := fvs.take (24 : Int).toNat) fun y hy => List.mem_of_mem_take hy
    have e9 := ((e5.trans x7).trans x8).trans (Ext.of m9')
    have S9 := S8.ext m9'
    have e69 : Ext s H6 H9 := (x7.trans x8).trans (Ext.of m9')
    have h39 := e35.trans e69
    have hU9 := e69 _ _ us' hU6
    -- the sites
    refine ⟨_, rfl, _, rfl, _, rfl, _, rfl, _, rfl, s, a, u, w, D, us, ws, 6 + z, is, c + 4000, rfl, SqL.of hU9, us', by omega, e9.seqL wns hW, wns, hWds, h39 _ _ Ds h3, Ds, by omega, S9.mono (by omega), fun su l H10 dsu en pl x10 S10 => ?_⟩
    obtain ⟨sa, svs, rfl, hSi, dSi⟩ := dsu
    have hL10 := ((x8.trans (Ext.of m9')).trans x10) _ _ Ls hL
    have T710 : TK K H7 H10 := (TK.ext x8 S7).trans ((TK.same m9').trans (TK.ext x10 S9))
    have T910 : TK K H9 H10 := TK.ext x10 S9
    have hW10 := (e69.trans x10) _ _ Ws hW5
    refine ⟨_, rfl, _, rfl, _, rfl, _, rfl, L, _, rfl, .inl ⟨SqL.of hL10, fun TL hTL => ?_⟩⟩
    have n1 := same_new (o := HO.tup lws) hTL
    refine ⟨_, rfl, Nat.zero_le _, fun E1 hE1 => ?_⟩
    have n2 := same_new (o := HO.tup []) hE1
    refine ⟨Nat.zero_le _, fun E2 hE2 => ?_⟩
    have n3 := same_new (o := HO.tup []) hE2
    refine ⟨by show 8 ≤ sizeLine; decide, fun B hB => ?_⟩
    have n4 := same_new (o := HO.tup [V.str (Str.ofString "book"), V.int (6 + z), V.ref W, V.ref sa, V.ref TL, V.ref F1, V.ref E1, V.ref E2]) hB
    have n14 := n1.trans (n2.trans (n3.trans n4))
    have q1 := (n2.trans (n3.trans n4)) _ _ (upd_same (a := TL) (o := HO.tup lws))
    have q2 := (n3.trans n4) _ _ (upd_same (a := E1) (o := HO.tup []))
    have q3 := n4 _ _ (upd_same (a := E2) (o := HO.tup []))
    have T10 := TK.same (K := K) n14
    have bl : l.length ≤ 9 := by
      have := congrArg List.length en
      rw [List.length_map] at this; omega
    have wl : lws.length = ls.length := dl.map_len
    refine q (.ref B) ⟨6 + z, 1 + f1, 1 + f1 + f2, l, ls, fm, [], []⟩ _ ⟨B, _, rfl, SqT.of upd_same, dlc (dls _) (dlc (dli _) (dlc ⟨W, _, rfl, T10 _ _ (SqT.of hW10), dlc (dli _) (dlc (dli _) dln)⟩ (dlc ⟨sa, svs, rfl, T10 _ _ hSi, dSi.tk T10⟩ (dlc ⟨TL, lws, rfl, SqT.of q1, (dl.tk T710).tk T10⟩ (dlc ⟨F1, _, rfl, T10 _ _ (T910 _ _ hF1), ((dm.tk (TK.same m9')).tk T910).tk T10⟩ (dlc ⟨E1, _, rfl, SqT.of q2, dln⟩ (dlc ⟨E2, _, rfl, SqT.of q3, dln⟩ dln)))))))⟩ ?_ rfl ?_ ?_ ((e9.trans x10).trans (Ext.of n14)) ((S10.ext n14).mono (by omega))
    · have sb : ∀ x ∈ l, Low (tl x.n) ∧ (tl x.n).length ≤ 8 := fun x hx => by
        have : x.n ∈ us := by rw [← en]; exact List.mem_map_of_mem hx
        exact ⟨(uN.2 _ this).1.2, (uN.2 _ this).2⟩
      refine ⟨by show l.length ≤ 10; omega, by show ls.length ≤ 30; omega, ?_, Nat.zero_le _, fun x hx => ?_, (fun _ h => by cases h), sb, fun f hf => fw f (km f hf)⟩
      · show fm.length ≤ 100
        rw [lm, List.length_take]; show min 24 _ ≤ 100; omega
      · have := pl x hx; omega
    · intro e
      have e' : l = [] := e
      rw [e'] at en
      have : us.length = 0 := by rw [← en]; rfl
      omega
    · show (l.map (·.n)).Nodup
      rw [en]; exact uN.1
end

end Z
namespace Z
open PySem L2 SX
section
variable {P : Program} {w : World} {K : PySem.W.Frag} {mg : Str → Option Value} {base : Heap}
theorem ok_id_text (D : Df K mg "id_text" s_id_text ["id"]) (T : Tx mg)   : Cal P w K mg base "id_text" ["id"] 1 (sp_id_text K) := by
  obtain ⟨f, fd, F, gf, bf⟩ := D
  refine ⟨f, fd, F.ok sc_id_text (fun vs H Q E h => ?_) (fun cdv A outer s₀ H vs Q E hr h => ?_), gf, F.kp, bf⟩
  · obtain ⟨a, x, n, rfl, _⟩ := h; rfl
  · obtain ⟨a, x, n, rfl, hA, xl, nl, q⟩ := h
    refine ⟨_, (pss_one (ps_ret (pe_joined (.cons (pe_fmt (pe_ix ix_tup (pv 0) pe_int (fun _ _ => rfl))) (.cons pe_str (.cons (pe_fmt (pe_ix ix_tup (pv 0) pe_int (fun _ _ => rfl))) .nil)))))), ?_⟩
    have small : ∀ n : Nat, n ≤ 30000 → n ≤ sizeLine := fun n h => Nat.le_trans h (by decide)
    have lx := tl_len x
    have nL := TL.numL_len (n := n) (k := 6) (by decide) (by omega)
    have t1 : tl (Str.ofString (toString (n : Int))) = TL.numL n := TL.tl_num n
    refine ⟨_, rfl, a, _, _, .int (n : Int), rfl, rfl, hA, atI_nat (j := 1) rfl, .inr ⟨(n : Int), rfl, ?_, _, rfl, ?_, _, rfl, ?_, _, rfl, a, _, _, .str x, rfl, rfl, hA, atI_nat (j := 0) rfl, .inl ⟨x, rfl, small _ (by omega), _, rfl, ?_, ?_⟩⟩⟩
    · exact log54 nl
    · rw [tl_len, tl_app, List.length_append, t1]; exact small _ (by show 0 + _ ≤ _; omega)
    · rw [tl_len, tl_app, tl_app, List.length_append, List.length_append, t1]; exact small _ (by show (0 + _) + 1 ≤ _; omega)
    · rw [tl_len, tl_app, tl_app, tl_app, List.length_append, List.length_append, List.length_append, t1]; exact small _ (by show ((0 + _) + 1) + _ ≤ _; omega)
    · refine q _ ?_
      rw [tl_app, tl_app, tl_app, t1]
      show ([] ++ TL.numL n ++ [64]) ++ tl x = _
      rw [List.nil_append, List.append_assoc]; rfl
end
section
variable {P : Program} {w : World} {K : PySem.W.Frag} {mg : Str → Option Value} {base : Heap}
theorem ok_missing_seals (D : Df K mg "missing_seals" s_missing_seals ["book", "notice"]) (T : Tx mg)  (C_needed_seals : Cal P w K mg base "needed_seals" ["book", "boards"] 7 (sp_seals K)) : Cal P w K mg base "missing_seals" ["book", "notice"] 8 (sp54_missing K) := by
  obtain ⟨f_needed_seals, fd_needed_seals, G_needed_seals, g_needed_seals, k_needed_seals, b_needed_seals⟩ := C_needed_seals
  obtain ⟨f, fd, F, gf, bf⟩ := D
  refine ⟨f, fd, F.ok sc_missing_seals (fun vs H Q E h => ?_) (fun cdv A outer s₀ H vs Q E hr h => ?_), gf, F.kp, bf⟩
  · obtain ⟨b, t, v, u, rfl, _⟩ := h; rfl
  · obtain ⟨b, t, v, u, rfl, dv, bo, du, ok, q⟩ := h
    refine ⟨_, (pss_cons (ps_if (pt_cmpR op_eq (pe_ix ix_tup (pe_ix ix_tup (pv 1) pe_int (fun _ _ => rfl)) pe_int (fun _ _ => rfl)) pe_str (nomark _))
      (pss_one (ps_ret (pe_tup pa_nil)))
      pss_nil)
      (pss_one (ps_ret (pe_callTy call_tuple_of (by rfl) T.n_tuple (by decide +kernel) (pa_cons (pe_lc (own := [("address", 2)]) (g := gName 2) rfl sc_missing_seals.nd (pi_tup (pe_call G_needed_seals (hr.mono (by decide)) (by rfl) g_needed_seals k_needed_seals b_needed_seals .nil pass0 (pa_cons (pv 0) (pa_cons (pe_ix ix_tup (pv 1) pe_int (fun _ _ => rfl)) pa_nil)))) (blkOk_by (own := [("address", 2)]) (N := N_missing_seals) (sc := defScope s_missing_seals) (by decide +kernel)) (fun _ _ _ _ _ => pg_name (i := 2) sc_missing_seals.nd rfl (Or.inl rfl)) (fun _ _ _ _ _ => pts_one (pt_cmpR (notIn_seqQ (K := K) rfl) (pv 2) (pe_ix (ix_tupQ (K := K) rfl) (pv 1) pe_int (fun _ _ => rfl)) (by rfl))) (fun _ _ _ _ _ => (pv 2))) pa_nil))))), ?_⟩
    have small : ∀ n : Nat, n ≤ 30000 → n < sizeLine := fun n h => Nat.lt_of_le_of_lt h (by decide)
    have ml := miss_ten (b := b) ok.bs.1
    have sl := seals_ten (b := b) ok.bs.1
    obtain ⟨a, us, i, bA, kA, ks, z, rfl, hA, ul, e1, hi, e2, e4, hb, e7, hk, k0, e8, hz⟩ := nt_at du
    refine ⟨_, rfl, a, us, 7, .ref kA, rfl, rfl, hA, atI_nat (j := 7) e7, kA, ks, 0, _, rfl, rfl, hk, atI_nat (j := 0) k0, rfl, _, rfl, ite2 (fun cc => ?_) (fun cc => ?_)⟩
    · have w : t.w = Str.ofString "strike" := V.str.inj (of_decide_eq_true cc)
      refine ⟨Nat.zero_le _, fun T hT => q _ _ (same_new hT) ⟨T, [], rfl, SqT.of upd_same, ?_⟩⟩
      unfold missL
      rw [if_pos w]
      exact dln
    · have w : ¬ t.w = Str.ofString "strike" := fun e => cc (decide_eq_true (congrArg V.str e))
      refine ⟨_, rfl, _, rfl, a, us, 4, .ref bA, rfl, rfl, hA, atI_nat (j := 4) e4, b, v, bA, t.bs, rfl, dv, bo, hb, by have := ok.bs.1; omega, ok.bs.2, fun T H1 m1 hT => ⟨T, rfl, ⟨_, hT⟩, fun L hL => ?_⟩⟩
      refine lc_tup (K := K) (a := T) (xs := (sealsL b t.bs).map V.str) (fun j H' => H' L = some (.lst ((((sealsL b t.bs).take j).filter fun x => !decide (x ∈ t.se)).map V.str)) ∧ Same H1 H') ⟨by rw [upd_same]; rfl, same_new hL⟩ (fun j H' _ h => h.2.tup hT) ?_ ?_
      · rintro j x H2 hj ⟨h2, m2⟩
        rw [List.getElem?_map] at hj
        obtain ⟨d, hd, rfl⟩ := Option.map_eq_some_iff.mp hj
        have m12 := m1.trans m2
        have jl := (List.getElem?_eq_some_iff.mp hd).1
        refine ⟨rfl, _, rfl, _, rfl, a, us, 8, .ref z, rfl, rfl, m12.tup hA, atI_nat (j := 8) e8, z, _, rfl, .inr (m12.tup hz), rfl, flat_strs _, _, rfl, ?_⟩
        rw [show (if true = true then !inV (V.str d) (t.se.map V.str) else inV (V.str d) (t.se.map V.str)) = !decide (d ∈ t.se) by rw [if_pos rfl, inV_strs]]
        by_cases c : d ∈ t.se
        · refine iN (by rw [decide_eq_true c]; rfl) ⟨?_, m2⟩
          rw [h2, filt54 hd, if_neg (by simpa using c), List.append_nil]
        · refine iG (by rw [decide_eq_false c]; rfl) ⟨_, rfl, _, h2, ?_, ?_, sput m2 hL⟩
          · rw [List.length_map]
            have := List.length_filter_le (fun x => !decide (x ∈ t.se)) ((sealsL b t.bs).take j)
            rw [List.length_take] at this
            exact small _ (by omega)
          · rw [upd_same, filt54 hd, if_pos (by simpa using c), List.map_append]; rfl
      rintro H2 ⟨h2, m2⟩
      rw [List.length_map, List.take_length] at h2
      have em : (sealsL b t.bs).filter (fun x => !decide (x ∈ t.se)) = missL b t := by unfold missL; rw [if_neg w]
      rw [em] at h2
      refine ⟨L, _, rfl, .inl ⟨SqL.of h2, fun T2 hT2 => ?_⟩⟩
      have m3 := same_new (o := HO.tup ((missL b t).map V.str)) hT2
      exact q _ _ (m1.trans (m2.trans m3)) ⟨T2, _, rfl, SqT.of upd_same, txt_dvs _⟩
end
section
variable {P : Program} {w : World} {K : PySem.W.Frag} {mg : Str → Option Value} {base : Heap}
theorem ok_submitted_to (D : Df K mg "submitted_to" s_submitted_to ["notice", "goal", "needed", "seen"]) (T : Tx mg)  (C_id_text : Cal P w K mg base "id_text" ["id"] 1 (sp_id_text K)) : Cal P w K mg base "submitted_to" ["notice", "goal", "needed", "seen"] 2 (sp54_to K) := by
  obtain ⟨f_id_text, fd_id_text, G_id_text, g_id_text, k_id_text, b_id_text⟩ := C_id_text
  obtain ⟨f, fd, F, gf, bf⟩ := D
  refine ⟨f, fd, F.ok sc_submitted_to (fun vs H Q E h => ?_) (fun cdv A outer s₀ H vs Q E hr h => ?_), gf, F.kp, bf⟩
  · obtain ⟨t, u, g, e, rfl, _⟩ := h; rfl
  · obtain ⟨t, u, g, e, rfl, du, ok, he, q⟩ := h
    refine ⟨_, (pss_cons (ps_set (i := 4) sc_submitted_to.nd rfl (Or.inl rfl) (pe_joined (.cons pe_str (.cons (pe_fmt (pe_call G_id_text (hr.mono (by decide)) (by rfl) g_id_text k_id_text b_id_text .nil pass0 (pa_cons (pe_ix ix_tup (pv 0) pe_int (fun _ _ => rfl)) pa_nil))) (.cons pe_str (.cons (pe_fmt (pe_callB call_len_seq (by rfl) T.n_len PySem.boot_len (pa_cons (pe_ix ix_tup (pv 0) pe_int (fun _ _ => rfl)) pa_nil))) (.cons pe_str (.cons (pe_fmt (pe_callB call_len_seq (by rfl) T.n_len PySem.boot_len (pa_cons (pv 3) pa_nil))) .nil))))))))
      (pss_one (ps_ret (pe_tup (pa_cons pe_str (pa_cons (pv 4) (pa_cons (pv 1) (pa_cons (pe_tup (pa_cons pe_str (pa_cons (pv 0) (pa_cons (pv 2) (pa_cons (pv 3) pa_nil))))) pa_nil)))))))), ?_⟩
    have du0 := du
    obtain ⟨a, us, i, bA, kA, ks, z, rfl, hA, ul, e1, hi, e2, e4, hb, e7, hk, k0, e8, hz⟩ := nt_at du
    have il := idL_len ok
    have sl := numL_six (n := t.se.length) (by have := ok.se; omega)
    have t2 := tl_int t.se.length
    refine ⟨_, rfl, ?_, _, rfl, a, us, 1, .ref i, rfl, rfl, hA, atI_nat (j := 1) e1, i, t.n, t.k, rfl, hi, by have := ok.n; omega, ok.k, fun y hy => ?_⟩
    · exact js (by decide)
    have hy' : tl y = idL t := hy
    have l0 : (tl Str.empty).length = 0 := rfl
    have lA : (tl (Str.ofString "s:")).length = 2 := rfl
    have lB : (tl (Str.ofString ":")).length = 1 := rfl
    have l2 : (tl (Str.ofString (toString ((([] : List V).length : Nat) : Int)))).length = 1 := rfl
    have zl : ((t.se.map V.str).length : Nat) = t.se.length := List.length_map _
    refine .inl ⟨y, rfl, ?_, _, rfl, ?_, _, rfl, ?_, _, rfl, a, us, 8, .ref z, rfl, rfl, hA, atI_nat (j := 8) e8, z, _, rfl, .inr hz, ?_⟩
    · rw [tl_len, hy']; exact Nat.le_trans (show _ ≤ 30000 by omega) (by decide)
    · refine js ?_
      simp only [tl_app, List.length_append, hy']
      omega
    · refine js ?_
      simp only [tl_app, List.length_append, hy']
      omega
    rw [zl]
    refine .inr ⟨_, rfl, log54 (by have := ok.se; omega), _, rfl, ?_, _, rfl, ?_, _, rfl, e, _, rfl, .inr he, .inr ⟨_, rfl, by decide, _, rfl, ?_, ?_⟩⟩
    · refine js ?_
      simp only [tl_app, List.length_append, hy', t2]
      omega
    · refine js ?_
      simp only [tl_app, List.length_append, hy', t2]
      omega
    · refine js ?_
      simp only [tl_app, List.length_append, hy', t2]
      omega
    refine ⟨_, rfl, _, rfl, _, rfl, _, rfl, _, rfl, by show 4 ≤ sizeLine; decide, fun T hT => ?_⟩
    have m1 := same_new (o := HO.tup [V.str (Str.ofString "submit"), V.ref a, V.str g, V.ref e]) hT
    refine ⟨by show 4 ≤ sizeLine; decide, fun U hU => ?_⟩
    have m2 := fun (y : Str) => same_new (o := HO.tup [V.str (Str.ofString "letter"), V.str y, V.str g, V.ref T]) hU
    have hT2 := fun (y : Str) => m2 y _ _ (upd_same (H := H) (a := T) (o := HO.tup [V.str (Str.ofString "submit"), V.ref a, V.str g, V.ref e]))
    have mm := fun (y : Str) => m1.trans (m2 y)
    refine q _ _ (mm _) ⟨U, _, rfl, SqT.of upd_same, dlc (dls _) (dlc (dv_key ?_) (dlc (dls _) (dlc ⟨T, _, rfl, SqT.of (hT2 _), dlc (dls _) (dlc (du0.tk (TK.same (mm _))) (dlc (dls _) (dlc ⟨e, [], rfl, (mm _).tup he, dln⟩ dln)))⟩ dln)))⟩
    simp only [tl_app, hy', t2]
    show ((((([] ++ [115, 58]) ++ idL t) ++ [58]) ++ TL.numL t.se.length) ++ [58]) ++ [48] = _
    simp
end
section
variable {P : Program} {w : World} {K : PySem.W.Frag} {mg : Str → Option Value} {base : Heap}
theorem ok_submission (D : Df K mg "submission" s_submission ["book", "notice"]) (T : Tx mg)  (C_missing_seals : Cal P w K mg base "missing_seals" ["book", "notice"] 8 (sp54_missing K)) (C_submitted_to : Cal P w K mg base "submitted_to" ["notice", "goal", "needed", "seen"] 2 (sp54_to K)) : Cal P w K mg base "submission" ["book", "notice"] 9 (sp54_subs K) := by
  obtain ⟨f_missing_seals, fd_missing_seals, G_missing_seals, g_missing_seals, k_missing_seals, b_missing_seals⟩ := C_missing_seals
  obtain ⟨f_submitted_to, fd_submitted_to, G_submitted_to, g_submitted_to, k_submitted_to, b_submitted_to⟩ := C_submitted_to
  obtain ⟨f, fd, F, gf, bf⟩ := D
  refine ⟨f, fd, F.ok sc_submission (fun vs H Q E h => ?_) (fun cdv A outer s₀ H vs Q E hr h => ?_), gf, F.kp, bf⟩
  · obtain ⟨b, t, v, u, rfl, _⟩ := h; rfl
  · obtain ⟨b, t, v, u, rfl, dv, bo, du, ok, q⟩ := h
    refine ⟨_, (pss_cons (ps_set (i := 2) sc_submission.nd rfl (Or.inl rfl) (pe_call G_missing_seals (hr.mono (by decide)) (by rfl) g_missing_seals k_missing_seals b_missing_seals .nil pass0 (pa_cons (pv 0) (pa_cons (pv 1) pa_nil))))
      (pss_one (ps_ret (pe_ifExp (pt_truth (pv 2) (by intro _; rfl)) (pe_call G_submitted_to (hr.mono (by decide)) (by rfl) g_submitted_to k_submitted_to b_submitted_to .nil pass0 (pa_cons (pv 1) (pa_cons (pe_ix ix_tup (pv 2) pe_int (fun _ _ => rfl)) (pa_cons (pe_ix ix_tup (pv 2) pe_int (fun _ _ => rfl)) (pa_cons (pe_tup pa_nil) pa_nil))))) pe_non)))), ?_⟩
    refine ⟨_, rfl, _, rfl, b, t, v, u, rfl, dv, bo, du, ok, fun r H1 m1 dr => ?_⟩
    unfold subsD at q
    obtain ⟨R, rs, rfl, hR, er⟩ := dr
    have er := dvs_txt er
    subst er
    cases hm : missL b t with
    | nil =>
      rw [hm] at hR q
      exact ⟨_, rfl, false, .inr (.inl ⟨_, hR, rfl⟩), iteF (q _ _ m1 (by unfold DV; rfl))⟩
    | cons g l =>
      rw [hm] at hR q
      refine ⟨_, rfl, true, .inr (.inl ⟨_, hR, rfl⟩), iteT ?_⟩
      refine ⟨_, rfl, _, rfl, R, _, 0, .str g, rfl, rfl, hR, atI_nat (j := 0) rfl, _, rfl, R, _, 0, .str g, rfl, rfl, hR, atI_nat (j := 0) rfl, Nat.zero_le _, fun E hE => ?_⟩
      have m2 := same_new (o := HO.tup []) hE
      exact ⟨t, u, g, E, rfl, du.tk (TK.same (m1.trans m2)), ok, SqT.of upd_same, fun r H3 m3 dr => q r H3 (m1.trans (m2.trans m3)) dr⟩
end
section
variable {P : Program} {w : World} {K : PySem.W.Frag} {mg : Str → Option Value} {base : Heap}
theorem ok_note_to (D : Df K mg "note_to" s_note_to ["notice", "verdict"]) (T : Tx mg)  (C_id_text : Cal P w K mg base "id_text" ["id"] 1 (sp_id_text K)) : Cal P w K mg base "note_to" ["notice", "verdict"] 2 (sp54_note K) := by
  obtain ⟨f_id_text, fd_id_text, G_id_text, g_id_text, k_id_text, b_id_text⟩ := C_id_text
  obtain ⟨f, fd, F, gf, bf⟩ := D
  refine ⟨f, fd, F.ok sc_note_to (fun vs H Q E h => ?_) (fun cdv A outer s₀ H vs Q E hr h => ?_), gf, F.kp, bf⟩
  · obtain ⟨t, sd, u, z, rfl, _⟩ := h; rfl
  · obtain ⟨t, sd, u, z, rfl, du, ok, dz, q⟩ := h
    refine ⟨_, (pss_one (ps_ret (pe_tup (pa_cons pe_str (pa_cons (pe_joined (.cons pe_str (.cons (pe_fmt (pe_call G_id_text (hr.mono (by decide)) (by rfl) g_id_text k_id_text b_id_text .nil pass0 (pa_cons (pe_ix ix_tup (pv 0) pe_int (fun _ _ => rfl)) pa_nil))) .nil))) (pa_cons (pe_ix ix_tup (pv 0) pe_int (fun _ _ => rfl)) (pa_cons (pe_tup (pa_cons pe_str (pa_cons (pe_ix ix_tup (pv 0) pe_int (fun _ _ => rfl)) (pa_cons (pv 1) pa_nil)))) pa_nil))))))), ?_⟩
    have du0 := du
    obtain ⟨a, us, i, bA, kA, ks, z', rfl, hA, ul, e1, hi, e2, e4, hb, e7, hk, k0, e8, hz⟩ := nt_at du
    have il := idL_len ok
    have l0 : (tl Str.empty).length = 0 := rfl
    have lA : (tl (Str.ofString "n:")).length = 2 := rfl
    refine ⟨_, rfl, ?_, _, rfl, a, us, 1, .ref i, rfl, rfl, hA, atI_nat (j := 1) e1, i, t.n, t.k, rfl, hi, by have := ok.n; omega, ok.k, fun y hy => ?_⟩
    · exact js (by decide)
    have hy' : tl y = idL t := hy
    refine .inl ⟨y, rfl, ?_, _, rfl, ?_, ?_⟩
    · rw [tl_len, hy']; exact Nat.le_trans (show _ ≤ 30000 by omega) (by decide)
    · refine js ?_
      simp only [tl_app, List.length_append, hy']
      omega
    refine ⟨_, rfl, a, us, 2, _, rfl, rfl, hA, atI_nat (j := 2) e2, _, rfl, a, us, 1, .ref i, rfl, rfl, hA, atI_nat (j := 1) e1, _, rfl, by show 3 ≤ sizeLine; decide, fun T hT => ?_⟩
    have m1 := same_new (o := HO.tup [V.str (Str.ofString "note"), V.ref i, z]) hT
    refine ⟨by show 4 ≤ sizeLine; decide, fun U hU => ?_⟩
    have m2 := fun (y : Str) => same_new (o := HO.tup [V.str (Str.ofString "letter"), V.str y, V.str t.au, V.ref T]) hU
    have hT2 := fun (y : Str) => m2 y _ _ (upd_same (H := H) (a := T) (o := HO.tup [V.str (Str.ofString "note"), V.ref i, z]))
    have mm := fun (y : Str) => m1.trans (m2 y)
    refine q _ _ (mm _) ⟨U, _, rfl, SqT.of upd_same, dlc (dls _) (dlc (dv_key ?_) (dlc (dls _) (dlc ⟨T, _, rfl, SqT.of (hT2 _), dlc (dls _) (dlc ⟨i, _, rfl, (mm _).tup hi, dlc (dls _) (dlc (dli _) dln)⟩ (dlc (dz.tk (TK.same (mm _))) dln))⟩ dln)))⟩
    simp only [tl_app, hy']
    show (([] ++ [110, 58]) ++ idL t) = _
    simp
end
section
variable {P : Program} {w : World} {K : PySem.W.Frag} {mg : Str → Option Value} {base : Heap}
theorem ok_copy_to (D : Df K mg "copy_to" s_copy_to ["notice", "list_address", "member"]) (T : Tx mg)  (C_id_text : Cal P w K mg base "id_text" ["id"] 1 (sp_id_text K)) : Cal P w K mg base "copy_to" ["notice", "list_address", "member"] 2 (sp54_copy K) := by
  obtain ⟨f_id_text, fd_id_text, G_id_text, g_id_text, k_id_text, b_id_text⟩ := C_id_text
  obtain ⟨f, fd, F, gf, bf⟩ := D
  refine ⟨f, fd, F.ok sc_copy_to (fun vs H Q E h => ?_) (fun cdv A outer s₀ H vs Q E hr h => ?_), gf, F.kp, bf⟩
  · obtain ⟨t, u, h, m, rfl, _⟩ := h; rfl
  · obtain ⟨t, u, h, m, rfl, du, ok, hl, ml, q⟩ := h
    refine ⟨_, (pss_cons (ps_set (i := 3) sc_copy_to.nd rfl (Or.inl rfl) (pe_joined (.cons pe_str (.cons (pe_fmt (pe_call G_id_text (hr.mono (by decide)) (by rfl) g_id_text k_id_text b_id_text .nil pass0 (pa_cons (pe_ix ix_tup (pv 0) pe_int (fun _ _ => rfl)) pa_nil))) (.cons pe_str (.cons (pe_fmt (pv 1)) (.cons pe_str (.cons (pe_fmt (pv 2)) .nil))))))))
      (pss_one (ps_ret (pe_tup (pa_cons pe_str (pa_cons (pv 3) (pa_cons (pv 2) (pa_cons (pe_tup (pa_cons pe_str (pa_cons (pv 0) (pa_cons (pv 1) pa_nil)))) pa_nil)))))))), ?_⟩
    have du0 := du
    obtain ⟨a, us, i, bA, kA, ks, z', rfl, hA, ul, e1, hi, e2, e4, hb, e7, hk, k0, e8, hz⟩ := nt_at du
    have il := idL_len ok
    have l0 : (tl Str.empty).length = 0 := rfl
    have lA : (tl (Str.ofString "c:")).length = 2 := rfl
    have lB : (tl (Str.ofString ":")).length = 1 := rfl
    refine ⟨_, rfl, ?_, _, rfl, a, us, 1, .ref i, rfl, rfl, hA, atI_nat (j := 1) e1, i, t.n, t.k, rfl, hi, by have := ok.n; omega, ok.k, fun y hy => ?_⟩
    · exact js (by decide)
    have hy' : tl y = idL t := hy
    refine .inl ⟨y, rfl, ?_, _, rfl, ?_, _, rfl, ?_, _, rfl, .inl ⟨h, rfl, ?_, _, rfl, ?_, _, rfl, ?_, _, rfl, .inl ⟨m, rfl, ?_, _, rfl, ?_, ?_⟩⟩⟩
    · rw [tl_len, hy']; exact Nat.le_trans (show _ ≤ 30000 by omega) (by decide)
    · refine js ?_
      simp only [tl_app, List.length_append, hy']
      omega
    · refine js ?_
      simp only [tl_app, List.length_append, hy']
      omega
    · rw [tl_len]; exact Nat.le_trans (show _ ≤ 30000 by omega) (by decide)
    · refine js ?_
      simp only [tl_app, List.length_append, hy']
      omega
    · refine js ?_
      simp only [tl_app, List.length_append, hy']
      omega
    · rw [tl_len]; exact Nat.le_trans (show _ ≤ 30000 by omega) (by decide)
    · refine js ?_
      simp only [tl_app, List.length_append, hy']
      omega
    refine ⟨_, rfl, _, rfl, _, rfl, _, rfl, by show 3 ≤ sizeLine; decide, fun T hT => ?_⟩
    have m1 := same_new (o := HO.tup [V.str (Str.ofString "copy"), V.ref a, V.str h]) hT
    refine ⟨by show 4 ≤ sizeLine; decide, fun U hU => ?_⟩
    have m2 := fun (y : Str) => same_new (o := HO.tup [V.str (Str.ofString "letter"), V.str y, V.str m, V.ref T]) hU
    have hT2 := fun (y : Str) => m2 y _ _ (upd_same (H := H) (a := T) (o := HO.tup [V.str (Str.ofString "copy"), V.ref a, V.str h]))
    have mm := fun (y : Str) => m1.trans (m2 y)
    refine q _ _ (mm _) ⟨U, _, rfl, SqT.of upd_same, dlc (dls _) (dlc (dv_key ?_) (dlc (dls _) (dlc ⟨T, _, rfl, SqT.of (hT2 _), dlc (dls _) (dlc (du0.tk (TK.same (mm _))) (dlc (dls _) dln))⟩ dln)))⟩
    simp only [tl_app, hy']
    show ((((([] ++ [99, 58]) ++ idL t) ++ [58]) ++ tl h) ++ [58]) ++ tl m = _
    simp
end
section
variable {P : Program} {w : World} {K : PySem.W.Frag} {mg : Str → Option Value} {base : Heap}
theorem ok__law_id_text (D : Df K mg "_law_id_text" s__law_id_text ["notice"]) (T : Tx mg)   : Cal P w K mg base "_law_id_text" ["notice"] 1 (sp54_lid K) := by
  obtain ⟨f, fd, F, gf, bf⟩ := D
  refine ⟨f, fd, F.ok sc__law_id_text (fun vs H Q E h => ?_) (fun cdv A outer s₀ H vs Q E hr h => ?_), gf, F.kp, bf⟩
  · obtain ⟨t, u, rfl, _⟩ := h; rfl
  · obtain ⟨t, u, rfl, du, ok, q⟩ := h
    refine ⟨_, (pss_one (ps_ret (pe_op op_add_str (pe_op op_add_str (pe_callTy call_str_int (by rfl) T.n_str (by decide +kernel) (pa_cons (pe_ix ix_tup (pe_ix ix_tup (pv 0) pe_int (fun _ _ => rfl)) pe_int (fun _ _ => rfl)) pa_nil)) pe_str) (pe_ix ix_tup (pe_ix ix_tup (pv 0) pe_int (fun _ _ => rfl)) pe_int (fun _ _ => rfl))))), ?_⟩
    obtain ⟨a, us, i, bA, kA, ks, z, rfl, hA, ul, e1, hi, e2, e4, hb, e7, hk, k0, e8, hz⟩ := nt_at du
    refine ⟨_, rfl, a, us, 1, .ref i, rfl, rfl, hA, atI_nat (j := 1) e1, i, _, 1, _, rfl, rfl, hi, atI_nat (j := 1) rfl, _, rfl, log54 ok.k, ?_⟩
    have t1 := tl_int t.k
    have nl := numL_six ok.k
    have nn := ok.n
    refine ⟨_, _, rfl, rfl, ?_, _, rfl, a, us, 1, .ref i, rfl, rfl, hA, atI_nat (j := 1) e1, i, _, 0, _, rfl, rfl, hi, atI_nat (j := 0) rfl, _, _, rfl, rfl, ?_, q _ ?_⟩
    · refine js2 ?_
      rw [t1]
      show _ + 1 ≤ _
      omega
    · refine js2 ?_
      rw [tl_app, List.length_append, t1]
      show (_ + 1) + _ ≤ _
      omega
    · rw [tl_app, tl_app, t1]
      show (_ ++ [64]) ++ _ = _
      unfold idL
      simp
end
section
variable {P : Program} {w : World} {K : PySem.W.Frag} {mg : Str → Option Value} {base : Heap}
theorem ok__law_lacking (D : Df K mg "_law_lacking" s__law_lacking ["book", "notice"]) (T : Tx mg)  (C__law_needed : Cal P w K mg base "_law_needed" ["book", "boards"] 4 (sp_seals K)) : Cal P w K mg base "_law_lacking" ["book", "notice"] 5 (sp54_lacking K) := by
  obtain ⟨f__law_needed, fd__law_needed, G__law_needed, g__law_needed, k__law_needed, b__law_needed⟩ := C__law_needed
  obtain ⟨f, fd, F, gf, bf⟩ := D
  refine ⟨f, fd, F.ok sc__law_lacking (fun vs H Q E h => ?_) (fun cdv A outer s₀ H vs Q E hr h => ?_), gf, F.kp, bf⟩
  · obtain ⟨b, t, v, u, rfl, _⟩ := h; rfl
  · obtain ⟨b, t, v, u, rfl, dv, bo, du, ok, q⟩ := h
    refine ⟨_, (pss_cons (ps_if (pt_cmpR op_eq (pe_ix ix_tup (pe_ix ix_tup (pv 1) pe_int (fun _ _ => rfl)) pe_int (fun _ _ => rfl)) pe_str (nomark _))
      (pss_one (ps_ret (pe_lst pa_nil)))
      pss_nil)
      (pss_one (ps_ret (pe_lc (own := [("address", 2)]) (g := gName 2) rfl sc__law_lacking.nd (pi_tup (pe_call G__law_needed (hr.mono (by decide)) (by rfl) g__law_needed k__law_needed b__law_needed .nil pass0 (pa_cons (pv 0) (pa_cons (pe_ix ix_tup (pv 1) pe_int (fun _ _ => rfl)) pa_nil)))) (blkOk_by (own := [("address", 2)]) (N := N__law_lacking) (sc := defScope s__law_lacking) (by decide +kernel)) (fun _ _ _ _ _ => pg_name (i := 2) sc__law_lacking.nd rfl (Or.inl rfl)) (fun _ _ _ _ _ => pts_one (pt_cmpR (notIn_seqQ (K := K) rfl) (pv 2) (pe_ix (ix_tupQ (K := K) rfl) (pv 1) pe_int (fun _ _ => rfl)) (by rfl))) (fun _ _ _ _ _ => (pv 2)))))), ?_⟩
    have small : ∀ n : Nat, n ≤ 30000 → n < sizeLine := fun n h => Nat.lt_of_le_of_lt h (by decide)
    have ml := miss_ten (b := b) ok.bs.1
    have sl := seals_ten (b := b) ok.bs.1
    obtain ⟨a, us, i, bA, kA, ks, z, rfl, hA, ul, e1, hi, e2, e4, hb, e7, hk, k0, e8, hz⟩ := nt_at du
    refine ⟨_, rfl, a, us, 7, .ref kA, rfl, rfl, hA, atI_nat (j := 7) e7, kA, ks, 0, _, rfl, rfl, hk, atI_nat (j := 0) k0, rfl, _, rfl, ite2 (fun cc => ?_) (fun cc => ?_)⟩
    · have w : t.w = Str.ofString "strike" := V.str.inj (of_decide_eq_true cc)
      refine ⟨Nat.zero_le _, fun T hT => q _ _ hT (same_new hT) ?_⟩
      unfold missL
      rw [if_pos w]
      exact upd_same
    · have w : ¬ t.w = Str.ofString "strike" := fun e => cc (decide_eq_true (congrArg V.str e))
      refine ⟨_, rfl, _, rfl, a, us, 4, .ref bA, rfl, rfl, hA, atI_nat (j := 4) e4, b, v, bA, t.bs, rfl, dv, bo, hb, by have := ok.bs.1; omega, ok.bs.2, fun T H1 m1 hT => ⟨T, rfl, ⟨_, hT⟩, fun L hL => ?_⟩⟩
      refine lc_tup (K := K) (a := T) (xs := (sealsL b t.bs).map V.str) (fun j H' => H' L = some (.lst ((((sealsL b t.bs).take j).filter fun x => !decide (x ∈ t.se)).map V.str)) ∧ Same H1 H') ⟨by rw [upd_same]; rfl, same_new hL⟩ (fun j H' _ h => h.2.tup hT) ?_ ?_
      · rintro j x H2 hj ⟨h2, m2⟩
        rw [List.getElem?_map] at hj
        obtain ⟨d, hd, rfl⟩ := Option.map_eq_some_iff.mp hj
        have m12 := m1.trans m2
        have jl := (List.getElem?_eq_some_iff.mp hd).1
        refine ⟨rfl, _, rfl, _, rfl, a, us, 8, .ref z, rfl, rfl, m12.tup hA, atI_nat (j := 8) e8, z, _, rfl, .inr (m12.tup hz), rfl, flat_strs _, _, rfl, ?_⟩
        rw [show (if true = true then !inV (V.str d) (t.se.map V.str) else inV (V.str d) (t.se.map V.str)) = !decide (d ∈ t.se) by rw [if_pos rfl, inV_strs]]
        by_cases c : d ∈ t.se
        · refine iN (by rw [decide_eq_true c]; rfl) ⟨?_, m2⟩
          rw [h2, filt54 hd, if_neg (by simpa using c), List.append_nil]
        · refine iG (by rw [decide_eq_false c]; rfl) ⟨_, rfl, _, h2, ?_, ?_, sput m2 hL⟩
          · rw [List.length_map]
            have := List.length_filter_le (fun x => !decide (x ∈ t.se)) ((sealsL b t.bs).take j)
            rw [List.length_take] at this
            exact small _ (by omega)
          · rw [upd_same, filt54 hd, if_pos (by simpa using c), List.map_append]; rfl
      rintro H2 ⟨h2, m2⟩
      rw [List.length_map, List.take_length] at h2
      have em : (sealsL b t.bs).filter (fun x => !decide (x ∈ t.se)) = missL b t := by unfold missL; rw [if_neg w]
      rw [em] at h2
      exact q L H2 (Same.free m1 hL) (m1.trans m2) h2
end
section
variable {P : Program} {w : World} {K : PySem.W.Frag} {mg : Str → Option Value} {base : Heap}
theorem ok__law_submission_due (D : Df K mg "_law_submission_due" s__law_submission_due ["book", "notice"]) (T : Tx mg)  (C__law_id_text : Cal P w K mg base "_law_id_text" ["notice"] 1 (sp54_lid K)) (C__law_lacking : Cal P w K mg base "_law_lacking" ["book", "notice"] 5 (sp54_lacking K)) : Cal P w K mg base "_law_submission_due" ["book", "notice"] 6 (sp54_subs K) := by
  obtain ⟨f__law_id_text, fd__law_id_text, G__law_id_text, g__law_id_text, k__law_id_text, b__law_id_text⟩ := C__law_id_text
  obtain ⟨f__law_lacking, fd__law_lacking, G__law_lacking, g__law_lacking, k__law_lacking, b__law_lacking⟩ := C__law_lacking
  obtain ⟨f, fd, F, gf, bf⟩ := D
  refine ⟨f, fd, F.ok sc__law_submission_due (fun vs H Q E h => ?_) (fun cdv A outer s₀ H vs Q E hr h => ?_), gf, F.kp, bf⟩
  · obtain ⟨b, t, v, u, rfl, _⟩ := h; rfl
  · obtain ⟨b, t, v, u, rfl, dv, bo, du, ok, q⟩ := h
    refine ⟨_, (pss_cons (ps_set (i := 2) sc__law_submission_due.nd rfl (Or.inl rfl) (pe_call G__law_lacking (hr.mono (by decide)) (by rfl) g__law_lacking k__law_lacking b__law_lacking .nil pass0 (pa_cons (pv 0) (pa_cons (pv 1) pa_nil))))
      (pss_cons (ps_if (pt_cmpR op_eq (pe_callB call_len_seq (by rfl) T.n_len PySem.boot_len (pa_cons (pv 2) pa_nil)) pe_int (nomark _))
      (pss_one (ps_ret pe_non))
      pss_nil)
      (pss_cons (ps_set (i := 3) sc__law_submission_due.nd rfl (Or.inl rfl) (pe_op op_add_str (pe_op op_add_str (pe_op op_add_str (pe_op op_add_str pe_str (pe_call G__law_id_text (hr.mono (by decide)) (by rfl) g__law_id_text k__law_id_text b__law_id_text .nil pass0 (pa_cons (pv 1) pa_nil))) pe_str) (pe_callTy call_str_int (by rfl) T.n_str (by decide +kernel) (pa_cons (pe_callB call_len_seq (by rfl) T.n_len PySem.boot_len (pa_cons (pe_ix ix_tup (pv 1) pe_int (fun _ _ => rfl)) pa_nil)) pa_nil))) pe_str))
      (pss_one (ps_ret (pe_tup (pa_cons pe_str (pa_cons (pv 3) (pa_cons (pe_ix ix_list (pv 2) pe_int (fun _ _ => rfl)) (pa_cons (pe_tup (pa_cons pe_str (pa_cons (pv 1) (pa_cons (pe_ix ix_list (pv 2) pe_int (fun _ _ => rfl)) (pa_cons (pe_tup pa_nil) pa_nil))))) pa_nil)))))))))), ?_⟩
    have il := idL_len ok
    have sl := numL_six (n := t.se.length) (by have := ok.se; omega)
    have t2 := tl_int t.se.length
    have zl : ((t.se.map V.str).length : Nat) = t.se.length := List.length_map _
    refine ⟨_, rfl, _, rfl, b, t, v, u, rfl, dv, bo, du, ok, fun R H1 hR0 m1 hR => ?_⟩
    unfold subsD at q
    cases hm : missL b t with
    | nil =>
      rw [hm] at hR q
      exact ⟨_, rfl, R, _, rfl, .inl (SqL.of hR), rfl, _, rfl, iteT (q _ _ m1 (by unfold DV; rfl))⟩
    | cons g l =>
      rw [hm] at hR q
      have du1 := du.tk (TK.same m1)
      refine ⟨_, rfl, R, _, rfl, .inl (SqL.of hR), rfl, _, rfl, iN (decide_eq_false fun e => by
        have := V.int.inj e
        rw [List.length_map, List.length_cons] at this
        omega) ?_⟩
      refine ⟨_, rfl, t, u, rfl, du1, ok, fun y hy => ?_⟩
      obtain ⟨a, us, i, bA, kA, ks, z, rfl, hA, ul, e1, hi, e2, e4, hb, e7, hk, k0, e8, hz⟩ := nt_at du1
      have hy' : tl y = idL t := hy
      refine ⟨_, _, rfl, rfl, ?_, _, _, rfl, rfl, ?_, _, rfl, a, us, 8, .ref z, rfl, rfl, hA, atI_nat (j := 8) e8, z, _, rfl, .inr hz, _, rfl, ?_, ?_⟩
      · refine js2 ?_
        rw [hy']
        show 2 + _ ≤ _
        omega
      · refine js2 ?_
        rw [tl_app, List.length_append, hy']
        show (2 + _) + 1 ≤ _
        omega
      · rw [zl]
        exact log54 (by have := ok.se; omega)
      rw [zl]
      refine ⟨_, _, rfl, rfl, ?_, _, _, rfl, rfl, ?_, ?_⟩
      · refine js2 ?_
        simp only [tl_app, List.length_append, hy', t2]
        show ((2 + _) + 1) + _ ≤ _
        omega
      · refine js2 ?_
        simp only [tl_app, List.length_append, hy', t2]
        show (((2 + _) + 1) + _) + 2 ≤ _
        omega
      refine ⟨_, rfl, _, rfl, R, _, 0, .str g, rfl, rfl, SqL.of hR, atI_nat (j := 0) rfl, _, rfl, _, rfl, R, _, 0, .str g, rfl, rfl, SqL.of hR, atI_nat (j := 0) rfl, Nat.zero_le _, fun E hE => ?_⟩
      have m2 := same_new (o := HO.tup []) hE
      refine ⟨by show 4 ≤ sizeLine; decide, fun T hT => ?_⟩
      have m3 := same_new (o := HO.tup [V.str (Str.ofString "submit"), V.ref a, V.str g, V.ref E]) hT
      refine ⟨by show 4 ≤ sizeLine; decide, fun U hU => ?_⟩
      have m4 := fun (y : Str) => same_new (o := HO.tup [V.str (Str.ofString "letter"), V.str y, V.str g, V.ref T]) hU
      have hT4 := fun (y : Str) => m4 y _ _ (upd_same (a := T) (o := HO.tup [V.str (Str.ofString "submit"), V.ref a, V.str g, V.ref E]))
      have hE4 := fun (y : Str) => m4 y _ _ (m3 _ _ (upd_same (a := E) (o := HO.tup [])))
      have mm := fun (y : Str) => m2.trans (m3.trans (m4 y))
      refine q _ _ (m1.trans (mm _)) ⟨U, _, rfl, SqT.of upd_same, dlc (dls _) (dlc (dv_key ?_) (dlc (dls _) (dlc ⟨T, _, rfl, SqT.of (hT4 _), dlc (dls _) (dlc (du1.tk (TK.same (mm _))) (dlc (dls _) (dlc ⟨E, [], rfl, SqT.of (hE4 _), dln⟩ dln)))⟩ dln)))⟩
      simp only [tl_app, hy', t2]
      show (((([115, 58] ++ idL t) ++ [58]) ++ TL.numL t.se.length) ++ [58, 48]) = _
      simp
end

end Z
namespace Z
open PySem L2 SX
section
variable {P : Program} {w : World} {K : PySem.W.Frag} {mg : Str → Option Value} {base : Heap}
theorem ok__law_shuffled (D : Df K mg "_law_shuffled" s__law_shuffled ["source", "row"]) (T : Tx mg)  (C__law_draw : Cal P w K mg base "_law_draw" ["source", "many"] 2 sp__law_draw) : Cal P w K mg base "_law_shuffled" ["source", "row"] 3 (sp54_shuffled K) := by
  obtain ⟨f__law_draw, fd__law_draw, G__law_draw, g__law_draw, k__law_draw, b__law_draw⟩ := C__law_draw
  obtain ⟨f, fd, F, gf, bf⟩ := D
  refine ⟨f, fd, F.ok sc__law_shuffled (fun vs H Q E h => ?_) (fun cdv A outer s₀ H vs Q E hr h => ?_), gf, F.kp, bf⟩
  · obtain ⟨s, a, r, xs, c, rfl, _⟩ := h; rfl
  · obtain ⟨s, a, r, xs, c, rfl, hR, xl, hS, q⟩ := h
    refine ⟨_, (pss_cons (ps_set (i := 2) sc__law_shuffled.nd rfl (Or.inl rfl) (pe_callTy call_list_of (by rfl) T.n_list (by decide +kernel) (pa_cons (pv 1) pa_nil)))
      (pss_cons (ps_set (i := 3) sc__law_shuffled.nd rfl (Or.inl rfl) (pe_lst pa_nil))
      (pss_cons (ps_for PassesOwn.never rfl (pi_range1 (by rfl) T.n_range (pa_cons (pe_callB call_len_seq (by rfl) T.n_len PySem.boot_len (pa_cons (pv 1) pa_nil)) pa_nil)) (pg_name (i := 4) sc__law_shuffled.nd rfl (Or.inl rfl))
      (pss_one (ps_expr (pe_bm PySem.F.plainAttrs_list PySem.F.slot_list_append PySem.F.type_list_append mt_append (pv 3) (pa_cons (pe_bm PySem.F.plainAttrs_list PySem.F.slot_list_pop PySem.F.type_list_pop mt_popAt (pv 2) (pa_cons (pe_call G__law_draw (hr.mono (by decide)) (by rfl) g__law_draw k__law_draw b__law_draw .nil pass0 (pa_cons (pv 0) (pa_cons (pe_callB call_len_seq (by rfl) T.n_len PySem.boot_len (pa_cons (pv 2) pa_nil)) pa_nil))) pa_nil)) pa_nil)))))
      (pss_one (ps_ret (pv 3)))))), ?_⟩
    refine ⟨_, rfl, r, xs, rfl, hR, fun L hL => ?_⟩
    have n1 := same_new (o := HO.lst xs) hL
    refine ⟨Nat.zero_le _, fun D hD => ?_⟩
    have n2 := same_new (o := HO.lst []) hD
    have S1 := (hS.ext n1).ext n2
    have Ls := hS.ne hL
    have La := hS.nea hL
    have HD : H D = none := Same.free n1 hD
    have Ds := hS.ne HD
    have Da := hS.nea HD
    have LD : L ≠ D := ne_of_none upd_same hD
    refine ⟨_, rfl, r, xs, rfl, (hR.imp (fun h => (n1.trans n2).seq h) (fun h => (n1.trans n2).tup h)), _, rfl, by omega, by omega, ?_⟩
    refine for_range (lo := 0) (n := ((xs.length : Int)).toNat) (fun i σ H' => ∃ (ls ys : List V) (v4 : Option V), σ = [some (.ref s), some (.ref r), some (.ref L), some (.ref D), v4] ∧ H' L = some (.lst ls) ∧ H' D = some (.lst ys) ∧ ls.length + i = xs.length ∧ ys.length = i ∧ (∀ y ∈ ls, y ∈ xs) ∧ (∀ y ∈ ys, y ∈ xs) ∧ Ext s H H' ∧ Src H' s a (c + (xs.length - i))) ?_ ?_ ?_
    · exact ⟨xs, [], _, rfl, n2 _ _ upd_same, upd_same, by simp, rfl, (fun _ h => h), (fun _ h => by cases h), Ext.of (n1.trans n2), S1.mono (by omega)⟩
    · rintro i σ H' hi ⟨ls, ys, v4, rfl, hl, hy, l1, l2, m1, m2, hE, hS'⟩
      refine ⟨_, rfl, .inl ⟨rfl, _, SqL.of hy⟩, _, rfl, .inl ⟨rfl, _, SqL.of hl⟩, _, rfl, _, rfl, L, _, rfl, .inl (SqL.of hl), s, a, (ls.length : Int), c + (xs.length - (i + 1)), rfl, by omega, by omega, hS'.mono (by omega), fun v H2 v0 v1 x2 S2 => ?_⟩
      have hv : v.toNat < ls.length := by omega
      have hl2 := x2 _ _ Ls hl
      have hy2 := x2 _ _ Ds hy
      refine ⟨L, ls, v, v.toNat, ls[v.toNat], rfl, rfl, hl2, by omega, by omega, ?_, List.getElem?_eq_getElem hv, ?_⟩
      · exact seqIndex_of v0 v1
      refine ⟨D, ys, _, rfl, rfl, by rw [upd_ne LD.symm]; exact hy2, small54 (by omega), ?_⟩
      refine ⟨ls.eraseIdx v.toNat, ys ++ [ls[v.toNat]], _, rfl, by rw [upd_ne LD, upd_same], upd_same, ?_, by rw [List.length_append]; simp [l2], fun y h => m1 y (List.mem_of_mem_eraseIdx h), fun y h => ?_, fun b o hb hh => ?_, (S2.put Ls La).put Ds Da⟩
      · rw [List.length_eraseIdx, if_pos hv]; omega
      · rcases List.mem_append.mp h with q1 | q1
        · exact m2 y q1
        · rw [List.mem_singleton.mp q1]; exact m1 _ (List.getElem_mem hv)
      · rw [upd_ne (ne_of_none hh HD), upd_ne (ne_of_none hh hL)]; exact x2 _ _ hb (hE _ _ hb hh)
    · rintro σ H' ⟨ls, ys, v4, rfl, hl, hy, l1, l2, m1, m2, hE, hS'⟩
      exact ⟨_, rfl, q D ys H' HD hy (by omega) m2 hE (hS'.mono (by omega))⟩
end
section
variable {P : Program} {w : World} {K : PySem.W.Frag} {mg : Str → Option Value} {base : Heap}
theorem ok__law_body (D : Df K mg "_law_body" s__law_body ["source"]) (T : Tx mg)  (C__law_draw : Cal P w K mg base "_law_draw" ["source", "many"] 2 sp__law_draw) (C__law_row : Cal P w K mg base "_law_row" ["source", "size"] 3 sp__law_row) : Cal P w K mg base "_law_body" ["source"] 4 (sp54_body K) := by
  obtain ⟨f__law_draw, fd__law_draw, G__law_draw, g__law_draw, k__law_draw, b__law_draw⟩ := C__law_draw
  obtain ⟨f__law_row, fd__law_row, G__law_row, g__law_row, k__law_row, b__law_row⟩ := C__law_row
  obtain ⟨f, fd, F, gf, bf⟩ := D
  refine ⟨f, fd, F.ok sc__law_body (fun vs H Q E h => ?_) (fun cdv A outer s₀ H vs Q E hr h => ?_), gf, F.kp, bf⟩
  · obtain ⟨s, a, c, rfl, _⟩ := h; rfl
  · obtain ⟨s, a, c, rfl, hS, q⟩ := h
    refine ⟨_, (pss_cons (ps_set (i := 1) sc__law_body.nd rfl (Or.inl rfl) (pe_call G__law_draw (hr.mono (by decide)) (by rfl) g__law_draw k__law_draw b__law_draw .nil pass0 (pa_cons (pv 0) (pa_cons pe_int pa_nil))))
      (pss_cons (ps_if (pt_cmpR op_eq (pv 1) pe_int (nomark _))
      (pss_one (ps_ret (pe_tup (pa_cons pe_str (pa_cons pe_str (pa_cons (pe_callTy call_tuple_of (by rfl) T.n_tuple (by decide +kernel) (pa_cons (pe_lc (own := [("k", 4)]) (g := gName 4) (tt := tYes) rfl sc__law_body.nd (pi_range1 (by rfl) T.n_range (pa_cons (pe_call G__law_draw (hr.mono (by decide)) (by rfl) g__law_draw k__law_draw b__law_draw .nil pass0 (pa_cons (pv 0) (pa_cons pe_int pa_nil))) pa_nil)) (blkOk_by (own := [("k", 4)]) (N := N__law_body) (sc := defScope s__law_body) (by decide +kernel)) (fun _ _ _ _ _ => pg_name (i := 4) sc__law_body.nd rfl (Or.inl rfl)) (fun _ _ _ _ _ => pts_nil) (fun _ _ _ _ _ => (pe_call G__law_draw (hr.mono (by decide)) (by rfl) g__law_draw k__law_draw b__law_draw .nil pass0 (pa_cons (pv 0) (pa_cons pe_int pa_nil))))) pa_nil)) pa_nil))))))
      pss_nil)
      (pss_cons (ps_if (pt_cmpR op_eq (pv 1) pe_int (nomark _))
      (pss_cons (ps_set (i := 2) sc__law_body.nd rfl (Or.inl rfl) (pe_tup (pa_cons pe_str (pa_cons pe_str (pa_cons (pe_tup (pa_cons (pe_call G__law_row (hr.mono (by decide)) (by rfl) g__law_row k__law_row b__law_row .nil pass0 (pa_cons (pv 0) (pa_cons (pe_call G__law_draw (hr.mono (by decide)) (by rfl) g__law_draw k__law_draw b__law_draw .nil pass0 (pa_cons (pv 0) (pa_cons pe_int pa_nil))) pa_nil))) pa_nil)) pa_nil)))))
        (pss_one (ps_ret (pe_tup (pa_cons pe_str (pa_cons (pe_tup (pa_cons (pv 2) (pa_cons (pe_tup (pa_cons pe_str (pa_cons pe_str (pa_cons (pe_tup pa_nil) pa_nil)))) pa_nil))) pa_nil))))))
      pss_nil)
      (pss_cons (ps_setLc (i := 3) (own := [("k", 4)]) (g := gName 4) (tt := tYes) rfl sc__law_body.nd rfl rfl (sw_true rfl rfl rfl (by decide +kernel)) (pi_range1 (by rfl) T.n_range (pa_cons (pe_call G__law_draw (hr.mono (by decide)) (by rfl) g__law_draw k__law_draw b__law_draw .nil pass0 (pa_cons (pv 0) (pa_cons pe_int pa_nil))) pa_nil)) (blkOk_by (own := [("k", 4)]) (N := N__law_body) (sc := defScope s__law_body) (by decide +kernel)) (fun _ _ _ _ _ => pg_name (i := 4) sc__law_body.nd rfl (Or.inl rfl)) (fun _ _ _ _ _ => pts_nil) (fun _ _ _ _ _ => (pe_call G__law_row (hr.mono (by decide)) (by rfl) g__law_row k__law_row b__law_row .nil pass0 (pa_cons (pv 0) (pa_cons (pe_call G__law_draw (hr.mono (by decide)) (by rfl) g__law_draw k__law_draw b__law_draw .nil pass0 (pa_cons (pv 0) (pa_cons pe_int pa_nil))) pa_nil)))))
      (pss_one (ps_ret (pe_tup (pa_cons pe_str (pa_cons pe_str (pa_cons (pe_callTy call_tuple_of (by rfl) T.n_tuple (by decide +kernel) (pa_cons (pv 3) pa_nil)) pa_nil)))))))))), ?_⟩
    refine ⟨_, rfl, s, a, 8, c + 190, rfl, by decide, by decide, hS.mono (by omega), fun w1 H1 _ _ x1 S1 => ?_⟩
    refine ⟨_, rfl, rfl, _, rfl, ite2 (fun _ => ?_) (fun _ => ?_)⟩
    · refine ⟨_, rfl, s, a, 40, c + 180, rfl, by decide, by decide, S1.mono (by omega), fun m H2 m0 m1 x2 S2 => ⟨_, rfl, by omega, by omega, fun L hL => ?_⟩⟩
      have Ls := S2.ne hL
      have La := S2.nea hL
      refine lc_range (lo := 0) (n := m.toNat) (fun i H' => ∃ is : List Int, H' L = some (.lst (is.map V.int)) ∧ is.length = i ∧ Ext s H2 H' ∧ Src H' s a (c + (180 - i))) ⟨[], upd_same, rfl, Ext.new hL, S2.new hL⟩ ?_ ?_
      · rintro i H' hi ⟨is, h1, hl, hE, hS'⟩
        refine ⟨rfl, _, rfl, s, a, _, c + (180 - (i + 1)), rfl, by decide, by decide, hS'.mono (by omega), fun y H3 _ _ x3 S3 => ⟨_, x3 _ _ Ls h1, by rw [List.length_map]; exact small54 (by omega), is ++ [y], by rw [upd_same, List.map_append]; rfl, by rw [List.length_append, hl]; rfl, fun b o hb hh => ?_, S3.put Ls La⟩⟩
        rw [upd_ne (ne_of_none hh hL)]; exact x3 _ _ hb (hE _ _ hb hh)
      rintro H3 ⟨is, h3, hl3, hE3, S3⟩
      refine ⟨L, _, rfl, .inl ⟨SqL.of h3, fun T hT => ?_⟩⟩
      have n1 := same_new (o := HO.tup (is.map V.int)) hT
      refine ⟨by show 3 ≤ sizeLine; decide, fun U hU => ?_⟩
      have n2 := same_new (o := HO.tup [V.str (Str.ofString "data"), V.str (Str.ofString "pairs"), V.ref T]) hU
      have hT2 := n2 _ _ (upd_same (H := H3) (a := T) (o := HO.tup (is.map V.int)))
      have n12 := n1.trans n2
      exact q (.tup [.str (Str.ofString "data"), .str (Str.ofString "pairs"), .tup (is.map D.int)]) _ _ ⟨U, _, rfl, SqT.of upd_same, dlc (dls _) (dlc (dls _) (dlc ⟨T, _, rfl, SqT.of hT2, dvs_ints _⟩ dln))⟩
        (dlT (by show 3 ≤ 1000000; decide) (dlC trivial (dlC trivial (dlC (dlT (by rw [List.length_map]; omega) (dls_ints _)) dlN)))) (((x1.trans x2).trans hE3).trans (Ext.of n12)) ((S3.ext n12).mono (by omega))
    refine ⟨_, rfl, rfl, _, rfl, ite2 (fun _ => ?_) (fun _ => ?_)⟩
    · refine ⟨_, rfl, _, rfl, s, a, 9, c + 180, rfl, by decide, by decide, S1.mono (by omega), fun m H2 m0 m1 x2 S2 => ⟨s, a, m, c + 170, rfl, m0, by omega, S2.mono (by omega), fun x H3 _ _ x3 S3 => ?_⟩⟩
      refine ⟨by show 1 ≤ sizeLine; decide, fun R hR => ?_⟩
      have n1 := same_new (o := HO.tup [V.str x]) hR
      refine ⟨by show 3 ≤ sizeLine; decide, fun F hF => ?_⟩
      have n2 := same_new (o := HO.tup [V.str (Str.ofString "text"), V.str (Str.ofString "plain"), V.ref R]) hF
      refine ⟨_, rfl, Nat.zero_le _, fun E hE => ?_⟩
      have n3 := same_new (o := HO.tup []) hE
      refine ⟨by show 3 ≤ sizeLine; decide, fun G hG => ?_⟩
      have n4 := same_new (o := HO.tup [V.str (Str.ofString "text"), V.str (Str.ofString "plain"), V.ref E]) hG
      refine ⟨by show 2 ≤ sizeLine; decide, fun I hI => ?_⟩
      have n5 := same_new (o := HO.tup [V.ref F, V.ref G]) hI
      refine ⟨by show 2 ≤ sizeLine; decide, fun J hJ => ?_⟩
      have n6 := same_new (o := HO.tup [V.str (Str.ofString "parts"), V.ref I]) hJ
      have n56 := n5.trans n6
      have n456 := n4.trans n56
      have n3456 := n3.trans n456
      have n2_6 := n2.trans n3456
      have nn := n1.trans n2_6
      have hR' := n2_6 _ _ (upd_same (H := H3) (a := R) (o := HO.tup [V.str x]))
      have hF' := n3456 _ _ (upd_same (a := F) (o := HO.tup [V.str (Str.ofString "text"), V.str (Str.ofString "plain"), V.ref R]))
      have hE' := n456 _ _ (upd_same (a := E) (o := HO.tup []))
      have hG' := n56 _ _ (upd_same (a := G) (o := HO.tup [V.str (Str.ofString "text"), V.str (Str.ofString "plain"), V.ref E]))
      have hI' := n6 _ _ (upd_same (a := I) (o := HO.tup [V.ref F, V.ref G]))
      exact q (.tup [.str (Str.ofString "parts"), .tup [.tup [.str (Str.ofString "text"), .str (Str.ofString "plain"), .tup [.str x]], .tup [.str (Str.ofString "text"), .str (Str.ofString "plain"), .tup []]]]) _ _
        ⟨J, _, rfl, SqT.of upd_same, dlc (dls _) (dlc ⟨I, _, rfl, SqT.of hI', dlc ⟨F, _, rfl, SqT.of hF', dlc (dls _) (dlc (dls _) (dlc ⟨R, _, rfl, SqT.of hR', dlc (dls _) dln⟩ dln))⟩ (dlc ⟨G, _, rfl, SqT.of hG', dlc (dls _) (dlc (dls _) (dlc ⟨E, [], rfl, SqT.of hE', dln⟩ dln))⟩ dln)⟩ dln)⟩
        (dlT (by show 2 ≤ 1000000; decide) (dlC trivial (dlC (dlT (by show 2 ≤ 1000000; decide) (dlC (dlT (by show 3 ≤ 1000000; decide) (dlC trivial (dlC trivial (dlC (dlT (by show 1 ≤ 1000000; decide) (dlC trivial dlN)) dlN)))) (dlC (dlT (by show 3 ≤ 1000000; decide) (dlC trivial (dlC trivial (dlC (dlT (Nat.zero_le _) dlN) dlN)))) dlN))) dlN))) ((x1.trans (x2.trans x3)).trans (Ext.of nn)) ((S3.ext nn).mono (by omega))
    refine ⟨_, rfl, s, a, 4, c + 180, rfl, by decide, by decide, S1.mono (by omega), fun m H2 m0 m1 x2 S2 => ⟨_, rfl, by omega, by omega, fun L hL => ?_⟩⟩
    have Ls := S2.ne hL
    have La := S2.nea hL
    refine lc_range (lo := 0) (n := m.toNat) (fun i H' => ∃ xs : List Str, H' L = some (.lst (xs.map V.str)) ∧ xs.length = i ∧ Ext s H2 H' ∧ Src H' s a (c + (180 - 20 * i))) ⟨[], upd_same, rfl, Ext.new hL, S2.new hL⟩ ?_ ?_
    · rintro i H' hi ⟨xs, h1, hl, hE, hS'⟩
      refine ⟨rfl, _, rfl, _, rfl, s, a, 12, c + (180 - 20 * i) - 1, rfl, by decide, by decide, hS'.mono (by omega), fun n H3 n0 n1 x3 S3 => ⟨s, a, n, c + (180 - 20 * (i + 1)), rfl, n0, by omega, S3.mono (by omega), fun y H4 _ _ x4 S4 => ⟨_, x4 _ _ Ls (x3 _ _ Ls h1), by rw [List.length_map]; exact small54 (by omega), xs ++ [y], by rw [upd_same, List.map_append]; rfl, by rw [List.length_append, hl]; rfl, fun b o hb hh => ?_, S4.put Ls La⟩⟩⟩
      rw [upd_ne (ne_of_none hh hL)]; exact x4 _ _ hb (x3 _ _ hb (hE _ _ hb hh))
    rintro H3 ⟨xs, h3, hl3, hE3, S3⟩
    refine ⟨_, rfl, L, _, rfl, .inl ⟨SqL.of h3, fun T hT => ?_⟩⟩
    have n1 := same_new (o := HO.tup (xs.map V.str)) hT
    refine ⟨by show 3 ≤ sizeLine; decide, fun U hU => ?_⟩
    have n2 := same_new (o := HO.tup [V.str (Str.ofString "text"), V.str (Str.ofString "plain"), V.ref T]) hU
    have hT2 := n2 _ _ (upd_same (H := H3) (a := T) (o := HO.tup (xs.map V.str)))
    have n12 := n1.trans n2
    exact q (.tup [.str (Str.ofString "text"), .str (Str.ofString "plain"), .tup (xs.map D.str)]) _ _ ⟨U, _, rfl, SqT.of upd_same, dlc (dls _) (dlc (dls _) (dlc ⟨T, _, rfl, SqT.of hT2, txt_dvs _⟩ dln))⟩
      (dlT (by show 3 ≤ 1000000; decide) (dlC trivial (dlC trivial (dlC (dlT (by rw [List.length_map]; omega) (dls_txts _)) dlN)))) (((x1.trans x2).trans hE3).trans (Ext.of n12)) ((S3.ext n12).mono (by omega))
end
section
variable {P : Program} {w : World} {K : PySem.W.Frag} {mg : Str → Option Value} {base : Heap}
theorem ok__law_kind (D : Df K mg "_law_kind" s__law_kind ["source", "other"]) (T : Tx mg)  (C__law_draw : Cal P w K mg base "_law_draw" ["source", "many"] 2 sp__law_draw) : Cal P w K mg base "_law_kind" ["source", "other"] 3 (sp54_kind K) := by
  obtain ⟨f__law_draw, fd__law_draw, G__law_draw, g__law_draw, k__law_draw, b__law_draw⟩ := C__law_draw
  obtain ⟨f, fd, F, gf, bf⟩ := D
  refine ⟨f, fd, F.ok sc__law_kind (fun vs H Q E h => ?_) (fun cdv A outer s₀ H vs Q E hr h => ?_), gf, F.kp, bf⟩
  · obtain ⟨s, a, o, od, c, rfl, _⟩ := h; rfl
  · obtain ⟨s, a, o, od, c, rfl, do', dl, hS, q⟩ := h
    refine ⟨_, (pss_cons (ps_set (i := 2) sc__law_kind.nd rfl (Or.inl rfl) (pe_call G__law_draw (hr.mono (by decide)) (by rfl) g__law_draw k__law_draw b__law_draw .nil pass0 (pa_cons (pv 0) (pa_cons pe_int pa_nil))))
      (pss_cons (ps_if (pt_cmpR op_lt (pv 2) pe_int (nomark _))
      (pss_one (ps_ret (pe_tup (pa_cons pe_str pa_nil))))
      pss_nil)
      (pss_one (ps_ret (pe_tup (pa_cons (pe_ix ix_list (pe_lst (pa_cons pe_str (pa_cons pe_str pa_nil))) (pe_op op_sub (pv 2) pe_int) (fun _ _ => rfl)) (pa_cons (pv 1) pa_nil))))))), ?_⟩
    refine ⟨_, rfl, s, a, 4, c, rfl, by decide, by decide, hS, fun w1 H1 w0 w4 x1 S1 => ?_⟩
    refine ⟨_, rfl, _, _, rfl, rfl, _, rfl, ite2 (fun _ => ?_) (fun cc => ?_)⟩
    · refine ⟨by show 1 ≤ sizeLine; decide, fun T hT => ?_⟩
      have n1 := same_new (o := HO.tup [V.str (Str.ofString "post")]) hT
      exact q (Str.ofString "post") [] _ _ ⟨T, _, rfl, SqT.of upd_same, dlc (dls _) dln⟩ (Nat.zero_le _) (fun _ h => by cases h) (x1.trans (Ext.of n1)) (S1.ext n1)
    · have w2 : 2 ≤ w1 := by
        have := mt decide_eq_true cc
        omega
      refine ⟨by show 2 ≤ sizeLine; decide, fun L hL => ?_⟩
      have n1 := same_new (o := HO.lst [V.str (Str.ofString "strike"), V.str (Str.ofString "replace")]) hL
      obtain ⟨k, hk, ek⟩ : ∃ k : Str, atI [V.str (Str.ofString "strike"), V.str (Str.ofString "replace")] (w1 - 2) = some (.str k) ∧ True := by
        have : w1 = 2 ∨ w1 = 3 := by omega
        rcases this with rfl | rfl
        · exact ⟨_, rfl, trivial⟩
        · exact ⟨_, rfl, trivial⟩
      refine ⟨_, rfl, _, _, rfl, rfl, L, _, _, _, rfl, rfl, SqL.of upd_same, hk, _, rfl, by show 2 ≤ sizeLine; decide, fun T hT => ?_⟩
      have n2 := same_new (o := HO.tup [V.str k, o]) hT
      have n12 := n1.trans n2
      exact q k [od] _ _ ⟨T, _, rfl, SqT.of upd_same, dlc (dls _) (dlc ((do'.tk (TK.ext x1 hS)).tk (TK.same n12)) dln)⟩ (Nat.le_refl _) (fun d h => by rw [List.mem_singleton.mp h]; exact dl) (x1.trans (Ext.of n12)) (S1.ext n12)
end

end Z
namespace Z
open PySem L2 SX
theorem ne_way {x y : Int} (cc : ¬ decide (V.int x = V.int y) = true) : x ≠ y := fun e => cc (decide_eq_true (congrArg V.int e))
section
variable {P : Program} {w : World} {K : PySem.W.Frag} {mg : Str → Option Value} {base : Heap}
theorem ok__law_basic (D : Df K mg "_law_basic" s__law_basic ["source", "words", "names", "addresses"]) (T : Tx mg)  (C__law_draw : Cal P w K mg base "_law_draw" ["source", "many"] 2 sp__law_draw) (C__law_pattern : Cal P w K mg base "_law_pattern" ["source", "words"] 6 (sp2__law_pattern K)) (C__law_pick : Cal P w K mg base "_law_pick" ["source", "row"] 3 (sp3__law_pick K)) : Cal P w K mg base "_law_basic" ["source", "words", "names", "addresses"] 7 (sp54_basic K) := by
  obtain ⟨f__law_draw, fd__law_draw, G__law_draw, g__law_draw, k__law_draw, b__law_draw⟩ := C__law_draw
  obtain ⟨f__law_pattern, fd__law_pattern, G__law_pattern, g__law_pattern, k__law_pattern, b__law_pattern⟩ := C__law_pattern
  obtain ⟨f__law_pick, fd__law_pick, G__law_pick, g__law_pick, k__law_pick, b__law_pick⟩ := C__law_pick
  obtain ⟨f, fd, F, gf, bf⟩ := D
  refine ⟨f, fd, F.ok sc__law_basic (fun vs H Q E h => ?_) (fun cdv A outer s₀ H vs Q E hr h => ?_), gf, F.kp, bf⟩
  · obtain ⟨s, a, w, m, p, ws, us, ps, c, rfl, _⟩ := h; rfl
  · obtain ⟨s, a, w, m, p, ws, us, ps, c, rfl, hw, sw, wd, hm, sm, ul, hp, sp', pn, pl, hS, q⟩ := h
    refine ⟨_, (pss_cons (ps_set (i := 4) sc__law_basic.nd rfl (Or.inl rfl) (pe_call G__law_draw (hr.mono (by decide)) (by rfl) g__law_draw k__law_draw b__law_draw .nil pass0 (pa_cons (pv 0) (pa_cons pe_int pa_nil))))
      (pss_cons (ps_if (pt_cmpR op_eq (pv 4) pe_int (nomark _))
      (pss_one (ps_ret (pe_tup (pa_cons pe_str (pa_cons (pe_call G__law_pattern (hr.mono (by decide)) (by rfl) g__law_pattern k__law_pattern b__law_pattern .nil pass0 (pa_cons (pv 0) (pa_cons (pv 1) pa_nil))) pa_nil)))))
      pss_nil)
      (pss_cons (ps_if (pt_cmpR op_eq (pv 4) pe_int (nomark _))
      (pss_one (ps_ret (pe_tup (pa_cons pe_str (pa_cons (pe_call G__law_pick (hr.mono (by decide)) (by rfl) g__law_pick k__law_pick b__law_pick .nil pass0 (pa_cons (pv 0) (pa_cons (pe_lst (pa_cons pe_str (pa_cons pe_str (pa_cons pe_str pa_nil)))) pa_nil))) (pa_cons (pe_call G__law_pick (hr.mono (by decide)) (by rfl) g__law_pick k__law_pick b__law_pick .nil pass0 (pa_cons (pv 0) (pa_cons (pe_op L2.op_cat (pe_lst (pa_cons pe_str pa_nil)) (pv 2)) pa_nil))) pa_nil))))))
      pss_nil)
      (pss_cons (ps_if (pt_cmpR op_eq (pv 4) pe_int (nomark _))
      (pss_one (ps_ret (pe_tup (pa_cons pe_str (pa_cons (pe_call G__law_pick (hr.mono (by decide)) (by rfl) g__law_pick k__law_pick b__law_pick .nil pass0 (pa_cons (pv 0) (pa_cons (pv 1) pa_nil))) pa_nil)))))
      pss_nil)
      (pss_cons (ps_if (pt_cmpR op_eq (pv 4) pe_int (nomark _))
      (pss_one (ps_ret (pe_tup (pa_cons pe_str (pa_cons (pe_call G__law_draw (hr.mono (by decide)) (by rfl) g__law_draw k__law_draw b__law_draw .nil pass0 (pa_cons (pv 0) (pa_cons pe_int pa_nil))) pa_nil)))))
      pss_nil)
      (pss_cons (ps_if (pt_cmpR op_eq (pv 4) pe_int (nomark _))
      (pss_one (ps_ret (pe_tup (pa_cons pe_str (pa_cons (pe_call G__law_pick (hr.mono (by decide)) (by rfl) g__law_pick k__law_pick b__law_pick .nil pass0 (pa_cons (pv 0) (pa_cons (pv 3) pa_nil))) pa_nil)))))
      pss_nil)
      (pss_one (ps_ret (pe_tup (pa_cons (pe_ix ix_list (pe_lst (pa_cons pe_str (pa_cons pe_str (pa_cons pe_str pa_nil)))) (pe_op op_sub (pv 4) pe_int) (fun _ _ => rfl)) pa_nil)))))))))), ?_⟩
    refine ⟨_, rfl, s, a, 8, c + 205, rfl, by decide, by decide, hS.mono (by omega), fun w1 H1 w0 w8 x1 S1 => ?_⟩
    have hw1 := x1.seqL sw hw
    have hm1 := x1 _ _ sm hm
    have hp1 := x1 _ _ sp' hp
    refine ⟨_, rfl, rfl, _, rfl, ite2 (fun _ => ?_) (fun c0 => ?_)⟩
    · refine ⟨_, rfl, _, rfl, s, a, w, ws, c + 5, rfl, hw1, sw, wd, S1.mono (by omega), fun y H2 _ _ x2 S2 => ⟨by show 2 ≤ sizeLine; decide, fun T hT => ?_⟩⟩
      have n1 := same_new (o := HO.tup [V.str (Str.ofString "board"), V.str y]) hT
      exact q (.tup [.str (Str.ofString "board"), .str y]) _ _ ⟨T, _, rfl, SqT.of upd_same, dlc (dls _) (dlc (dls _) dln)⟩ ((x1.trans x2).trans (Ext.of n1)) ((S2.ext n1).mono (by omega))
    refine ⟨_, rfl, rfl, _, rfl, ite2 (fun _ => ?_) (fun c1 => ?_)⟩
    · refine ⟨_, rfl, by show 3 ≤ sizeLine; decide, fun B hB => ?_⟩
      have n1 := same_new (o := HO.lst [V.str (Str.ofString "*"), V.str (Str.ofString "ann"), V.str (Str.ofString "b2")]) hB
      refine .inl ⟨s, a, B, _, c + 200, rfl, SqL.of upd_same, S1.ne hB, by simp, by decide, (S1.ext n1).mono (by omega), fun z H2 zm x2 S2 => ?_⟩
      obtain ⟨y, _, rfl⟩ := List.mem_map.mp (show z ∈ List.map V.str [Str.ofString "*", Str.ofString "ann", Str.ofString "b2"] from zm)
      refine ⟨_, rfl, by show 1 ≤ sizeLine; decide, fun B2 hB2 => ?_⟩
      have n3 := same_new (o := HO.lst [V.str (Str.ofString "*")]) hB2
      refine ⟨_, rfl, B2, m, _, _, rfl, rfl, upd_same, n3 _ _ (x2 _ _ sm (n1 _ _ hm1)), by rw [List.length_map]; exact Nat.le_trans (show 1 + us.length ≤ 30000 by omega) (by decide), fun M hM => ?_⟩
      have n4 := same_new (o := HO.lst ([V.str (Str.ofString "*")] ++ us.map V.str)) hM
      have S4 := (S2.ext n3).ext n4
      refine .inl ⟨s, a, M, _, c + 190, rfl, SqL.of upd_same, (S2.ext n3).ne hM, by simp, by rw [List.length_append, List.length_map]; show 1 + _ ≤ _; omega, S4.mono (by omega), fun z2 H5 zm2 x5 S5 => ?_⟩
      obtain ⟨y2, _, rfl⟩ := List.mem_map.mp (show z2 ∈ List.map V.str (Str.ofString "*" :: us) from zm2)
      refine ⟨by show 3 ≤ sizeLine; decide, fun T hT => ?_⟩
      have n6 := same_new (o := HO.tup [V.str (Str.ofString "from"), V.str y, V.str y2]) hT
      exact q (.tup [.str (Str.ofString "from"), .str y, .str y2]) _ _ ⟨T, _, rfl, SqT.of upd_same, dlc (dls _) (dlc (dls _) (dlc (dls _) dln))⟩ (((x1.trans (Ext.of n1)).trans (x2.trans (Ext.of (n3.trans n4)))).trans (x5.trans (Ext.of n6))) ((S5.ext n6).mono (by omega))
    refine ⟨_, rfl, rfl, _, rfl, ite2 (fun _ => ?_) (fun c2 => ?_)⟩
    · refine ⟨_, rfl, _, rfl, .inl ⟨s, a, w, _, c + 200, rfl, hw1, sw, by simpa using wd.1, by rw [List.length_map]; have := wd.2.1; omega, S1.mono (by omega), fun z H2 zm x2 S2 => ?_⟩⟩
      obtain ⟨y, _, rfl⟩ := List.mem_map.mp zm
      refine ⟨by show 2 ≤ sizeLine; decide, fun T hT => ?_⟩
      have n1 := same_new (o := HO.tup [V.str (Str.ofString "word"), V.str y]) hT
      exact q (.tup [.str (Str.ofString "word"), .str y]) _ _ ⟨T, _, rfl, SqT.of upd_same, dlc (dls _) (dlc (dls _) dln)⟩ ((x1.trans x2).trans (Ext.of n1)) ((S2.ext n1).mono (by omega))
    refine ⟨_, rfl, rfl, _, rfl, ite2 (fun _ => ?_) (fun c3 => ?_)⟩
    · refine ⟨_, rfl, s, a, 5, c + 200, rfl, by decide, by decide, S1.mono (by omega), fun z H2 _ _ x2 S2 => ?_⟩
      refine ⟨by show 2 ≤ sizeLine; decide, fun T hT => ?_⟩
      have n1 := same_new (o := HO.tup [V.str (Str.ofString "over"), V.int z]) hT
      exact q (.tup [.str (Str.ofString "over"), .int z]) _ _ ⟨T, _, rfl, SqT.of upd_same, dlc (dls _) (dlc (dli _) dln)⟩ ((x1.trans x2).trans (Ext.of n1)) ((S2.ext n1).mono (by omega))
    refine ⟨_, rfl, rfl, _, rfl, ite2 (fun _ => ?_) (fun c4 => ?_)⟩
    · refine ⟨_, rfl, _, rfl, .inl ⟨s, a, p, _, c + 200, rfl, SqL.of hp1, sp', by simpa using pn, by rw [List.length_map]; omega, S1.mono (by omega), fun z H2 zm x2 S2 => ?_⟩⟩
      obtain ⟨y, _, rfl⟩ := List.mem_map.mp zm
      refine ⟨by show 2 ≤ sizeLine; decide, fun T hT => ?_⟩
      have n1 := same_new (o := HO.tup [V.str (Str.ofString "sealed"), V.str y]) hT
      exact q (.tup [.str (Str.ofString "sealed"), .str y]) _ _ ⟨T, _, rfl, SqT.of upd_same, dlc (dls _) (dlc (dls _) dln)⟩ ((x1.trans x2).trans (Ext.of n1)) ((S2.ext n1).mono (by omega))
    have w5 : w1 = 5 ∨ w1 = 6 ∨ w1 = 7 := by
      have := ne_way c0
      have := ne_way c1
      have := ne_way c2
      have := ne_way c3
      have := ne_way c4
      omega
    refine ⟨by show 3 ≤ sizeLine; decide, fun L hL => ?_⟩
    have n1 := same_new (o := HO.lst [V.str (Str.ofString "any"), V.str (Str.ofString "answer"), V.str (Str.ofString "replace")]) hL
    obtain ⟨k, hk, _⟩ : ∃ k : Str, atI [V.str (Str.ofString "any"), V.str (Str.ofString "answer"), V.str (Str.ofString "replace")] (w1 - 5) = some (.str k) ∧ True := by
      rcases w5 with rfl | rfl | rfl
      · exact ⟨_, rfl, trivial⟩
      · exact ⟨_, rfl, trivial⟩
      · exact ⟨_, rfl, trivial⟩
    refine ⟨_, rfl, _, _, rfl, rfl, L, _, _, _, rfl, rfl, SqL.of upd_same, hk, by show 1 ≤ sizeLine; decide, fun T hT => ?_⟩
    have n2 := same_new (o := HO.tup [V.str k]) hT
    exact q (.tup [.str k]) _ _ ⟨T, _, rfl, SqT.of upd_same, dlc (dls _) dln⟩ (x1.trans (Ext.of (n1.trans n2))) ((S1.ext (n1.trans n2)).mono (by omega))
end
section
variable {P : Program} {w : World} {K : PySem.W.Frag} {mg : Str → Option Value} {base : Heap}
theorem ok__law_policy (D : Df K mg "_law_policy" s__law_policy ["source", "words", "names", "addresses"]) (T : Tx mg)  (C__law_basic : Cal P w K mg base "_law_basic" ["source", "words", "names", "addresses"] 7 (sp54_basic K)) (C__law_draw : Cal P w K mg base "_law_draw" ["source", "many"] 2 sp__law_draw) (C__law_pick : Cal P w K mg base "_law_pick" ["source", "row"] 3 (sp3__law_pick K)) : Cal P w K mg base "_law_policy" ["source", "words", "names", "addresses"] 8 (sp54_policy K) := by
  obtain ⟨f__law_basic, fd__law_basic, G__law_basic, g__law_basic, k__law_basic, b__law_basic⟩ := C__law_basic
  obtain ⟨f__law_draw, fd__law_draw, G__law_draw, g__law_draw, k__law_draw, b__law_draw⟩ := C__law_draw
  obtain ⟨f__law_pick, fd__law_pick, G__law_pick, g__law_pick, k__law_pick, b__law_pick⟩ := C__law_pick
  obtain ⟨f, fd, F, gf, bf⟩ := D
  refine ⟨f, fd, F.ok sc__law_policy (fun vs H Q E h => ?_) (fun cdv A outer s₀ H vs Q E hr h => ?_), gf, F.kp, bf⟩
  · obtain ⟨s, a, w, m, p, ws, us, ps, c, rfl, _⟩ := h; rfl
  · obtain ⟨s, a, w, m, p, ws, us, ps, c, rfl, hw, sw, wd, hm, sm, ul, hp, sp', pn, pl, hS, q⟩ := h
    refine ⟨_, (pss_cons (ps_set (i := 4) sc__law_policy.nd rfl (Or.inl rfl) (pe_lst pa_nil))
      (pss_cons (ps_for PassesOwn.never rfl (pi_range1 (by rfl) T.n_range (pa_cons (pe_call G__law_draw (hr.mono (by decide)) (by rfl) g__law_draw k__law_draw b__law_draw .nil pass0 (pa_cons (pv 0) (pa_cons pe_int pa_nil))) pa_nil)) (pg_name (i := 5) sc__law_policy.nd rfl (Or.inl rfl))
      (pss_cons (ps_set (i := 6) sc__law_policy.nd rfl (Or.inl rfl) (pe_call G__law_basic (hr.mono (by decide)) (by rfl) g__law_basic k__law_basic b__law_basic .nil pass0 (pa_cons (pv 0) (pa_cons (pv 1) (pa_cons (pv 2) (pa_cons (pv 3) pa_nil))))))
        (C8.pss_cut (ps_if (pt_cmpR op_eq (pe_call G__law_draw (hr.mono (by decide)) (by rfl) g__law_draw k__law_draw b__law_draw .nil pass0 (pa_cons (pv 0) (pa_cons pe_int pa_nil))) pe_int (nomark _))
        (pss_one (ps_set (i := 6) sc__law_policy.nd rfl (Or.inl rfl) (pe_tup (pa_cons (pe_ix ix_list (pe_lst (pa_cons pe_str (pa_cons pe_str pa_nil))) (pe_call G__law_draw (hr.mono (by decide)) (by rfl) g__law_draw k__law_draw b__law_draw .nil pass0 (pa_cons (pv 0) (pa_cons pe_int pa_nil))) (fun _ _ => rfl)) (pa_cons (pe_tup (pa_cons pe_str (pa_cons (pv 6) pa_nil))) (pa_cons (pe_call G__law_basic (hr.mono (by decide)) (by rfl) g__law_basic k__law_basic b__law_basic .nil pass0 (pa_cons (pv 0) (pa_cons (pv 1) (pa_cons (pv 2) (pa_cons (pv 3) pa_nil))))) pa_nil))))))
        pss_nil)
        (pss_cons (ps_set (i := 7) sc__law_policy.nd rfl (Or.inl rfl) (pe_lst (pa_cons (pe_tup (pa_cons pe_str pa_nil)) (pa_cons (pe_tup (pa_cons pe_str pa_nil)) (pa_cons (pe_tup (pa_cons pe_str (pa_cons (pe_call G__law_pick (hr.mono (by decide)) (by rfl) g__law_pick k__law_pick b__law_pick .nil pass0 (pa_cons (pv 0) (pa_cons (pv 1) pa_nil))) pa_nil))) (pa_cons (pe_tup (pa_cons pe_str pa_nil)) pa_nil))))))
        (pss_cons (ps_set (i := 7) sc__law_policy.nd rfl (Or.inl rfl) (pe_op L2.op_cat (pv 7) (pe_lst (pa_cons (pe_tup (pa_cons pe_str (pa_cons (pe_call G__law_pick (hr.mono (by decide)) (by rfl) g__law_pick k__law_pick b__law_pick .nil pass0 (pa_cons (pv 0) (pa_cons (pv 3) pa_nil))) pa_nil))) (pa_cons (pe_tup (pa_cons pe_str (pa_cons (pe_call G__law_pick (hr.mono (by decide)) (by rfl) g__law_pick k__law_pick b__law_pick .nil pass0 (pa_cons (pv 0) (pa_cons (pv 3) pa_nil))) pa_nil))) pa_nil)))))
        (pss_one (ps_expr (pe_bm PySem.F.plainAttrs_list PySem.F.slot_list_append PySem.F.type_list_append mt_append (pv 4) (pa_cons (pe_tup (pa_cons (pv 6) (pa_cons (pe_call G__law_pick (hr.mono (by decide)) (by rfl) g__law_pick k__law_pick b__law_pick .nil pass0 (pa_cons (pv 0) (pa_cons (pv 7) pa_nil))) pa_nil))) pa_nil)))))))))
      (pss_one (ps_ret (pe_callTy call_tuple_of (by rfl) T.n_tuple (by decide +kernel) (pa_cons (pv 4) pa_nil)))))), ?_⟩
    refine ⟨Nat.zero_le _, fun R hR => ?_⟩
    have Rs := hS.ne hR
    have Ra := hS.nea hR
    refine ⟨_, rfl, s, a, 4, c + 1990, rfl, by decide, by decide, (hS.new hR).mono (by omega), fun n H1 n0 n1 x1 S1 => ⟨_, rfl, by omega, by omega, ?_⟩⟩
    refine for_range (lo := 0) (n := n.toNat) (fun i σ H' => ∃ (ds : List D) (us' : List V) (v5 v6 v7 : Option V), σ = [some (.ref s), some (.ref w), some (.ref m), some (.ref p), some (.ref R), v5, v6, v7] ∧ H' R = some (.lst us') ∧ DVs K H' ds us' ∧ us'.length = i ∧ Ext s H H' ∧ Src H' s a (c + (1990 - 500 * i))) ⟨[], [], _, _, _, rfl, x1 _ _ Rs upd_same, dln, rfl, (Ext.new hR).trans x1, S1.mono (by omega)⟩ ?_ ?_
    · rintro i σ H2 hi ⟨ds, us', v5, v6, v7, rfl, h2, d2, l2, e2, S2⟩
      refine ⟨_, rfl, _, rfl, _, rfl, _, rfl, s, a, w, m, p, ws, us, ps, c + (1990 - 500 * i) - 210, rfl, e2.seqL sw hw, sw, wd, e2 _ _ sm hm, sm, ul, e2 _ _ sp' hp, sp', pn, pl, S2.mono (by omega), fun d0 tv H3 dtv x3 S3 => ?_⟩
      have e3 := e2.trans x3
      refine ⟨fun σ' H' => ∃ (v : V) (d : D) (v7 : Option V), σ' = [some (.ref s), some (.ref w), some (.ref m), some (.ref p), some (.ref R), some (.int (0 + (i : Int))), some v, v7] ∧ DV K H' d v ∧ Ext s H3 H' ∧ Src H' s a (c + (1990 - 500 * i) - 450), ?_, ?_⟩
      · refine ⟨_, rfl, s, a, 4, c + (1990 - 500 * i) - 211, rfl, by decide, by decide, S3.mono (by omega), fun z H4 _ _ x4 S4 => ⟨rfl, _, rfl, ite2 (fun _ => ?_) (fun _ => ⟨tv, d0, _, rfl, dtv.tk (TK.ext x4 S3), x4, S4.mono (by omega)⟩)⟩⟩
        refine ⟨by show 2 ≤ sizeLine; decide, fun B hB => ?_⟩
        have n5 := same_new (o := HO.lst [V.str (Str.ofString "and"), V.str (Str.ofString "or")]) hB
        have S5 := S4.ext n5
        refine ⟨_, rfl, s, a, 2, c + (1990 - 500 * i) - 212, rfl, by decide, by decide, S5.mono (by omega), fun z2 H6 z20 z21 x6 S6 => ?_⟩
        obtain ⟨k, hk, _⟩ : ∃ k : Str, atI [V.str (Str.ofString "and"), V.str (Str.ofString "or")] z2 = some (.str k) ∧ True := by
          have : z2 = 0 ∨ z2 = 1 := by omega
          rcases this with rfl | rfl
          · exact ⟨_, rfl, trivial⟩
          · exact ⟨_, rfl, trivial⟩
        refine ⟨B, _, z2, _, rfl, rfl, SqL.of (x6 _ _ (S4.ne hB) upd_same), hk, _, rfl, by show 2 ≤ sizeLine; decide, fun T hT => ?_⟩
        have n7 := same_new (o := HO.tup [V.str (Str.ofString "not"), tv]) hT
        have S7 := S6.ext n7
        have x37 : Ext s H3 _ := ((x4.trans (Ext.of n5)).trans x6).trans (Ext.of n7)
        have e7 := e3.trans x37
        have hT7 : SqT K (upd H6 T (HO.tup [V.str (Str.ofString "not"), tv])) T [V.str (Str.ofString "not"), tv] := SqT.of upd_same
        have dtv7 := dtv.tk (TK.ext x37 S3)
        generalize upd H6 T (HO.tup [V.str (Str.ofString "not"), tv]) = H7 at n7 S7 x37 e7 hT7 dtv7 ⊢
        refine ⟨_, rfl, _, rfl, _, rfl, _, rfl, s, a, w, m, p, ws, us, ps, c + (1990 - 500 * i) - 430, rfl, e7.seqL sw hw, sw, wd, e7 _ _ sm hm, sm, ul, e7 _ _ sp' hp, sp', pn, pl, S7.mono (by omega), fun d8 v8 H8 dv8 x8 S8 => ?_⟩
        refine ⟨by show 3 ≤ sizeLine; decide, fun U hU => ?_⟩
        have n9 := same_new (o := HO.tup [V.str k, V.ref T, v8]) hU
        have T79 : TK K H7 _ := (TK.ext x8 S7).trans (TK.same n9)
        exact ⟨.ref U, .tup [.str k, .tup [.str (Str.ofString "not"), d0], d8], _, rfl, ⟨U, _, rfl, SqT.of upd_same, dlc (dls _) (dlc ⟨T, _, rfl, T79 _ _ hT7, dlc (dls _) (dlc (dtv7.tk T79) dln)⟩ (dlc (dv8.tk (TK.same n9)) dln))⟩, x37.trans (x8.trans (Ext.of n9)), (S8.ext n9).mono (by omega)⟩
      rintro σ' H4 ⟨v, d, v7', rfl, dv, x4, S4⟩
      have e4 := e3.trans x4
      -- the deeds
      refine ⟨by show 1 ≤ sizeLine; decide, fun T1 hT1 => ?_⟩
      have n1' := same_new (o := HO.tup [V.str (Str.ofString "pass")]) hT1
      refine ⟨by show 1 ≤ sizeLine; decide, fun T2 hT2 => ?_⟩
      have n2' := same_new (o := HO.tup [V.str (Str.ofString "hold")]) hT2
      have S5 := (S4.ext n1').ext n2'
      have e5 := e4.trans (Ext.of (n1'.trans n2'))
      have q1 := n2' _ _ (upd_same (H := H4) (a := T1) (o := HO.tup [V.str (Str.ofString "pass")]))
      have q2 : (upd (upd H4 T1 (HO.tup [V.str (Str.ofString "pass")])) T2 (HO.tup [V.str (Str.ofString "hold")])) T2 = some (.tup [V.str (Str.ofString "hold")]) := upd_same
      have n12 := n1'.trans n2'
      have dv5 := dv.tk (TK.same n12)
      generalize upd (upd H4 T1 (HO.tup [V.str (Str.ofString "pass")])) T2 (HO.tup [V.str (Str.ofString "hold")]) = H5 at n12 S5 e5 q1 q2 dv5 ⊢
      refine ⟨_, rfl, _, rfl, .inl ⟨s, a, w, _, c + (1990 - 500 * i) - 451, rfl, e5.seqL sw hw, sw, by simpa using wd.1, by rw [List.length_map]; have := wd.2.1; omega, S5.mono (by omega), fun z H6 zm x6 S6 => ?_⟩⟩
      obtain ⟨y, _, rfl⟩ := List.mem_map.mp zm
      refine ⟨by show 2 ≤ sizeLine; decide, fun T3 hT3 => ?_⟩
      have n7 := same_new (o := HO.tup [V.str (Str.ofString "refuse"), V.str y]) hT3
      refine ⟨by show 1 ≤ sizeLine; decide, fun T4 hT4 => ?_⟩
      have n8 := same_new (o := HO.tup [V.str (Str.ofString "pass")]) hT4
      refine ⟨by show 4 ≤ sizeLine; decide, fun M hM => ?_⟩
      have n9 := same_new (o := HO.lst [V.ref T1, V.ref T2, V.ref T3, V.ref T4]) hM
      have n89 := n8.trans n9
      have n79 := n7.trans n89
      have S9 := S6.ext n79
      have T59 : TK K H5 _ := (TK.ext x6 S5).trans (TK.same n79)
      have e9 := (e5.trans x6).trans (Ext.of n79)
      have dm4 : DVs K (upd (upd (upd H6 T3 (HO.tup [V.str (Str.ofString "refuse"), V.str y])) T4 (HO.tup [V.str (Str.ofString "pass")])) M (HO.lst [V.ref T1, V.ref T2, V.ref T3, V.ref T4])) [.tup [.str (Str.ofString "pass")], .tup [.str (Str.ofString "hold")], .tup [.str (Str.ofString "refuse"), .str y], .tup [.str (Str.ofString "pass")]] [V.ref T1, V.ref T2, V.ref T3, V.ref T4] :=
        dlc ⟨T1, _, rfl, T59 _ _ (SqT.of q1), dlc (dls _) dln⟩ (dlc ⟨T2, _, rfl, T59 _ _ (SqT.of q2), dlc (dls _) dln⟩ (dlc ⟨T3, _, rfl, SqT.of (n89 _ _ (upd_same (H := H6) (a := T3) (o := HO.tup [V.str (Str.ofString "refuse"), V.str y]))), dlc (dls _) (dlc (dls _) dln)⟩ (dlc ⟨T4, _, rfl, SqT.of (n9 _ _ (upd_same (a := T4) (o := HO.tup [V.str (Str.ofString "pass")]))), dlc (dls _) dln⟩ dln)))
      have hM9 : (upd (upd (upd H6 T3 (HO.tup [V.str (Str.ofString "refuse"), V.str y])) T4 (HO.tup [V.str (Str.ofString "pass")])) M (HO.lst [V.ref T1, V.ref T2, V.ref T3, V.ref T4])) M = some (.lst [V.ref T1, V.ref T2, V.ref T3, V.ref T4]) := upd_same
      have dv9 := dv5.tk T59
      have Ms : M ≠ s := ((S6.ext n7).ext n8).ne hM
      generalize (upd (upd (upd H6 T3 (HO.tup [V.str (Str.ofString "refuse"), V.str y])) T4 (HO.tup [V.str (Str.ofString "pass")])) M (HO.lst [V.ref T1, V.ref T2, V.ref T3, V.ref T4])) = H9 at n79 S9 T59 e9 dm4 hM9 dv9 ⊢
      refine ⟨_, rfl, _, rfl, _, rfl, .inl ⟨s, a, p, _, c + (1990 - 500 * i) - 452, rfl, SqL.of (e9 _ _ sp' hp), sp', by simpa using pn, by rw [List.length_map]; omega, S9.mono (by omega), fun z H10 zm x10 S10 => ?_⟩⟩
      obtain ⟨y1, _, rfl⟩ := List.mem_map.mp zm
      have e10 := e9.trans x10
      refine ⟨by show 2 ≤ sizeLine; decide, fun T5 hT5 => ?_⟩
      have n11 := same_new (o := HO.tup [V.str (Str.ofString "send"), V.str y1]) hT5
      have S11 := S10.ext n11
      have e11 := e10.trans (Ext.of n11)
      refine ⟨_, rfl, _, rfl, .inl ⟨s, a, p, _, c + (1990 - 500 * i) - 453, rfl, SqL.of (e11 _ _ sp' hp), sp', by simpa using pn, by rw [List.length_map]; omega, S11.mono (by omega), fun z H12 zm x12 S12 => ?_⟩⟩
      obtain ⟨y2, _, rfl⟩ := List.mem_map.mp zm
      have e12 := e11.trans x12
      refine ⟨by show 2 ≤ sizeLine; decide, fun T6 hT6 => ?_⟩
      have n13 := same_new (o := HO.tup [V.str (Str.ofString "send"), V.str y2]) hT6
      refine ⟨by show 2 ≤ sizeLine; decide, fun M2 hM2 => ?_⟩
      have n14 := same_new (o := HO.lst [V.ref T5, V.ref T6]) hM2
      have n1314 := n13.trans n14
      have S14 := S12.ext n1314
      have x914 : Ext s H9 _ := (x10.trans (Ext.of n11)).trans (x12.trans (Ext.of n1314))
      have T914 := TK.ext (K := K) x914 S9
      have T1114 : TK K _ _ := (TK.ext x12 S11).trans (TK.same (K := K) n1314)
      have dm2 : DVs K (upd (upd H12 T6 (HO.tup [V.str (Str.ofString "send"), V.str y2])) M2 (HO.lst [V.ref T5, V.ref T6])) [.tup [.str (Str.ofString "send"), .str y1], .tup [.str (Str.ofString "send"), .str y2]] [V.ref T5, V.ref T6] :=
        dlc ⟨T5, _, rfl, T1114 _ _ (SqT.of upd_same), dlc (dls _) (dlc (dls _) dln)⟩ (dlc ⟨T6, _, rfl, SqT.of (n14 _ _ (upd_same (H := H12) (a := T6) (o := HO.tup [V.str (Str.ofString "send"), V.str y2]))), dlc (dls _) (dlc (dls _) dln)⟩ dln)
      refine ⟨M, M2, _, _, rfl, rfl, x914 _ _ Ms hM9, upd_same, by show 4 + 2 ≤ sizeLine; decide, fun M3 hM3 => ?_⟩
      have dm6 := dvs_app (dm4.tk T914) dm2
      have n15 := same_new (o := HO.lst ([V.ref T1, V.ref T2, V.ref T3, V.ref T4] ++ [V.ref T5, V.ref T6])) hM3
      have S15 := S14.ext n15
      have e15 := (e9.trans x914).trans (Ext.of n15)
      have dv15 := (dv9.tk T914).tk (TK.same n15)
      have dm15 := dm6.tk (TK.same n15)
      have hM15 : (upd (upd (upd H12 T6 (HO.tup [V.str (Str.ofString "send"), V.str y2])) M2 (HO.lst [V.ref T5, V.ref T6])) M3 (HO.lst ([V.ref T1, V.ref T2, V.ref T3, V.ref T4] ++ [V.ref T5, V.ref T6]))) M3 = some (.lst ([V.ref T1, V.ref T2, V.ref T3, V.ref T4] ++ [V.ref T5, V.ref T6])) := upd_same
      have M3s : M3 ≠ s := S14.ne hM3
      generalize (upd (upd (upd H12 T6 (HO.tup [V.str (Str.ofString "send"), V.str y2])) M2 (HO.lst [V.ref T5, V.ref T6])) M3 (HO.lst ([V.ref T1, V.ref T2, V.ref T3, V.ref T4] ++ [V.ref T5, V.ref T6]))) = H15 at n15 S15 e15 dv15 dm15 hM15 ⊢
      -- append
      have x2_15 : Ext s H2 H15 := (((((x3.trans x4).trans (Ext.of n12)).trans x6).trans (Ext.of n79)).trans x914).trans (Ext.of n15)
      have hR15 := x2_15 _ _ Rs h2
      refine ⟨_, rfl, .inl ⟨rfl, _, SqL.of hR15⟩, _, rfl, _, rfl, _, rfl, .inl ⟨s, a, M3, _, c + (1990 - 500 * (i + 1)), rfl, SqL.of hM15, M3s, by simp, by show 6 ≤ 100000; decide, S15.mono (by omega), fun z H16 zm x16 S16 => ?_⟩⟩
      obtain ⟨dd, hdd⟩ := dvs_mem dm15 zm
      refine ⟨by show 2 ≤ sizeLine; decide, fun T7 hT7 => ?_⟩
      have n17 := same_new (o := HO.tup [v, z]) hT7
      have hR17 := n17 _ _ (x16 _ _ Rs hR15)
      have t17 := tk_put (K := K) (o := HO.lst (us' ++ [V.ref T7])) hR17
      have T2_17 : TK K H2 _ := (TK.ext x2_15 S2).trans ((TK.ext x16 S15).trans (TK.same n17))
      refine ⟨R, us', _, rfl, rfl, hR17, by rw [l2]; exact small54 (by omega), ds ++ [.tup [d, dd]], us' ++ [V.ref T7], _, _, _, rfl, upd_same, dvs_app ((d2.tk T2_17).tk t17) (dlc (show DV K _ (.tup [d, dd]) (.ref T7) from ⟨T7, _, rfl, t17 _ _ (SqT.of upd_same), dlc (((dv15.tk (TK.ext x16 S15)).tk (TK.same n17)).tk t17) (dlc (((hdd.tk (TK.ext x16 S15)).tk (TK.same n17)).tk t17) dln)⟩) dln), by rw [List.length_append, l2]; rfl, fun b o bs hb => ?_, ((S16.ext n17).put Rs Ra)⟩
      rw [upd_ne (ne_of_none hb hR)]
      exact n17 _ _ (x16 _ _ bs (x2_15 _ _ bs (e2 _ _ bs hb)))
    rintro σ H2 ⟨ds, us', v5, v6, v7, rfl, h2, d2, l2, e2, S2⟩
    refine ⟨_, rfl, R, _, rfl, .inl ⟨SqL.of h2, fun T hT => ?_⟩⟩
    have n1 := same_new (o := HO.tup us') hT
    exact q (.tup ds) _ _ ⟨T, _, rfl, SqT.of upd_same, d2.tk (TK.same n1)⟩ (e2.trans (Ext.of n1)) ((S2.ext n1).mono (by omega))
end
def ppl : List Str := [Str.ofString "dora", Str.ofString "e", Str.ofString "fay"]
theorem ppl_len : ∀ x ∈ ppl, (tl x).length ≤ 4 := by decide
section
variable {P : Program} {w : World} {K : PySem.W.Frag} {mg : Str → Option Value} {base : Heap}
theorem ok__law_with_stewards (D : Df K mg "_law_with_stewards" s__law_with_stewards ["source", "book", "words", "most"]) (T : Tx mg)  (C__law_draw : Cal P w K mg base "_law_draw" ["source", "many"] 2 sp__law_draw) (C__law_pattern : Cal P w K mg base "_law_pattern" ["source", "words"] 6 (sp2__law_pattern K)) (C__law_pick : Cal P w K mg base "_law_pick" ["source", "row"] 3 (sp3__law_pick K)) (C__law_policy : Cal P w K mg base "_law_policy" ["source", "words", "names", "addresses"] 8 (sp54_policy K)) : Cal P w K mg base "_law_with_stewards" ["source", "book", "words", "most"] 9 (sp54_stewards K) := by
  obtain ⟨f__law_draw, fd__law_draw, G__law_draw, g__law_draw, k__law_draw, b__law_draw⟩ := C__law_draw
  obtain ⟨f__law_pattern, fd__law_pattern, G__law_pattern, g__law_pattern, k__law_pattern, b__law_pattern⟩ := C__law_pattern
  obtain ⟨f__law_pick, fd__law_pick, G__law_pick, g__law_pick, k__law_pick, b__law_pick⟩ := C__law_pick
  obtain ⟨f__law_policy, fd__law_policy, G__law_policy, g__law_policy, k__law_policy, b__law_policy⟩ := C__law_policy
  obtain ⟨f, fd, F, gf, bf⟩ := D
  refine ⟨f, fd, F.ok sc__law_with_stewards (fun vs H Q E h => ?_) (fun cdv A outer s₀ H vs Q E hr h => ?_), gf, F.kp, bf⟩
  · obtain ⟨s, a, w, v, b, ws, m, c, rfl, _⟩ := h; rfl
  · obtain ⟨s, a, w, v, b, ws, m, c, rfl, m0, m1, dv, sn, bo, hw, sw, wd, hS, q⟩ := h
    refine ⟨_, (pss_cons (ps_set (i := 4) sc__law_with_stewards.nd rfl (Or.inr rfl) (pe_lc (own := [("site", 10)]) (g := gName 10) (tt := tYes) rfl sc__law_with_stewards.nd (pi_tup (pe_ix ix_tup (pv 1) pe_int (fun _ _ => rfl))) (blkOk_by (own := [("site", 10)]) (N := N__law_with_stewards) (sc := defScope s__law_with_stewards) (by decide +kernel)) (fun _ _ _ _ _ => pg_name (i := 10) sc__law_with_stewards.nd rfl (Or.inl rfl)) (fun _ _ _ _ _ => pts_nil) (fun _ _ _ _ _ => (pe_ix (ix_tupQ (K := K) rfl) (pv 10) pe_int (fun _ _ => rfl)))))
      (pss_cons (ps_set (i := 5) sc__law_with_stewards.nd rfl (Or.inl rfl) (pe_slice sl_list (pe_lst (pa_cons pe_str (pa_cons pe_str (pa_cons pe_str pa_nil)))) po_none (po_some (pe_op op_add pe_int (pe_call G__law_draw (hr.mono (by decide)) (by rfl) g__law_draw k__law_draw b__law_draw .nil pass0 (pa_cons (pv 0) (pa_cons (pv 3) pa_nil)))))))
      (pss_cons (ps_setLc (i := 6) (own := [("person", 11)]) (g := gName 11) (tt := tYes) rfl sc__law_with_stewards.nd rfl rfl (sw_true rfl rfl rfl (by decide +kernel)) (pi_list (pv 5)) (blkOk_by (own := [("person", 11)]) (N := N__law_with_stewards) (sc := defScope s__law_with_stewards) (by decide +kernel)) (fun _ _ _ _ _ => pg_name (i := 11) sc__law_with_stewards.nd rfl (Or.inl rfl)) (fun _ _ _ _ _ => pts_nil) (fun _ _ _ _ _ => (pe_op op_add_str (pe_op op_add_str (pv 11) pe_str) (pe_call G__law_pick (hr.mono (by decide)) (by rfl) g__law_pick k__law_pick b__law_pick .nil pass0 (pa_cons (pv 0) (pa_cons (pv 4) pa_nil))))))
      (pss_cons (ps_set (i := 7) sc__law_with_stewards.nd rfl (Or.inl rfl) (pe_lst pa_nil))
      (pss_cons (ps_for PassesOwn.never rfl (pi_list (pv 6)) (pg_name (i := 8) sc__law_with_stewards.nd rfl (Or.inl rfl))
      (pss_cons (ps_set (i := 9) sc__law_with_stewards.nd rfl (Or.inl rfl) (pe_call G__law_policy (hr.mono (by decide)) (by rfl) g__law_policy k__law_policy b__law_policy .nil pass0 (pa_cons (pv 0) (pa_cons (pv 2) (pa_cons (pv 4) (pa_cons (pe_op L2.op_cat (pv 6) (pe_lst (pa_cons (pe_op op_add_str pe_str (pe_ix ix_list (pv 4) pe_int (fun _ _ => rfl))) pa_nil))) pa_nil))))))
        (pss_one (ps_expr (pe_bm PySem.F.plainAttrs_list PySem.F.slot_list_append PySem.F.type_list_append mt_append (pv 7) (pa_cons (pe_tup (pa_cons pe_str (pa_cons (pe_call G__law_pattern (hr.mono (by decide)) (by rfl) g__law_pattern k__law_pattern b__law_pattern .nil pass0 (pa_cons (pv 0) (pa_cons (pv 2) pa_nil))) (pa_cons (pv 8) (pa_cons (pv 9) pa_nil))))) pa_nil))))))
      (pss_one (ps_ret (pe_op (op_cat (K := K) rfl) (pe_slice (sl_tupS (K := K) rfl) (pv 1) po_none (po_some pe_int)) (pe_tup (pa_cons (pe_callTy call_tuple_of (by rfl) T.n_tuple (by decide +kernel) (pa_cons (pv 7) pa_nil)) (pa_cons (pe_ix ix_tup (pv 1) pe_int (fun _ _ => rfl)) pa_nil))))))))))), ?_⟩
    obtain ⟨ba, bus, rfl, hB, dB⟩ := dv
    have bul := dB.len
    obtain ⟨u3, e3, sc, sws, rfl, hC, hsi⟩ := dB.get (i := 3) (d := .tup (b.si.map siD)) rfl
    obtain ⟨u7, e7, d7⟩ := dB.get (i := 7) (d := .tup b.li) rfl
    have sl := bo.si
    have wl := hsi.map_len
    have nl : (b.si.map (·.n)).length = b.si.length := List.length_map _
    refine ⟨_, rfl, ba, bus, 3, .ref sc, rfl, rfl, hB, atI_nat (j := 3) e3, sc, rfl, ⟨_, hC⟩, fun N hN => ?_⟩
    refine lc_tup (K := K) (a := sc) (xs := sws) (fun i H' => H' N = some (.lst (((b.si.map (·.n)).take i).map V.str)) ∧ Same H H') ⟨by rw [upd_same]; rfl, same_new hN⟩ (fun i H' _ h => h.2.tup hC) ?_ ?_
    · rintro i u H1 hi ⟨h1, m1'⟩
      obtain ⟨x, hx, dx⟩ := hsi.map_get hi
      have il := (List.getElem?_eq_some_iff.mp hx).1
      obtain ⟨t, tus, rfl, hT, et⟩ := DV.leafS (i := 1) (x := x.n) (dx.tk (TK.same m1')) rfl
      have en : (b.si.map (·.n))[i]? = some x.n := by rw [List.getElem?_map, hx]; rfl
      refine ⟨rfl, _, rfl, t, _, 1, _, rfl, rfl, hT, atI_nat (j := 1) et, _, h1, ?_, ?_, sput m1' hN⟩
      · rw [List.length_map, List.length_take]; exact small54 (by omega)
      · rw [upd_same, List.take_add_one, en, List.map_append]; rfl
    rintro H1 ⟨h1, m1'⟩
    rw [wl, ← nl, List.take_length] at h1
    have Ns := hS.ne hN
    have S1 := hS.ext m1'
    obtain ⟨us, eus⟩ : ∃ us, us = b.si.map (·.n) := ⟨_, rfl⟩
    rw [← eus] at h1
    have ul : us.length ≤ 10 := by rw [eus, nl]; exact sl
    have une : us ≠ [] := fun e => by
      rw [eus] at e
      exact sn (List.map_eq_nil_iff.mp e)
    have u8 : ∀ x ∈ us, (tl x).length ≤ 8 := fun x hx => by
      rw [eus] at hx
      obtain ⟨y, hy, rfl⟩ := List.mem_map.mp hx
      exact (bo.sn y hy).2
    clear eus
    -- people
    refine ⟨by show 3 ≤ sizeLine; decide, fun B hB' => ?_⟩
    have n2 := same_new (o := HO.lst [V.str (Str.ofString "dora"), V.str (Str.ofString "e"), V.str (Str.ofString "fay")]) hB'
    have S2 := S1.ext n2
    have Bs := S1.ne hB'
    refine ⟨_, rfl, _, rfl, s, a, m, c + 9990, rfl, m0, by omega, S2.mono (by omega), fun z H3 z0 z1 x3 S3 => ?_⟩
    refine ⟨_, _, rfl, rfl, _, rfl, B, _, rfl, SqL.of (x3 _ _ Bs upd_same), fun L hL => ?_⟩
    rw [cutV_to (by omega), show [V.str (Str.ofString "dora"), V.str (Str.ofString "e"), V.str (Str.ofString "fay")] = ppl.map V.str from rfl, ← List.map_take]
    have p4 : ∀ x ∈ ppl.take (1 + z).toNat, (tl x).length ≤ 4 := fun x hx => ppl_len x (List.mem_of_mem_take hx)
    have p3 : (ppl.take (1 + z).toNat).length ≤ 3 := by rw [List.length_take]; exact Nat.min_le_right _ _
    generalize ppl.take (1 + z).toNat = xs at p4 p3 ⊢
    have n4 := same_new (o := HO.lst (xs.map V.str)) hL
    have S4 := S3.ext n4
    have x14 : Ext s H1 (upd H3 L (HO.lst (xs.map V.str))) := ((Ext.of n2).trans x3).trans (Ext.of n4)
    have h4 : (upd H3 L (HO.lst (xs.map V.str))) L = some (.lst (xs.map V.str)) := upd_same
    have Ls := S3.ne hL
    have hN4 := x14 _ _ Ns h1
    generalize upd H3 L (HO.lst (xs.map V.str)) = H4 at n4 S4 x14 h4 hN4 ⊢
    -- addresses
    refine ⟨_, rfl, L, rfl, ⟨_, SqL.of h4⟩, fun A hA => ?_⟩
    have As := S4.ne hA
    have Aa := S4.nea hA
    refine lc_list (K := K) (a := L) (xs := xs.map V.str) (fun i H' => ∃ as : List Str, H' A = some (.lst (as.map V.str)) ∧ as.length = i ∧ (∀ x ∈ as, (tl x).length ≤ 20) ∧ Ext s H4 H' ∧ Src H' s a (c + (9980 - i))) ⟨[], upd_same, rfl, (fun _ h => by cases h), Ext.new hA, (S4.new hA).mono (by omega)⟩ (fun i H' _ h => by obtain ⟨_, _, _, _, e, _⟩ := h; exact SqL.of (e _ _ Ls h4)) ?_ ?_
    · rintro i x H5 hi ⟨as, h5, al, ab, e5, S5⟩
      obtain ⟨d, hd, rfl⟩ := map_get hi
      have dm := p4 d (List.mem_of_getElem? hd)
      have il := (List.getElem?_eq_some_iff.mp hd).1
      refine ⟨rfl, _, rfl, _, _, rfl, rfl, ?_, _, rfl, _, rfl, .inl ⟨s, a, N, _, c + (9980 - (i + 1)), rfl, SqL.of (e5 _ _ Ns hN4), Ns, by simpa using une, by rw [List.length_map]; omega, S5.mono (by omega), fun y H6 ym x6 S6 => ?_⟩⟩
      · refine js2 ?_
        show _ + 1 ≤ _
        omega
      obtain ⟨y, hy, rfl⟩ := List.mem_map.mp ym
      have y8 := u8 y hy
      have lt : (tl (d ++ Str.ofString "@" ++ y)).length ≤ 20 := by
        rw [tl_app, tl_app, List.length_append, List.length_append]
        show (_ + 1) + _ ≤ _
        omega
      refine ⟨_, _, rfl, rfl, ?_, _, x6 _ _ As h5, by rw [List.length_map]; exact small54 (by omega), as ++ [d ++ Str.ofString "@" ++ y], by rw [upd_same, List.map_append]; rfl, by rw [List.length_append, al]; rfl, fun x hx => ?_, fun b o bs hb => ?_, S6.put As Aa⟩
      · refine js2 ?_
        rw [tl_app, List.length_append]
        show (_ + 1) + _ ≤ _
        omega
      · rcases List.mem_append.mp hx with k | k
        · exact ab x k
        · rw [List.mem_singleton.mp k]; exact lt
      · rw [upd_ne (ne_of_none hb hA)]; exact x6 _ _ bs (e5 _ _ bs hb)
    rintro H5 ⟨as, h5, al, ab, e5, S5⟩
    rw [List.length_map] at al S5
    -- entries
    refine ⟨Nat.zero_le _, fun E hE => ?_⟩
    have Es := S5.ne hE
    have Ea := S5.nea hE
    have n6 := same_new (o := HO.lst []) hE
    have h6 := n6 _ _ h5
    have x16 : Ext s H1 (upd H5 E (HO.lst [])) := (x14.trans e5).trans (Ext.of n6)
    refine ⟨_, rfl, A, rfl, ⟨_, SqL.of h6⟩, ?_⟩
    refine for_list (K := K) (a := A) (xs := as.map V.str) (fun i σ H' => ∃ (l : List Sw) (es : List V) (v8 v9 : Option V), σ = [some (.ref s), some (.ref ba), some (.ref w), some (.int m), some (.ref N), some (.ref L), some (.ref A), some (.ref E), v8, v9, none, none] ∧ H' E = some (.lst es) ∧ DVs K H' (l.map swD) es ∧ l.length = i ∧ (∀ x ∈ l, (tl x.p).length ≤ 200 ∧ (tl x.a).length ≤ 20) ∧ Ext s H5 H' ∧ Src H' s a (c + (9970 - 3000 * i))) ⟨[], [], _, _, rfl, upd_same, dln, rfl, (fun _ h => by cases h), Ext.of n6, (S5.ext n6).mono (by omega)⟩ (fun i σ H' _ h => by obtain ⟨_, _, _, _, _, _, _, _, _, e, _⟩ := h; exact SqL.of (e _ _ As h5)) ?_ ?_
    · rintro i x σ H7 hi ⟨l, es, v8, v9, rfl, h7, d7', ll, lb, e7', S7⟩
      obtain ⟨d, hd, rfl⟩ := map_get hi
      have dm := ab d (List.mem_of_getElem? hd)
      have il := (List.getElem?_eq_some_iff.mp hd).1
      have x17 := (x14.trans e5).trans e7'
      obtain ⟨n0, hn0⟩ : ∃ n0, us[0]? = some n0 := ⟨_, List.getElem?_eq_getElem (List.length_pos_iff.mpr une)⟩
      have n08 := u8 n0 (List.mem_of_getElem? hn0)
      have hN7 := x17 _ _ Ns h1
      refine ⟨_, rfl, _, rfl, _, rfl, _, rfl, _, rfl, N, _, 0, _, rfl, rfl, SqL.of hN7, atI_nat (j := 0) (by rw [List.getElem?_map, hn0]; rfl), _, _, rfl, rfl, ?_, by show 1 ≤ sizeLine; decide, fun B2 hB2 => ?_⟩
      · refine js2 ?_
        show 4 + _ ≤ _
        omega
      have n8 := same_new (o := HO.lst [V.str (Str.ofString "nob@" ++ n0)]) hB2
      refine ⟨A, B2, _, _, rfl, rfl, n8 _ _ (e7' _ _ As h5), upd_same, by rw [List.length_map]; exact Nat.le_trans (show as.length + 1 ≤ 30000 by omega) (by decide), fun M hM => ?_⟩
      have ea : as.map V.str ++ [V.str (Str.ofString "nob@" ++ n0)] = (as ++ [Str.ofString "nob@" ++ n0]).map V.str := by rw [List.map_append]; rfl
      rw [ea]
      have n9 := same_new (o := HO.lst ((as ++ [Str.ofString "nob@" ++ n0]).map V.str)) hM
      have n89 := n8.trans n9
      have S9 := S7.ext n89
      have Ms := (S7.ext n8).ne hM
      have x9 := x17.trans (Ext.of n89)
      refine ⟨s, a, w, N, M, ws, us, as ++ [Str.ofString "nob@" ++ n0], c + (9970 - 3000 * i) - 2000, rfl, ((Ext.of m1').trans x9).seqL sw hw, sw, wd, n89 _ _ hN7, Ns, ul, upd_same, Ms, by simp, by rw [List.length_append]; show _ + 1 ≤ _; omega, S9.mono (by omega), fun pd pv' H10 dpv x10 S10 => ?_⟩
      have hE10 := x10 _ _ Es (n89 _ _ h7)
      refine ⟨_, rfl, .inl ⟨rfl, _, SqL.of hE10⟩, _, rfl, _, rfl, s, a, w, ws, c + (9970 - 3000 * i) - 2200, rfl, (((Ext.of m1').trans x9).trans x10).seqL sw hw, sw, wd, S10.mono (by omega), fun p H11 pg pl x11 S11 => ?_⟩
      refine ⟨_, rfl, _, rfl, by show 4 ≤ sizeLine; decide, fun r hr' => ?_⟩
      have n12 := same_new (o := HO.tup [V.str (Str.ofString "steward"), V.str p, V.str d, pv']) hr'
      have hE12 := n12 _ _ (x11 _ _ Es hE10)
      have t12 := tk_put (K := K) (o := HO.lst (es ++ [V.ref r])) hE12
      have T1012 := (TK.ext (K := K) x11 S10).trans (TK.same n12)
      have T712 : TK K H7 _ := ((TK.same n89).trans (TK.ext x10 S9)).trans T1012
      refine ⟨E, es, _, rfl, rfl, hE12, by rw [d7'.map_len]; exact small54 (by omega), l ++ [⟨p, d, pd⟩], es ++ [V.ref r], _, _, rfl, upd_same, DVs.snoc (x := (⟨p, d, pd⟩ : Sw)) ((d7'.tk T712).tk t12) ⟨r, _, rfl, t12 _ _ (SqT.of upd_same), dlc (dls _) (dlc (dls _) (dlc (dls _) (dlc ((dpv.tk T1012).tk t12) dln)))⟩, by rw [List.length_append, ll]; rfl, fun x hx => ?_, fun b o bs hb => ?_, ((S11.ext n12).put Es Ea).mono (by omega)⟩
      · rcases List.mem_append.mp hx with k | k
        · exact lb x k
        · rw [List.mem_singleton.mp k]; exact ⟨by show (tl p).length ≤ 200; omega, dm⟩
      · rw [upd_ne (ne_of_none hb hE)]; exact n12 _ _ (x11 _ _ bs (x10 _ _ bs (n89 _ _ (e7' _ _ bs hb))))
    rintro σ H7 ⟨l, es, v8, v9, rfl, h7, d7', ll, lb, e7', S7⟩
    rw [List.length_map] at ll
    have x07 : Ext s H H7 := (Ext.of m1').trans ((x14.trans e5).trans e7')
    have T07 := TK.ext (K := K) x07 hS
    refine ⟨_, rfl, 6, rfl, ba, bus, rfl, T07 _ _ hB, fun B1 H8 m8 hB1 => ?_⟩
    rw [cutV_to (by decide)] at hB1
    refine ⟨_, rfl, E, _, rfl, .inl ⟨SqL.of (m8 _ _ h7), fun T hT => ?_⟩⟩
    have n9 := same_new (o := HO.tup es) hT
    refine ⟨_, rfl, ba, bus, 7, _, rfl, rfl, ((T07.trans (TK.same m8)).trans (TK.same n9)) _ _ hB, atI_nat (j := 7) e7, by show 2 ≤ sizeLine; decide, fun T1 hT1 => ?_⟩
    have n10 := same_new (o := HO.tup [V.ref T, u7]) hT1
    have n910 := n9.trans n10
    refine ⟨B1, T1, _, _, rfl, rfl, n910.tup hB1, SqT.of upd_same, by rw [List.length_take]; exact Nat.le_trans (show min 6 _ + 2 ≤ 30000 by omega) (by decide), fun p H11 m11 hp => ?_⟩
    have T711 : TK K H7 H11 := (TK.same m8).trans ((TK.same n910).trans (TK.same m11))
    have T11 := T07.trans T711
    have hT11 := (n10.trans m11) _ _ (upd_same (H := H8) (a := T) (o := HO.tup es))
    have dB' := dB.tk T11
    obtain ⟨u0, r0, rfl, d0, dB'⟩ := dB'
    obtain ⟨u1, r1, rfl, d1, dB'⟩ := dB'
    obtain ⟨u2, r2, rfl, d2, dB'⟩ := dB'
    obtain ⟨u3', r3, rfl, d3, dB'⟩ := dB'
    obtain ⟨u4, r4, rfl, d4, dB'⟩ := dB'
    obtain ⟨u5, r5, rfl, d5, dB'⟩ := dB'
    refine q _ l H11 ⟨p, _, rfl, hp, dlc d0 (dlc d1 (dlc d2 (dlc d3 (dlc d4 (dlc d5 (dlc ⟨T, _, rfl, SqT.of hT11, d7'.tk T711⟩ (dlc (d7.tk T11) dln)))))))⟩ (by omega) lb ((x07.trans (Ext.of m8)).trans (Ext.of (n910.trans m11))) ((S7.ext (m8.trans (n910.trans m11))).mono (by omega))
end

end Z
namespace Z
open PySem L2 SX
theorem all_txt {zs : List Str} : ∀ {ys : List V}, (∀ y ∈ ys, y ∈ zs.map V.str) → ∃ ds : List Str, ys = ds.map V.str
  | [], _ => ⟨[], rfl⟩
  | y :: ys, h => by
    obtain ⟨ds, rfl⟩ := all_txt (ys := ys) fun z hz => h z (List.mem_cons_of_mem _ hz)
    obtain ⟨d, _, rfl⟩ := List.mem_map.mp (h y (by simp))
    exact ⟨d :: ds, rfl⟩
section
variable {P : Program} {w : World} {K : PySem.W.Frag} {mg : Str → Option Value} {base : Heap}
theorem ok__law_some_seals (D : Df K mg "_law_some_seals" s__law_some_seals ["source", "book", "boards"]) (T : Tx mg)  (C__law_draw : Cal P w K mg base "_law_draw" ["source", "many"] 2 sp__law_draw) (C__law_needed : Cal P w K mg base "_law_needed" ["book", "boards"] 4 (sp_seals K)) (C__law_shuffled : Cal P w K mg base "_law_shuffled" ["source", "row"] 3 (sp54_shuffled K)) : Cal P w K mg base "_law_some_seals" ["source", "book", "boards"] 5 (sp54_seals K) := by
  obtain ⟨f__law_draw, fd__law_draw, G__law_draw, g__law_draw, k__law_draw, b__law_draw⟩ := C__law_draw
  obtain ⟨f__law_needed, fd__law_needed, G__law_needed, g__law_needed, k__law_needed, b__law_needed⟩ := C__law_needed
  obtain ⟨f__law_shuffled, fd__law_shuffled, G__law_shuffled, g__law_shuffled, k__law_shuffled, b__law_shuffled⟩ := C__law_shuffled
  obtain ⟨f, fd, F, gf, bf⟩ := D
  refine ⟨f, fd, F.ok sc__law_some_seals (fun vs H Q E h => ?_) (fun cdv A outer s₀ H vs Q E hr h => ?_), gf, F.kp, bf⟩
  · obtain ⟨s, a, t, v, b, bs, c, rfl, _⟩ := h; rfl
  · obtain ⟨s, a, t, v, b, bs, c, rfl, dv, sn, bo, ht, bl, bc, hS, q⟩ := h
    refine ⟨_, (pss_cons (ps_set (i := 3) sc__law_some_seals.nd rfl (Or.inr rfl) (pe_callTy call_list_of (by rfl) T.n_list (by decide +kernel) (pa_cons (pe_call G__law_needed (hr.mono (by decide)) (by rfl) g__law_needed k__law_needed b__law_needed .nil pass0 (pa_cons (pv 1) (pa_cons (pv 2) pa_nil))) pa_nil)))
      (pss_cons (ps_set (i := 4) sc__law_some_seals.nd rfl (Or.inl rfl) (pe_op L2.op_cat (pe_lc (own := [("entry", 7)]) (g := gName 7) rfl sc__law_some_seals.nd (pi_tup (pe_ix ix_tup (pv 1) pe_int (fun _ _ => rfl))) (blkOk_by (own := [("entry", 7)]) (N := N__law_some_seals) (sc := defScope s__law_some_seals) (by decide +kernel)) (fun _ _ _ _ _ => pg_name (i := 7) sc__law_some_seals.nd rfl (Or.inl rfl)) (fun _ _ _ _ _ => pts_one (pt_cmpR (notIn_seqQ (K := K) rfl) (pe_ix (ix_tupQ (K := K) rfl) (pv 7) pe_int (fun _ _ => rfl)) (pv 3) (by rfl))) (fun _ _ _ _ _ => (pe_ix (ix_tupQ (K := K) rfl) (pv 7) pe_int (fun _ _ => rfl)))) (pe_lst (pa_cons (pe_op op_add_str pe_str (pe_ix ix_tup (pe_ix ix_tup (pe_ix ix_tup (pv 1) pe_int (fun _ _ => rfl)) pe_int (fun _ _ => rfl)) pe_int (fun _ _ => rfl))) pa_nil))))
      (pss_cons (ps_set (i := 5) sc__law_some_seals.nd rfl (Or.inl rfl) (pe_call G__law_draw (hr.mono (by decide)) (by rfl) g__law_draw k__law_draw b__law_draw .nil pass0 (pa_cons (pv 0) (pa_cons pe_int pa_nil))))
      (pss_cons (ps_if (pt_cmpR op_eq (pv 5) pe_int (nomark _))
      (pss_one (ps_ret (pe_tup pa_nil)))
      pss_nil)
      (pss_cons (ps_if (pt_cmpR op_eq (pv 5) pe_int (nomark _))
      (pss_one (ps_ret (pe_callTy call_tuple_of (by rfl) T.n_tuple (by decide +kernel) (pa_cons (pe_slice sl_list (pv 3) po_none (po_some (pe_call G__law_draw (hr.mono (by decide)) (by rfl) g__law_draw k__law_draw b__law_draw .nil pass0 (pa_cons (pv 0) (pa_cons (pe_op op_add (pe_callB call_len_seq (by rfl) T.n_len PySem.boot_len (pa_cons (pv 3) pa_nil)) pe_int) pa_nil))))) pa_nil))))
      pss_nil)
      (pss_cons (ps_if (pt_cmpR op_eq (pv 5) pe_int (nomark _))
      (pss_one (ps_ret (pe_callTy call_tuple_of (by rfl) T.n_tuple (by decide +kernel) (pa_cons (pe_op L2.op_cat (pe_call G__law_shuffled (hr.mono (by decide)) (by rfl) g__law_shuffled k__law_shuffled b__law_shuffled .nil pass0 (pa_cons (pv 0) (pa_cons (pv 3) pa_nil))) (pe_slice sl_list (pv 4) (po_some (pe_op op_sub (pe_callB call_len_seq (by rfl) T.n_len PySem.boot_len (pa_cons (pv 4) pa_nil)) pe_int)) po_none)) pa_nil))))
      pss_nil)
      (pss_cons (ps_set (i := 6) sc__law_some_seals.nd rfl (Or.inl rfl) (pe_call G__law_shuffled (hr.mono (by decide)) (by rfl) g__law_shuffled k__law_shuffled b__law_shuffled .nil pass0 (pa_cons (pv 0) (pa_cons (pe_op L2.op_cat (pv 3) (pv 4)) pa_nil))))
      (pss_one (ps_ret (pe_callTy call_tuple_of (by rfl) T.n_tuple (by decide +kernel) (pa_cons (pe_slice sl_list (pv 6) po_none (po_some (pe_call G__law_draw (hr.mono (by decide)) (by rfl) g__law_draw k__law_draw b__law_draw .nil pass0 (pa_cons (pv 0) (pa_cons (pe_op op_add (pe_callB call_len_seq (by rfl) T.n_len PySem.boot_len (pa_cons (pv 6) pa_nil)) pe_int) pa_nil))))) pa_nil))))))))))), ?_⟩
    have sl := seals_ten (b := b) bl
    refine ⟨_, rfl, _, rfl, b, v, t, bs, rfl, dv, bo, ht, by omega, bc, fun T H1 m1 hT => ⟨T, _, rfl, .inr hT, fun L hL => ?_⟩⟩
    have n2 := same_new (o := HO.lst ((sealsL b bs).map V.str)) hL
    have S2 := (hS.ext m1).ext n2
    have Ls := (hS.ext m1).ne hL
    have hL2 : (upd H1 L (HO.lst ((sealsL b bs).map V.str))) L = some (.lst ((sealsL b bs).map V.str)) := upd_same
    have m2 := m1.trans n2
    have dv2 := dv.tk (TK.same m2)
    generalize upd H1 L (HO.lst ((sealsL b bs).map V.str)) = H2 at n2 S2 hL2 m2 dv2 ⊢
    generalize sealsL b bs = zs at sl hL2
    obtain ⟨ba, bus, rfl, hB, dB⟩ := dv2
    obtain ⟨u6, e6, c6, w6, rfl, hC, hsw⟩ := dB.get (i := 6) (d := .tup (b.sw.map swD)) rfl
    obtain ⟨u3, e3, c3, w3, rfl, hC3, hsi⟩ := dB.get (i := 3) (d := .tup (b.si.map siD)) rfl
    have wl := hsw.map_len
    have wl10 := bo.sw
    refine ⟨_, rfl, ba, bus, 6, .ref c6, rfl, rfl, hB, atI_nat (j := 6) e6, c6, rfl, ⟨_, hC⟩, fun F hF => ?_⟩
    refine lc_tup (K := K) (a := c6) (xs := w6) (fun i H' => ∃ fs : List Str, H' F = some (.lst (fs.map V.str)) ∧ fs.length ≤ i ∧ Same H2 H') ⟨[], upd_same, Nat.le_refl _, same_new hF⟩ (fun i H' _ h => by obtain ⟨_, _, _, m⟩ := h; exact m.tup hC) ?_ ?_
    · rintro i u H3 hi ⟨fs, h3, fl, m3⟩
      obtain ⟨x, hx, dx⟩ := hsw.map_get hi
      have il := (List.getElem?_eq_some_iff.mp hx).1
      obtain ⟨t', tus, rfl, hT', et⟩ := DV.leafS (i := 2) (x := x.a) (dx.tk (TK.same m3)) rfl
      refine ⟨rfl, _, rfl, t', _, 2, _, rfl, rfl, hT', atI_nat (j := 2) et, _, rfl, L, _, rfl, .inl (SqL.of (m3 _ _ hL2)), rfl, flat_strs _, _, rfl, ?_⟩
      rw [show (if true = true then !inV (V.str x.a) (zs.map V.str) else inV (V.str x.a) (zs.map V.str)) = !decide (x.a ∈ zs) by rw [if_pos rfl, inV_strs]]
      by_cases c : x.a ∈ zs
      · exact iN (by rw [decide_eq_true c]; rfl) ⟨fs, h3, by omega, m3⟩
      · exact iG (by rw [decide_eq_false c]; rfl) ⟨_, rfl, t', _, 2, _, rfl, rfl, hT', atI_nat (j := 2) et, _, h3, by rw [List.length_map]; exact small54 (by omega), fs ++ [x.a], by rw [upd_same, List.map_append]; rfl, by rw [List.length_append]; show _ + 1 ≤ _; omega, sput m3 hF⟩
    rintro H3 ⟨fs, h3, fl, m3⟩
    have Fs := S2.ne hF
    obtain ⟨s0, hs0⟩ : ∃ s0, b.si[0]? = some s0 := ⟨_, List.getElem?_eq_getElem (List.length_pos_iff.mpr sn)⟩
    obtain ⟨u0, hu0, du0⟩ := hsi.get (i := 0) (d := siD s0) (by rw [List.getElem?_map, hs0]; rfl)
    obtain ⟨sa, sus, rfl, hSa, es1⟩ := DV.leafS (i := 1) (x := s0.n) du0 rfl
    have s08 := (bo.sn s0 (List.mem_of_getElem? hs0)).2
    refine ⟨_, rfl, ba, bus, 3, .ref c3, rfl, rfl, m3.tup hB, atI_nat (j := 3) e3, c3, w3, 0, .ref sa, rfl, rfl, m3.tup hC3, atI_nat (j := 0) hu0, sa, sus, 1, _, rfl, rfl, m3.tup hSa, atI_nat (j := 1) es1, _, _, rfl, rfl, ?_, by show 1 ≤ sizeLine; decide, fun B hB2 => ?_⟩
    · refine js2 ?_
      show 4 + _ ≤ _
      omega
    have n4 := same_new (o := HO.lst [V.str (Str.ofString "zed@" ++ s0.n)]) hB2
    refine ⟨F, B, _, _, rfl, rfl, n4 _ _ h3, upd_same, by rw [List.length_map]; exact Nat.le_trans (show fs.length + 1 ≤ 30000 by omega) (by decide), fun G hG => ?_⟩
    have eg : fs.map V.str ++ [V.str (Str.ofString "zed@" ++ s0.n)] = (fs ++ [Str.ofString "zed@" ++ s0.n]).map V.str := by rw [List.map_append]; rfl
    rw [eg]
    have gl : (fs ++ [Str.ofString "zed@" ++ s0.n]).length ≤ 11 := by rw [List.length_append]; show _ + 1 ≤ _; omega
    have g0 : 0 < (fs ++ [Str.ofString "zed@" ++ s0.n]).length := by rw [List.length_append]; show 0 < _ + 1; omega
    generalize fs ++ [Str.ofString "zed@" ++ s0.n] = gs at gl g0 ⊢
    have n5 := same_new (o := HO.lst (gs.map V.str)) hG
    have m25 := m3.trans (n4.trans n5)
    have S5 := S2.ext m25
    have Gs := (S2.ext (m3.trans n4)).ne hG
    have hG5 : (upd (upd H3 B (HO.lst [V.str (Str.ofString "zed@" ++ s0.n)])) G (HO.lst (gs.map V.str))) G = some (.lst (gs.map V.str)) := upd_same
    have hL5 := m25 _ _ hL2
    have e5 : Ext s H _ := Ext.of (m2.trans m25)
    generalize upd (upd H3 B (HO.lst [V.str (Str.ofString "zed@" ++ s0.n)])) G (HO.lst (gs.map V.str)) = H5 at n5 m25 S5 hG5 hL5 e5 ⊢
    refine ⟨_, rfl, s, a, 4, c + 99, rfl, by decide, by decide, S5.mono (by omega), fun w1 H6 _ _ x6 S6 => ?_⟩
    have hL6 := x6 _ _ Ls hL5
    have hG6 := x6 _ _ Gs hG5
    have e6' := e5.trans x6
    refine ⟨_, rfl, rfl, _, rfl, ite2 (fun _ => ?_) (fun _ => ?_)⟩
    · refine ⟨Nat.zero_le _, fun T hT => ?_⟩
      have n7 := same_new (o := HO.tup []) hT
      exact q [] _ _ ⟨T, [], rfl, SqT.of upd_same, dln⟩ (Nat.zero_le _) (e6'.trans (Ext.of n7)) ((S6.ext n7).mono (by omega))
    refine ⟨_, rfl, rfl, _, rfl, ite2 (fun _ => ?_) (fun _ => ?_)⟩
    · refine ⟨_, rfl, _, rfl, _, rfl, L, _, rfl, .inl (SqL.of hL6), _, _, rfl, rfl, s, a, _, c + 90, rfl, by omega, by rw [List.length_map]; omega, S6.mono (by omega), fun z H7 z0 z1 x7 S7 => ?_⟩
      refine ⟨_, rfl, L, _, rfl, SqL.of (x7 _ _ Ls hL6), fun P hP => ?_⟩
      rw [cutV_to (by omega), ← List.map_take]
      have n8 := same_new (o := HO.lst ((zs.take z.toNat).map V.str)) hP
      refine ⟨P, _, rfl, .inl ⟨SqL.of upd_same, fun T hT => ?_⟩⟩
      have n9 := same_new (o := HO.tup ((zs.take z.toNat).map V.str)) hT
      have n89 := n8.trans n9
      exact q (zs.take z.toNat) _ _ ⟨T, _, rfl, SqT.of upd_same, txt_dvs _⟩ (by rw [List.length_take]; omega) ((e6'.trans x7).trans (Ext.of n89)) ((S7.ext n89).mono (by omega))
    refine ⟨_, rfl, rfl, _, rfl, ite2 (fun _ => ?_) (fun _ => ?_)⟩
    · refine ⟨_, rfl, _, rfl, s, a, L, _, c + 80, rfl, .inl (SqL.of hL6), by rw [List.length_map]; omega, S6.mono (by rw [List.length_map]; omega), fun D ys H7 hD0 hD yl ym x7 S7 => ?_⟩
      obtain ⟨ds, rfl⟩ := all_txt ym
      rw [List.length_map, List.length_map] at yl
      refine ⟨_, rfl, _, rfl, G, _, rfl, .inl (SqL.of (x7 _ _ Gs hG6)), _, _, rfl, rfl, _, rfl, G, _, rfl, SqL.of (x7 _ _ Gs hG6), fun P hP => ?_⟩
      have Ds := S6.ne hD0
      rw [cutV_from (by rw [List.length_map]; omega), ← List.map_drop]
      generalize ((((gs.map V.str).length : Nat) : Int) - 1).toNat = j
      have n8 := same_new (o := HO.lst ((gs.drop j).map V.str)) hP
      refine ⟨D, P, _, _, rfl, rfl, n8 _ _ hD, upd_same, by rw [List.length_map, List.length_map, List.length_drop]; exact Nat.le_trans (show ds.length + (gs.length - j) ≤ 30000 by omega) (by decide), fun M hM => ?_⟩
      rw [← List.map_append]
      have n9 := same_new (o := HO.lst ((ds ++ gs.drop j).map V.str)) hM
      refine ⟨M, _, rfl, .inl ⟨SqL.of upd_same, fun T hT => ?_⟩⟩
      have n10 := same_new (o := HO.tup ((ds ++ gs.drop j).map V.str)) hT
      have n810 := n8.trans (n9.trans n10)
      exact q (ds ++ gs.drop j) _ _ ⟨T, _, rfl, SqT.of upd_same, txt_dvs _⟩ (by rw [List.length_append, List.length_drop]; omega) ((e6'.trans x7).trans (Ext.of n810)) ((S7.ext n810).mono (by omega))
    refine ⟨_, rfl, _, rfl, _, rfl, L, G, _, _, rfl, rfl, hL6, hG6, by rw [List.length_map, List.length_map]; exact Nat.le_trans (show zs.length + gs.length ≤ 30000 by omega) (by decide), fun M hM => ?_⟩
    rw [← List.map_append]
    have n7 := same_new (o := HO.lst ((zs ++ gs).map V.str)) hM
    have zg : (zs ++ gs).length ≤ 21 := by rw [List.length_append]; omega
    refine ⟨s, a, M, _, c + 60, rfl, .inl (SqL.of upd_same), by rw [List.length_map]; omega, (S6.ext n7).mono (by rw [List.length_map]; omega), fun D ys H8 hD0 hD yl ym x8 S8 => ?_⟩
    obtain ⟨ds, rfl⟩ := all_txt ym
    rw [List.length_map, List.length_map] at yl
    have Ds := (S6.ext n7).ne hD0
    refine ⟨_, rfl, _, rfl, _, rfl, D, _, rfl, .inl (SqL.of hD), _, _, rfl, rfl, s, a, _, c + 50, rfl, by omega, by rw [List.length_map]; omega, S8.mono (by omega), fun z H9 z0 z1 x9 S9 => ?_⟩
    refine ⟨_, rfl, D, _, rfl, SqL.of (x9 _ _ Ds hD), fun P hP => ?_⟩
    rw [cutV_to (by omega), ← List.map_take]
    have n10 := same_new (o := HO.lst ((ds.take z.toNat).map V.str)) hP
    refine ⟨P, _, rfl, .inl ⟨SqL.of upd_same, fun T hT => ?_⟩⟩
    have n11 := same_new (o := HO.tup ((ds.take z.toNat).map V.str)) hT
    have n1011 := n10.trans n11
    exact q (ds.take z.toNat) _ _ ⟨T, _, rfl, SqT.of upd_same, txt_dvs _⟩ (by rw [List.length_take]; omega) ((((e6'.trans (Ext.of n7)).trans x8).trans x9).trans (Ext.of n1011)) ((S9.ext n1011).mono (by omega))
end
def aus : List Str := [Str.ofString "ann", Str.ofString "b2", Str.ofString "dora"]
theorem aus_len : ∀ x ∈ aus, (tl x).length ≤ 4 := by decide
section
variable {P : Program} {w : World} {K : PySem.W.Frag} {mg : Str → Option Value} {base : Heap}
theorem ok__law_notice (D : Df K mg "_law_notice" s__law_notice ["source", "book", "words"]) (T : Tx mg)  (C__law_boards : Cal P w K mg base "_law_boards" ["source", "words", "most"] 5 (sp2__law_boards K)) (C__law_body : Cal P w K mg base "_law_body" ["source"] 4 (sp54_body K)) (C__law_draw : Cal P w K mg base "_law_draw" ["source", "many"] 2 sp__law_draw) (C__law_kind : Cal P w K mg base "_law_kind" ["source", "other"] 3 (sp54_kind K)) (C__law_pick : Cal P w K mg base "_law_pick" ["source", "row"] 3 (sp3__law_pick K)) (C__law_row : Cal P w K mg base "_law_row" ["source", "size"] 3 sp__law_row) (C__law_some_seals : Cal P w K mg base "_law_some_seals" ["source", "book", "boards"] 5 (sp54_seals K)) : Cal P w K mg base "_law_notice" ["source", "book", "words"] 6 (sp54_notice K) := by
  obtain ⟨f__law_boards, fd__law_boards, G__law_boards, g__law_boards, k__law_boards, b__law_boards⟩ := C__law_boards
  obtain ⟨f__law_body, fd__law_body, G__law_body, g__law_body, k__law_body, b__law_body⟩ := C__law_body
  obtain ⟨f__law_draw, fd__law_draw, G__law_draw, g__law_draw, k__law_draw, b__law_draw⟩ := C__law_draw
  obtain ⟨f__law_kind, fd__law_kind, G__law_kind, g__law_kind, k__law_kind, b__law_kind⟩ := C__law_kind
  obtain ⟨f__law_pick, fd__law_pick, G__law_pick, g__law_pick, k__law_pick, b__law_pick⟩ := C__law_pick
  obtain ⟨f__law_row, fd__law_row, G__law_row, g__law_row, k__law_row, b__law_row⟩ := C__law_row
  obtain ⟨f__law_some_seals, fd__law_some_seals, G__law_some_seals, g__law_some_seals, k__law_some_seals, b__law_some_seals⟩ := C__law_some_seals
  obtain ⟨f, fd, F, gf, bf⟩ := D
  refine ⟨f, fd, F.ok sc__law_notice (fun vs H Q E h => ?_) (fun cdv A outer s₀ H vs Q E hr h => ?_), gf, F.kp, bf⟩
  · obtain ⟨s, a, w, v, b, ws, c, rfl, _⟩ := h; rfl
  · obtain ⟨s, a, w, v, b, ws, c, rfl, dv, sn, bo, hw, sw, wd, hS, q⟩ := h
    refine ⟨_, (pss_cons (ps_set (i := 3) sc__law_notice.nd rfl (Or.inl rfl) (pe_ix ix_tup (pe_call G__law_pick (hr.mono (by decide)) (by rfl) g__law_pick k__law_pick b__law_pick .nil pass0 (pa_cons (pv 0) (pa_cons (pe_ix ix_tup (pv 1) pe_int (fun _ _ => rfl)) pa_nil))) pe_int (fun _ _ => rfl)))
      (pss_cons (ps_set (i := 4) sc__law_notice.nd rfl (Or.inl rfl) (pe_call G__law_pick (hr.mono (by decide)) (by rfl) g__law_pick k__law_pick b__law_pick .nil pass0 (pa_cons (pv 0) (pa_cons (pe_lst (pa_cons pe_int (pa_cons pe_int (pa_cons (pe_op op_add pe_int (pe_call G__law_draw (hr.mono (by decide)) (by rfl) g__law_draw k__law_draw b__law_draw .nil pass0 (pa_cons (pv 0) (pa_cons pe_int pa_nil)))) (pa_cons (pe_op op_add pe_int (pe_call G__law_draw (hr.mono (by decide)) (by rfl) g__law_draw k__law_draw b__law_draw .nil pass0 (pa_cons (pv 0) (pa_cons pe_int pa_nil)))) pa_nil))))) pa_nil))))
      (pss_cons (ps_set (i := 5) sc__law_notice.nd rfl (Or.inl rfl) (pe_tup (pa_cons (pv 3) (pa_cons (pe_op op_add pe_int (pe_op op_mod (pe_callTy call_int1 (by rfl) T.n_int (by decide +kernel) (pa_cons (pv 4) pa_nil)) pe_int)) pa_nil))))
      (pss_cons (ps_set (i := 6) sc__law_notice.nd rfl (Or.inl rfl) (pe_op op_add_str (pe_op op_add_str (pe_call G__law_pick (hr.mono (by decide)) (by rfl) g__law_pick k__law_pick b__law_pick .nil pass0 (pa_cons (pv 0) (pa_cons (pe_lst (pa_cons pe_str (pa_cons pe_str (pa_cons pe_str pa_nil)))) pa_nil))) pe_str) (pv 3)))
      (pss_cons (ps_set (i := 7) sc__law_notice.nd rfl (Or.inl rfl) (pe_call G__law_pick (hr.mono (by decide)) (by rfl) g__law_pick k__law_pick b__law_pick .nil pass0 (pa_cons (pv 0) (pa_cons (pe_lst (pa_cons pe_int (pa_cons pe_int (pa_cons (pe_call G__law_draw (hr.mono (by decide)) (by rfl) g__law_draw k__law_draw b__law_draw .nil pass0 (pa_cons (pv 0) (pa_cons pe_int pa_nil))) (pa_cons (pe_call G__law_draw (hr.mono (by decide)) (by rfl) g__law_draw k__law_draw b__law_draw .nil pass0 (pa_cons (pv 0) (pa_cons pe_int pa_nil))) pa_nil))))) pa_nil))))
      (pss_cons (ps_set (i := 8) sc__law_notice.nd rfl (Or.inl rfl) (pe_call G__law_boards (hr.mono (by decide)) (by rfl) g__law_boards k__law_boards b__law_boards .nil pass0 (pa_cons (pv 0) (pa_cons (pv 2) (pa_cons pe_int pa_nil)))))
      (pss_cons (ps_set (i := 9) sc__law_notice.nd rfl (Or.inl rfl) (pe_ix ix_tup (pe_tup (pa_cons (pe_tup pa_nil) (pa_cons (pe_tup (pa_cons (pv 5) pa_nil)) pa_nil))) (pe_call G__law_draw (hr.mono (by decide)) (by rfl) g__law_draw k__law_draw b__law_draw .nil pass0 (pa_cons (pv 0) (pa_cons pe_int pa_nil))) (fun _ _ => rfl)))
      (pss_cons (ps_set (i := 10) sc__law_notice.nd rfl (Or.inl rfl) (pe_tup (pa_cons pe_str (pa_cons (pe_tup (pa_cons (pv 3) (pa_cons (pv 4) pa_nil))) (pa_cons (pv 6) (pa_cons (pv 7) (pa_cons (pv 8) (pa_cons (pe_call G__law_row (hr.mono (by decide)) (by rfl) g__law_row k__law_row b__law_row .nil pass0 (pa_cons (pv 0) (pa_cons (pe_call G__law_draw (hr.mono (by decide)) (by rfl) g__law_draw k__law_draw b__law_draw .nil pass0 (pa_cons (pv 0) (pa_cons pe_int pa_nil))) pa_nil))) (pa_cons (pv 9) pa_nil)))))))))
      (pss_one (ps_ret (pe_op (op_cat (K := K) rfl) (pv 10) (pe_tup (pa_cons (pe_call G__law_kind (hr.mono (by decide)) (by rfl) g__law_kind k__law_kind b__law_kind .nil pass0 (pa_cons (pv 0) (pa_cons (pv 5) pa_nil))) (pa_cons (pe_call G__law_some_seals (hr.mono (by decide)) (by rfl) g__law_some_seals k__law_some_seals b__law_some_seals .nil pass0 (pa_cons (pv 0) (pa_cons (pv 1) (pa_cons (pv 8) pa_nil)))) (pa_cons (pe_call G__law_body (hr.mono (by decide)) (by rfl) g__law_body k__law_body b__law_body .nil pass0 (pa_cons (pv 0) pa_nil)) pa_nil))))))))))))))), ?_⟩
    have dv0 := dv
    obtain ⟨ba, bus, rfl, hB, dB⟩ := dv
    obtain ⟨u3, e3, c3, w3, rfl, hC3, hsi⟩ := dB.get (i := 3) (d := .tup (b.si.map siD)) rfl
    have wl := hsi.map_len
    have bl10 := bo.si
    have w3ne : w3 ≠ [] := fun e => by
      rw [e] at wl
      exact sn (List.length_eq_zero_iff.mp wl.symm)
    refine ⟨_, rfl, _, rfl, ba, bus, 3, _, rfl, rfl, hB, atI_nat (j := 3) e3, .inr (.inr ⟨s, a, c3, w3, c + 990, rfl, hC3, w3ne, by omega, hS.mono (by omega), fun z H1 zm x1 S1 => ?_⟩)⟩
    obtain ⟨zi, hz⟩ := List.getElem?_of_mem zm
    obtain ⟨si, hsi', dz⟩ := hsi.map_get hz
    have si8 := (bo.sn si (List.mem_of_getElem? hsi')).2
    obtain ⟨za, zus, rfl, hZ, ez⟩ := DV.leafS (i := 1) (x := si.n) dz rfl
    have T1 := TK.ext (K := K) x1 hS
    refine ⟨za, zus, 1, _, rfl, rfl, T1 _ _ hZ, atI_nat (j := 1) ez, ?_⟩
    -- the number
    refine ⟨_, rfl, _, rfl, s, a, 999999, c + 980, rfl, by decide, by decide, S1.mono (by omega), fun g1 H2 g10 g11 x2 S2 => ⟨_, _, rfl, rfl, _, rfl, s, a, 20, c + 970, rfl, by decide, by decide, S2.mono (by omega), fun g2 H3 g20 g21 x3 S3 => ⟨_, _, rfl, rfl, by show 4 ≤ sizeLine; decide, fun B hB' => ?_⟩⟩⟩
    have n4 := same_new (o := HO.lst [V.int 1, V.int 999999, V.int (1 + g1), V.int (1 + g2)]) hB'
    refine .inl ⟨s, a, B, _, c + 960, rfl, SqL.of upd_same, S3.ne hB', by simp, by show 4 ≤ 100000; decide, (S3.ext n4).mono (by omega), fun z H5 zm5 x5 S5 => ?_⟩
    obtain ⟨k, rfl, k9⟩ : ∃ k : Nat, z = .int (k : Nat) ∧ k ≤ 999999 := by
      simp only [List.mem_cons, List.not_mem_nil, or_false] at zm5
      rcases zm5 with rfl | rfl | rfl | rfl
      · exact ⟨1, rfl, by decide⟩
      · exact ⟨999999, rfl, by decide⟩
      · exact ⟨(1 + g1).toNat, by rw [Int.toNat_of_nonneg (by omega)], by omega⟩
      · exact ⟨(1 + g2).toNat, by rw [Int.toNat_of_nonneg (by omega)], by omega⟩
    have E5 : Ext s H H5 := (((x1.trans x2).trans x3).trans (Ext.of n4)).trans x5
    clear x1 x2 x3 x5 n4 S1 S2 S3 T1
    -- the other
    refine ⟨_, rfl, _, rfl, .inl ⟨_, rfl, _, _, rfl, rfl, by show (0 : Int) < 999999; decide, _, _, rfl, rfl, by show 2 ≤ sizeLine; decide, fun O hO => ?_⟩⟩
    have n6 := same_new (o := HO.tup [V.str si.n, V.int (1 + ((k : Nat) : Int) % 999999)]) hO
    have S6 := S5.ext n6
    have E6 := E5.trans (Ext.of n6)
    have dO : DV K (upd H5 O (HO.tup [V.str si.n, V.int (1 + ((k : Nat) : Int) % 999999)])) (.tup [.str si.n, .int (1 + ((k : Nat) : Int) % 999999)]) (.ref O) := ⟨O, _, rfl, SqT.of upd_same, dlc (dls _) (dlc (dli _) dln)⟩
    generalize upd H5 O (HO.tup [V.str si.n, V.int (1 + ((k : Nat) : Int) % 999999)]) = H6 at S6 E6 dO ⊢
    generalize (1 : Int) + ((k : Nat) : Int) % 999999 = ok' at dO
    -- the author
    refine ⟨_, rfl, by show 3 ≤ sizeLine; decide, fun B2 hB2 => ?_⟩
    have n7 := same_new (o := HO.lst [V.str (Str.ofString "ann"), V.str (Str.ofString "b2"), V.str (Str.ofString "dora")]) hB2
    refine .inl ⟨s, a, B2, _, c + 950, rfl, SqL.of upd_same, S6.ne hB2, by simp, by show 3 ≤ 100000; decide, (S6.ext n7).mono (by omega), fun z H8 zm8 x8 S8 => ?_⟩
    obtain ⟨y, hy, rfl⟩ := List.mem_map.mp (show z ∈ List.map V.str aus from zm8)
    have y4 := aus_len y hy
    refine ⟨_, _, rfl, rfl, ?_, _, rfl, _, _, rfl, rfl, ?_, ?_⟩
    · refine js2 ?_
      show _ + 1 ≤ _
      omega
    · refine js2 ?_
      rw [tl_app, List.length_append]
      show (_ + 1) + _ ≤ _
      omega
    generalize y ++ Str.ofString "@" ++ si.n = au
    have f8 := (Ext.of n7).trans x8
    have E8 := E6.trans f8
    have dO8 := dO.tk (TK.ext f8 S6)
    clear dO f8 n7 x8 S6 E6
    -- the date
    refine ⟨_, rfl, _, rfl, s, a, 50, c + 940, rfl, by decide, by decide, S8.mono (by omega), fun h1 H9 _ _ x9 S9 => ⟨_, rfl, s, a, 9999999, c + 930, rfl, by decide, by decide, S9.mono (by omega), fun h2 H10 _ _ x10 S10 => ⟨by show 4 ≤ sizeLine; decide, fun B3 hB3 => ?_⟩⟩⟩
    have n11 := same_new (o := HO.lst [V.int 0, V.int 9999999, V.int h1, V.int h2]) hB3
    refine .inl ⟨s, a, B3, _, c + 920, rfl, SqL.of upd_same, S10.ne hB3, by simp, by show 4 ≤ 100000; decide, (S10.ext n11).mono (by omega), fun z H12 zm12 x12 S12 => ?_⟩
    obtain ⟨da, rfl⟩ : ∃ da : Int, z = .int da := by
      simp only [List.mem_cons, List.not_mem_nil, or_false] at zm12
      rcases zm12 with rfl | rfl | rfl | rfl <;> exact ⟨_, rfl⟩
    have f12 := ((x9.trans x10).trans (Ext.of n11)).trans x12
    have E12 := E8.trans f12
    have dO12 := dO8.tk (TK.ext f12 S8)
    clear dO8 f12 x9 x10 n11 x12 S9 S10 E8
    -- the boards
    refine ⟨_, rfl, _, rfl, s, a, w, ws, 3, c + 700, rfl, E12.seqL sw hw, sw, wd, by decide, by decide, S12.mono (by omega), fun t bs H13 ht bsl bB x13 S13 => ?_⟩
    have bc : ∀ d ∈ bs, Clean (tl d) := fun d hd => (bB d hd).1.clean
    have E13 := E12.trans x13
    have dO13 := dO12.tk (TK.ext x13 S12)
    clear dO12 x13 S12 E12
    have dt : DV K H13 (.tup (bs.map D.str)) (.ref t) := ⟨t, _, rfl, SqT.of ht, txt_dvs _⟩
    -- the refs
    refine ⟨Nat.zero_le _, fun E hE => ?_⟩
    have n14 := same_new (o := HO.tup []) hE
    refine ⟨_, rfl, by show 1 ≤ sizeLine; decide, fun O1 hO1 => ?_⟩
    have n15 := same_new (o := HO.tup [V.ref O]) hO1
    refine ⟨by show 2 ≤ sizeLine; decide, fun R2 hR2 => ?_⟩
    have n16 := same_new (o := HO.tup [V.ref E, V.ref O1]) hR2
    have n1516 := n15.trans n16
    have n1416 := n14.trans n1516
    have S16 := S13.ext n1416
    refine ⟨_, rfl, s, a, 2, c + 690, rfl, by decide, by decide, S16.mono (by omega), fun z H17 z0 z1 x17 S17 => ?_⟩
    have T17 := TK.ext (K := K) x17 S16
    have qE := T17 _ _ (SqT.of (n1516 _ _ (upd_same (H := H13) (a := E) (o := HO.tup []))))
    have qO := T17 _ _ (SqT.of (n16 _ _ (upd_same (a := O1) (o := HO.tup [V.ref O]))))
    have qR := T17 _ _ (SqT.of (upd_same (a := R2) (o := HO.tup [V.ref E, V.ref O1])))
    have T1317 := (TK.same (K := K) n1416).trans T17
    have dO17 := dO13.tk T1317
    have dt17 := dt.tk T1317
    have ht17 : SqT K H17 t (bs.map V.str) := T1317 _ _ (SqT.of ht)
    have E17 := E13.trans ((Ext.of n1416).trans x17)
    obtain ⟨rv, rf, hrv, drf, rfl', rfd⟩ : ∃ (rv : V) (rf : List D), atI [V.ref E, V.ref O1] z = some rv ∧ DV K H17 (.tup rf) rv ∧ rf.length ≤ 1 ∧ ∀ d ∈ rf, DL 2 d := by
      have : z = 0 ∨ z = 1 := by omega
      rcases this with rfl | rfl
      · exact ⟨_, [], rfl, ⟨E, [], rfl, qE, dln⟩, Nat.zero_le _, fun _ h => by cases h⟩
      · exact ⟨_, [.tup [.str si.n, .int ok']], rfl, ⟨O1, _, rfl, qO, dlc dO17 dln⟩, Nat.le_refl _, fun d h => by rw [List.mem_singleton.mp h]; exact dlT (by show 2 ≤ 1000000; decide) (dlC trivial (dlC trivial dlN))⟩
    refine ⟨R2, _, z, rv, rfl, rfl, qR, hrv, ?_⟩
    clear dO13 dt n14 n15 n16 n1516 n1416 S13 S16 x17 T17 qE qO qR T1317 E13
    -- the first part
    refine ⟨_, rfl, _, rfl, by show 2 ≤ sizeLine; decide, fun I hI => ?_⟩
    have n18 := same_new (o := HO.tup [V.str si.n, V.int (k : Nat)]) hI
    have S18 := S17.ext n18
    refine ⟨_, rfl, _, rfl, _, rfl, _, rfl, _, rfl, s, a, 12, c + 680, rfl, by decide, by decide, S18.mono (by omega), fun rn H19 r0 r1 x19 S19 => ⟨s, a, rn, c + 660, rfl, r0, by omega, S19.mono (by omega), fun ro H20 _ _ x20 S20 => ⟨_, rfl, by show 7 ≤ sizeLine; decide, fun FF hFF => ?_⟩⟩⟩
    have n21 := same_new (o := HO.tup [V.str (Str.ofString "notice"), V.ref I, V.str au, V.int da, V.ref t, V.str ro, rv]) hFF
    have f1821 := (x19.trans x20).trans (Ext.of n21)
    have S21 := S20.ext n21
    have T1821 := TK.ext (K := K) f1821 S18
    have T1721 := (TK.same (K := K) n18).trans T1821
    have dI : DV K _ (.tup [.str si.n, .int (k : Nat)]) (.ref I) := ⟨I, _, rfl, T1821 _ _ (SqT.of (upd_same (H := H17) (a := I) (o := HO.tup [V.str si.n, V.int (k : Nat)]))), dlc (dls _) (dlc (dli _) dln)⟩
    have E21 := E17.trans ((Ext.of n18).trans f1821)
    have dO21 := dO17.tk T1721
    have dt21 := dt17.tk T1721
    have ht21 := T1721 _ _ ht17
    have dr21 := drf.tk T1721
    have hF21 : SqT K (upd H20 FF (HO.tup [V.str (Str.ofString "notice"), V.ref I, V.str au, V.int da, V.ref t, V.str ro, rv])) FF [V.str (Str.ofString "notice"), V.ref I, V.str au, V.int da, V.ref t, V.str ro, rv] := SqT.of upd_same
    generalize upd H20 FF (HO.tup [V.str (Str.ofString "notice"), V.ref I, V.str au, V.int da, V.ref t, V.str ro, rv]) = H21 at S21 dI E21 dO21 dt21 ht21 dr21 hF21 ⊢
    clear f1821 T1821 T1721 n18 n21 x19 x20 S17 S18 S19 S20 E17 dO17 dt17 ht17 drf
    -- the rest
    refine ⟨_, rfl, _, rfl, _, rfl, s, a, .ref O, _, c + 650, rfl, dO21, dlT (by show 2 ≤ 1000000; decide) (dlC trivial (dlC trivial dlN)), S21.mono (by omega), fun kw ot kv H22 dk otl otd x22 S22 => ?_⟩
    have T22 := TK.ext (K := K) x22 S21
    have dv22 := dv0.tk (TK.ext (E21.trans x22) hS)
    refine ⟨_, rfl, _, rfl, _, rfl, s, a, t, .ref ba, b, bs, c + 550, rfl, dv22, sn, bo, T22 _ _ ht21, bsl, bc, S22.mono (by omega), fun se sv H23 dse sel x23 S23 => ?_⟩
    have T23 := TK.ext (K := K) x23 S22
    refine ⟨_, rfl, s, a, c + 300, rfl, S23.mono (by omega), fun bd bv H24 dbd bdl x24 S24 => ?_⟩
    have T24 := TK.ext (K := K) x24 S23
    refine ⟨by show 3 ≤ sizeLine; decide, fun Z hZ' => ?_⟩
    have n25 := same_new (o := HO.tup [kv, sv, bv]) hZ'
    have T2125 := (T22.trans (T23.trans T24)).trans (TK.same n25)
    refine ⟨FF, Z, _, _, rfl, rfl, T2125 _ _ hF21, SqT.of upd_same, by show 7 + 3 ≤ sizeLine; decide, fun p H26 m26 hp => ?_⟩
    have n2526 := n25.trans m26
    have T2126 := T2125.trans (TK.same m26)
    have T26 := TK.same (K := K) n2526
    refine q ⟨si.n, k, au, da, bs, ro, rf, kw, ot, se, bd⟩ _ H26 ⟨p, _, rfl, hp, dlc (dls _) (dlc (dI.tk T2126) (dlc (dls _) (dlc (dli _) (dlc (dt21.tk T2126) (dlc (dls _) (dlc (dr21.tk T2126) (dlc (((dk.tk T23).tk T24).tk T26) (dlc ((dse.tk T24).tk T26) (dlc (dbd.tk T26) dln)))))))))⟩ ⟨si8, k9, ⟨bsl, bc⟩, by show se.length ≤ 1000; omega, ⟨by show rf.length ≤ 1000; omega, rfd⟩, ⟨by show ot.length ≤ 1000; omega, otd⟩, bdl⟩ sel (((E21.trans x22).trans (x23.trans x24)).trans (Ext.of n2526)) ((S24.ext n2526).mono (by omega))
end

end Z
namespace Z
open PySem L2 SX
section
variable {P : Program} {w : World} {K : PySem.W.Frag} {mg : Str → Option Value} {base : Heap}
theorem ok__law_submissions_right (D : Df K mg "_law_submissions_right" s__law_submissions_right ["source", "book", "other", "notice"]) (T : Tx mg)  (C__law_lacking : Cal P w K mg base "_law_lacking" ["book", "notice"] 5 (sp54_lacking K)) (C__law_pick : Cal P w K mg base "_law_pick" ["source", "row"] 3 (sp3__law_pick K)) (C__law_same : Cal P w K mg base "_law_same" ["actual", "due"] 9 (sp__law_same K 8)) (C__law_submission_due : Cal P w K mg base "_law_submission_due" ["book", "notice"] 6 (sp54_subs K)) (C_submission : Cal P w K mg base "submission" ["book", "notice"] 9 (sp54_subs K)) : Cal P w K mg base "_law_submissions_right" ["source", "book", "other", "notice"] 10 (sp54_right K) := by
  obtain ⟨f__law_lacking, fd__law_lacking, G__law_lacking, g__law_lacking, k__law_lacking, b__law_lacking⟩ := C__law_lacking
  obtain ⟨f__law_pick, fd__law_pick, G__law_pick, g__law_pick, k__law_pick, b__law_pick⟩ := C__law_pick
  obtain ⟨f__law_same, fd__law_same, G__law_same, g__law_same, k__law_same, b__law_same⟩ := C__law_same
  obtain ⟨f__law_submission_due, fd__law_submission_due, G__law_submission_due, g__law_submission_due, k__law_submission_due, b__law_submission_due⟩ := C__law_submission_due
  obtain ⟨f_submission, fd_submission, G_submission, g_submission, k_submission, b_submission⟩ := C_submission
  obtain ⟨f, fd, F, gf, bf⟩ := D
  refine ⟨f, fd, F.ok sc__law_submissions_right (fun vs H Q E h => ?_) (fun cdv A outer s₀ H vs Q E hr h => ?_), gf, F.kp, bf⟩
  · obtain ⟨s, a, b, b2, t, v, v2, u, c, rfl, _⟩ := h; rfl
  · obtain ⟨s, a, b, b2, t, v, v2, u, c, rfl, dv, bo, dv2, bo2, du, ok, sl, hS, q⟩ := h
    refine ⟨_, (pss_cons (ps_set (i := 4) sc__law_submissions_right.nd rfl (Or.inl rfl) (pv 3))
      (C8.pss_cut (ps_for PassesOwn.never rfl (pi_range1 (by rfl) T.n_range (pa_cons (pe_op op_add (pe_callB call_len_seq (by rfl) T.n_len PySem.boot_len (pa_cons (pe_ix ix_tup (pv 1) pe_int (fun _ _ => rfl)) pa_nil)) pe_int) pa_nil)) (pg_name (i := 5) sc__law_submissions_right.nd rfl (Or.inl rfl))
      (pss_cons (ps_for PassesOwn.never rfl (pi_tup (pe_tup (pa_cons (pv 1) (pa_cons (pv 2) (pa_cons (pv 1) pa_nil))))) (pg_name (i := 6) sc__law_submissions_right.nd rfl (Or.inl rfl))
        (pss_one (ps_if (pt_not (pt_val (pe_call G__law_same (hr.mono (by decide)) (by rfl) g__law_same k__law_same b__law_same .nil pass0 (pa_cons (pe_call G_submission (hr.mono (by decide)) (by rfl) g_submission k_submission b_submission .nil pass0 (pa_cons (pv 6) (pa_cons (pv 4) pa_nil))) (pa_cons (pe_call G__law_submission_due (hr.mono (by decide)) (by rfl) g__law_submission_due k__law_submission_due b__law_submission_due .nil pass0 (pa_cons (pv 6) (pa_cons (pv 4) pa_nil))) pa_nil)))))
          (pss_one (ps_ret pe_bl))
          pss_nil)))
        (pss_cons (ps_set (i := 7) sc__law_submissions_right.nd rfl (Or.inl rfl) (pe_call G__law_lacking (hr.mono (by decide)) (by rfl) g__law_lacking k__law_lacking b__law_lacking .nil pass0 (pa_cons (pv 1) (pa_cons (pv 4) pa_nil))))
        (pss_cons (ps_if (pt_cmpR op_eq (pe_callB call_len_seq (by rfl) T.n_len PySem.boot_len (pa_cons (pv 7) pa_nil)) pe_int (nomark _))
        (pss_one ps_break)
        pss_nil)
        (pss_one (ps_set (i := 4) sc__law_submissions_right.nd rfl (Or.inl rfl) (pe_op (op_cat (K := K) rfl) (pe_slice (sl_tupS (K := K) rfl) (pv 4) po_none (po_some pe_int)) (pe_tup (pa_cons (pe_op (op_cat (K := K) rfl) (pe_ix ix_tup (pv 4) pe_int (fun _ _ => rfl)) (pe_tup (pa_cons (pe_call G__law_pick (hr.mono (by decide)) (by rfl) g__law_pick k__law_pick b__law_pick .nil pass0 (pa_cons (pv 0) (pa_cons (pv 7) pa_nil))) pa_nil))) (pa_cons (pe_ix ix_tup (pv 4) pe_int (fun _ _ => rfl)) pa_nil))))))))))
      (pss_one (ps_ret pe_bl)))), ?_⟩
    have dv0 := dv
    obtain ⟨ba, bus, rfl, hB, dB⟩ := dv
    obtain ⟨u6, e6, c6, w6, rfl, hC, hsw⟩ := dB.get (i := 6) (d := .tup (b.sw.map swD)) rfl
    have wl := hsw.map_len
    have wl10 := bo.sw
    refine ⟨_, rfl, ?_⟩
    refine ⟨fun σ' H' => ∃ (nv : V) (v5 v6 v7 : Option V), σ' = [some (.ref s), some (.ref ba), some v2, some u, some nv, v5, v6, v7] ∧ Ext s H H' ∧ Src H' s a c, ?_, ?_⟩
    rotate_left
    · rintro σ' H' ⟨nv, v5, v6, v7, rfl, x', S'⟩
      exact q H' x' S'
    refine ⟨_, rfl, ba, bus, 6, .ref c6, rfl, rfl, hB, atI_nat (j := 6) e6, c6, _, rfl, .inr hC, _, _, rfl, rfl, _, rfl, by omega, by omega, ?_⟩
    refine for_range (lo := 0) (fun i σ H' => ∃ (t' : Nt) (nv : V) (v5 v6 v7 : Option V), σ = [some (.ref s), some (.ref ba), some v2, some u, some nv, v5, v6, v7] ∧ DV K H' (ntD t') nv ∧ NtOk t' ∧ t'.se.length ≤ 100 + i ∧ Ext s H H' ∧ Src H' s a (c + (20 - i))) ⟨t, u, _, _, _, rfl, du, ok, by omega, Ext.of (Same.refl _), hS⟩ ?_ ?_
    rotate_left
    · rintro σ H1 ⟨t', nv, v5, v6, v7, rfl, _, _, _, x1, S1⟩
      exact ⟨nv, _, _, _, rfl, x1, S1.mono (by omega)⟩
    rintro i σ H1 hi ⟨t', nv, v5, v6, v7, rfl, dn, okn, sln, x1, S1⟩
    have i11 : i ≤ 11 := by omega
    have T1 := TK.ext (K := K) x1 hS
    refine ⟨_, rfl, _, rfl, _, rfl, by show 3 ≤ sizeLine; decide, fun T hT => ?_⟩
    have n2 := same_new (o := HO.tup [V.ref ba, v2, V.ref ba]) hT
    have T2 := T1.trans (TK.same n2)
    have hT2 : SqT K (upd H1 T (HO.tup [V.ref ba, v2, V.ref ba])) T [V.ref ba, v2, V.ref ba] := SqT.of upd_same
    have x2 := x1.trans (Ext.of n2)
    have S2 := S1.ext n2
    have dn2 := dn.tk (TK.same n2)
    generalize upd H1 T (HO.tup [V.ref ba, v2, V.ref ba]) = H2 at n2 T2 hT2 x2 S2 dn2 ⊢
    refine ⟨T, rfl, ⟨_, hT2⟩, ?_⟩
    refine for_tup (K := K) (a := T) (xs := [V.ref ba, v2, V.ref ba]) (fun j σ H' => ∃ v6 : Option V, σ = [some (.ref s), some (.ref ba), some v2, some u, some nv, some (.int (0 + (i : Int))), v6, v7] ∧ Same H2 H') ⟨_, rfl, Same.refl _⟩ (fun j σ H' _ h => by obtain ⟨_, _, m⟩ := h; exact m.tup hT2) ?_ ?_
    · rintro j x σ H3 hj ⟨v6', rfl, m3⟩
      obtain ⟨bb, dbb, bbo⟩ : ∃ bb, DV K H3 (bkD bb) x ∧ BkOk bb := by
        have := List.mem_of_getElem? hj
        simp only [List.mem_cons, List.not_mem_nil, or_false] at this
        rcases this with rfl | rfl | rfl
        · exact ⟨b, (dv0.tk T2).tk (TK.same m3), bo⟩
        · exact ⟨b2, (dv2.tk T2).tk (TK.same m3), bo2⟩
        · exact ⟨b, (dv0.tk T2).tk (TK.same m3), bo⟩
      have dn3 := dn2.tk (TK.same m3)
      refine ⟨_, rfl, _, rfl, bb, t', x, nv, rfl, dbb, bbo, dn3, okn, fun r H4 m4 dr => ?_⟩
      refine ⟨_, rfl, _, rfl, bb, t', x, nv, rfl, dbb.tk (TK.same m4), bbo, dn3.tk (TK.same m4), okn, fun r2 H5 m5 dr2 => ?_⟩
      exact ⟨subsD bb t', r, r2, rfl, dr.tk (TK.same m5), dr2, dl_subs okn, _, rfl, iteF ⟨_, rfl, m3.trans (m4.trans m5)⟩⟩
    rintro σ H3 ⟨v6', rfl, m3⟩
    have T3 := T2.trans (TK.same m3)
    have S3 := S2.ext m3
    have x3 := x2.trans (Ext.of m3)
    have dn3 := dn2.tk (TK.same m3)
    refine ⟨_, rfl, _, rfl, b, t', .ref ba, nv, rfl, dv0.tk T3, bo, dn3, okn, fun R H4 hR0 m4 hR => ?_⟩
    have Rs := S3.ne hR0
    have S4 := S3.ext m4
    have x4 := x3.trans (Ext.of m4)
    have dn4 := dn3.tk (TK.same m4)
    have ml := miss_ten (b := b) okn.bs.1
    refine ⟨_, rfl, R, _, rfl, .inl (SqL.of hR), rfl, _, rfl, ite2 (fun _ => ⟨nv, _, _, _, rfl, x4, S4.mono (by omega)⟩) (fun cc => ?_)⟩
    have mne : (missL b t').map V.str ≠ [] := fun e => cc (by rw [e]; rfl)
    obtain ⟨na, nus, rfl, hN, dN⟩ := dn4
    have dN' := dN
    obtain ⟨w0, r0, rfl, d0, dN'⟩ := dN'
    obtain ⟨w1, r1, rfl, d1, dN'⟩ := dN'
    obtain ⟨w2, r2, rfl, d2, dN'⟩ := dN'
    obtain ⟨w3, r3, rfl, d3, dN'⟩ := dN'
    obtain ⟨w4, r4, rfl, d4, dN'⟩ := dN'
    obtain ⟨w5, r5, rfl, d5, dN'⟩ := dN'
    obtain ⟨w6', r6, rfl, d6, dN'⟩ := dN'
    obtain ⟨w7, r7, rfl, d7, dN'⟩ := dN'
    obtain ⟨w8, r8, rfl, d8, dN'⟩ := dN'
    obtain ⟨w9, r9, rfl, d9, dN'⟩ := dN'
    unfold DVs at dN'
    subst dN'
    obtain ⟨z, zs, rfl, hz, dz⟩ := d8
    obtain rfl := dvs_txt dz
    refine ⟨_, rfl, 8, rfl, na, _, rfl, hN, fun B1 H5 m5 hB1 => ?_⟩
    rw [cutV_to (by decide)] at hB1
    refine ⟨_, rfl, na, _, 8, .ref z, rfl, rfl, m5.tup hN, atI_nat (j := 8) rfl, ?_⟩
    refine ⟨_, rfl, _, rfl, .inl ⟨s, a, R, _, c + (20 - (i + 1)), rfl, SqL.of (m5 _ _ hR), Rs, mne, by rw [List.length_map]; omega, (S4.ext m5).mono (by omega), fun gv H6 gm x6 S6 => ?_⟩⟩
    obtain ⟨g, _, rfl⟩ := List.mem_map.mp gm
    refine ⟨by show 1 ≤ sizeLine; decide, fun P1 hP1 => ?_⟩
    have n7 := same_new (o := HO.tup [V.str g]) hP1
    have T47 : TK K H4 _ := ((TK.same m5).trans (TK.ext x6 (S4.ext m5))).trans (TK.same n7)
    refine ⟨z, P1, _, _, rfl, rfl, T47 _ _ hz, SqT.of upd_same, by rw [List.length_map]; have := okn.se; exact Nat.le_trans (show t'.se.length + 1 ≤ 30000 by omega) (by decide), fun Z2 H8 m8 hZ2 => ?_⟩
    have T48 := T47.trans (TK.same m8)
    refine ⟨_, rfl, na, _, 9, w9, rfl, rfl, T48 _ _ hN, atI_nat (j := 9) rfl, by show 2 ≤ sizeLine; decide, fun P2 hP2 => ?_⟩
    have n9 := same_new (o := HO.tup [V.ref Z2, w9]) hP2
    have T49 := T48.trans (TK.same n9)
    have T59 : TK K H5 _ := (((TK.ext x6 (S4.ext m5)).trans (TK.same n7)).trans (TK.same m8)).trans (TK.same n9)
    refine ⟨B1, P2, _, _, rfl, rfl, T59 _ _ hB1, SqT.of upd_same, by show 8 + 2 ≤ sizeLine; decide, fun p H10 m10 hp => ?_⟩
    have T410 := T49.trans (TK.same m10)
    have mm := n7.trans (m8.trans (n9.trans m10))
    have hZ10 : SqT K H10 Z2 ((t'.se ++ [g]).map V.str) := by
      rw [List.map_append]
      exact (n9.trans m10).tup hZ2
    refine ⟨{ t' with se := t'.se ++ [g] }, .ref p, _, _, _, rfl, ⟨p, _, rfl, hp, dlc (d0.tk T410) (dlc (d1.tk T410) (dlc (d2.tk T410) (dlc (d3.tk T410) (dlc (d4.tk T410) (dlc (d5.tk T410) (dlc (d6.tk T410) (dlc (d7.tk T410) (dlc ⟨Z2, _, rfl, hZ10, txt_dvs _⟩ (dlc (d9.tk T410) dln)))))))))⟩, ⟨okn.n, okn.k, okn.bs, by show (t'.se ++ [g]).length ≤ 1000; rw [List.length_append]; show _ + 1 ≤ _; omega, okn.rf, okn.ot, okn.bo⟩, by show (t'.se ++ [g]).length ≤ 100 + (i + 1); rw [List.length_append]; show _ + 1 ≤ _; omega, ((x4.trans (Ext.of m5)).trans x6).trans (Ext.of mm), S6.ext mm⟩
end
section
variable {P : Program} {w : World} {K : PySem.W.Frag} {mg : Str → Option Value} {base : Heap}
theorem ok__law_other_letters_right (D : Df K mg "_law_other_letters_right" s__law_other_letters_right ["notice", "said", "home", "member"]) (T : Tx mg)  (C__law_id_text : Cal P w K mg base "_law_id_text" ["notice"] 1 (sp54_lid K)) (C__law_same : Cal P w K mg base "_law_same" ["actual", "due"] 9 (sp__law_same K 8)) (C_copy_to : Cal P w K mg base "copy_to" ["notice", "list_address", "member"] 2 (sp54_copy K)) (C_note_to : Cal P w K mg base "note_to" ["notice", "verdict"] 2 (sp54_note K)) : Cal P w K mg base "_law_other_letters_right" ["notice", "said", "home", "member"] 10 (sp54_others K) := by
  obtain ⟨f__law_id_text, fd__law_id_text, G__law_id_text, g__law_id_text, k__law_id_text, b__law_id_text⟩ := C__law_id_text
  obtain ⟨f__law_same, fd__law_same, G__law_same, g__law_same, k__law_same, b__law_same⟩ := C__law_same
  obtain ⟨f_copy_to, fd_copy_to, G_copy_to, g_copy_to, k_copy_to, b_copy_to⟩ := C_copy_to
  obtain ⟨f_note_to, fd_note_to, G_note_to, g_note_to, k_note_to, b_note_to⟩ := C_note_to
  obtain ⟨f, fd, F, gf, bf⟩ := D
  refine ⟨f, fd, F.ok sc__law_other_letters_right (fun vs H Q E h => ?_) (fun cdv A outer s₀ H vs Q E hr h => ?_), gf, F.kp, bf⟩
  · obtain ⟨t, sd, u, z, h, m, rfl, _⟩ := h; rfl
  · obtain ⟨t, sd, u, z, h, m, rfl, du, ok, dz, dl, hl, ml, q⟩ := h
    refine ⟨_, (pss_cons (ps_set (i := 4) sc__law_other_letters_right.nd rfl (Or.inl rfl) (pe_tup (pa_cons pe_str (pa_cons (pe_op op_add_str pe_str (pe_call G__law_id_text (hr.mono (by decide)) (by rfl) g__law_id_text k__law_id_text b__law_id_text .nil pass0 (pa_cons (pv 0) pa_nil))) (pa_cons (pe_ix ix_tup (pv 0) pe_int (fun _ _ => rfl)) (pa_cons (pe_tup (pa_cons pe_str (pa_cons (pe_ix ix_tup (pv 0) pe_int (fun _ _ => rfl)) (pa_cons (pv 1) pa_nil)))) pa_nil))))))
      (pss_cons (ps_if (pt_not (pt_val (pe_call G__law_same (hr.mono (by decide)) (by rfl) g__law_same k__law_same b__law_same .nil pass0 (pa_cons (pe_call G_note_to (hr.mono (by decide)) (by rfl) g_note_to k_note_to b_note_to .nil pass0 (pa_cons (pv 0) (pa_cons (pv 1) pa_nil))) (pa_cons (pv 4) pa_nil)))))
      (pss_one (ps_ret pe_bl))
      pss_nil)
      (pss_cons (ps_set (i := 5) sc__law_other_letters_right.nd rfl (Or.inl rfl) (pe_op op_add_str (pe_op op_add_str (pe_op op_add_str (pe_op op_add_str (pe_op op_add_str pe_str (pe_call G__law_id_text (hr.mono (by decide)) (by rfl) g__law_id_text k__law_id_text b__law_id_text .nil pass0 (pa_cons (pv 0) pa_nil))) pe_str) (pv 2)) pe_str) (pv 3)))
      (pss_one (ps_ret (pe_call G__law_same (hr.mono (by decide)) (by rfl) g__law_same k__law_same b__law_same .nil pass0 (pa_cons (pe_call G_copy_to (hr.mono (by decide)) (by rfl) g_copy_to k_copy_to b_copy_to .nil pass0 (pa_cons (pv 0) (pa_cons (pv 2) (pa_cons (pv 3) pa_nil)))) (pa_cons (pe_tup (pa_cons pe_str (pa_cons (pv 5) (pa_cons (pv 3) (pa_cons (pe_tup (pa_cons pe_str (pa_cons (pv 0) (pa_cons (pv 2) pa_nil)))) pa_nil))))) pa_nil)))))))), ?_⟩
    have du0 := du
    obtain ⟨a, us, i, bA, kA, ks, z', rfl, hA, ul, e1, hi, e2, e4, hb, e7, hk, k0, e8, hz⟩ := nt_at du
    have il := idL_len ok
    refine ⟨_, rfl, t, .ref a, rfl, du0, ok, fun y hy => ?_⟩
    have hy' : tl y = idL t := hy
    refine ⟨_, _, rfl, rfl, ?_, _, rfl, a, us, 2, _, rfl, rfl, hA, atI_nat (j := 2) e2, _, rfl, a, us, 1, .ref i, rfl, rfl, hA, atI_nat (j := 1) e1, _, rfl, by show 3 ≤ sizeLine; decide, fun T hT => ?_⟩
    · refine js2 ?_
      rw [hy']
      show 2 + _ ≤ _
      omega
    have m1 := same_new (o := HO.tup [V.str (Str.ofString "note"), V.ref i, z]) hT
    refine ⟨by show 4 ≤ sizeLine; decide, fun U hU => ?_⟩
    have m2 := same_new (o := HO.tup [V.str (Str.ofString "letter"), V.str (Str.ofString "n:" ++ y), V.str t.au, V.ref T]) hU
    have hT2 := m2 _ _ (upd_same (H := H) (a := T) (o := HO.tup [V.str (Str.ofString "note"), V.ref i, z]))
    have mm := m1.trans m2
    have dU : DV K (upd (upd H T (HO.tup [V.str (Str.ofString "note"), V.ref i, z])) U (HO.tup [V.str (Str.ofString "letter"), V.str (Str.ofString "n:" ++ y), V.str t.au, V.ref T])) (noteD t sd) (.ref U) :=
      ⟨U, _, rfl, SqT.of upd_same, dlc (dls _) (dlc (dv_key (by rw [tl_app, hy']; rfl)) (dlc (dls _) (dlc ⟨T, _, rfl, SqT.of hT2, dlc (dls _) (dlc ⟨i, _, rfl, mm.tup hi, dlc (dls _) (dlc (dli _) dln)⟩ (dlc (dz.tk (TK.same mm)) dln))⟩ dln)))⟩
    generalize (upd (upd H T (HO.tup [V.str (Str.ofString "note"), V.ref i, z])) U (HO.tup [V.str (Str.ofString "letter"), V.str (Str.ofString "n:" ++ y), V.str t.au, V.ref T])) = H2 at mm dU ⊢
    refine ⟨_, rfl, _, rfl, t, sd, .ref a, z, rfl, du0.tk (TK.same mm), ok, dz.tk (TK.same mm), fun r H3 m3 dr => ?_⟩
    refine ⟨_, rfl, noteD t sd, r, .ref U, rfl, dr, dU.tk (TK.same m3), dl_note dl, _, rfl, iteF ?_⟩
    have m03 := mm.trans m3
    have du3 := du0.tk (TK.same m03)
    refine ⟨_, rfl, t, .ref a, rfl, du3, ok, fun y2 hy2 => ?_⟩
    have hy2' : tl y2 = idL t := hy2
    refine ⟨_, _, rfl, rfl, ?_, _, _, rfl, rfl, ?_, _, rfl, _, _, rfl, rfl, ?_, _, _, rfl, rfl, ?_, _, rfl, _, _, rfl, rfl, ?_, ?_⟩
    · refine js2 ?_
      rw [hy2']
      show 2 + _ ≤ _
      omega
    · refine js2 ?_
      rw [tl_app, List.length_append, hy2']
      show (2 + _) + 1 ≤ _
      omega
    · refine js2 ?_
      rw [tl_app, tl_app, List.length_append, List.length_append, hy2']
      show ((2 + _) + 1) + _ ≤ _
      omega
    · refine js2 ?_
      rw [tl_app, tl_app, tl_app, List.length_append, List.length_append, List.length_append, hy2']
      show (((2 + _) + 1) + _) + 1 ≤ _
      omega
    · refine js2 ?_
      rw [tl_app, tl_app, tl_app, tl_app, List.length_append, List.length_append, List.length_append, List.length_append, hy2']
      show ((((2 + _) + 1) + _) + 1) + _ ≤ _
      omega
    have ek : tl (Str.ofString "c:" ++ y2 ++ Str.ofString ":" ++ h ++ Str.ofString ":" ++ m) = [99, 58] ++ idL t ++ [58] ++ tl h ++ [58] ++ tl m := by
      rw [tl_app, tl_app, tl_app, tl_app, tl_app, hy2']; rfl
    generalize Str.ofString "c:" ++ y2 ++ Str.ofString ":" ++ h ++ Str.ofString ":" ++ m = key at ek ⊢
    refine ⟨_, rfl, _, rfl, _, rfl, t, .ref a, h, m, rfl, du3, ok, hl, ml, fun r2 H4 m4 dr2 => ?_⟩
    refine ⟨_, rfl, _, rfl, _, rfl, _, rfl, by show 3 ≤ sizeLine; decide, fun T2 hT2' => ?_⟩
    have n5 := same_new (o := HO.tup [V.str (Str.ofString "copy"), V.ref a, V.str h]) hT2'
    refine ⟨by show 4 ≤ sizeLine; decide, fun U2 hU2 => ?_⟩
    have n6 := same_new (o := HO.tup [V.str (Str.ofString "letter"), V.str key, V.str m, V.ref T2]) hU2
    have hT6 := n6 _ _ (upd_same (H := H4) (a := T2) (o := HO.tup [V.str (Str.ofString "copy"), V.ref a, V.str h]))
    have n56 := n5.trans n6
    refine ⟨copyD t h m, r2, .ref U2, rfl, dr2.tk (TK.same n56), ⟨U2, _, rfl, SqT.of upd_same, dlc (dls _) (dlc (dv_key ek) (dlc (dls _) (dlc ⟨T2, _, rfl, SqT.of hT6, dlc (dls _) (dlc ((du3.tk (TK.same m4)).tk (TK.same n56)) (dlc (dls _) dln))⟩ dln)))⟩, dl_copy ok h m, q _ (m03.trans (m4.trans n56))⟩
end
theorem wd_len {ws : List Str} (h : Wds ws) : ∀ x ∈ ws, (tl x).length ≤ 8 := fun x hx => (h.2.2 x hx).2
section
variable {P : Program} {w : World} {K : PySem.W.Frag} {mg : Str → Option Value} {base : Heap}
theorem ok_law {f : Addr} {fd : FuncData} (F : Fun K "law" "law" s_law f fd) (T : Tx mg)  (C__law_book : Cal P w K mg base "_law_book" ["source", "many", "words"] 8 (sp_book K)) (C__law_draw : Cal P w K mg base "_law_draw" ["source", "many"] 2 sp__law_draw) (C__law_notice : Cal P w K mg base "_law_notice" ["source", "book", "words"] 6 (sp54_notice K)) (C__law_other_letters_right : Cal P w K mg base "_law_other_letters_right" ["notice", "said", "home", "member"] 10 (sp54_others K)) (C__law_pick : Cal P w K mg base "_law_pick" ["source", "row"] 3 (sp3__law_pick K)) (C__law_shuffled : Cal P w K mg base "_law_shuffled" ["source", "row"] 3 (sp54_shuffled K)) (C__law_source : Cal P w K mg base "_law_source" ["script"] 2 (sp__law_source K)) (C__law_submissions_right : Cal P w K mg base "_law_submissions_right" ["source", "book", "other", "notice"] 10 (sp54_right K)) (C__law_with_stewards : Cal P w K mg base "_law_with_stewards" ["source", "book", "words", "most"] 9 (sp54_stewards K)) (C__law_words : Cal P w K mg base "_law_words" ["source"] 5 (sp2__law_words K)) : FnOk P w K mg base CX0 11 f fd ["script"] (sp_law K) := by
  obtain ⟨f__law_book, fd__law_book, G__law_book, g__law_book, k__law_book, b__law_book⟩ := C__law_book
  obtain ⟨f__law_draw, fd__law_draw, G__law_draw, g__law_draw, k__law_draw, b__law_draw⟩ := C__law_draw
  obtain ⟨f__law_notice, fd__law_notice, G__law_notice, g__law_notice, k__law_notice, b__law_notice⟩ := C__law_notice
  obtain ⟨f__law_other_letters_right, fd__law_other_letters_right, G__law_other_letters_right, g__law_other_letters_right, k__law_other_letters_right, b__law_other_letters_right⟩ := C__law_other_letters_right
  obtain ⟨f__law_pick, fd__law_pick, G__law_pick, g__law_pick, k__law_pick, b__law_pick⟩ := C__law_pick
  obtain ⟨f__law_shuffled, fd__law_shuffled, G__law_shuffled, g__law_shuffled, k__law_shuffled, b__law_shuffled⟩ := C__law_shuffled
  obtain ⟨f__law_source, fd__law_source, G__law_source, g__law_source, k__law_source, b__law_source⟩ := C__law_source
  obtain ⟨f__law_submissions_right, fd__law_submissions_right, G__law_submissions_right, g__law_submissions_right, k__law_submissions_right, b__law_submissions_right⟩ := C__law_submissions_right
  obtain ⟨f__law_with_stewards, fd__law_with_stewards, G__law_with_stewards, g__law_with_stewards, k__law_with_stewards, b__law_with_stewards⟩ := C__law_with_stewards
  obtain ⟨f__law_words, fd__law_words, G__law_words, g__law_words, k__law_words, b__law_words⟩ := C__law_words
  refine F.ok sc_law (fun vs H Q E h => ?_) (fun cdv A outer s₀ H vs Q E hr h => ?_)
  · obtain ⟨a, ns, rfl, _⟩ := h; rfl
  · obtain ⟨a, ns, rfl, hA, hlen, q⟩ := h
    refine ⟨_, (pss_cons (ps_set (i := 1) sc_law.nd rfl (Or.inl rfl) (pe_call G__law_source (hr.mono (by decide)) (by rfl) g__law_source k__law_source b__law_source .nil pass0 (pa_cons (pv 0) pa_nil)))
      (pss_cons (ps_set (i := 2) sc_law.nd rfl (Or.inl rfl) (pe_call G__law_words (hr.mono (by decide)) (by rfl) g__law_words k__law_words b__law_words .nil pass0 (pa_cons (pv 1) pa_nil)))
      (pss_cons (ps_set (i := 3) sc_law.nd rfl (Or.inl rfl) (pe_call G__law_with_stewards (hr.mono (by decide)) (by rfl) g__law_with_stewards k__law_with_stewards b__law_with_stewards .nil pass0 (pa_cons (pv 1) (pa_cons (pe_call G__law_book (hr.mono (by decide)) (by rfl) g__law_book k__law_book b__law_book .nil pass0 (pa_cons (pv 1) (pa_cons (pe_op op_add pe_int (pe_call G__law_draw (hr.mono (by decide)) (by rfl) g__law_draw k__law_draw b__law_draw .nil pass0 (pa_cons (pv 1) (pa_cons pe_int pa_nil)))) (pa_cons (pv 2) pa_nil)))) (pa_cons (pv 2) (pa_cons pe_int pa_nil))))))
      (pss_cons (ps_set (i := 4) sc_law.nd rfl (Or.inl rfl) (pe_op (op_cat (K := K) rfl) (pe_slice (sl_tupS (K := K) rfl) (pv 3) po_none (po_some pe_int)) (pe_tup (pa_cons (pe_callTy call_tuple_of (by rfl) T.n_tuple (by decide +kernel) (pa_cons (pe_call G__law_shuffled (hr.mono (by decide)) (by rfl) g__law_shuffled k__law_shuffled b__law_shuffled .nil pass0 (pa_cons (pv 1) (pa_cons (pe_ix ix_tup (pv 3) pe_int (fun _ _ => rfl)) pa_nil))) pa_nil)) (pa_cons (pe_ix ix_tup (pv 3) pe_int (fun _ _ => rfl)) pa_nil)))))
      (pss_cons (ps_setLc (i := 5) (own := [("site", 11)]) (g := gName 11) (tt := tYes) rfl sc_law.nd rfl rfl (sw_true rfl rfl rfl (by decide +kernel)) (pi_tup (pe_ix ix_tup (pv 3) pe_int (fun _ _ => rfl))) (blkOk_by (own := [("site", 11)]) (N := N_law) (sc := defScope s_law) (by decide +kernel)) (fun _ _ _ _ _ => pg_name (i := 11) sc_law.nd rfl (Or.inl rfl)) (fun _ _ _ _ _ => pts_nil) (fun _ _ _ _ _ => (pe_ix (ix_tupQ (K := K) rfl) (pv 11) pe_int (fun _ _ => rfl))))
      (pss_cons (ps_for PassesOwn.never rfl (pi_range1 (by rfl) T.n_range (pa_cons pe_int pa_nil)) (pg_name (i := 6) sc_law.nd rfl (Or.inl rfl))
      (pss_cons (ps_set (i := 7) sc_law.nd rfl (Or.inl rfl) (pe_call G__law_notice (hr.mono (by decide)) (by rfl) g__law_notice k__law_notice b__law_notice .nil pass0 (pa_cons (pv 1) (pa_cons (pv 3) (pa_cons (pv 2) pa_nil)))))
        (pss_cons (ps_if (pt_not (pt_val (pe_call G__law_submissions_right (hr.mono (by decide)) (by rfl) g__law_submissions_right k__law_submissions_right b__law_submissions_right .nil pass0 (pa_cons (pv 1) (pa_cons (pv 3) (pa_cons (pv 4) (pa_cons (pv 7) pa_nil)))))))
        (pss_one (ps_ret pe_bl))
        pss_nil)
        (pss_cons (ps_set (i := 8) sc_law.nd rfl (Or.inl rfl) (pe_op op_add_str (pe_op op_add_str (pe_call G__law_pick (hr.mono (by decide)) (by rfl) g__law_pick k__law_pick b__law_pick .nil pass0 (pa_cons (pv 1) (pa_cons (pv 2) pa_nil))) pe_str) (pe_call G__law_pick (hr.mono (by decide)) (by rfl) g__law_pick k__law_pick b__law_pick .nil pass0 (pa_cons (pv 1) (pa_cons (pv 5) pa_nil)))))
        (pss_cons (ps_set (i := 9) sc_law.nd rfl (Or.inl rfl) (pe_op op_add_str (pe_op op_add_str (pe_call G__law_pick (hr.mono (by decide)) (by rfl) g__law_pick k__law_pick b__law_pick .nil pass0 (pa_cons (pv 1) (pa_cons (pe_op L2.op_cat (pv 2) (pe_lst (pa_cons pe_str pa_nil))) pa_nil))) pe_str) (pe_call G__law_pick (hr.mono (by decide)) (by rfl) g__law_pick k__law_pick b__law_pick .nil pass0 (pa_cons (pv 1) (pa_cons (pv 5) pa_nil)))))
        (pss_cons (ps_set (i := 10) sc_law.nd rfl (Or.inl rfl) (pe_tup (pa_cons pe_str (pa_cons (pe_call G__law_pick (hr.mono (by decide)) (by rfl) g__law_pick k__law_pick b__law_pick .nil pass0 (pa_cons (pv 1) (pa_cons (pe_op L2.op_cat (pv 2) (pe_lst (pa_cons pe_str (pa_cons pe_str pa_nil)))) pa_nil))) pa_nil))))
        (pss_cons (ps_if (pt_not (pt_val (pe_call G__law_other_letters_right (hr.mono (by decide)) (by rfl) g__law_other_letters_right k__law_other_letters_right b__law_other_letters_right .nil pass0 (pa_cons (pv 7) (pa_cons (pe_tup (pa_cons pe_str pa_nil)) (pa_cons (pv 8) (pa_cons (pv 9) pa_nil)))))))
        (pss_one (ps_ret pe_bl))
        pss_nil)
        (pss_one (ps_if (pt_not (pt_val (pe_call G__law_other_letters_right (hr.mono (by decide)) (by rfl) g__law_other_letters_right k__law_other_letters_right b__law_other_letters_right .nil pass0 (pa_cons (pv 7) (pa_cons (pv 10) (pa_cons (pv 9) (pa_cons (pv 8) pa_nil)))))))
        (pss_one (ps_ret pe_bl))
        pss_nil)))))))))
      (pss_one (ps_ret pe_bl)))))))), ?_⟩
    refine ⟨_, rfl, a, ns, rfl, hA, hlen, fun s e H1 hs x1 S1 => ?_⟩
    refine ⟨_, rfl, s, e, 200000, rfl, S1.mono (by decide), fun w ws H2 hw hWd hW x2 S2 => ?_⟩
    have wn : w ≠ s := S1.ne hw
    refine ⟨_, rfl, _, rfl, _, rfl, s, e, 4, 190000, rfl, by decide, by decide, S2.mono (by decide), fun v H3 v0 v1 x3 S3 => ?_⟩
    obtain ⟨v, rfl⟩ := Int.eq_ofNat_of_zero_le v0
    refine ⟨_, _, rfl, rfl, _, rfl, s, e, w, ws, v + 1, 150000, ?_, by omega, by omega, SqL.of (x3 _ _ wn hWd), wn, hW, S3.mono (by decide), fun bv b H4 hb bo b0 bn bnd x4 S4 => ?_⟩
    · show [V.ref s, V.int (1 + (v : Int)), V.ref w] = [V.ref s, V.int ((v + 1 : Nat) : Int), V.ref w]
      rw [show ((v + 1 : Nat) : Int) = 1 + (v : Int) by omega]
    have hW4 := (x3.trans x4) _ _ wn hWd
    refine ⟨_, rfl, s, e, w, bv, b, ws, 3, 100000, rfl, by decide, by decide, hb, bn, bo, SqL.of hW4, wn, hW, S4.mono (by decide), fun v5 l H5 db ll lb x5 S5 => ?_⟩
    have hW5 := x5 _ _ wn hW4
    have bo5 : BkOk { b with sw := l } := ⟨bo.si, bo.ln, bo.fd, by show l.length ≤ 10; omega, bo.sp, fun x hx => by have := (lb x hx).1; omega, bo.sn, bo.fn⟩
    clear hb x1 x2 x3 x4 x5 hw hs hWd hW4 S1 S2 S3 S4
    have db0 := db
    obtain ⟨B, bus, rfl, hB, dB⟩ := db
    have dB' := dB
    obtain ⟨u0, r0, rfl, d0, dB'⟩ := dB'
    obtain ⟨u1, r1, rfl, d1, dB'⟩ := dB'
    obtain ⟨u2, r2, rfl, d2, dB'⟩ := dB'
    obtain ⟨u3, r3, rfl, d3, dB'⟩ := dB'
    obtain ⟨u4, r4, rfl, d4, dB'⟩ := dB'
    obtain ⟨u5, r5, rfl, d5, dB'⟩ := dB'
    obtain ⟨u6, r6, rfl, d6, dB'⟩ := dB'
    obtain ⟨u7, r7, rfl, d7, dB'⟩ := dB'
    unfold DVs at dB'
    subst dB'
    obtain ⟨c6, w6, rfl, hC6, dw6⟩ := d6
    obtain ⟨c3, w3, rfl, hC3, dw3⟩ := d3
    have dw6 : DVs K H5 (l.map swD) w6 := dw6
    have dw3 : DVs K H5 (b.si.map siD) w3 := dw3
    have w6l := dw6.map_len
    have w3l := dw3.map_len
    have bl10 := bo.si
    -- the other book
    refine ⟨_, rfl, 6, rfl, B, _, rfl, hB, fun B1 H6 m6 hB1 => ?_⟩
    rw [cutV_to (by decide)] at hB1
    have S6 := S5.ext m6
    refine ⟨_, rfl, _, rfl, B, _, 6, .ref c6, rfl, rfl, m6.tup hB, atI_nat (j := 6) rfl, s, e, c6, w6, 90000, rfl, .inr (m6.tup hC6), by omega, S6.mono (by omega), fun D ys H7 hD0 hD yl ym x7 S7 => ?_⟩
    refine ⟨D, _, rfl, .inl ⟨SqL.of hD, fun T hT => ?_⟩⟩
    have n8 := same_new (o := HO.tup ys) hT
    have T58 : TK K H5 _ := ((TK.same m6).trans (TK.ext x7 S6)).trans (TK.same n8)
    have T68 : TK K H6 _ := (TK.ext x7 S6).trans (TK.same n8)
    refine ⟨_, rfl, B, _, 7, u7, rfl, rfl, T58 _ _ hB, atI_nat (j := 7) rfl, by show 2 ≤ sizeLine; decide, fun T1 hT1 => ?_⟩
    have n9 := same_new (o := HO.tup [V.ref T, u7]) hT1
    have T59 := T58.trans (TK.same n9)
    refine ⟨B1, T1, _, _, rfl, rfl, (T68.trans (TK.same n9)) _ _ hB1, SqT.of upd_same, by show 6 + 2 ≤ sizeLine; decide, fun p H10 m10 hp => ?_⟩
    have hT10 := (n9.trans m10) _ _ (upd_same (H := H7) (a := T) (o := HO.tup ys))
    have T10 := T59.trans (TK.same m10)
    have x510 : Ext s H5 H10 := ((Ext.of m6).trans x7).trans (Ext.of (n8.trans (n9.trans m10)))
    have S10 := S7.ext (n8.trans (n9.trans m10))
    obtain ⟨l2, dl2, l2l, l2m⟩ := dw6.pick ym
    have dp : DV K H10 (bkD { b with sw := l2 }) (.ref p) := ⟨p, _, rfl, hp, dlc (d0.tk T10) (dlc (d1.tk T10) (dlc (d2.tk T10) (dlc (show DV K H10 (.tup (b.si.map siD)) (.ref c3) from ⟨c3, _, rfl, T10 _ _ hC3, dw3.tk T10⟩) (dlc (d4.tk T10) (dlc (d5.tk T10) (dlc ⟨T, _, rfl, SqT.of hT10, dl2.tk T10⟩ (dlc (d7.tk T10) dln)))))))⟩
    have bo2 : BkOk { b with sw := l2 } := ⟨bo.si, bo.ln, bo.fd, by show l2.length ≤ 10; omega, bo.sp, fun x hx => by have := (lb x (l2m x hx)).1; omega, bo.sn, bo.fn⟩
    have db10 := db0.tk T10
    have hB10 := T10 _ _ hB
    have hC10 := T10 _ _ hC3
    have dw10 := dw3.tk T10
    have hW10 := x510 _ _ wn hW5
    clear T10 T59 T68 T58 n8 n9 hT1 hT hp hT10 x510 S7 x7 hD0 hD S6 hB1 m6 m10 hW5 S5 hC6 hC3 dw6 dw3 d0 d1 d2 d4 d5 d7 hB db0 dl2 dB
    -- the names
    refine ⟨_, rfl, B, _, 3, .ref c3, rfl, rfl, hB10, atI_nat (j := 3) rfl, c3, rfl, ⟨_, hC10⟩, fun N hN => ?_⟩
    have nl : (b.si.map (·.n)).length = b.si.length := List.length_map _
    refine lc_tup (K := K) (a := c3) (xs := w3) (fun i H' => H' N = some (.lst (((b.si.map (·.n)).take i).map V.str)) ∧ Same H10 H') ⟨by rw [upd_same]; rfl, same_new hN⟩ (fun i H' _ h => h.2.tup hC10) ?_ ?_
    · rintro i u H1 hi ⟨h1, m1'⟩
      obtain ⟨x, hx, dx⟩ := dw10.map_get hi
      have il := (List.getElem?_eq_some_iff.mp hx).1
      obtain ⟨t, tus, rfl, hT, et⟩ := DV.leafS (i := 1) (x := x.n) (dx.tk (TK.same m1')) rfl
      have en : (b.si.map (·.n))[i]? = some x.n := by rw [List.getElem?_map, hx]; rfl
      refine ⟨rfl, _, rfl, t, _, 1, _, rfl, rfl, hT, atI_nat (j := 1) et, _, h1, ?_, ?_, sput m1' hN⟩
      · rw [List.length_map, List.length_take]; exact small54 (by omega)
      · rw [upd_same, List.take_add_one, en, List.map_append]; rfl
    rintro H11 ⟨h11, m11⟩
    rw [w3l, ← nl, List.take_length] at h11
    have Ns := S10.ne hN
    obtain ⟨us, eus⟩ : ∃ us, us = b.si.map (·.n) := ⟨_, rfl⟩
    rw [← eus] at h11
    have ul : us.length ≤ 10 := by rw [eus, nl]; exact bl10
    have une : us ≠ [] := fun e => by
      rw [eus] at e
      exact bn (List.map_eq_nil_iff.mp e)
    have u8 : ∀ x ∈ us, (tl x).length ≤ 8 := fun x hx => by
      rw [eus] at hx
      obtain ⟨y, hy, rfl⟩ := List.mem_map.mp hx
      exact (bo.sn y hy).2
    clear eus nl
    have S11 := S10.ext m11
    have hW11 := m11 _ _ hW10
    have db11 := db10.tk (TK.same m11)
    have dp11 := dp.tk (TK.same m11)
    generalize hbb : ({ b with sw := l } : Bk) = bb at bo5 db11
    have sbb : bb.si ≠ [] := by rw [← hbb]; exact bn
    clear db10 dp hC10 dw10 hB10 S10 hW10 m11 hN
    -- three turns
    refine ⟨3, rfl, by decide, by decide, ?_⟩
    refine for_range (lo := 0) (n := 3) (fun i σ H' => ∃ (v6 v7 v8 v9 v10 : Option V), σ = [some (.ref a), some (.ref s), some (.ref w), some (.ref B), some (.ref p), some (.ref N), v6, v7, v8, v9, v10, none] ∧ Ext s H11 H' ∧ Src H' s e (80000 - 5000 * i)) ⟨_, _, _, _, _, rfl, Ext.of (Same.refl _), S11.mono (by omega)⟩ ?_ ?_
    rotate_left
    · rintro σ H12 ⟨v6, v7, v8, v9, v10, rfl, x12, S12⟩
      exact q H12
    rintro i σ H12 hi ⟨v6, v7, v8, v9, v10, rfl, x12, S12⟩
    have T12 := TK.ext (K := K) x12 S11
    refine ⟨_, rfl, _, rfl, _, rfl, s, e, w, .ref B, bb, ws, 80000 - 5000 * i - 1000, rfl, db11.tk T12, sbb, bo5, SqL.of (x12 _ _ wn hW11), wn, hW, S12.mono (by omega), fun t nv H13 dn okn sel x13 S13 => ?_⟩
    have x1113 := x12.trans x13
    have T13 := TK.ext (K := K) x1113 S11
    refine ⟨_, rfl, _, rfl, _, rfl, _, rfl, s, e, bb, { b with sw := l2 }, t, .ref B, .ref p, nv, 80000 - 5000 * i - 1100, rfl, db11.tk T13, bo5, dp11.tk T13, bo2, dn, okn, sel, S13.mono (by omega), fun H14 x14 S14 => ⟨_, rfl, iteF ?_⟩⟩
    have x1114 := x1113.trans x14
    have dn14 := dn.tk (TK.ext x14 S13)
    have wlen := wd_len hW
    -- home
    refine ⟨_, rfl, _, rfl, .inl ⟨s, e, w, _, 80000 - 5000 * i - 1101, rfl, SqL.of (x1114 _ _ wn hW11), wn, by simpa using hW.1, by rw [List.length_map]; have := hW.2.1; omega, S14.mono (by omega), fun z H15 zm x15 S15 => ?_⟩⟩
    obtain ⟨h1, hh1, rfl⟩ := List.mem_map.mp zm
    have l1 := wlen h1 hh1
    refine ⟨_, _, rfl, rfl, ?_, _, rfl, _, rfl, .inl ⟨s, e, N, _, 80000 - 5000 * i - 1102, rfl, SqL.of ((x1114.trans x15) _ _ Ns h11), Ns, by simpa using une, by rw [List.length_map]; omega, S15.mono (by omega), fun z H16 zm x16 S16 => ?_⟩⟩
    · refine js2 ?_
      show _ + 1 ≤ _
      omega
    obtain ⟨h2, hh2, rfl⟩ := List.mem_map.mp zm
    have l2' := u8 h2 hh2
    refine ⟨_, _, rfl, rfl, ?_, ?_⟩
    · refine js2 ?_
      rw [tl_app, List.length_append]
      show (_ + 1) + _ ≤ _
      omega
    have lh : (tl (h1 ++ Str.ofString "@" ++ h2)).length ≤ 200 := by
      rw [tl_app, tl_app, List.length_append, List.length_append]
      show (_ + 1) + _ ≤ _
      omega
    generalize h1 ++ Str.ofString "@" ++ h2 = home at lh ⊢
    have f16 := x15.trans x16
    have x1116 := x1114.trans f16
    have dn16 := dn14.tk (TK.ext f16 S14)
    clear x15 x16 f16 S15 dn14 hh1 hh2 l1 l2' x14 S14 x1114
    -- member
    refine ⟨_, rfl, _, rfl, by show 1 ≤ sizeLine; decide, fun M1 hM1 => ?_⟩
    have n17 := same_new (o := HO.lst [V.str (Str.ofString "gus")]) hM1
    refine ⟨w, M1, _, _, rfl, rfl, n17 _ _ (x1116 _ _ wn hW11), upd_same, by rw [List.length_map]; have := hW.2.1; exact Nat.le_trans (show ws.length + 1 ≤ 30000 by omega) (by decide), fun M2 hM2 => ?_⟩
    have n18 := same_new (o := HO.lst (ws.map V.str ++ [V.str (Str.ofString "gus")])) hM2
    have n1718 := n17.trans n18
    refine .inl ⟨s, e, M2, _, 80000 - 5000 * i - 1103, rfl, SqL.of upd_same, (S16.ext n17).ne hM2, by simp, by rw [List.length_append, List.length_map]; have := hW.2.1; show _ + 1 ≤ _; omega, (S16.ext n1718).mono (by omega), fun z H19 zm x19 S19 => ?_⟩
    obtain ⟨g1, l1, rfl⟩ : ∃ g1 : Str, (tl g1).length ≤ 8 ∧ z = .str g1 := by
      rcases List.mem_append.mp zm with k | k
      · obtain ⟨y, hy, rfl⟩ := List.mem_map.mp k
        exact ⟨y, wlen y hy, rfl⟩
      · rw [List.mem_singleton.mp k]; exact ⟨_, by decide, rfl⟩
    have f19 := (Ext.of n1718).trans x19
    refine ⟨_, _, rfl, rfl, ?_, _, rfl, _, rfl, .inl ⟨s, e, N, _, 80000 - 5000 * i - 1104, rfl, SqL.of ((x1116.trans f19) _ _ Ns h11), Ns, by simpa using une, by rw [List.length_map]; omega, S19.mono (by omega), fun z H20 zm x20 S20 => ?_⟩⟩
    · refine js2 ?_
      show _ + 1 ≤ _
      omega
    obtain ⟨g2, hg2, rfl⟩ := List.mem_map.mp zm
    have l2' := u8 g2 hg2
    refine ⟨_, _, rfl, rfl, ?_, ?_⟩
    · refine js2 ?_
      rw [tl_app, List.length_append]
      show (_ + 1) + _ ≤ _
      omega
    have lm : (tl (g1 ++ Str.ofString "@" ++ g2)).length ≤ 200 := by
      rw [tl_app, tl_app, List.length_append, List.length_append]
      show (_ + 1) + _ ≤ _
      omega
    generalize g1 ++ Str.ofString "@" ++ g2 = member at lm ⊢
    have f20 := f19.trans x20
    have x1120 := x1116.trans f20
    have dn20 := dn16.tk (TK.ext f20 S16)
    clear f20 f19 x19 x20 S19 n17 n18 n1718 dn16 S16 x1116 hg2 l1 l2'
    -- the refusal
    refine ⟨_, rfl, _, rfl, by show 2 ≤ sizeLine; decide, fun M3 hM3 => ?_⟩
    have n21 := same_new (o := HO.lst [V.str (Str.ofString "late"), V.str (Str.ofString "nowhere")]) hM3
    refine ⟨w, M3, _, _, rfl, rfl, n21 _ _ (x1120 _ _ wn hW11), upd_same, by rw [List.length_map]; have := hW.2.1; exact Nat.le_trans (show ws.length + 2 ≤ 30000 by omega) (by decide), fun M4 hM4 => ?_⟩
    have n22 := same_new (o := HO.lst (ws.map V.str ++ [V.str (Str.ofString "late"), V.str (Str.ofString "nowhere")])) hM4
    have n2122 := n21.trans n22
    refine .inl ⟨s, e, M4, _, 80000 - 5000 * i - 1105, rfl, SqL.of upd_same, (S20.ext n21).ne hM4, by simp, by rw [List.length_append, List.length_map]; have := hW.2.1; show _ + 2 ≤ _; omega, (S20.ext n2122).mono (by omega), fun z H23 zm x23 S23 => ?_⟩
    obtain ⟨rw', rfl⟩ : ∃ g1 : Str, z = .str g1 := by
      rcases List.mem_append.mp zm with k | k
      · obtain ⟨y, hy, rfl⟩ := List.mem_map.mp k
        exact ⟨y, rfl⟩
      · simp only [List.mem_cons, List.not_mem_nil, or_false] at k
        rcases k with rfl | rfl <;> exact ⟨_, rfl⟩
    have f23 := (Ext.of n2122).trans x23
    refine ⟨by show 2 ≤ sizeLine; decide, fun R hR => ?_⟩
    have n24 := same_new (o := HO.tup [V.str (Str.ofString "refused"), V.str rw']) hR
    have f24 := f23.trans (Ext.of n24)
    have S24 := S23.ext n24
    have dn24 := dn20.tk (TK.ext f24 S20)
    have x1124 := x1120.trans f24
    have hR24 : SqT K (upd H23 R (HO.tup [V.str (Str.ofString "refused"), V.str rw'])) R [V.str (Str.ofString "refused"), V.str rw'] := SqT.of upd_same
    generalize upd H23 R (HO.tup [V.str (Str.ofString "refused"), V.str rw']) = H24 at n24 f24 S24 dn24 x1124 hR24 ⊢
    clear f24 f23 x23 S23 n21 n22 n2122 n24 dn20 S20 x1120
    -- both are right
    refine ⟨_, rfl, by show 1 ≤ sizeLine; decide, fun O hO => ?_⟩
    have n25 := same_new (o := HO.tup [V.str (Str.ofString "out")]) hO
    refine ⟨_, rfl, _, rfl, t, .tup [.str (Str.ofString "out")], nv, .ref O, home, member, rfl, dn24.tk (TK.same n25), okn, ⟨O, _, rfl, SqT.of upd_same, dlc (dls _) dln⟩, dlT (by show 1 ≤ 1000000; decide) (dlC trivial dlN), lh, lm, fun H26 m26 => ⟨_, rfl, iteF ?_⟩⟩
    have m2426 := n25.trans m26
    refine ⟨_, rfl, _, rfl, _, rfl, _, rfl, t, .tup [.str (Str.ofString "refused"), .str rw'], nv, .ref R, member, home, rfl, dn24.tk (TK.same m2426), okn, ⟨R, _, rfl, m2426.tup hR24, dlc (dls _) (dlc (dls _) dln)⟩, dlT (by show 2 ≤ 1000000; decide) (dlC trivial (dlC trivial dlN)), lm, lh, fun H27 m27 => ⟨_, rfl, iteF ⟨_, _, _, _, _, rfl, x1124.trans (Ext.of (m2426.trans m27)), (S24.ext (m2426.trans m27)).mono (by omega)⟩⟩⟩
end

end Z
namespace Z
open PySem L2 SX
set_option maxHeartbeats 0 in
theorem all_mk {l : PySem.W.OpenLaw} {w : World} {K : PySem.W.Frag} {h : Heap} {mg : Str → Option Value} {fa : Addr} (X : K.In h) (G : h.Ns mainGlobals mg) (hfa : mg "law" = some (.ref fa))
    {f0 : Addr} {od0 an0 : Option Addr} {sl0 : Array (Option Value)} {oc0 kV0 dc0 pm0 cd0 ct0 : Value}
    {f1 : Addr} {od1 an1 : Option Addr} {sl1 : Array (Option Value)} {oc1 kV1 dc1 pm1 cd1 ct1 : Value}
    {f2 : Addr} {od2 an2 : Option Addr} {sl2 : Array (Option Value)} {oc2 kV2 dc2 pm2 cd2 ct2 : Value}
    {f3 : Addr} {od3 an3 : Option Addr} {sl3 : Array (Option Value)} {oc3 kV3 dc3 pm3 cd3 ct3 : Value}
    {f4 : Addr} {od4 an4 : Option Addr} {sl4 : Array (Option Value)} {oc4 kV4 dc4 pm4 cd4 ct4 : Value}
    {f5 : Addr} {od5 an5 : Option Addr} {sl5 : Array (Option Value)} {oc5 kV5 dc5 pm5 cd5 ct5 : Value}
    {f6 : Addr} {od6 an6 : Option Addr} {sl6 : Array (Option Value)} {oc6 kV6 dc6 pm6 cd6 ct6 : Value}
    {f7 : Addr} {od7 an7 : Option Addr} {sl7 : Array (Option Value)} {oc7 kV7 dc7 pm7 cd7 ct7 : Value}
    {f8 : Addr} {od8 an8 : Option Addr} {sl8 : Array (Option Value)} {oc8 kV8 dc8 pm8 cd8 ct8 : Value}
    {f9 : Addr} {od9 an9 : Option Addr} {sl9 : Array (Option Value)} {oc9 kV9 dc9 pm9 cd9 ct9 : Value}
    {f10 : Addr} {od10 an10 : Option Addr} {sl10 : Array (Option Value)} {oc10 kV10 dc10 pm10 cd10 ct10 : Value}
    {f11 : Addr} {od11 an11 : Option Addr} {sl11 : Array (Option Value)} {oc11 kV11 dc11 pm11 cd11 ct11 : Value}
    {f12 : Addr} {od12 an12 : Option Addr} {sl12 : Array (Option Value)} {oc12 kV12 dc12 pm12 cd12 ct12 : Value}
    {f13 : Addr} {od13 an13 : Option Addr} {sl13 : Array (Option Value)} {oc13 kV13 dc13 pm13 cd13 ct13 : Value}
    {f14 : Addr} {od14 an14 : Option Addr} {sl14 : Array (Option Value)} {oc14 kV14 dc14 pm14 cd14 ct14 : Value}
    {f15 : Addr} {od15 an15 : Option Addr} {sl15 : Array (Option Value)} {oc15 kV15 dc15 pm15 cd15 ct15 : Value}
    {f16 : Addr} {od16 an16 : Option Addr} {sl16 : Array (Option Value)} {oc16 kV16 dc16 pm16 cd16 ct16 : Value}
    {f17 : Addr} {od17 an17 : Option Addr} {sl17 : Array (Option Value)} {oc17 kV17 dc17 pm17 cd17 ct17 : Value}
    {f18 : Addr} {od18 an18 : Option Addr} {sl18 : Array (Option Value)} {oc18 kV18 dc18 pm18 cd18 ct18 : Value}
    {f19 : Addr} {od19 an19 : Option Addr} {sl19 : Array (Option Value)} {oc19 kV19 dc19 pm19 cd19 ct19 : Value}
    {f20 : Addr} {od20 an20 : Option Addr} {sl20 : Array (Option Value)} {oc20 kV20 dc20 pm20 cd20 ct20 : Value}
    {f21 : Addr} {od21 an21 : Option Addr} {sl21 : Array (Option Value)} {oc21 kV21 dc21 pm21 cd21 ct21 : Value}
    {f22 : Addr} {od22 an22 : Option Addr} {sl22 : Array (Option Value)} {oc22 kV22 dc22 pm22 cd22 ct22 : Value}
    {f23 : Addr} {od23 an23 : Option Addr} {sl23 : Array (Option Value)} {oc23 kV23 dc23 pm23 cd23 ct23 : Value}
    {f24 : Addr} {od24 an24 : Option Addr} {sl24 : Array (Option Value)} {oc24 kV24 dc24 pm24 cd24 ct24 : Value}
    {f25 : Addr} {od25 an25 : Option Addr} {sl25 : Array (Option Value)} {oc25 kV25 dc25 pm25 cd25 ct25 : Value}
    {f26 : Addr} {od26 an26 : Option Addr} {sl26 : Array (Option Value)} {oc26 kV26 dc26 pm26 cd26 ct26 : Value}
    {f27 : Addr} {od27 an27 : Option Addr} {sl27 : Array (Option Value)} {oc27 kV27 dc27 pm27 cd27 ct27 : Value}
    {f28 : Addr} {od28 an28 : Option Addr} {sl28 : Array (Option Value)} {oc28 kV28 dc28 pm28 cd28 ct28 : Value}
    {f29 : Addr} {od29 an29 : Option Addr} {sl29 : Array (Option Value)} {oc29 kV29 dc29 pm29 cd29 ct29 : Value}
    {f30 : Addr} {od30 an30 : Option Addr} {sl30 : Array (Option Value)} {oc30 kV30 dc30 pm30 cd30 ct30 : Value}
    {f31 : Addr} {od31 an31 : Option Addr} {sl31 : Array (Option Value)} {oc31 kV31 dc31 pm31 cd31 ct31 : Value}
    {f32 : Addr} {od32 an32 : Option Addr} {sl32 : Array (Option Value)} {oc32 kV32 dc32 pm32 cd32 ct32 : Value}
    {f33 : Addr} {od33 an33 : Option Addr} {sl33 : Array (Option Value)} {oc33 kV33 dc33 pm33 cd33 ct33 : Value}
    {f34 : Addr} {od34 an34 : Option Addr} {sl34 : Array (Option Value)} {oc34 kV34 dc34 pm34 cd34 ct34 : Value}
    {f35 : Addr} {od35 an35 : Option Addr} {sl35 : Array (Option Value)} {oc35 kV35 dc35 pm35 cd35 ct35 : Value}
    {f36 : Addr} {od36 an36 : Option Addr} {sl36 : Array (Option Value)} {oc36 kV36 dc36 pm36 cd36 ct36 : Value}
    {f37 : Addr} {od37 an37 : Option Addr} {sl37 : Array (Option Value)} {oc37 kV37 dc37 pm37 cd37 ct37 : Value}
    {f38 : Addr} {od38 an38 : Option Addr} {sl38 : Array (Option Value)} {oc38 kV38 dc38 pm38 cd38 ct38 : Value}
    {f39 : Addr} {od39 an39 : Option Addr} {sl39 : Array (Option Value)} {oc39 kV39 dc39 pm39 cd39 ct39 : Value}
    {f40 : Addr} {od40 an40 : Option Addr} {sl40 : Array (Option Value)} {oc40 kV40 dc40 pm40 cd40 ct40 : Value}
    {f41 : Addr} {od41 an41 : Option Addr} {sl41 : Array (Option Value)} {oc41 kV41 dc41 pm41 cd41 ct41 : Value}
    {f42 : Addr} {od42 an42 : Option Addr} {sl42 : Array (Option Value)} {oc42 kV42 dc42 pm42 cd42 ct42 : Value}
    {f43 : Addr} {od43 an43 : Option Addr} {sl43 : Array (Option Value)} {oc43 kV43 dc43 pm43 cd43 ct43 : Value}
    {f44 : Addr} {od44 an44 : Option Addr} {sl44 : Array (Option Value)} {oc44 kV44 dc44 pm44 cd44 ct44 : Value}
    {f45 : Addr} {od45 an45 : Option Addr} {sl45 : Array (Option Value)} {oc45 kV45 dc45 pm45 cd45 ct45 : Value}
    {f46 : Addr} {od46 an46 : Option Addr} {sl46 : Array (Option Value)} {oc46 kV46 dc46 pm46 cd46 ct46 : Value}
    {f47 : Addr} {od47 an47 : Option Addr} {sl47 : Array (Option Value)} {oc47 kV47 dc47 pm47 cd47 ct47 : Value}
    {f48 : Addr} {od48 an48 : Option Addr} {sl48 : Array (Option Value)} {oc48 kV48 dc48 pm48 cd48 ct48 : Value}
    {f49 : Addr} {od49 an49 : Option Addr} {sl49 : Array (Option Value)} {oc49 kV49 dc49 pm49 cd49 ct49 : Value}
    (a0 : PySem.W.nsIn K mainGlobals "id_text" = some (some (.ref f0))) (l0 : K.lookup f0 = some ⟨oc0, od0, .func (PySem.W.fnOf "id_text" "id_text" (defArgs s_id_text) (defBody s_id_text) (defScope s_id_text) .none kV0 dc0 pm0 an0 cd0 ct0), sl0⟩) (c0 : PySem.W.codeIn K cd0 "id_text" = true) (k0 : PySem.W.keepIn K (.ref f0) = true)
    (a1 : PySem.W.nsIn K mainGlobals "add_place" = some (some (.ref f1))) (l1 : K.lookup f1 = some ⟨oc1, od1, .func (PySem.W.fnOf "add_place" "add_place" (defArgs s_add_place) (defBody s_add_place) (defScope s_add_place) .none kV1 dc1 pm1 an1 cd1 ct1), sl1⟩) (c1 : PySem.W.codeIn K cd1 "add_place" = true) (k1 : PySem.W.keepIn K (.ref f1) = true)
    (a2 : PySem.W.nsIn K mainGlobals "follows" = some (some (.ref f2))) (l2 : K.lookup f2 = some ⟨oc2, od2, .func (PySem.W.fnOf "follows" "follows" (defArgs s_follows) (defBody s_follows) (defScope s_follows) .none kV2 dc2 pm2 an2 cd2 ct2), sl2⟩) (c2 : PySem.W.codeIn K cd2 "follows" = true) (k2 : PySem.W.keepIn K (.ref f2) = true)
    (a3 : PySem.W.nsIn K mainGlobals "standing" = some (some (.ref f3))) (l3 : K.lookup f3 = some ⟨oc3, od3, .func (PySem.W.fnOf "standing" "standing" (defArgs s_standing) (defBody s_standing) (defScope s_standing) .none kV3 dc3 pm3 an3 cd3 ct3), sl3⟩) (c3 : PySem.W.codeIn K cd3 "standing" = true) (k3 : PySem.W.keepIn K (.ref f3) = true)
    (a4 : PySem.W.nsIn K mainGlobals "fits" = some (some (.ref f4))) (l4 : K.lookup f4 = some ⟨oc4, od4, .func (PySem.W.fnOf "fits" "fits" (defArgs s_fits) (defBody s_fits) (defScope s_fits) .none kV4 dc4 pm4 an4 cd4 ct4), sl4⟩) (c4 : PySem.W.codeIn K cd4 "fits" = true) (k4 : PySem.W.keepIn K (.ref f4) = true)
    (a5 : PySem.W.nsIn K mainGlobals "items_of" = some (some (.ref f5))) (l5 : K.lookup f5 = some ⟨oc5, od5, .func (PySem.W.fnOf "items_of" "items_of" (defArgs s_items_of) (defBody s_items_of) (defScope s_items_of) .none kV5 dc5 pm5 an5 cd5 ct5), sl5⟩) (c5 : PySem.W.codeIn K cd5 "items_of" = true) (k5 : PySem.W.keepIn K (.ref f5) = true)
    (a6 : PySem.W.nsIn K mainGlobals "lets" = some (some (.ref f6))) (l6 : K.lookup f6 = some ⟨oc6, od6, .func (PySem.W.fnOf "lets" "lets" (defArgs s_lets) (defBody s_lets) (defScope s_lets) .none kV6 dc6 pm6 an6 cd6 ct6), sl6⟩) (c6 : PySem.W.codeIn K cd6 "lets" = true) (k6 : PySem.W.keepIn K (.ref f6) = true)
    (a7 : PySem.W.nsIn K mainGlobals "steward_of" = some (some (.ref f7))) (l7 : K.lookup f7 = some ⟨oc7, od7, .func (PySem.W.fnOf "steward_of" "steward_of" (defArgs s_steward_of) (defBody s_steward_of) (defScope s_steward_of) .none kV7 dc7 pm7 an7 cd7 ct7), sl7⟩) (c7 : PySem.W.codeIn K cd7 "steward_of" = true) (k7 : PySem.W.keepIn K (.ref f7) = true)
    (a8 : PySem.W.nsIn K mainGlobals "needed_seals" = some (some (.ref f8))) (l8 : K.lookup f8 = some ⟨oc8, od8, .func (PySem.W.fnOf "needed_seals" "needed_seals" (defArgs s_needed_seals) (defBody s_needed_seals) (defScope s_needed_seals) .none kV8 dc8 pm8 an8 cd8 ct8), sl8⟩) (c8 : PySem.W.codeIn K cd8 "needed_seals" = true) (k8 : PySem.W.keepIn K (.ref f8) = true)
    (a9 : PySem.W.nsIn K mainGlobals "missing_seals" = some (some (.ref f9))) (l9 : K.lookup f9 = some ⟨oc9, od9, .func (PySem.W.fnOf "missing_seals" "missing_seals" (defArgs s_missing_seals) (defBody s_missing_seals) (defScope s_missing_seals) .none kV9 dc9 pm9 an9 cd9 ct9), sl9⟩) (c9 : PySem.W.codeIn K cd9 "missing_seals" = true) (k9 : PySem.W.keepIn K (.ref f9) = true)
    (a10 : PySem.W.nsIn K mainGlobals "submitted_to" = some (some (.ref f10))) (l10 : K.lookup f10 = some ⟨oc10, od10, .func (PySem.W.fnOf "submitted_to" "submitted_to" (defArgs s_submitted_to) (defBody s_submitted_to) (defScope s_submitted_to) .none kV10 dc10 pm10 an10 cd10 ct10), sl10⟩) (c10 : PySem.W.codeIn K cd10 "submitted_to" = true) (k10 : PySem.W.keepIn K (.ref f10) = true)
    (a11 : PySem.W.nsIn K mainGlobals "submission" = some (some (.ref f11))) (l11 : K.lookup f11 = some ⟨oc11, od11, .func (PySem.W.fnOf "submission" "submission" (defArgs s_submission) (defBody s_submission) (defScope s_submission) .none kV11 dc11 pm11 an11 cd11 ct11), sl11⟩) (c11 : PySem.W.codeIn K cd11 "submission" = true) (k11 : PySem.W.keepIn K (.ref f11) = true)
    (a12 : PySem.W.nsIn K mainGlobals "note_to" = some (some (.ref f12))) (l12 : K.lookup f12 = some ⟨oc12, od12, .func (PySem.W.fnOf "note_to" "note_to" (defArgs s_note_to) (defBody s_note_to) (defScope s_note_to) .none kV12 dc12 pm12 an12 cd12 ct12), sl12⟩) (c12 : PySem.W.codeIn K cd12 "note_to" = true) (k12 : PySem.W.keepIn K (.ref f12) = true)
    (a13 : PySem.W.nsIn K mainGlobals "copy_to" = some (some (.ref f13))) (l13 : K.lookup f13 = some ⟨oc13, od13, .func (PySem.W.fnOf "copy_to" "copy_to" (defArgs s_copy_to) (defBody s_copy_to) (defScope s_copy_to) .none kV13 dc13 pm13 an13 cd13 ct13), sl13⟩) (c13 : PySem.W.codeIn K cd13 "copy_to" = true) (k13 : PySem.W.keepIn K (.ref f13) = true)
    (a14 : PySem.W.nsIn K mainGlobals "_law_mix" = some (some (.ref f14))) (l14 : K.lookup f14 = some ⟨oc14, od14, .func (PySem.W.fnOf "_law_mix" "_law_mix" (defArgs s__law_mix) (defBody s__law_mix) (defScope s__law_mix) .none kV14 dc14 pm14 an14 cd14 ct14), sl14⟩) (c14 : PySem.W.codeIn K cd14 "_law_mix" = true) (k14 : PySem.W.keepIn K (.ref f14) = true)
    (a15 : PySem.W.nsIn K mainGlobals "_law_source" = some (some (.ref f15))) (l15 : K.lookup f15 = some ⟨oc15, od15, .func (PySem.W.fnOf "_law_source" "_law_source" (defArgs s__law_source) (defBody s__law_source) (defScope s__law_source) .none kV15 dc15 pm15 an15 cd15 ct15), sl15⟩) (c15 : PySem.W.codeIn K cd15 "_law_source" = true) (k15 : PySem.W.keepIn K (.ref f15) = true)
    (a16 : PySem.W.nsIn K mainGlobals "_law_draw" = some (some (.ref f16))) (l16 : K.lookup f16 = some ⟨oc16, od16, .func (PySem.W.fnOf "_law_draw" "_law_draw" (defArgs s__law_draw) (defBody s__law_draw) (defScope s__law_draw) .none kV16 dc16 pm16 an16 cd16 ct16), sl16⟩) (c16 : PySem.W.codeIn K cd16 "_law_draw" = true) (k16 : PySem.W.keepIn K (.ref f16) = true)
    (a17 : PySem.W.nsIn K mainGlobals "_law_pick" = some (some (.ref f17))) (l17 : K.lookup f17 = some ⟨oc17, od17, .func (PySem.W.fnOf "_law_pick" "_law_pick" (defArgs s__law_pick) (defBody s__law_pick) (defScope s__law_pick) .none kV17 dc17 pm17 an17 cd17 ct17), sl17⟩) (c17 : PySem.W.codeIn K cd17 "_law_pick" = true) (k17 : PySem.W.keepIn K (.ref f17) = true)
    (a18 : PySem.W.nsIn K mainGlobals "_law_shuffled" = some (some (.ref f18))) (l18 : K.lookup f18 = some ⟨oc18, od18, .func (PySem.W.fnOf "_law_shuffled" "_law_shuffled" (defArgs s__law_shuffled) (defBody s__law_shuffled) (defScope s__law_shuffled) .none kV18 dc18 pm18 an18 cd18 ct18), sl18⟩) (c18 : PySem.W.codeIn K cd18 "_law_shuffled" = true) (k18 : PySem.W.keepIn K (.ref f18) = true)
    (a19 : PySem.W.nsIn K mainGlobals "_law_new_name" = some (some (.ref f19))) (l19 : K.lookup f19 = some ⟨oc19, od19, .func (PySem.W.fnOf "_law_new_name" "_law_new_name" (defArgs s__law_new_name) (defBody s__law_new_name) (defScope s__law_new_name) .none kV19 dc19 pm19 an19 cd19 ct19), sl19⟩) (c19 : PySem.W.codeIn K cd19 "_law_new_name" = true) (k19 : PySem.W.keepIn K (.ref f19) = true)
    (a20 : PySem.W.nsIn K mainGlobals "_law_names" = some (some (.ref f20))) (l20 : K.lookup f20 = some ⟨oc20, od20, .func (PySem.W.fnOf "_law_names" "_law_names" (defArgs s__law_names) (defBody s__law_names) (defScope s__law_names) .none kV20 dc20 pm20 an20 cd20 ct20), sl20⟩) (c20 : PySem.W.codeIn K cd20 "_law_names" = true) (k20 : PySem.W.keepIn K (.ref f20) = true)
    (a21 : PySem.W.nsIn K mainGlobals "_law_row" = some (some (.ref f21))) (l21 : K.lookup f21 = some ⟨oc21, od21, .func (PySem.W.fnOf "_law_row" "_law_row" (defArgs s__law_row) (defBody s__law_row) (defScope s__law_row) .none kV21 dc21 pm21 an21 cd21 ct21), sl21⟩) (c21 : PySem.W.codeIn K cd21 "_law_row" = true) (k21 : PySem.W.keepIn K (.ref f21) = true)
    (a22 : PySem.W.nsIn K mainGlobals "_law_words" = some (some (.ref f22))) (l22 : K.lookup f22 = some ⟨oc22, od22, .func (PySem.W.fnOf "_law_words" "_law_words" (defArgs s__law_words) (defBody s__law_words) (defScope s__law_words) .none kV22 dc22 pm22 an22 cd22 ct22), sl22⟩) (c22 : PySem.W.codeIn K cd22 "_law_words" = true) (k22 : PySem.W.keepIn K (.ref f22) = true)
    (a23 : PySem.W.nsIn K mainGlobals "_law_board" = some (some (.ref f23))) (l23 : K.lookup f23 = some ⟨oc23, od23, .func (PySem.W.fnOf "_law_board" "_law_board" (defArgs s__law_board) (defBody s__law_board) (defScope s__law_board) .none kV23 dc23 pm23 an23 cd23 ct23), sl23⟩) (c23 : PySem.W.codeIn K cd23 "_law_board" = true) (k23 : PySem.W.keepIn K (.ref f23) = true)
    (a24 : PySem.W.nsIn K mainGlobals "_law_boards" = some (some (.ref f24))) (l24 : K.lookup f24 = some ⟨oc24, od24, .func (PySem.W.fnOf "_law_boards" "_law_boards" (defArgs s__law_boards) (defBody s__law_boards) (defScope s__law_boards) .none kV24 dc24 pm24 an24 cd24 ct24), sl24⟩) (c24 : PySem.W.codeIn K cd24 "_law_boards" = true) (k24 : PySem.W.keepIn K (.ref f24) = true)
    (a25 : PySem.W.nsIn K mainGlobals "_law_glob" = some (some (.ref f25))) (l25 : K.lookup f25 = some ⟨oc25, od25, .func (PySem.W.fnOf "_law_glob" "_law_glob" (defArgs s__law_glob) (defBody s__law_glob) (defScope s__law_glob) .none kV25 dc25 pm25 an25 cd25 ct25), sl25⟩) (c25 : PySem.W.codeIn K cd25 "_law_glob" = true) (k25 : PySem.W.keepIn K (.ref f25) = true)
    (a26 : PySem.W.nsIn K mainGlobals "_law_pattern" = some (some (.ref f26))) (l26 : K.lookup f26 = some ⟨oc26, od26, .func (PySem.W.fnOf "_law_pattern" "_law_pattern" (defArgs s__law_pattern) (defBody s__law_pattern) (defScope s__law_pattern) .none kV26 dc26 pm26 an26 cd26 ct26), sl26⟩) (c26 : PySem.W.codeIn K cd26 "_law_pattern" = true) (k26 : PySem.W.keepIn K (.ref f26) = true)
    (a27 : PySem.W.nsIn K mainGlobals "_law_fits" = some (some (.ref f27))) (l27 : K.lookup f27 = some ⟨oc27, od27, .func (PySem.W.fnOf "_law_fits" "_law_fits" (defArgs s__law_fits) (defBody s__law_fits) (defScope s__law_fits) .none kV27 dc27 pm27 an27 cd27 ct27), sl27⟩) (c27 : PySem.W.codeIn K cd27 "_law_fits" = true) (k27 : PySem.W.keepIn K (.ref f27) = true)
    (a28 : PySem.W.nsIn K mainGlobals "_law_lets" = some (some (.ref f28))) (l28 : K.lookup f28 = some ⟨oc28, od28, .func (PySem.W.fnOf "_law_lets" "_law_lets" (defArgs s__law_lets) (defBody s__law_lets) (defScope s__law_lets) .none kV28 dc28 pm28 an28 cd28 ct28), sl28⟩) (c28 : PySem.W.codeIn K cd28 "_law_lets" = true) (k28 : PySem.W.keepIn K (.ref f28) = true)
    (a29 : PySem.W.nsIn K mainGlobals "_law_steward" = some (some (.ref f29))) (l29 : K.lookup f29 = some ⟨oc29, od29, .func (PySem.W.fnOf "_law_steward" "_law_steward" (defArgs s__law_steward) (defBody s__law_steward) (defScope s__law_steward) .none kV29 dc29 pm29 an29 cd29 ct29), sl29⟩) (c29 : PySem.W.codeIn K cd29 "_law_steward" = true) (k29 : PySem.W.keepIn K (.ref f29) = true)
    (a30 : PySem.W.nsIn K mainGlobals "_law_needed" = some (some (.ref f30))) (l30 : K.lookup f30 = some ⟨oc30, od30, .func (PySem.W.fnOf "_law_needed" "_law_needed" (defArgs s__law_needed) (defBody s__law_needed) (defScope s__law_needed) .none kV30 dc30 pm30 an30 cd30 ct30), sl30⟩) (c30 : PySem.W.codeIn K cd30 "_law_needed" = true) (k30 : PySem.W.keepIn K (.ref f30) = true)
    (a31 : PySem.W.nsIn K mainGlobals "_law_is_int" = some (some (.ref f31))) (l31 : K.lookup f31 = some ⟨oc31, od31, .func (PySem.W.fnOf "_law_is_int" "_law_is_int" (defArgs s__law_is_int) (defBody s__law_is_int) (defScope s__law_is_int) .none kV31 dc31 pm31 an31 cd31 ct31), sl31⟩) (c31 : PySem.W.codeIn K cd31 "_law_is_int" = true) (k31 : PySem.W.keepIn K (.ref f31) = true)
    (a32 : PySem.W.nsIn K mainGlobals "_law_same" = some (some (.ref f32))) (l32 : K.lookup f32 = some ⟨oc32, od32, .func (PySem.W.fnOf "_law_same" "_law_same" (defArgs s__law_same) (defBody s__law_same) (defScope s__law_same) .none kV32 dc32 pm32 an32 cd32 ct32), sl32⟩) (c32 : PySem.W.codeIn K cd32 "_law_same" = true) (k32 : PySem.W.keepIn K (.ref f32) = true)
    (a33 : PySem.W.nsIn K mainGlobals "_law_body" = some (some (.ref f33))) (l33 : K.lookup f33 = some ⟨oc33, od33, .func (PySem.W.fnOf "_law_body" "_law_body" (defArgs s__law_body) (defBody s__law_body) (defScope s__law_body) .none kV33 dc33 pm33 an33 cd33 ct33), sl33⟩) (c33 : PySem.W.codeIn K cd33 "_law_body" = true) (k33 : PySem.W.keepIn K (.ref f33) = true)
    (a34 : PySem.W.nsIn K mainGlobals "_law_lines" = some (some (.ref f34))) (l34 : K.lookup f34 = some ⟨oc34, od34, .func (PySem.W.fnOf "_law_lines" "_law_lines" (defArgs s__law_lines) (defBody s__law_lines) (defScope s__law_lines) .none kV34 dc34 pm34 an34 cd34 ct34), sl34⟩) (c34 : PySem.W.codeIn K cd34 "_law_lines" = true) (k34 : PySem.W.keepIn K (.ref f34) = true)
    (a35 : PySem.W.nsIn K mainGlobals "_law_feeds" = some (some (.ref f35))) (l35 : K.lookup f35 = some ⟨oc35, od35, .func (PySem.W.fnOf "_law_feeds" "_law_feeds" (defArgs s__law_feeds) (defBody s__law_feeds) (defScope s__law_feeds) .none kV35 dc35 pm35 an35 cd35 ct35), sl35⟩) (c35 : PySem.W.codeIn K cd35 "_law_feeds" = true) (k35 : PySem.W.keepIn K (.ref f35) = true)
    (a36 : PySem.W.nsIn K mainGlobals "_law_sites" = some (some (.ref f36))) (l36 : K.lookup f36 = some ⟨oc36, od36, .func (PySem.W.fnOf "_law_sites" "_law_sites" (defArgs s__law_sites) (defBody s__law_sites) (defScope s__law_sites) .none kV36 dc36 pm36 an36 cd36 ct36), sl36⟩) (c36 : PySem.W.codeIn K cd36 "_law_sites" = true) (k36 : PySem.W.keepIn K (.ref f36) = true)
    (a37 : PySem.W.nsIn K mainGlobals "_law_book" = some (some (.ref f37))) (l37 : K.lookup f37 = some ⟨oc37, od37, .func (PySem.W.fnOf "_law_book" "_law_book" (defArgs s__law_book) (defBody s__law_book) (defScope s__law_book) .none kV37 dc37 pm37 an37 cd37 ct37), sl37⟩) (c37 : PySem.W.codeIn K cd37 "_law_book" = true) (k37 : PySem.W.keepIn K (.ref f37) = true)
    (a38 : PySem.W.nsIn K mainGlobals "_law_basic" = some (some (.ref f38))) (l38 : K.lookup f38 = some ⟨oc38, od38, .func (PySem.W.fnOf "_law_basic" "_law_basic" (defArgs s__law_basic) (defBody s__law_basic) (defScope s__law_basic) .none kV38 dc38 pm38 an38 cd38 ct38), sl38⟩) (c38 : PySem.W.codeIn K cd38 "_law_basic" = true) (k38 : PySem.W.keepIn K (.ref f38) = true)
    (a39 : PySem.W.nsIn K mainGlobals "_law_policy" = some (some (.ref f39))) (l39 : K.lookup f39 = some ⟨oc39, od39, .func (PySem.W.fnOf "_law_policy" "_law_policy" (defArgs s__law_policy) (defBody s__law_policy) (defScope s__law_policy) .none kV39 dc39 pm39 an39 cd39 ct39), sl39⟩) (c39 : PySem.W.codeIn K cd39 "_law_policy" = true) (k39 : PySem.W.keepIn K (.ref f39) = true)
    (a40 : PySem.W.nsIn K mainGlobals "_law_with_stewards" = some (some (.ref f40))) (l40 : K.lookup f40 = some ⟨oc40, od40, .func (PySem.W.fnOf "_law_with_stewards" "_law_with_stewards" (defArgs s__law_with_stewards) (defBody s__law_with_stewards) (defScope s__law_with_stewards) .none kV40 dc40 pm40 an40 cd40 ct40), sl40⟩) (c40 : PySem.W.codeIn K cd40 "_law_with_stewards" = true) (k40 : PySem.W.keepIn K (.ref f40) = true)
    (a41 : PySem.W.nsIn K mainGlobals "_law_kind" = some (some (.ref f41))) (l41 : K.lookup f41 = some ⟨oc41, od41, .func (PySem.W.fnOf "_law_kind" "_law_kind" (defArgs s__law_kind) (defBody s__law_kind) (defScope s__law_kind) .none kV41 dc41 pm41 an41 cd41 ct41), sl41⟩) (c41 : PySem.W.codeIn K cd41 "_law_kind" = true) (k41 : PySem.W.keepIn K (.ref f41) = true)
    (a42 : PySem.W.nsIn K mainGlobals "_law_some_seals" = some (some (.ref f42))) (l42 : K.lookup f42 = some ⟨oc42, od42, .func (PySem.W.fnOf "_law_some_seals" "_law_some_seals" (defArgs s__law_some_seals) (defBody s__law_some_seals) (defScope s__law_some_seals) .none kV42 dc42 pm42 an42 cd42 ct42), sl42⟩) (c42 : PySem.W.codeIn K cd42 "_law_some_seals" = true) (k42 : PySem.W.keepIn K (.ref f42) = true)
    (a43 : PySem.W.nsIn K mainGlobals "_law_notice" = some (some (.ref f43))) (l43 : K.lookup f43 = some ⟨oc43, od43, .func (PySem.W.fnOf "_law_notice" "_law_notice" (defArgs s__law_notice) (defBody s__law_notice) (defScope s__law_notice) .none kV43 dc43 pm43 an43 cd43 ct43), sl43⟩) (c43 : PySem.W.codeIn K cd43 "_law_notice" = true) (k43 : PySem.W.keepIn K (.ref f43) = true)
    (a44 : PySem.W.nsIn K mainGlobals "_law_id_text" = some (some (.ref f44))) (l44 : K.lookup f44 = some ⟨oc44, od44, .func (PySem.W.fnOf "_law_id_text" "_law_id_text" (defArgs s__law_id_text) (defBody s__law_id_text) (defScope s__law_id_text) .none kV44 dc44 pm44 an44 cd44 ct44), sl44⟩) (c44 : PySem.W.codeIn K cd44 "_law_id_text" = true) (k44 : PySem.W.keepIn K (.ref f44) = true)
    (a45 : PySem.W.nsIn K mainGlobals "_law_lacking" = some (some (.ref f45))) (l45 : K.lookup f45 = some ⟨oc45, od45, .func (PySem.W.fnOf "_law_lacking" "_law_lacking" (defArgs s__law_lacking) (defBody s__law_lacking) (defScope s__law_lacking) .none kV45 dc45 pm45 an45 cd45 ct45), sl45⟩) (c45 : PySem.W.codeIn K cd45 "_law_lacking" = true) (k45 : PySem.W.keepIn K (.ref f45) = true)
    (a46 : PySem.W.nsIn K mainGlobals "_law_submission_due" = some (some (.ref f46))) (l46 : K.lookup f46 = some ⟨oc46, od46, .func (PySem.W.fnOf "_law_submission_due" "_law_submission_due" (defArgs s__law_submission_due) (defBody s__law_submission_due) (defScope s__law_submission_due) .none kV46 dc46 pm46 an46 cd46 ct46), sl46⟩) (c46 : PySem.W.codeIn K cd46 "_law_submission_due" = true) (k46 : PySem.W.keepIn K (.ref f46) = true)
    (a47 : PySem.W.nsIn K mainGlobals "_law_submissions_right" = some (some (.ref f47))) (l47 : K.lookup f47 = some ⟨oc47, od47, .func (PySem.W.fnOf "_law_submissions_right" "_law_submissions_right" (defArgs s__law_submissions_right) (defBody s__law_submissions_right) (defScope s__law_submissions_right) .none kV47 dc47 pm47 an47 cd47 ct47), sl47⟩) (c47 : PySem.W.codeIn K cd47 "_law_submissions_right" = true) (k47 : PySem.W.keepIn K (.ref f47) = true)
    (a48 : PySem.W.nsIn K mainGlobals "_law_other_letters_right" = some (some (.ref f48))) (l48 : K.lookup f48 = some ⟨oc48, od48, .func (PySem.W.fnOf "_law_other_letters_right" "_law_other_letters_right" (defArgs s__law_other_letters_right) (defBody s__law_other_letters_right) (defScope s__law_other_letters_right) .none kV48 dc48 pm48 an48 cd48 ct48), sl48⟩) (c48 : PySem.W.codeIn K cd48 "_law_other_letters_right" = true) (k48 : PySem.W.keepIn K (.ref f48) = true)
    (a49 : PySem.W.nsIn K mainGlobals "law" = some (some (.ref f49))) (l49 : K.lookup f49 = some ⟨oc49, od49, .func (PySem.W.fnOf "law" "law" (defArgs s_law) (defBody s_law) (defScope s_law) .none kV49 dc49 pm49 an49 cd49 ct49), sl49⟩) (c49 : PySem.W.codeIn K cd49 "law" = true) (k49 : PySem.W.keepIn K (.ref f49) = true)
    (z_abs : PySem.W.nsIn K mainGlobals "abs" = some none)
    (z_bool : PySem.W.nsIn K mainGlobals "bool" = some none)
    (z_int : PySem.W.nsIn K mainGlobals "int" = some none)
    (z_isinstance : PySem.W.nsIn K mainGlobals "isinstance" = some none)
    (z_len : PySem.W.nsIn K mainGlobals "len" = some none)
    (z_list : PySem.W.nsIn K mainGlobals "list" = some none)
    (z_max : PySem.W.nsIn K mainGlobals "max" = some none)
    (z_min : PySem.W.nsIn K mainGlobals "min" = some none)
    (z_range : PySem.W.nsIn K mainGlobals "range" = some none)
    (z_reversed : PySem.W.nsIn K mainGlobals "reversed" = some none)
    (z_sorted : PySem.W.nsIn K mainGlobals "sorted" = some none)
    (z_str : PySem.W.nsIn K mainGlobals "str" = some none)
    (z_tuple : PySem.W.nsIn K mainGlobals "tuple" = some none) :
    ∃ fd : FuncData, (∀ (s : Shared) (v : Value), BindsTo s fd ⟨[v], []⟩ [("script", v)]) ∧ ∀ base : Heap, K.In base → base.Ns mainGlobals mg → FnOk l.prog w K mg base CX0 11 fa fd ["script"] (sp_law K) := by
  have e := hfa.symm.trans (PySem.W.mg_of X G a49)
  cases e
  have T : Tx mg := ⟨PySem.W.mg_none_of X G z_abs, PySem.W.mg_none_of X G z_bool, PySem.W.mg_none_of X G z_int, PySem.W.mg_none_of X G z_isinstance, PySem.W.mg_none_of X G z_len, PySem.W.mg_none_of X G z_list, PySem.W.mg_none_of X G z_max, PySem.W.mg_none_of X G z_min, PySem.W.mg_none_of X G z_range, PySem.W.mg_none_of X G z_reversed, PySem.W.mg_none_of X G z_sorted, PySem.W.mg_none_of X G z_str, PySem.W.mg_none_of X G z_tuple⟩
  refine ⟨PySem.W.fnOf "law" "law" (defArgs s_law) (defBody s_law) (defScope s_law) .none kV49 dc49 pm49 an49 cd49 ct49, fun s v => .of_eq rfl, fun base _ _ => ?_⟩
  have D_id_text : Df K mg "id_text" s_id_text ["id"] := ⟨f0, _, fun_mk (st := s_id_text) l0 c0 k0, PySem.W.mg_of X G a0, (fun_mk (st := s_id_text) l0 c0 k0).binds (ps := ["id"]) fun _ _ _ _ _ _ us hl => match us, hl with | [_], _ => rfl⟩
  have D_add_place : Df K mg "add_place" s_add_place ["glob", "places", "place"] := ⟨f1, _, fun_mk (st := s_add_place) l1 c1 k1, PySem.W.mg_of X G a1, (fun_mk (st := s_add_place) l1 c1 k1).binds (ps := ["glob", "places", "place"]) fun _ _ _ _ _ _ us hl => match us, hl with | [_, _, _], _ => rfl⟩
  have D_follows : Df K mg "follows" s_follows ["glob", "standing", "character"] := ⟨f2, _, fun_mk (st := s_follows) l2 c2 k2, PySem.W.mg_of X G a2, (fun_mk (st := s_follows) l2 c2 k2).binds (ps := ["glob", "standing", "character"]) fun _ _ _ _ _ _ us hl => match us, hl with | [_, _, _], _ => rfl⟩
  have D_standing : Df K mg "standing" s_standing ["glob", "beginning"] := ⟨f3, _, fun_mk (st := s_standing) l3 c3 k3, PySem.W.mg_of X G a3, (fun_mk (st := s_standing) l3 c3 k3).binds (ps := ["glob", "beginning"]) fun _ _ _ _ _ _ us hl => match us, hl with | [_, _], _ => rfl⟩
  have D_fits : Df K mg "fits" s_fits ["glob", "board"] := ⟨f4, _, fun_mk (st := s_fits) l4 c4 k4, PySem.W.mg_of X G a4, (fun_mk (st := s_fits) l4 c4 k4).binds (ps := ["glob", "board"]) fun _ _ _ _ _ _ us hl => match us, hl with | [_, _], _ => rfl⟩
  have D_items_of : Df K mg "items_of" s_items_of ["pattern"] := ⟨f5, _, fun_mk (st := s_items_of) l5 c5 k5, PySem.W.mg_of X G a5, (fun_mk (st := s_items_of) l5 c5 k5).binds (ps := ["pattern"]) fun _ _ _ _ _ _ us hl => match us, hl with | [_], _ => rfl⟩
  have D_lets : Df K mg "lets" s_lets ["pattern", "board"] := ⟨f6, _, fun_mk (st := s_lets) l6 c6 k6, PySem.W.mg_of X G a6, (fun_mk (st := s_lets) l6 c6 k6).binds (ps := ["pattern", "board"]) fun _ _ _ _ _ _ us hl => match us, hl with | [_, _], _ => rfl⟩
  have D_steward_of : Df K mg "steward_of" s_steward_of ["book", "board"] := ⟨f7, _, fun_mk (st := s_steward_of) l7 c7 k7, PySem.W.mg_of X G a7, (fun_mk (st := s_steward_of) l7 c7 k7).binds (ps := ["book", "board"]) fun _ _ _ _ _ _ us hl => match us, hl with | [_, _], _ => rfl⟩
  have D_needed_seals : Df K mg "needed_seals" s_needed_seals ["book", "boards"] := ⟨f8, _, fun_mk (st := s_needed_seals) l8 c8 k8, PySem.W.mg_of X G a8, (fun_mk (st := s_needed_seals) l8 c8 k8).binds (ps := ["book", "boards"]) fun _ _ _ _ _ _ us hl => match us, hl with | [_, _], _ => rfl⟩
  have D_missing_seals : Df K mg "missing_seals" s_missing_seals ["book", "notice"] := ⟨f9, _, fun_mk (st := s_missing_seals) l9 c9 k9, PySem.W.mg_of X G a9, (fun_mk (st := s_missing_seals) l9 c9 k9).binds (ps := ["book", "notice"]) fun _ _ _ _ _ _ us hl => match us, hl with | [_, _], _ => rfl⟩
  have D_submitted_to : Df K mg "submitted_to" s_submitted_to ["notice", "goal", "needed", "seen"] := ⟨f10, _, fun_mk (st := s_submitted_to) l10 c10 k10, PySem.W.mg_of X G a10, (fun_mk (st := s_submitted_to) l10 c10 k10).binds (ps := ["notice", "goal", "needed", "seen"]) fun _ _ _ _ _ _ us hl => match us, hl with | [_, _, _, _], _ => rfl⟩
  have D_submission : Df K mg "submission" s_submission ["book", "notice"] := ⟨f11, _, fun_mk (st := s_submission) l11 c11 k11, PySem.W.mg_of X G a11, (fun_mk (st := s_submission) l11 c11 k11).binds (ps := ["book", "notice"]) fun _ _ _ _ _ _ us hl => match us, hl with | [_, _], _ => rfl⟩
  have D_note_to : Df K mg "note_to" s_note_to ["notice", "verdict"] := ⟨f12, _, fun_mk (st := s_note_to) l12 c12 k12, PySem.W.mg_of X G a12, (fun_mk (st := s_note_to) l12 c12 k12).binds (ps := ["notice", "verdict"]) fun _ _ _ _ _ _ us hl => match us, hl with | [_, _], _ => rfl⟩
  have D_copy_to : Df K mg "copy_to" s_copy_to ["notice", "list_address", "member"] := ⟨f13, _, fun_mk (st := s_copy_to) l13 c13 k13, PySem.W.mg_of X G a13, (fun_mk (st := s_copy_to) l13 c13 k13).binds (ps := ["notice", "list_address", "member"]) fun _ _ _ _ _ _ us hl => match us, hl with | [_, _, _], _ => rfl⟩
  have D__law_mix : Df K mg "_law_mix" s__law_mix ["seed", "turn"] := ⟨f14, _, fun_mk (st := s__law_mix) l14 c14 k14, PySem.W.mg_of X G a14, (fun_mk (st := s__law_mix) l14 c14 k14).binds (ps := ["seed", "turn"]) fun _ _ _ _ _ _ us hl => match us, hl with | [_, _], _ => rfl⟩
  have D__law_source : Df K mg "_law_source" s__law_source ["script"] := ⟨f15, _, fun_mk (st := s__law_source) l15 c15 k15, PySem.W.mg_of X G a15, (fun_mk (st := s__law_source) l15 c15 k15).binds (ps := ["script"]) fun _ _ _ _ _ _ us hl => match us, hl with | [_], _ => rfl⟩
  have D__law_draw : Df K mg "_law_draw" s__law_draw ["source", "many"] := ⟨f16, _, fun_mk (st := s__law_draw) l16 c16 k16, PySem.W.mg_of X G a16, (fun_mk (st := s__law_draw) l16 c16 k16).binds (ps := ["source", "many"]) fun _ _ _ _ _ _ us hl => match us, hl with | [_, _], _ => rfl⟩
  have D__law_pick : Df K mg "_law_pick" s__law_pick ["source", "row"] := ⟨f17, _, fun_mk (st := s__law_pick) l17 c17 k17, PySem.W.mg_of X G a17, (fun_mk (st := s__law_pick) l17 c17 k17).binds (ps := ["source", "row"]) fun _ _ _ _ _ _ us hl => match us, hl with | [_, _], _ => rfl⟩
  have D__law_shuffled : Df K mg "_law_shuffled" s__law_shuffled ["source", "row"] := ⟨f18, _, fun_mk (st := s__law_shuffled) l18 c18 k18, PySem.W.mg_of X G a18, (fun_mk (st := s__law_shuffled) l18 c18 k18).binds (ps := ["source", "row"]) fun _ _ _ _ _ _ us hl => match us, hl with | [_, _], _ => rfl⟩
  have D__law_new_name : Df K mg "_law_new_name" s__law_new_name ["source", "used"] := ⟨f19, _, fun_mk (st := s__law_new_name) l19 c19 k19, PySem.W.mg_of X G a19, (fun_mk (st := s__law_new_name) l19 c19 k19).binds (ps := ["source", "used"]) fun _ _ _ _ _ _ us hl => match us, hl with | [_, _], _ => rfl⟩
  have D__law_names : Df K mg "_law_names" s__law_names ["source", "many"] := ⟨f20, _, fun_mk (st := s__law_names) l20 c20 k20, PySem.W.mg_of X G a20, (fun_mk (st := s__law_names) l20 c20 k20).binds (ps := ["source", "many"]) fun _ _ _ _ _ _ us hl => match us, hl with | [_, _], _ => rfl⟩
  have D__law_row : Df K mg "_law_row" s__law_row ["source", "size"] := ⟨f21, _, fun_mk (st := s__law_row) l21 c21 k21, PySem.W.mg_of X G a21, (fun_mk (st := s__law_row) l21 c21 k21).binds (ps := ["source", "size"]) fun _ _ _ _ _ _ us hl => match us, hl with | [_, _], _ => rfl⟩
  have D__law_words : Df K mg "_law_words" s__law_words ["source"] := ⟨f22, _, fun_mk (st := s__law_words) l22 c22 k22, PySem.W.mg_of X G a22, (fun_mk (st := s__law_words) l22 c22 k22).binds (ps := ["source"]) fun _ _ _ _ _ _ us hl => match us, hl with | [_], _ => rfl⟩
  have D__law_board : Df K mg "_law_board" s__law_board ["source", "words"] := ⟨f23, _, fun_mk (st := s__law_board) l23 c23 k23, PySem.W.mg_of X G a23, (fun_mk (st := s__law_board) l23 c23 k23).binds (ps := ["source", "words"]) fun _ _ _ _ _ _ us hl => match us, hl with | [_, _], _ => rfl⟩
  have D__law_boards : Df K mg "_law_boards" s__law_boards ["source", "words", "most"] := ⟨f24, _, fun_mk (st := s__law_boards) l24 c24 k24, PySem.W.mg_of X G a24, (fun_mk (st := s__law_boards) l24 c24 k24).binds (ps := ["source", "words", "most"]) fun _ _ _ _ _ _ us hl => match us, hl with | [_, _, _], _ => rfl⟩
  have D__law_glob : Df K mg "_law_glob" s__law_glob ["source", "words"] := ⟨f25, _, fun_mk (st := s__law_glob) l25 c25 k25, PySem.W.mg_of X G a25, (fun_mk (st := s__law_glob) l25 c25 k25).binds (ps := ["source", "words"]) fun _ _ _ _ _ _ us hl => match us, hl with | [_, _], _ => rfl⟩
  have D__law_pattern : Df K mg "_law_pattern" s__law_pattern ["source", "words"] := ⟨f26, _, fun_mk (st := s__law_pattern) l26 c26 k26, PySem.W.mg_of X G a26, (fun_mk (st := s__law_pattern) l26 c26 k26).binds (ps := ["source", "words"]) fun _ _ _ _ _ _ us hl => match us, hl with | [_, _], _ => rfl⟩
  have D__law_fits : Df K mg "_law_fits" s__law_fits ["glob", "board"] := ⟨f27, _, fun_mk (st := s__law_fits) l27 c27 k27, PySem.W.mg_of X G a27, (fun_mk (st := s__law_fits) l27 c27 k27).binds (ps := ["glob", "board"]) fun _ _ _ _ _ _ us hl => match us, hl with | [_, _], _ => rfl⟩
  have D__law_lets : Df K mg "_law_lets" s__law_lets ["pattern", "board"] := ⟨f28, _, fun_mk (st := s__law_lets) l28 c28 k28, PySem.W.mg_of X G a28, (fun_mk (st := s__law_lets) l28 c28 k28).binds (ps := ["pattern", "board"]) fun _ _ _ _ _ _ us hl => match us, hl with | [_, _], _ => rfl⟩
  have D__law_steward : Df K mg "_law_steward" s__law_steward ["book", "board"] := ⟨f29, _, fun_mk (st := s__law_steward) l29 c29 k29, PySem.W.mg_of X G a29, (fun_mk (st := s__law_steward) l29 c29 k29).binds (ps := ["book", "board"]) fun _ _ _ _ _ _ us hl => match us, hl with | [_, _], _ => rfl⟩
  have D__law_needed : Df K mg "_law_needed" s__law_needed ["book", "boards"] := ⟨f30, _, fun_mk (st := s__law_needed) l30 c30 k30, PySem.W.mg_of X G a30, (fun_mk (st := s__law_needed) l30 c30 k30).binds (ps := ["book", "boards"]) fun _ _ _ _ _ _ us hl => match us, hl with | [_, _], _ => rfl⟩
  have D__law_is_int : Df K mg "_law_is_int" s__law_is_int ["value"] := ⟨f31, _, fun_mk (st := s__law_is_int) l31 c31 k31, PySem.W.mg_of X G a31, (fun_mk (st := s__law_is_int) l31 c31 k31).binds (ps := ["value"]) fun _ _ _ _ _ _ us hl => match us, hl with | [_], _ => rfl⟩
  have D__law_same : Df K mg "_law_same" s__law_same ["actual", "due"] := ⟨f32, _, fun_mk (st := s__law_same) l32 c32 k32, PySem.W.mg_of X G a32, (fun_mk (st := s__law_same) l32 c32 k32).binds (ps := ["actual", "due"]) fun _ _ _ _ _ _ us hl => match us, hl with | [_, _], _ => rfl⟩
  have D__law_body : Df K mg "_law_body" s__law_body ["source"] := ⟨f33, _, fun_mk (st := s__law_body) l33 c33 k33, PySem.W.mg_of X G a33, (fun_mk (st := s__law_body) l33 c33 k33).binds (ps := ["source"]) fun _ _ _ _ _ _ us hl => match us, hl with | [_], _ => rfl⟩
  have D__law_lines : Df K mg "_law_lines" s__law_lines ["source", "names"] := ⟨f34, _, fun_mk (st := s__law_lines) l34 c34 k34, PySem.W.mg_of X G a34, (fun_mk (st := s__law_lines) l34 c34 k34).binds (ps := ["source", "names"]) fun _ _ _ _ _ _ us hl => match us, hl with | [_, _], _ => rfl⟩
  have D__law_feeds : Df K mg "_law_feeds" s__law_feeds ["source", "lines", "words", "wide"] := ⟨f35, _, fun_mk (st := s__law_feeds) l35 c35 k35, PySem.W.mg_of X G a35, (fun_mk (st := s__law_feeds) l35 c35 k35).binds (ps := ["source", "lines", "words", "wide"]) fun _ _ _ _ _ _ us hl => match us, hl with | [_, _, _, _], _ => rfl⟩
  have D__law_sites : Df K mg "_law_sites" s__law_sites ["source", "names", "words", "window", "offsets"] := ⟨f36, _, fun_mk (st := s__law_sites) l36 c36 k36, PySem.W.mg_of X G a36, (fun_mk (st := s__law_sites) l36 c36 k36).binds (ps := ["source", "names", "words", "window", "offsets"]) fun _ _ _ _ _ _ us hl => match us, hl with | [_, _, _, _, _], _ => rfl⟩
  have D__law_book : Df K mg "_law_book" s__law_book ["source", "many", "words"] := ⟨f37, _, fun_mk (st := s__law_book) l37 c37 k37, PySem.W.mg_of X G a37, (fun_mk (st := s__law_book) l37 c37 k37).binds (ps := ["source", "many", "words"]) fun _ _ _ _ _ _ us hl => match us, hl with | [_, _, _], _ => rfl⟩
  have D__law_basic : Df K mg "_law_basic" s__law_basic ["source", "words", "names", "addresses"] := ⟨f38, _, fun_mk (st := s__law_basic) l38 c38 k38, PySem.W.mg_of X G a38, (fun_mk (st := s__law_basic) l38 c38 k38).binds (ps := ["source", "words", "names", "addresses"]) fun _ _ _ _ _ _ us hl => match us, hl with | [_, _, _, _], _ => rfl⟩
  have D__law_policy : Df K mg "_law_policy" s__law_policy ["source", "words", "names", "addresses"] := ⟨f39, _, fun_mk (st := s__law_policy) l39 c39 k39, PySem.W.mg_of X G a39, (fun_mk (st := s__law_policy) l39 c39 k39).binds (ps := ["source", "words", "names", "addresses"]) fun _ _ _ _ _ _ us hl => match us, hl with | [_, _, _, _], _ => rfl⟩
  have D__law_with_stewards : Df K mg "_law_with_stewards" s__law_with_stewards ["source", "book", "words", "most"] := ⟨f40, _, fun_mk (st := s__law_with_stewards) l40 c40 k40, PySem.W.mg_of X G a40, (fun_mk (st := s__law_with_stewards) l40 c40 k40).binds (ps := ["source", "book", "words", "most"]) fun _ _ _ _ _ _ us hl => match us, hl with | [_, _, _, _], _ => rfl⟩
  have D__law_kind : Df K mg "_law_kind" s__law_kind ["source", "other"] := ⟨f41, _, fun_mk (st := s__law_kind) l41 c41 k41, PySem.W.mg_of X G a41, (fun_mk (st := s__law_kind) l41 c41 k41).binds (ps := ["source", "other"]) fun _ _ _ _ _ _ us hl => match us, hl with | [_, _], _ => rfl⟩
  have D__law_some_seals : Df K mg "_law_some_seals" s__law_some_seals ["source", "book", "boards"] := ⟨f42, _, fun_mk (st := s__law_some_seals) l42 c42 k42, PySem.W.mg_of X G a42, (fun_mk (st := s__law_some_seals) l42 c42 k42).binds (ps := ["source", "book", "boards"]) fun _ _ _ _ _ _ us hl => match us, hl with | [_, _, _], _ => rfl⟩
  have D__law_notice : Df K mg "_law_notice" s__law_notice ["source", "book", "words"] := ⟨f43, _, fun_mk (st := s__law_notice) l43 c43 k43, PySem.W.mg_of X G a43, (fun_mk (st := s__law_notice) l43 c43 k43).binds (ps := ["source", "book", "words"]) fun _ _ _ _ _ _ us hl => match us, hl with | [_, _, _], _ => rfl⟩
  have D__law_id_text : Df K mg "_law_id_text" s__law_id_text ["notice"] := ⟨f44, _, fun_mk (st := s__law_id_text) l44 c44 k44, PySem.W.mg_of X G a44, (fun_mk (st := s__law_id_text) l44 c44 k44).binds (ps := ["notice"]) fun _ _ _ _ _ _ us hl => match us, hl with | [_], _ => rfl⟩
  have D__law_lacking : Df K mg "_law_lacking" s__law_lacking ["book", "notice"] := ⟨f45, _, fun_mk (st := s__law_lacking) l45 c45 k45, PySem.W.mg_of X G a45, (fun_mk (st := s__law_lacking) l45 c45 k45).binds (ps := ["book", "notice"]) fun _ _ _ _ _ _ us hl => match us, hl with | [_, _], _ => rfl⟩
  have D__law_submission_due : Df K mg "_law_submission_due" s__law_submission_due ["book", "notice"] := ⟨f46, _, fun_mk (st := s__law_submission_due) l46 c46 k46, PySem.W.mg_of X G a46, (fun_mk (st := s__law_submission_due) l46 c46 k46).binds (ps := ["book", "notice"]) fun _ _ _ _ _ _ us hl => match us, hl with | [_, _], _ => rfl⟩
  have D__law_submissions_right : Df K mg "_law_submissions_right" s__law_submissions_right ["source", "book", "other", "notice"] := ⟨f47, _, fun_mk (st := s__law_submissions_right) l47 c47 k47, PySem.W.mg_of X G a47, (fun_mk (st := s__law_submissions_right) l47 c47 k47).binds (ps := ["source", "book", "other", "notice"]) fun _ _ _ _ _ _ us hl => match us, hl with | [_, _, _, _], _ => rfl⟩
  have D__law_other_letters_right : Df K mg "_law_other_letters_right" s__law_other_letters_right ["notice", "said", "home", "member"] := ⟨f48, _, fun_mk (st := s__law_other_letters_right) l48 c48 k48, PySem.W.mg_of X G a48, (fun_mk (st := s__law_other_letters_right) l48 c48 k48).binds (ps := ["notice", "said", "home", "member"]) fun _ _ _ _ _ _ us hl => match us, hl with | [_, _, _, _], _ => rfl⟩
  have C__law_mix := ok__law_mix (P := l.prog) (w := w) (base := base) D__law_mix T 
  have C__law_draw := ok__law_draw (P := l.prog) (w := w) (base := base) D__law_draw T C__law_mix
  have C__law_pick := ok__law_pick (P := l.prog) (w := w) (base := base) D__law_pick T C__law_draw
  have C__law_board := ok__law_board (P := l.prog) (w := w) (base := base) D__law_board T C__law_draw C__law_pick
  have C__law_glob := ok__law_glob (P := l.prog) (w := w) (base := base) D__law_glob T C__law_board C__law_pick
  have C__law_pattern := ok__law_pattern (P := l.prog) (w := w) (base := base) D__law_pattern T C__law_draw C__law_glob
  have C__law_shuffled := ok__law_shuffled (P := l.prog) (w := w) (base := base) D__law_shuffled T C__law_draw
  have C__law_feeds := ok__law_feeds (P := l.prog) (w := w) (base := base) D__law_feeds T C__law_draw C__law_pattern C__law_shuffled
  have C__law_lines := ok__law_lines (P := l.prog) (w := w) (base := base) D__law_lines T C__law_draw C__law_pick
  have C__law_new_name := ok__law_new_name (P := l.prog) (w := w) (base := base) D__law_new_name T C__law_draw
  have C__law_names := ok__law_names (P := l.prog) (w := w) (base := base) D__law_names T C__law_new_name
  have C__law_sites := ok__law_sites (P := l.prog) (w := w) (base := base) D__law_sites T C__law_draw C__law_pattern
  have C__law_book := ok__law_book (P := l.prog) (w := w) (base := base) D__law_book T C__law_draw C__law_feeds C__law_lines C__law_names C__law_sites
  have C__law_boards := ok__law_boards (P := l.prog) (w := w) (base := base) D__law_boards T C__law_board C__law_draw
  have C__law_row := ok__law_row (P := l.prog) (w := w) (base := base) D__law_row T C__law_draw
  have C__law_body := ok__law_body (P := l.prog) (w := w) (base := base) D__law_body T C__law_draw C__law_row
  have C__law_kind := ok__law_kind (P := l.prog) (w := w) (base := base) D__law_kind T C__law_draw
  have C__law_fits := ok__law_fits (P := l.prog) (w := w) (base := base) D__law_fits T 
  have C__law_lets := ok__law_lets (P := l.prog) (w := w) (base := base) D__law_lets T C__law_fits
  have C__law_steward := ok__law_steward (P := l.prog) (w := w) (base := base) D__law_steward T C__law_lets
  have C__law_needed := ok__law_needed (P := l.prog) (w := w) (base := base) D__law_needed T C__law_steward
  have C__law_some_seals := ok__law_some_seals (P := l.prog) (w := w) (base := base) D__law_some_seals T C__law_draw C__law_needed C__law_shuffled
  have C__law_notice := ok__law_notice (P := l.prog) (w := w) (base := base) D__law_notice T C__law_boards C__law_body C__law_draw C__law_kind C__law_pick C__law_row C__law_some_seals
  have C__law_id_text := ok__law_id_text (P := l.prog) (w := w) (base := base) D__law_id_text T 
  have C__law_is_int := ok__law_is_int (P := l.prog) (w := w) (base := base) D__law_is_int T 
  have C__law_same := ok__law_same (P := l.prog) (w := w) (base := base) D__law_same T C__law_is_int 8
  have C_id_text := ok_id_text (P := l.prog) (w := w) (base := base) D_id_text T 
  have C_copy_to := ok_copy_to (P := l.prog) (w := w) (base := base) D_copy_to T C_id_text
  have C_note_to := ok_note_to (P := l.prog) (w := w) (base := base) D_note_to T C_id_text
  have C__law_other_letters_right := ok__law_other_letters_right (P := l.prog) (w := w) (base := base) D__law_other_letters_right T C__law_id_text C__law_same C_copy_to C_note_to
  have C__law_source := ok__law_source (P := l.prog) (w := w) (base := base) D__law_source T C__law_mix
  have C__law_lacking := ok__law_lacking (P := l.prog) (w := w) (base := base) D__law_lacking T C__law_needed
  have C__law_submission_due := ok__law_submission_due (P := l.prog) (w := w) (base := base) D__law_submission_due T C__law_id_text C__law_lacking
  have C_add_place := ok_add_place (P := l.prog) (w := w) (base := base) D_add_place T 
  have C_follows := ok_follows (P := l.prog) (w := w) (base := base) D_follows T C_add_place
  have C_standing := ok_standing (P := l.prog) (w := w) (base := base) D_standing T C_add_place C_follows
  have C_fits := ok_fits (P := l.prog) (w := w) (base := base) D_fits T C_standing
  have C_items_of := ok_items_of (P := l.prog) (w := w) (base := base) D_items_of T 
  have C_lets := ok_lets (P := l.prog) (w := w) (base := base) D_lets T C_fits C_items_of
  have C_steward_of := ok_steward_of (P := l.prog) (w := w) (base := base) D_steward_of T C_lets
  have C_needed_seals := ok_needed_seals (P := l.prog) (w := w) (base := base) D_needed_seals T C_steward_of
  have C_missing_seals := ok_missing_seals (P := l.prog) (w := w) (base := base) D_missing_seals T C_needed_seals
  have C_submitted_to := ok_submitted_to (P := l.prog) (w := w) (base := base) D_submitted_to T C_id_text
  have C_submission := ok_submission (P := l.prog) (w := w) (base := base) D_submission T C_missing_seals C_submitted_to
  have C__law_submissions_right := ok__law_submissions_right (P := l.prog) (w := w) (base := base) D__law_submissions_right T C__law_lacking C__law_pick C__law_same C__law_submission_due C_submission
  have C__law_basic := ok__law_basic (P := l.prog) (w := w) (base := base) D__law_basic T C__law_draw C__law_pattern C__law_pick
  have C__law_policy := ok__law_policy (P := l.prog) (w := w) (base := base) D__law_policy T C__law_basic C__law_draw C__law_pick
  have C__law_with_stewards := ok__law_with_stewards (P := l.prog) (w := w) (base := base) D__law_with_stewards T C__law_draw C__law_pattern C__law_pick C__law_policy
  have C__law_words := ok__law_words (P := l.prog) (w := w) (base := base) D__law_words T C__law_draw C__law_names
  exact ok_law (fun_mk (st := s_law) l49 c49 k49) T C__law_book C__law_draw C__law_notice C__law_other_letters_right C__law_pick C__law_shuffled C__law_source C__law_submissions_right C__law_with_stewards C__law_words
theorem walk {l : PySem.W.OpenLaw} {q : Program} {loose : List Str} {XP : (Str → Option Value) → Heap → Prop} {YP : World → Heap → Prop} {d : DefRec} {K : Params → PySem.W.Frag} (hn : l.most = some 63) (hdf : d.params.defaults = [])
    (hY : ∀ (w : World) (h : Heap), YP w h → (K w.params).In h)
    (F : ∀ (w : World) (mg : Str → Option Value) (fa : Addr) (h : Heap), (K w.params).In h → h.Ns mainGlobals mg → mg d.name = some (.ref fa) →
      ∃ fd : FuncData, (∀ (s : Shared) (u : Value), BindsTo s fd ⟨[u], []⟩ [("script", u)]) ∧ ∀ base : Heap, (K w.params).In base → base.Ns mainGlobals mg → FnOk l.prog w (K w.params) mg base CX0 11 fa fd ["script"] (sp_law (K w.params))) :
    PySem.W.WalkO q loose XP YP l.row.toRowW d [] (fun f vs => PySem.call f vs) :=
  L2.walk_of (n := 63) (k := 11) (x := "script") (CX := fun _ => CX0) (sp := fun w => sp_law (K w.params)) hn (by decide) hdf ⟨rfl, by decide, by decide⟩ hY F (fun _ _ a ns hl _ hS => ⟨a, ns, rfl, hS, hl, fun _ => rfl⟩) fun _ _ _ _ _ z => z
end Z
open PySem PySem.W PyProof.Rows in
set_option maxRecDepth 100000 in
set_option maxHeartbeats 0 in
theorem PySem.Challenge.cw_criermoot_k54_letters_holds : PySem.Challenge.rw_criermoot_k54_letters.Holds := by
  w_on; o_law; k_head; (case hw => w_witness2)
  k_fill
  refine Z.walk (l := PySem.Challenge.rw_criermoot_k54_letters) rfl rfl (fun w h Y => PySem.W.kIn_of Y) ?F
  case F =>
    intro w mg fa h KX G hmg
    refine' Z.all_mk KX G hmg ?a0 ?l0 ?c0 ?k0 ?a1 ?l1 ?c1 ?k1 ?a2 ?l2 ?c2 ?k2 ?a3 ?l3 ?c3 ?k3 ?a4 ?l4 ?c4 ?k4 ?a5 ?l5 ?c5 ?k5 ?a6 ?l6 ?c6 ?k6 ?a7 ?l7 ?c7 ?k7 ?a8 ?l8 ?c8 ?k8 ?a9 ?l9 ?c9 ?k9 ?a10 ?l10 ?c10 ?k10 ?a11 ?l11 ?c11 ?k11 ?a12 ?l12 ?c12 ?k12 ?a13 ?l13 ?c13 ?k13 ?a14 ?l14 ?c14 ?k14 ?a15 ?l15 ?c15 ?k15 ?a16 ?l16 ?c16 ?k16 ?a17 ?l17 ?c17 ?k17 ?a18 ?l18 ?c18 ?k18 ?a19 ?l19 ?c19 ?k19 ?a20 ?l20 ?c20 ?k20 ?a21 ?l21 ?c21 ?k21 ?a22 ?l22 ?c22 ?k22 ?a23 ?l23 ?c23 ?k23 ?a24 ?l24 ?c24 ?k24 ?a25 ?l25 ?c25 ?k25 ?a26 ?l26 ?c26 ?k26 ?a27 ?l27 ?c27 ?k27 ?a28 ?l28 ?c28 ?k28 ?a29 ?l29 ?c29 ?k29 ?a30 ?l30 ?c30 ?k30 ?a31 ?l31 ?c31 ?k31 ?a32 ?l32 ?c32 ?k32 ?a33 ?l33 ?c33 ?k33 ?a34 ?l34 ?c34 ?k34 ?a35 ?l35 ?c35 ?k35 ?a36 ?l36 ?c36 ?k36 ?a37 ?l37 ?c37 ?k37 ?a38 ?l38 ?c38 ?k38 ?a39 ?l39 ?c39 ?k39 ?a40 ?l40 ?c40 ?k40 ?a41 ?l41 ?c41 ?k41 ?a42 ?l42 ?c42 ?k42 ?a43 ?l43 ?c43 ?k43 ?a44 ?l44 ?c44 ?k44 ?a45 ?l45 ?c45 ?k45 ?a46 ?l46 ?c46 ?k46 ?a47 ?l47 ?c47 ?k47 ?a48 ?l48 ?c48 ?k48 ?a49 ?l49 ?c49 ?k49 ?z_abs ?z_bool ?z_int ?z_isinstance ?z_len ?z_list ?z_max ?z_min ?z_range ?z_reversed ?z_sorted ?z_str ?z_tuple
    (case a0 => k_is)
    (case l0 => k_is)
    (case c0 => k_is)
    (case k0 => k_is)
    (case a1 => k_is)
    (case l1 => k_is)
    (case c1 => k_is)
    (case k1 => k_is)
    (case a2 => k_is)
    (case l2 => k_is)
    (case c2 => k_is)
    (case k2 => k_is)
    (case a3 => k_is)
    (case l3 => k_is)
    (case c3 => k_is)
    (case k3 => k_is)
    (case a4 => k_is)
    (case l4 => k_is)
    (case c4 => k_is)
    (case k4 => k_is)
    (case a5 => k_is)
    (case l5 => k_is)
    (case c5 => k_is)
    (case k5 => k_is)
    (case a6 => k_is)
    (case l6 => k_is)
    (case c6 => k_is)
    (case k6 => k_is)
    (case a7 => k_is)
    (case l7 => k_is)
    (case c7 => k_is)
    (case k7 => k_is)
    (case a8 => k_is)
    (case l8 => k_is)
    (case c8 => k_is)
    (case k8 => k_is)
    (case a9 => k_is)
    (case l9 => k_is)
    (case c9 => k_is)
    (case k9 => k_is)
    (case a10 => k_is)
    (case l10 => k_is)
    (case c10 => k_is)
    (case k10 => k_is)
    (case a11 => k_is)
    (case l11 => k_is)
    (case c11 => k_is)
    (case k11 => k_is)
    (case a12 => k_is)
    (case l12 => k_is)
    (case c12 => k_is)
    (case k12 => k_is)
    (case a13 => k_is)
    (case l13 => k_is)
    (case c13 => k_is)
    (case k13 => k_is)
    (case a14 => k_is)
    (case l14 => k_is)
    (case c14 => k_is)
    (case k14 => k_is)
    (case a15 => k_is)
    (case l15 => k_is)
    (case c15 => k_is)
    (case k15 => k_is)
    (case a16 => k_is)
    (case l16 => k_is)
    (case c16 => k_is)
    (case k16 => k_is)
    (case a17 => k_is)
    (case l17 => k_is)
    (case c17 => k_is)
    (case k17 => k_is)
    (case a18 => k_is)
    (case l18 => k_is)
    (case c18 => k_is)
    (case k18 => k_is)
    (case a19 => k_is)
    (case l19 => k_is)
    (case c19 => k_is)
    (case k19 => k_is)
    (case a20 => k_is)
    (case l20 => k_is)
    (case c20 => k_is)
    (case k20 => k_is)
    (case a21 => k_is)
    (case l21 => k_is)
    (case c21 => k_is)
    (case k21 => k_is)
    (case a22 => k_is)
    (case l22 => k_is)
    (case c22 => k_is)
    (case k22 => k_is)
    (case a23 => k_is)
    (case l23 => k_is)
    (case c23 => k_is)
    (case k23 => k_is)
    (case a24 => k_is)
    (case l24 => k_is)
    (case c24 => k_is)
    (case k24 => k_is)
    (case a25 => k_is)
    (case l25 => k_is)
    (case c25 => k_is)
    (case k25 => k_is)
    (case a26 => k_is)
    (case l26 => k_is)
    (case c26 => k_is)
    (case k26 => k_is)
    (case a27 => k_is)
    (case l27 => k_is)
    (case c27 => k_is)
    (case k27 => k_is)
    (case a28 => k_is)
    (case l28 => k_is)
    (case c28 => k_is)
    (case k28 => k_is)
    (case a29 => k_is)
    (case l29 => k_is)
    (case c29 => k_is)
    (case k29 => k_is)
    (case a30 => k_is)
    (case l30 => k_is)
    (case c30 => k_is)
    (case k30 => k_is)
    (case a31 => k_is)
    (case l31 => k_is)
    (case c31 => k_is)
    (case k31 => k_is)
    (case a32 => k_is)
    (case l32 => k_is)
    (case c32 => k_is)
    (case k32 => k_is)
    (case a33 => k_is)
    (case l33 => k_is)
    (case c33 => k_is)
    (case k33 => k_is)
    (case a34 => k_is)
    (case l34 => k_is)
    (case c34 => k_is)
    (case k34 => k_is)
    (case a35 => k_is)
    (case l35 => k_is)
    (case c35 => k_is)
    (case k35 => k_is)
    (case a36 => k_is)
    (case l36 => k_is)
    (case c36 => k_is)
    (case k36 => k_is)
    (case a37 => k_is)
    (case l37 => k_is)
    (case c37 => k_is)
    (case k37 => k_is)
    (case a38 => k_is)
    (case l38 => k_is)
    (case c38 => k_is)
    (case k38 => k_is)
    (case a39 => k_is)
    (case l39 => k_is)
    (case c39 => k_is)
    (case k39 => k_is)
    (case a40 => k_is)
    (case l40 => k_is)
    (case c40 => k_is)
    (case k40 => k_is)
    (case a41 => k_is)
    (case l41 => k_is)
    (case c41 => k_is)
    (case k41 => k_is)
    (case a42 => k_is)
    (case l42 => k_is)
    (case c42 => k_is)
    (case k42 => k_is)
    (case a43 => k_is)
    (case l43 => k_is)
    (case c43 => k_is)
    (case k43 => k_is)
    (case a44 => k_is)
    (case l44 => k_is)
    (case c44 => k_is)
    (case k44 => k_is)
    (case a45 => k_is)
    (case l45 => k_is)
    (case c45 => k_is)
    (case k45 => k_is)
    (case a46 => k_is)
    (case l46 => k_is)
    (case c46 => k_is)
    (case k46 => k_is)
    (case a47 => k_is)
    (case l47 => k_is)
    (case c47 => k_is)
    (case k47 => k_is)
    (case a48 => k_is)
    (case l48 => k_is)
    (case c48 => k_is)
    (case k48 => k_is)
    (case a49 => k_is)
    (case l49 => k_is)
    (case c49 => k_is)
    (case k49 => k_is)
    (case z_abs => k_is)
    (case z_bool => k_is)
    (case z_int => k_is)
    (case z_isinstance => k_is)
    (case z_len => k_is)
    (case z_list => k_is)
    (case z_max => k_is)
    (case z_min => k_is)
    (case z_range => k_is)
    (case z_reversed => k_is)
    (case z_sorted => k_is)
    (case z_str => k_is)
    (case z_tuple => k_is)
