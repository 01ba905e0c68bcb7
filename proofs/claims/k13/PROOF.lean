import PyProof.Rows.All
import Wide.All
import OpenK.AllK
import Wide.FinOn
import HandS.Base
import HandS.Call
import HandS.List
import HandS.Comp
import HandS.Ends
import HandS.Dict
import HandS.Iter
import HandS.Text
import HandS.Words
import HandS.WordsList
import HandS.Conv
import HandS.Codes
import HandS.IsInst
import HandS.Replace
import HandS.StrMore
import HandS.TupAny
import HandS.WideBits
import HandS.ForExc
import HandS.ExcInit
import HandS.ExcField
import HandS.ExcIs
import KE.KExcIs
import KE.GoesEnum
import KE.GoesMore
import HandS.Rev
import PySem.Challenge.RW_criermoot_k13_patterns_read
set_option Elab.async false
set_option linter.all false
set_option maxRecDepth 100000
namespace Z
open PySem L2

/-! ### heaps -/
/-- all that was tracked is as it was, but for what stands at s -/
def Ext (s : Addr) (H H' : Hp) : Prop := ∀ b o, b ≠ s → H b = some o → H' b = some o
theorem Ext.refl (s : Addr) (H : Hp) : Ext s H H := fun _ _ _ h => h
theorem Ext.trans {s : Addr} {H H1 H2 : Hp} (a : Ext s H H1) (b : Ext s H1 H2) : Ext s H H2 := fun c o n h => b c o n (a c o n h)
theorem Ext.of {s : Addr} {H H' : Hp} (a : Same H H') : Ext s H H' := fun c o _ h => a c o h
theorem Ext.new {s p : Addr} {H : Hp} {o : HO} (n : H p = none) : Ext s H (upd H p o) := fun b u _ h => by
  rw [upd_ne (ne_of_none h n)]; exact h
theorem Ext.put {s : Addr} {H : Hp} {o : HO} : Ext s H (upd H s o) := fun b u n h => by
  rw [upd_ne n]; exact h
theorem same_new {p : Addr} {H : Hp} {o : HO} (n : H p = none) : Same H (upd H p o) := fun b u h => by
  rw [upd_ne (ne_of_none h n)]; exact h
theorem Ext.seqT {K : PySem.W.Frag} {s a : Addr} {H H' : Hp} {xs ys : List V} (x : Ext s H H') (hs : H s = some (.lst ys)) (h : SqT K H a xs) : SqT K H' a xs := by
  rcases h with (h | ⟨o, h⟩) | h
  · exact .inl (.inl (x _ _ (fun e => by rw [e, hs] at h; cases h) h))
  · exact .inl (.inr ⟨o, x _ _ (fun e => by rw [e, hs] at h; cases h) h⟩)
  · exact .inr h
theorem Ext.seqL {K : PySem.W.Frag} {s a : Addr} {H H' : Hp} {xs : List V} (x : Ext s H H') (n : a ≠ s) (h : SqL K H a xs) : SqL K H' a xs := by
  rcases h with (h | ⟨o, h⟩) | h
  · exact .inl (.inl (x _ _ n h))
  · exact .inl (.inr ⟨o, x _ _ n h⟩)
  · exact .inr h

theorem and_nn {x : Int} (hx : 0 ≤ x) (k : Nat) : 0 ≤ Builtin.bitAnd x (1 * 2 ^ k - 1) := by
  rw [Int.one_mul, Bits.bitAnd_mask k hx]
  exact Int.emod_nonneg _ (Int.ne_of_gt (Int.pow_pos (by decide)))
/-! ### the source of draws -/
def Src (H : Hp) (s a : Addr) (c : Nat) : Prop := ∃ (ns : List Int) (i b e t : Int),
  H s = some (.lst [.ref a, .int i, .int b, .int e, .int t]) ∧ H a = some (.lst (ns.map V.int)) ∧ a ≠ s ∧ ns.length ≤ 63 ∧ 0 ≤ i ∧ i ≤ 63 ∧ 0 ≤ b ∧ 0 ≤ e ∧ e < 2147483647 ∧ 0 ≤ t ∧ t + c < 4000000000000000000
theorem Src.lst {H : Hp} {s a : Addr} {c : Nat} (h : Src H s a c) : ∃ xs, H s = some (.lst xs) := by
  obtain ⟨_, _, _, _, _, h, _⟩ := h; exact ⟨_, h⟩
theorem Src.mono {H : Hp} {s a : Addr} {c d : Nat} (h : Src H s a c) (l : d ≤ c) : Src H s a d := by
  obtain ⟨ns, i, b, e, t, h1, h2, h3, h4, h5, h6, h7, h8, h9, h10, h11⟩ := h
  exact ⟨ns, i, b, e, t, h1, h2, h3, h4, h5, h6, h7, h8, h9, h10, by omega⟩
theorem Src.ext {H H' : Hp} {s a : Addr} {c : Nat} (h : Src H s a c) (x : Same H H') : Src H' s a c := by
  obtain ⟨ns, i, b, e, t, h1, h2, h3⟩ := h
  exact ⟨ns, i, b, e, t, x _ _ h1, x _ _ h2, h3⟩
theorem Src.new {H : Hp} {s a p : Addr} {o : HO} {c : Nat} (h : Src H s a c) (n : H p = none) : Src (upd H p o) s a c := h.ext (same_new n)
theorem Src.ne {H : Hp} {s a p : Addr} {c : Nat} (h : Src H s a c) (n : H p = none) : p ≠ s := by
  obtain ⟨xs, e⟩ := h.lst
  exact (ne_of_none e n).symm
theorem Src.nea {H : Hp} {s a p : Addr} {c : Nat} (h : Src H s a c) (n : H p = none) : p ≠ a := by
  obtain ⟨ns, i, b, e, t, h1, h2, h3⟩ := h
  exact (ne_of_none h2 n).symm
theorem Src.put {H : Hp} {s a p : Addr} {o : HO} {c : Nat} (h : Src H s a c) (n : p ≠ s) (m : p ≠ a) : Src (upd H p o) s a c := by
  obtain ⟨ns, i, b, e', t, h1, h2, h3⟩ := h
  exact ⟨ns, i, b, e', t, by rw [upd_ne n.symm]; exact h1, by rw [upd_ne m.symm]; exact h2, h3⟩

/-! ### defs and their callers -/
section
variable (P : Program) (w : World) (K : PySem.W.Frag) (mg : Str → Option Value) (base : Heap)
/-- a def as callers use it -/
def Cal (x : Str) (ps : List Str) (k : Nat) (sp : Sp) : Prop := ∃ (f : Addr) (fd : FuncData), FnOk P w K mg base CX0 k f fd ps sp ∧ mg x = some (.ref f) ∧ PySem.W.keepIn K (.ref f) = true ∧ Binds K fd ps []
/-- a def as the top has left it -/
def Df (x : Str) (st : Stmt) (ps : List Str) : Prop := ∃ (f : Addr) (fd : FuncData), Fun K x x st f fd ∧ mg x = some (.ref f) ∧ Binds K fd ps []
end
theorem Cal.mono {P : Program} {w : World} {K : PySem.W.Frag} {mg : Str → Option Value} {base : Heap} {x : Str} {ps : List Str} {j k : Nat} {sp : Sp} (C : Cal P w K mg base x ps j sp) (h : j ≤ k) : Cal P w K mg base x ps k sp := by
  obtain ⟨f, fd, G, g, kp, b⟩ := C
  exact ⟨f, fd, G.mono h, g, kp, b⟩

/-! ### the promises of the drawing defs -/
def sp__law_mix : Sp := fun vs H Q _ => ∃ (x y : Int), vs = [.int x, .int y] ∧ 0 ≤ x ∧ x < 9000000000000000000 ∧ 0 ≤ y ∧ y < 9000000000000000000 ∧ ∀ v : Int, 0 ≤ v → v < 2147483647 → Q (.int v) H
def sp__law_source (K : PySem.W.Frag) : Sp := fun vs H Q _ => ∃ (a : Addr) (ns : List Int), vs = [.ref a] ∧ SqL K H a (ns.map V.int) ∧ ns.length ≤ 63 ∧ ∀ (s b : Addr) (H' : Hp), H s = none → Same H H' → Src H' s b 3000000000000000000 → Q (.ref s) H'
def sp__law_draw : Sp := fun vs H Q _ => ∃ (s a : Addr) (m : Int) (c : Nat), vs = [.ref s, .int m] ∧ 0 < m ∧ m < 1073741824 ∧ Src H s a (c + 1) ∧ ∀ (v : Int) (H' : Hp), 0 ≤ v → v < m → Ext s H H' → Src H' s a c → Q (.int v) H'

/-! ### data -/
inductive D where
  | non | bl (b : Bool) | int (i : Int) | str (x : Str) | tup (xs : List D)
mutual
def DV (K : PySem.W.Frag) (H : Hp) : D → V → Prop
  | .non, v => v = .non
  | .bl b, v => v = .bl b
  | .int i, v => v = .int i
  | .str x, v => v = .str x
  | .tup ds, v => ∃ a vs, v = .ref a ∧ SqT K H a vs ∧ DVs K H ds vs
def DVs (K : PySem.W.Frag) (H : Hp) : List D → List V → Prop
  | [], vs => vs = []
  | d :: ds, vs => ∃ v r, vs = v :: r ∧ DV K H d v ∧ DVs K H ds r
end
mutual
theorem DV.ext {K : PySem.W.Frag} {H H' : Hp} (x : ∀ a xs, SqT K H a xs → SqT K H' a xs) : ∀ {d : D} {v : V}, DV K H d v → DV K H' d v
  | .non, _, h => by unfold DV at *; exact h
  | .bl _, _, h => by unfold DV at *; exact h
  | .int _, _, h => by unfold DV at *; exact h
  | .str _, _, h => by unfold DV at *; exact h
  | .tup ds, v, h => by
    unfold DV at *
    obtain ⟨a, vs, e, q, r⟩ := h
    exact ⟨a, vs, e, x _ _ q, DVs.ext x r⟩
theorem DVs.ext {K : PySem.W.Frag} {H H' : Hp} (x : ∀ a xs, SqT K H a xs → SqT K H' a xs) : ∀ {ds : List D} {vs : List V}, DVs K H ds vs → DVs K H' ds vs
  | [], _, h => by unfold DVs at *; exact h
  | d :: ds, vs, h => by
    unfold DVs at *
    obtain ⟨v, r, e, q, t⟩ := h
    exact ⟨v, r, e, DV.ext x q, DVs.ext x t⟩
end
theorem DVs.len {K : PySem.W.Frag} {H : Hp} : ∀ {ds : List D} {vs : List V}, DVs K H ds vs → vs.length = ds.length
  | [], _, h => by unfold DVs at h; subst h; rfl
  | d :: ds, vs, h => by
    unfold DVs at h
    obtain ⟨v, r, e, q, t⟩ := h
    rw [e, List.length_cons, List.length_cons, DVs.len t]
theorem DVs.get {K : PySem.W.Frag} {H : Hp} : ∀ {ds : List D} {vs : List V} {i : Nat} {d : D}, DVs K H ds vs → ds[i]? = some d → ∃ v, vs[i]? = some v ∧ DV K H d v
  | [], _, i, d, h, e => by simp at e
  | x :: ds, vs, i, d, h, e => by
    unfold DVs at h
    obtain ⟨v, r, e1, q, t⟩ := h
    subst e1
    cases i with
    | zero =>
      have : x = d := by simpa using e
      subst this
      exact ⟨v, rfl, q⟩
    | succ i => exact DVs.get (i := i) t (by simpa using e)
theorem DVs.strs {K : PySem.W.Frag} {H : Hp} : ∀ (xs : List Str), DVs K H (xs.map D.str) (xs.map V.str)
  | [] => by unfold DVs; rfl
  | x :: xs => by
    unfold DVs
    exact ⟨_, _, rfl, by unfold DV; rfl, DVs.strs xs⟩
theorem DVs.ints {K : PySem.W.Frag} {H : Hp} : ∀ (xs : List Int), DVs K H (xs.map D.int) (xs.map V.int)
  | [] => by unfold DVs; rfl
  | x :: xs => by
    unfold DVs
    exact ⟨_, _, rfl, by unfold DV; rfl, DVs.ints xs⟩
/-- tuples lie within fewer than n others -/
def DL : Nat → D → Prop
  | 0, _ => False
  | n + 1, .tup xs => xs.length ≤ 1000000 ∧ ∀ x ∈ xs, DL n x
  | _ + 1, _ => True
theorem TyX.ofT {K : PySem.W.Frag} {H : Hp} {a : Addr} {xs : List V} (h : SqT K H a xs) : TyX K H (.ref a) (.type "tuple") := by
  rcases h with (h | ⟨o, h⟩) | ⟨o, _, _, e, c, _⟩
  · exact .base (.tup h)
  · exact .fTuple h
  · exact .kTuple e c
def sp__law_is_int (K : PySem.W.Frag) : Sp := fun vs H Q _ => ∃ i : Int, vs = [.int i] ∧ Q (.bl true) H
/-- of two values with the same data it tells True -/
def sp__law_same (K : PySem.W.Frag) (n : Nat) : Sp := fun vs H Q _ => ∃ (d : D) (v u : V), vs = [v, u] ∧ DV K H d v ∧ DV K H d u ∧ DL n d ∧ Q (.bl true) H

/-! ### texts by their signs -/
open SX (S S_cat S_len S_inj)
theorem S_lst (l : List Nat) : (S l).cps.toList = l := rfl
theorem S_of (x : Str) : x = S x.cps.toList := (SX.S_tl x).symm
theorem S_app (a b : List Nat) : S a ++ S b = S (a ++ b) := S_cat a b
/-- a for over the signs of a text -/
theorem for_str {l : List Nat} {g : TG} {tb : TS} {D : Ends} {σ : St} {H : Hp} (Pv : Nat → St → Hp → Prop) (h0 : Pv 0 σ H)
    (hs : ∀ i c σ H, l[i]? = some c → Pv i σ H → g (.str (S [c])) σ H fun σ2 H2 => tb { D with nx := Pv (i + 1), ct := Pv (i + 1), bk := D.nx } σ2 H2) (hd : ∀ σ H, Pv l.length σ H → D.nx σ H) :
    ∃ W : Nat → Nat → St → Hp → Prop, (∃ m, W 0 m σ H) ∧ ∀ i m σ H, W i m σ H →
      ((Its (S l)).stop i H ∧ D.nx σ H) ∨ ((Its (S l)).go i H ∧ ∃ N : St → Hp → Prop, (∀ σ' H', N σ' H' → ∃ m', m' < m ∧ W (i + 1) m' σ' H') ∧ ∀ x H', (Its (S l)).yld i H x H' → g x σ H' fun σ2 H2 => tb { D with nx := N, ct := N, bk := D.nx } σ2 H2) := by
  refine ⟨fun i m σ H => m = l.length - i ∧ i ≤ l.length ∧ Pv i σ H, ⟨l.length, by simp, Nat.zero_le _, h0⟩, ?_⟩
  rintro i m σ H ⟨rfl, hi, p⟩
  by_cases hlt : i < l.length
  · refine .inr ⟨by show i < l.toArray.size; simpa using hlt, Pv (i + 1), fun σ' H' p' => ⟨l.length - (i + 1), by omega, rfl, hlt, p'⟩, fun x H' y => ?_⟩
    obtain ⟨e, c, hc, y⟩ := y
    subst e y
    exact hs i c σ _ (by simpa using hc) p
  · have e : i = l.length := by omega
    subst e
    exact .inl ⟨by show l.toArray.size ≤ l.length; simp, hd σ H p⟩
/-- a comprehension over the signs of a text -/
theorem lc_str {l : List Nat} {g : TG} {tt : TT} {te : TE} {vs : List Nat} {σ : St} {H1 : Hp} {D : Addr} {Qd : Hp → Prop} (Pv : Nat → Hp → Prop) (h0 : Pv 0 (upd H1 D (.lst [])))
    (hs : ∀ i c H, l[i]? = some c → Pv i H → g (.str (S [c])) (wipe σ vs) H fun σ2 H2 => wipe σ2 vs = wipe σ vs ∧ tt σ2 H2 fun b H3 =>
      if b = true then te σ2 H3 fun y H4 => ∃ acc, H4 D = some (.lst acc) ∧ acc.length < sizeLine ∧ Pv (i + 1) (upd H4 D (.lst (acc ++ [y]))) else Pv (i + 1) H3) (hd : ∀ H, Pv l.length H → Qd H) :
    ∃ W : Nat → Nat → Hp → Prop, (∃ m, W 0 m (upd H1 D (.lst []))) ∧ ∀ i m H, W i m H →
      ((Its (S l)).stop i H ∧ Qd H) ∨ ((Its (S l)).go i H ∧ ∃ Nx : Hp → Prop, (∀ H', Nx H' → ∃ m', m' < m ∧ W (i + 1) m' H') ∧ ∀ x H', (Its (S l)).yld i H x H' → g x (wipe σ vs) H' fun σ2 H2 => wipe σ2 vs = wipe σ vs ∧ tt σ2 H2 fun b H3 =>
        if b = true then te σ2 H3 fun y H4 => ∃ acc, H4 D = some (.lst acc) ∧ acc.length < sizeLine ∧ Nx (upd H4 D (.lst (acc ++ [y]))) else Nx H3) := by
  refine ⟨fun i m H => m = l.length - i ∧ i ≤ l.length ∧ Pv i H, ⟨l.length, by simp, Nat.zero_le _, h0⟩, ?_⟩
  rintro i m H ⟨rfl, hi, p⟩
  by_cases hlt : i < l.length
  · refine .inr ⟨by show i < l.toArray.size; simpa using hlt, Pv (i + 1), fun H' p' => ⟨l.length - (i + 1), by omega, rfl, hlt, p'⟩, fun x H' y => ?_⟩
    obtain ⟨e, c, hc, y⟩ := y
    subst e y
    exact hs i c _ (by simpa using hc) p
  · have e : i = l.length := by omega
    subst e
    exact .inl ⟨by show l.toArray.size ≤ l.length; simp, hd H p⟩
/-- signs of rows -/
def Asc (l : List Nat) : Prop := ∀ x ∈ l, 32 ≤ x ∧ x ≤ 126
theorem Asc.nil : Asc [] := fun _ h => nomatch h
theorem Asc.app {a b : List Nat} (x : Asc a) (y : Asc b) : Asc (a ++ b) := fun c h => (List.mem_append.mp h).elim (x c) (y c)
theorem Asc.by_ {l : List Nat} (h : l.all (fun x => decide (32 ≤ x) && decide (x ≤ 126)) = true) : Asc l := fun x m => by
  have := List.all_eq_true.mp h x m
  simp at this
  exact this
theorem Asc.all128 {l : List Nat} (h : Asc l) : l.all (· < 128) = true := List.all_eq_true.mpr fun x m => decide_eq_true (by have := h x m; omega)
theorem joinNil : ∀ ls : List (List Nat), TL.joinL [] ls = ls.flatten
  | [] => rfl
  | [x] => by simp [TL.joinL]
  | x :: y :: r => by
    have := joinNil (y :: r)
    simp only [TL.joinL] at *
    rw [List.flatten_cons, ← this]
    simp [TL.joinL]
theorem join_nil (ls : List (List Nat)) : Txt.join (S []) (ls.map S) = S ls.flatten := by
  rw [SX.join_S, joinNil]

/-! ### texts, further -/
abbrev tl (x : Str) : List Nat := x.cps.toList
theorem tl_S (l : List Nat) : tl (S l) = l := rfl
theorem S_tl (x : Str) : S (tl x) = x := rfl
theorem tl_app (x y : Str) : tl (x ++ y) = tl x ++ tl y := TL.tl_append x y
theorem tl_len (x : Str) : x.length = (tl x).length := by show x.cps.size = x.cps.toList.length; simp
theorem tl_ext {x y : Str} (h : tl x = tl y) : x = y := TL.ext_tl h
theorem at_str {x : Str} {i : Int} (h0 : 0 ≤ i) (h1 : i < (x.length : Int)) : ∃ c, x.cps[i.toNat]? = some c ∧ (tl x)[i.toNat]? = some c ∧ c ∈ tl x := by
  have h : i.toNat < (tl x).length := by rw [← tl_len]; omega
  refine ⟨(tl x)[i.toNat], ?_, List.getElem?_eq_getElem h, List.getElem_mem h⟩
  have := List.getElem?_eq_getElem h
  rw [← this]; simp [tl]
/-- small letters and digits -/
def Low (l : List Nat) : Prop := ∀ x ∈ l, (97 ≤ x ∧ x ≤ 122) ∨ (48 ≤ x ∧ x ≤ 57)
theorem Low.nil : Low [] := fun _ h => nomatch h
theorem Low.app {a b : List Nat} (x : Low a) (y : Low b) : Low (a ++ b) := fun c h => (List.mem_append.mp h).elim (x c) (y c)
theorem Low.asc {a : List Nat} (x : Low a) : Asc a := fun c h => by have := x c h; omega
theorem low_num (n : Nat) : Low (TL.numL n) := fun c h => .inr (by have := TL.numL_digits n c h; omega)
theorem num_len : ∀ n : Nat, (TL.numL n).length ≤ n + 1 := fun n => by
  induction n using Nat.strongRecOn with
  | ind n ih =>
    by_cases h : n < 10
    · rw [TL.numL_lt h]; simp
    · rw [TL.numL_step (by omega), List.length_append]
      have := ih (n / 10) (by omega)
      simp; omega
/-- a name: a letter, then letters and digits -/
def Nm (l : List Nat) : Prop := (∃ c r, l = c :: r ∧ 97 ≤ c ∧ c ≤ 122) ∧ Low l
theorem Nm.app {a b : List Nat} (x : Nm a) (y : Low b) : Nm (a ++ b) := by
  obtain ⟨⟨c, r, e, h⟩, l⟩ := x
  exact ⟨⟨c, r ++ b, by rw [e]; rfl, h⟩, l.app y⟩
theorem flat_strs (xs : List Str) : (xs.map V.str).all flatV = true := List.all_eq_true.mpr fun x h => by
  obtain ⟨y, _, rfl⟩ := List.mem_map.mp h; rfl
theorem inV_strs (x : Str) (xs : List Str) : inV (V.str x) (xs.map V.str) = decide (x ∈ xs) := by
  unfold inV
  induction xs with
  | nil => rfl
  | cons y ys ih =>
    rw [List.map_cons, List.any_cons, ih]
    by_cases e : x = y
    · subst e; simp [eqV]
    · have : ¬ y = x := fun h => e h.symm
      simp [eqV, e, this]
def sp__law_new_name (K : PySem.W.Frag) : Sp := fun vs H Q _ => ∃ (s a u : Addr) (us : List Str) (c : Nat), vs = [.ref s, .ref u] ∧ SqL K H u (us.map V.str) ∧ u ≠ s ∧ us.length ≤ 60 ∧ Src H s a (c + 8) ∧
  ∀ (x : Str) (H' : Hp), Nm (tl x) → (tl x).length ≤ 70 → Ext s H H' → Src H' s a c → Q (.str x) H'
def sp__law_names (K : PySem.W.Frag) : Sp := fun vs H Q _ => ∃ (s a : Addr) (m c : Nat), vs = [.ref s, .int m] ∧ m ≤ 60 ∧ Src H s a (c + 8 * m) ∧
  ∀ (u : Addr) (us : List Str) (H' : Hp), H u = none → H' u = some (.lst (us.map V.str)) → us.length = m → (∀ x ∈ us, Nm (tl x) ∧ (tl x).length ≤ 70) → Ext s H H' → Src H' s a c → Q (.ref u) H'
def sp__law_row : Sp := fun vs H Q _ => ∃ (s a : Addr) (m : Int) (c : Nat), vs = [.ref s, .int m] ∧ 0 ≤ m ∧ m ≤ 1000 ∧ Src H s a (c + m.toNat) ∧
  ∀ (x : Str) (H' : Hp), Asc (tl x) → (tl x).length = m.toNat → Ext s H H' → Src H' s a c → Q (.str x) H'

/-! ### rules that name the written part themselves (for the blocks of comprehensions) -/
section
variable {X : Cx} {K : PySem.W.Frag}
/-- len of a text -/
theorem call_lenS : CallR X (.builtin "len") (fun xs H Q => ∃ x : Str, xs = [.str x] ∧ x.length ≤ sizeLine ∧ Q (.int x.length) H) := by
  intro pins s σ H xs us Q I r h
  obtain ⟨x, e, hl, q⟩ := h
  exact call_len pins s σ H xs us Q I r ⟨.str x, x.length, e, ⟨hl, rfl⟩, q⟩
theorem call_lenQ (h : X.K = K) : CallR X (.builtin "len") (fun xs H Q => ∃ p ys, xs = [.ref p] ∧ (SqL K H p ys ∨ SqT K H p ys) ∧ Q (.int ys.length) H) := by
  subst h; exact call_len_seq
theorem ix_listQ (h : X.K = K) : IxR X (rIxL K) := by subst h; exact ix_list
theorem ix_tupQ (h : X.K = K) : IxR X (rIxT K) := by subst h; exact ix_tup
theorem in_seqQ (h : X.K = K) : OpR X (compareOp .In) (rIn K false) := by subst h; exact op_in_seq
theorem notIn_seqQ (h : X.K = K) : OpR X (compareOp .NotIn) (rIn K true) := by subst h; exact op_notIn_seq
theorem isiQ (h : X.K = K) : CallR X (.builtin "isinstance") (rIsi K) := by subst h; exact call_isi
end

/-- texts of one sign each -/
def Ones (p : Nat → Prop) (xs : List Str) : Prop := ∀ x ∈ xs, ∃ c, tl x = [c] ∧ p c
theorem Ones.tail {p : Nat → Prop} {x : Str} {xs : List Str} (h : Ones p (x :: xs)) : Ones p xs := fun y m => h y (List.mem_cons_of_mem _ m)
theorem ones_len {p : Nat → Prop} : ∀ {xs : List Str}, (∀ x ∈ xs, ∃ c, tl x = [c] ∧ p c) → (xs.map (·.length)).sum = xs.length
  | [], _ => rfl
  | x :: xs, h => by
    obtain ⟨c, e, _⟩ := h x List.mem_cons_self
    have : x.length = 1 := by rw [tl_len, e]; rfl
    rw [List.map_cons, List.sum_cons, ones_len (Ones.tail h), List.length_cons, this]
    omega
/-- their only signs -/
def heads (xs : List Str) : List Nat := xs.map fun x => (tl x).headD 0
theorem tl_join0 (xs : List Str) : tl (Txt.join (S []) xs) = (xs.map tl).flatten := by
  have e : xs = (xs.map tl).map S := by rw [List.map_map]; exact (List.map_id _).symm
  have h := join_nil (xs.map tl)
  rw [← e] at h
  show tl (Txt.join (S []) xs) = _
  rw [h]
theorem ones_join {p : Nat → Prop} {xs : List Str} (h : ∀ x ∈ xs, ∃ c, tl x = [c] ∧ p c) : tl (Txt.join (S []) xs) = heads xs := by
  rw [tl_join0]
  induction xs with
  | nil => rfl
  | cons x xs ih =>
    obtain ⟨c, e, _⟩ := h x List.mem_cons_self
    rw [List.map_cons, List.flatten_cons, ih (Ones.tail h), e]
    show c :: heads xs = (tl x).headD 0 :: heads xs
    rw [e]; rfl
theorem ones_all {p : Nat → Prop} {xs : List Str} (h : ∀ x ∈ xs, ∃ c, tl x = [c] ∧ p c) : ∀ c ∈ heads xs, p c := fun c m => by
  obtain ⟨x, hx, e⟩ := List.mem_map.mp m
  obtain ⟨d, e2, hd⟩ := h x hx
  rw [e2] at e
  have : d = c := e
  rw [← this]; exact hd
theorem str0 : Str.ofString "" = S [] := rfl
theorem ones_room {p : Nat → Prop} {xs : List Str} (h : ∀ x ∈ xs, ∃ c, tl x = [c] ∧ p c) : (xs.map (·.length)).sum + xs.length * (Str.ofString "").length = xs.length := by
  rw [ones_len h]; show xs.length + xs.length * 0 = xs.length; omega
theorem ones_joinE {p : Nat → Prop} {xs : List Str} (h : ∀ x ∈ xs, ∃ c, tl x = [c] ∧ p c) : tl (Txt.join (Str.ofString "") xs) = heads xs := ones_join h
theorem ones_asc {xs : List Str} (h : ∀ x ∈ xs, ∃ c, tl x = [c] ∧ 32 ≤ c ∧ c ≤ 126) : Asc (heads xs) := fun c m => ones_all (p := fun c => 32 ≤ c ∧ c ≤ 126) h c m
theorem heads_len (xs : List Str) : (heads xs).length = xs.length := List.length_map _

theorem alpha_mem {c : Nat} (h : c ∈ tl (Str.ofString "abcdefghijklmnopqrstuvwxyz")) : 97 ≤ c ∧ c ≤ 122 := by
  have : (tl (Str.ofString "abcdefghijklmnopqrstuvwxyz")).all (fun c => decide (97 ≤ c) && decide (c ≤ 122)) = true := by decide +kernel
  have := List.all_eq_true.mp this c h
  simp at this; exact this
theorem low_mem {c : Nat} (h : c ∈ tl (Str.ofString "abcdefghijklmnopqrstuvwxyz" ++ Str.ofString "0123456789")) : (97 ≤ c ∧ c ≤ 122) ∨ (48 ≤ c ∧ c ≤ 57) := by
  rw [tl_app] at h
  have : (tl (Str.ofString "abcdefghijklmnopqrstuvwxyz") ++ tl (Str.ofString "0123456789")).all (fun c => (decide (97 ≤ c) && decide (c ≤ 122)) || (decide (48 ≤ c) && decide (c ≤ 57))) = true := by decide +kernel
  have := List.all_eq_true.mp this c h
  simp at this; exact this

theorem log_small {i : Nat} (h : i ≤ 1000000) : (Int.natAbs (0 + (i : Int))).log2 < 1920 := by
  rw [Int.zero_add, Int.natAbs_natCast]
  by_cases e : i = 0
  · subst e; decide
  · rw [Nat.log2_lt e]
    exact Nat.lt_of_le_of_lt h (Nat.lt_of_lt_of_le (by decide : 1000000 < 2 ^ 20) (Nat.pow_le_pow_right (by decide) (by decide)))

theorem fold_take {α β : Type} {f : β → α → β} {a : β} {l : List α} {i : Nat} {c : α} (h : l[i]? = some c) : (l.take (i + 1)).foldl f a = f ((l.take i).foldl f a) c := by
  rw [List.take_add_one, h, List.foldl_append]
  rfl
theorem fold_all {α β : Type} {f : β → α → β} {a : β} {l : List α} : (l.take l.length).foldl f a = l.foldl f a := by rw [List.take_length]
theorem in_abc {c : Nat} : decide (c ∈ (Str.ofString "abcdefghijklmnopqrstuvwxyz").cps.toList) = (decide (97 ≤ c) && decide (c ≤ 122)) := by
  have e : (Str.ofString "abcdefghijklmnopqrstuvwxyz").cps.toList = List.range' 97 26 := by decide +kernel
  rw [e, Bool.eq_iff_iff, decide_eq_true_iff, List.mem_range'_1]
  simp only [Bool.and_eq_true, decide_eq_true_eq]
  omega
theorem in_ABC {c : Nat} : decide (c ∈ (Str.ofString "ABCDEFGHIJKLMNOPQRSTUVWXYZ").cps.toList) = (decide (65 ≤ c) && decide (c ≤ 90)) := by
  have e : (Str.ofString "ABCDEFGHIJKLMNOPQRSTUVWXYZ").cps.toList = List.range' 65 26 := by decide +kernel
  rw [e, Bool.eq_iff_iff, decide_eq_true_iff, List.mem_range'_1]
  simp only [Bool.and_eq_true, decide_eq_true_eq]
  omega
theorem in_012 {c : Nat} : decide (c ∈ (Str.ofString "0123456789").cps.toList) = (decide (48 ≤ c) && decide (c ≤ 57)) := by
  have e : (Str.ofString "0123456789").cps.toList = List.range' 48 10 := by decide +kernel
  rw [e, Bool.eq_iff_iff, decide_eq_true_iff, List.mem_range'_1]
  simp only [Bool.and_eq_true, decide_eq_true_eq]
  omega
theorem in_abc012 {c : Nat} : decide (c ∈ (Str.ofString "abcdefghijklmnopqrstuvwxyz0123456789").cps.toList) = ((decide (97 ≤ c) && decide (c ≤ 122)) || (decide (48 ≤ c) && decide (c ≤ 57))) := by
  have e : (Str.ofString "abcdefghijklmnopqrstuvwxyz0123456789").cps.toList = List.range' 97 26 ++ List.range' 48 10 := by decide +kernel
  rw [e, Bool.eq_iff_iff, decide_eq_true_iff, List.mem_append, List.mem_range'_1, List.mem_range'_1]
  simp only [Bool.and_eq_true, Bool.or_eq_true, decide_eq_true_eq]
  omega
/-- literal texts -/
theorem tl_mapS (ws : List Str) : (ws.map tl).map S = ws := by rw [List.map_map]; exact List.map_id _

theorem strs_at (zs : List Str) {v : Int} (h0 : 0 ≤ v) (h1 : v < (zs.length : Int)) : ∃ z, z ∈ zs ∧ atI (zs.map V.str) v = some (.str z) := by
  have h : v.toNat < zs.length := by omega
  exact ⟨zs[v.toNat], List.getElem_mem h, at_of (j := v.toNat) (by omega) (by rw [List.getElem?_map, List.getElem?_eq_getElem h]; rfl)⟩
theorem tl_upper {x : Str} (h : Asc (tl x)) : tl (Txt.upper x) = (tl x).map PyProof.Rows.up1 := congrArg tl (SX.upper_S (a := tl x) h.all128)
theorem asc_upper {x : Str} (h : Asc (tl x)) : Asc (tl (Txt.upper x)) := by
  rw [tl_upper h]
  intro c hc
  obtain ⟨d, hd, e⟩ := List.mem_map.mp hc
  have := h d hd
  unfold PyProof.Rows.up1 at e
  split at e <;> omega
theorem len_upper {x : Str} (h : Asc (tl x)) : (tl (Txt.upper x)).length = (tl x).length := by rw [tl_upper h, List.length_map]
theorem DL.strs {n : Nat} (xs : List Str) (h : xs.length ≤ 1000000) : DL (n + 2) (.tup (xs.map D.str)) := ⟨by rw [List.length_map]; exact h, fun d m => by obtain ⟨x, _, rfl⟩ := List.mem_map.mp m; exact True.intro⟩
theorem DV.strs {K : PySem.W.Frag} {H : Hp} {p : Addr} {xs : List Str} (h : H p = some (.tup (xs.map V.str))) : DV K H (.tup (xs.map D.str)) (.ref p) := by
  unfold DV
  exact ⟨p, _, rfl, SqT.of h, DVs.strs xs⟩
def sp_law (K : PySem.W.Frag) : Sp := fun vs H Q _ => ∃ (a : Addr) (ns : List Int), vs = [.ref a] ∧ SqL K H a (ns.map V.int) ∧ ns.length ≤ 63 ∧ ∀ H', Q (.bl true) H'
end Z
namespace Z
open PySem L2 SX
/-! ### cuts -/
theorem sIx_pos {n d : Nat} {i : Int} (h : 0 ≤ i) : HT.sIx n d (some i) = min i.toNat n := by
  obtain ⟨k, rfl⟩ := Int.eq_ofNat_of_zero_le h
  rw [HT.sIx_nat]; rfl
theorem cutS_to {z : Str} {i : Int} (h : 0 ≤ i) : tl (cutS z none (some i)) = (tl z).take i.toNat := by
  show ((tl z).drop 0).take (HT.sIx z.length z.length (some i) - 0) = _
  rw [sIx_pos h, List.drop_zero, Nat.sub_zero, tl_len]
  by_cases e : i.toNat ≤ (tl z).length
  · rw [Nat.min_eq_left e]
  · rw [Nat.min_eq_right (by omega), List.take_length, List.take_of_length_le (by omega)]
theorem cutS_from {z : Str} {i : Int} (h : 0 ≤ i) : tl (cutS z (some i) none) = (tl z).drop i.toNat := by
  show ((tl z).drop (HT.sIx z.length 0 (some i))).take (z.length - HT.sIx z.length 0 (some i)) = _
  rw [sIx_pos h, tl_len]
  by_cases e : i.toNat ≤ (tl z).length
  · rw [Nat.min_eq_left e, List.take_of_length_le (by rw [List.length_drop]; omega)]
  · rw [Nat.min_eq_right (by omega), List.drop_of_length_le (l := tl z) (i := i.toNat) (by omega), List.drop_of_length_le (Nat.le_refl _), List.take_nil]
theorem cutS_mid {z : Str} {i j : Int} (h : 0 ≤ i) (h2 : 0 ≤ j) : tl (cutS z (some i) (some j)) = ((tl z).drop i.toNat).take (j.toNat - i.toNat) := by
  show ((tl z).drop (HT.sIx z.length 0 (some i))).take (HT.sIx z.length z.length (some j) - HT.sIx z.length 0 (some i)) = _
  rw [sIx_pos h, sIx_pos h2, tl_len]
  by_cases e : i.toNat ≤ (tl z).length
  · rw [Nat.min_eq_left e]
    by_cases f : j.toNat ≤ (tl z).length
    · rw [Nat.min_eq_left f]
    · rw [Nat.min_eq_right (by omega), List.take_of_length_le (by rw [List.length_drop]; omega), List.take_of_length_le (by rw [List.length_drop]; omega)]
  · rw [Nat.min_eq_right (a := i.toNat) (by omega), List.drop_of_length_le (Nat.le_refl _), List.drop_of_length_le (l := tl z) (i := i.toNat) (by omega)]; simp
theorem cutV_to {xs : List V} {i : Int} (h : 0 ≤ i) : cutV xs none (some i) = xs.take i.toNat := by
  show ((xs.drop 0).take (HT.sIx xs.length xs.length (some i) - 0)) = _
  rw [sIx_pos h, List.drop_zero, Nat.sub_zero]
  by_cases e : i.toNat ≤ xs.length
  · rw [Nat.min_eq_left e]
  · rw [Nat.min_eq_right (by omega), List.take_length, List.take_of_length_le (by omega)]
theorem cutV_from {xs : List V} {i : Int} (h : 0 ≤ i) : cutV xs (some i) none = xs.drop i.toNat := by
  show ((xs.drop (HT.sIx xs.length 0 (some i))).take (xs.length - HT.sIx xs.length 0 (some i))) = _
  rw [sIx_pos h]
  by_cases e : i.toNat ≤ xs.length
  · rw [Nat.min_eq_left e, List.take_of_length_le (by rw [List.length_drop]; omega)]
  · rw [Nat.min_eq_right (by omega), List.drop_of_length_le (l := xs) (i := i.toNat) (by omega), List.drop_of_length_le (Nat.le_refl _), List.take_nil]
/-- the text k times -/
def rep (k : Nat) (l : List Nat) : List Nat := (List.replicate k l).flatten
theorem rep_fold (x : Array Nat) : ∀ (k : Nat) (a : Array Nat), ((List.replicate k x).foldl (· ++ ·) a).toList = a.toList ++ rep k x.toList
  | 0, a => by simp [rep]
  | k + 1, a => by
    rw [List.replicate_succ, List.foldl_cons, rep_fold x k]
    simp [rep, List.replicate_succ]
theorem rep_len (k : Nat) (l : List Nat) : (rep k l).length = k * l.length := by
  induction k with
  | zero => simp [rep]
  | succ k ih => unfold rep at *; rw [List.replicate_succ, List.flatten_cons, List.length_append, ih, Nat.succ_mul]; omega
theorem rep_mem {k : Nat} {l : List Nat} {c : Nat} (h : c ∈ rep k l) : c ∈ l := by
  obtain ⟨x, hx, hc⟩ := List.mem_flatten.mp h
  rw [(List.mem_replicate.mp hx).2] at hc; exact hc
section
variable {X : Cx}
/-- s * k -/
theorem op_mul_str : OpR X (binaryOp .Mult) (fun x y H Q => ∃ (z : Str) (k : Int), x = .str z ∧ y = .int k ∧ k ≤ 100000 ∧ (-100000 ≤ k) ∧ (tl z).length * k.toNat ≤ 10000000 ∧ ∀ r : Str, tl r = rep k.toNat (tl z) → Q (.str r) H) := by
  intro pins s σ H x y v u Q I rx ry h
  obtain ⟨z, k, rfl, rfl, h1, h0, hz, q⟩ := h
  obtain ⟨t, rfl⟩ := rx
  obtain ⟨t', rfl⟩ := ry
  have hz' : z.length * k.toNat ≤ 10000000 := by rw [tl_len]; exact hz
  have small := PyProof.Rows.short24 (n := z.length * k.toNat) (Nat.le_trans hz' (by decide))
  refine P.mul_str ?_ (fun a b => ?_) (fun _ _ => small) ?_
  · rw [decide_eq_false (by omega), decide_eq_false (by omega)]; rfl
  · have hk : 1 ≤ k := by omega
    have hm : (z.length : Int) * k ≤ 10000000 := by
      have : ((z.length * k.toNat : Nat) : Int) ≤ 10000000 := by omega
      rw [Int.natCast_mul, Int.toNat_of_nonneg (by omega)] at this; exact this
    have hle : (z.length : Int) ≤ (2 ^ 63 - 1) / k := by
      rw [Int.le_ediv_iff_mul_le (by omega)]
      exact Int.le_trans hm (by decide)
    omega
  · by_cases hk : k < 1
    · rw [if_pos hk]
      refine ⟨by decide, ?_⟩
      exact ⟨.str Str.empty, H, I.tok _, ⟨_, rfl⟩, q _ (by rw [show k.toNat = 0 by omega]; rfl)⟩
    · rw [if_neg hk]
      by_cases hb : (k == 1 || z.length == 0) = true
      · rw [if_pos hb]
        refine ⟨.str z, H, I, ⟨_, rfl⟩, q _ ?_⟩
        rw [Bool.or_eq_true] at hb
        rcases hb with e | e
        · have : k = 1 := by simpa using e
          subst this; simp [rep]
        · have e : z.length = 0 := by simpa using e
          rw [tl_len] at e
          have : tl z = [] := List.length_eq_zero_iff.mp e
          rw [this]
          exact (List.length_eq_zero_iff.mp (by rw [rep_len]; rfl)).symm
      · rw [if_neg hb]
        have hr : tl (⟨(List.replicate k.toNat z.cps).foldl (· ++ ·) #[]⟩ : Str) = rep k.toNat (tl z) := by
          show ((List.replicate k.toNat z.cps).foldl (· ++ ·) #[]).toList = _
          rw [rep_fold]; simp [tl]
        refine ⟨?_, ?_⟩
        · rw [tl_len, hr, rep_len, Nat.mul_comm]
          exact Nat.le_trans hz (by decide)
        · exact ⟨.str _, H, I.tok _, ⟨_, rfl⟩, q _ hr⟩
end
section
variable {X : Cx} {K : PySem.W.Frag}
/-- t + u, of tuples -/
theorem op_cat (hK : X.K = K) : OpR X (binaryOp .Add) (fun x y H Q => ∃ a b xs ys, x = .ref a ∧ y = .ref b ∧ SqT K H a xs ∧ SqT K H b ys ∧ xs.length + ys.length ≤ sizeLine ∧
    ∀ p H', Same H H' → SqT K H' p (xs ++ ys) → Q (.ref p) H') := by
  subst hK
  intro pins s σ H x y v u Q I rx ry h
  obtain ⟨a, b, xs, ys, e1, e2, ha, hb, hz, q⟩ := h
  refine op_catA pins s σ H x y v u Q I rx ry ⟨a, b, xs, ys, e1, e2, ha, hb, hz, fun e => ?_, fun _ e => ?_, fun _ _ p hp => q p _ (same_new hp) (SqT.of upd_same)⟩
  · subst e; exact q b H (Same.refl _) hb
  · subst e; exact q a H (Same.refl _) (by rw [List.append_nil]; exact ha)
/-- t[lo:hi] of a tuple -/
theorem sl_tupS (hK : X.K = K) : SlR X (fun x lo hi H Q => ∃ a xs, x = .ref a ∧ SqT K H a xs ∧ ∀ p H', Same H H' → SqT K H' p (cutV xs lo hi) → Q (.ref p) H') := by
  subst hK
  intro pins s σ H x v vl vu lo hi sl Q I rx hs pl pu h
  obtain ⟨a, xs, e, hx, q⟩ := h
  refine sl_tupA pins s σ H x v vl vu lo hi sl Q I rx hs pl pu ⟨a, xs, e, hx, fun hw => q a H (Same.refl _) ?_, fun _ p hp => q p _ (same_new hp) (SqT.of upd_same)⟩
  have : cutV xs lo hi = xs := by
    show (xs.drop (HT.sIx xs.length 0 lo)).take (HT.sIx xs.length xs.length hi - HT.sIx xs.length 0 lo) = xs
    rw [hw.1, hw.2, List.drop_zero, Nat.sub_zero, List.take_length]
  rw [this]; exact hx
end
theorem _root_.L2.Same.tup {K : PySem.W.Frag} {H H' : Hp} {a : Addr} {xs : List V} (e : Same H H') (h : SqT K H a xs) : SqT K H' a xs := by
  rcases h with (h | ⟨o, h⟩) | h
  · exact .inl (.inl (e _ _ h))
  · exact .inl (.inr ⟨o, e _ _ h⟩)
  · exact .inr h

/-- a comprehension over a range that makes texts by draws (at most d of them for each) -/
theorem lc_strs {j n d : Nat} {te : TE} {vs : List Nat} {σ : St} {H : Hp} {D s a : Addr} {c : Nat} {Qd : Hp → Prop} (p : Str → Prop) (hD : H D = none) (hS : Src H s a (c + n * d)) (hn : n ≤ 100000)
    (hw : ∀ i : Nat, wipe ((wipe σ vs).set j (some (.int (0 + (i : Int))))) vs = wipe σ vs)
    (hs : ∀ (i c' : Nat) (H1 : Hp) (R : VK), i < n → Ext s H H1 → Src H1 s a (c' + d) → (∀ (x : Str) (H2 : Hp), p x → Ext s H1 H2 → Src H2 s a c' → R (.str x) H2) → te ((wipe σ vs).set j (some (.int (0 + (i : Int))))) H1 R)
    (hd : ∀ (xs : List Str) (H' : Hp), H' D = some (.lst (xs.map V.str)) → xs.length = n → (∀ x ∈ xs, p x) → Ext s H H' → Src H' s a c → Qd H') :
    ∃ W : Nat → Nat → Hp → Prop, (∃ m, W 0 m (upd H D (.lst []))) ∧ ∀ i m H, W i m H →
      ((Itr 0 n).stop i H ∧ Qd H) ∨ ((Itr 0 n).go i H ∧ ∃ Nx : Hp → Prop, (∀ H', Nx H' → ∃ m', m' < m ∧ W (i + 1) m' H') ∧ ∀ x H', (Itr 0 n).yld i H x H' → gName j x (wipe σ vs) H' fun σ2 H2 => wipe σ2 vs = wipe σ vs ∧ tYes σ2 H2 fun b H3 =>
        if b = true then te σ2 H3 fun y H4 => ∃ acc, H4 D = some (.lst acc) ∧ acc.length < sizeLine ∧ Nx (upd H4 D (.lst (acc ++ [y]))) else Nx H3) := by
  have Ds : D ≠ s := hS.ne hD
  have Da : D ≠ a := hS.nea hD
  refine lc_range (lo := 0) (n := n) (fun i H' => ∃ xs : List Str, H' D = some (.lst (xs.map V.str)) ∧ xs.length = i ∧ (∀ x ∈ xs, p x) ∧ Ext s H H' ∧ Src H' s a (c + (n - i) * d)) ?_ ?_ ?_
  · exact ⟨[], upd_same, rfl, (fun _ h => by cases h), Ext.new hD, (hS.new hD).mono (by simp)⟩
  · rintro i H' hi ⟨xs, hx, hl, hA, hE, hS'⟩
    refine ⟨hw i, ?_⟩
    show te _ H' _
    have e : c + (n - i) * d = c + (n - (i + 1)) * d + d := by
      rw [show n - i = n - (i + 1) + 1 by omega, Nat.succ_mul]; omega
    refine hs i (c + (n - (i + 1)) * d) H' _ hi hE (by rw [← e]; exact hS') (fun x H2 hp hE2 hS2 => ?_)
    refine ⟨xs.map V.str, hE2 _ _ Ds hx, ?_, xs ++ [x], by rw [upd_same, List.map_append]; rfl, by rw [List.length_append]; simp [hl], fun y hy => ?_, ?_, hS2.put Ds Da⟩
    · rw [List.length_map]; exact Nat.lt_of_lt_of_le (show xs.length < 100000 by omega) (by decide)
    · rcases List.mem_append.mp hy with h | h
      · exact hA y h
      · rw [List.mem_singleton.mp h]; exact hp
    · intro b o hb hH
      rw [upd_ne (ne_of_none hH hD)]; exact hE2 _ _ hb (hE _ _ hb hH)
  · rintro H' ⟨xs, hx, hl, hA, hE, hS'⟩
    exact hd xs H' hx hl hA hE (hS'.mono (by omega))
theorem atI_pos {α : Type} {xs : List α} {v : Int} {x : α} (h0 : 0 ≤ v) (h : xs[v.toNat]? = some x) : atI xs v = some x := by
  have e : v = (v.toNat : Int) := by omega
  rw [e]; exact atI_nat h
/-- any item of a list of texts -/
def sp__law_pick (K : PySem.W.Frag) : Sp := fun vs H Q _ =>
  (∃ (s a r : Addr) (xs : List V) (c : Nat), vs = [.ref s, .ref r] ∧ SqL K H r xs ∧ r ≠ s ∧ xs ≠ [] ∧ xs.length ≤ 100000 ∧ Src H s a (c + 1) ∧ ∀ (v : V) (H' : Hp), v ∈ xs → Ext s H H' → Src H' s a c → Q v H') ∨
  (∃ (s a : Addr) (x : Str) (c : Nat), vs = [.ref s, .str x] ∧ tl x ≠ [] ∧ (tl x).length ≤ 100000 ∧ Src H s a (c + 1) ∧ ∀ (ch : Nat) (H' : Hp), ch ∈ tl x → Ext s H H' → Src H' s a c → Q (.str (S [ch])) H')
def sp__law_once_in : Sp := fun vs H Q _ => ∃ (s a : Addr) (m : Int) (c : Nat), vs = [.ref s, .int m] ∧ 0 < m ∧ m < 1073741824 ∧ Src H s a (c + 1) ∧ ∀ (b : Bool) (H' : Hp), Ext s H H' → Src H' s a c → Q (.bl b) H'
end Z
namespace Z
open PySem L2
/-! ### own errors: raised, caught, asked -/
section
variable (P : Program) (w : World) (K : PySem.W.Frag) (mg : Str → Option Value) (base : Heap)
/-- a def that may raise, as callers use it -/
def CalX (x : Str) (ps : List Str) (k : Nat) (sp : Sp) : Prop := ∃ (f : Addr) (fd : FuncData), FnOk P w K mg base (L2.CX P w) k f fd ps sp ∧ mg x = some (.ref f) ∧ PySem.W.keepIn K (.ref f) = true ∧ Binds K fd ps []
end
/-- an own error class with an __init__ of its own (at fI) -/
structure XOk (K : PySem.W.Frag) (mg : Str → Option Value) (x : Str) (C : Addr) : Prop where
  g : mg x = some (.ref C)
  o : OexC K C
  e : ExcC K C
theorem XOk.xf {K : PySem.W.Frag} {mg : Str → Option Value} {x : Str} {C : Addr} (T : XOk K mg x C) : XfC K C := ⟨T.e.hg, T.e.hk, T.e.hs, T.e.hd⟩
/-- the class's __init__(self, f): self.f = f -/
def sp_init (K : PySem.W.Frag) (C : Addr) (f : Str) : Sp := fun vs H Q _ => ∃ (a : Addr) (v : V), vs = [.ref a, v] ∧ OexC K C ∧ PySem.W.findIn K (.ref C) f = some none ∧ H a = some (exo a C none) ∧
  ∀ dx, H dx = none → dx ≠ a → Q .non (upd (upd H dx (exd dx [(f, v)])) a (exo a C (some dx)))
/-- isinstance(e, c), e the caught error at a -/
def rIsX (K : PySem.W.Frag) (cls : Value) (d : Option Addr) (a : Addr) : List V → Hp → VK → Prop := fun xs H Q => ∃ (D dd : Addr) (c : V) (cv : Value) (b : Bool) (fs : List (Str × V)), cls = .ref D ∧ d = some dd ∧ ExcC K D ∧ xs = [.ref a, c] ∧ H dd = some (.xd fs) ∧ ClsV c cv ∧
  PySem.W.kitOne K cls cv = some b ∧ Q (.bl b) H
def rIsXT (K : PySem.W.Frag) (cls : Value) (d : Option Addr) (a : Addr) : List V → Hp → VK → Prop := fun xs H Q => ∃ (D dd tp : Addr) (cs : List V) (us : List Value) (b : Bool) (fs : List (Str × V)), cls = .ref D ∧ d = some dd ∧ ExcC K D ∧ xs = [.ref a, .ref tp] ∧ H dd = some (.xd fs) ∧
  H tp = some (.tup cs) ∧ Paired ClsV cs us ∧ PySem.W.kitAny K cls us = some b ∧ Q (.bl b) H
section
variable {X : Cx} {a : Addr} {oe : Obj} {cls : Value} {d : Option Addr} {pn : List (Addr × Obj)}
theorem inst_at {pins : List (Addr × Obj)} {σ : St} {H : Hp} {s : Shared} {D dd : Addr} {fs : List (Str × V)} (I : Inv (X.suite a ((a, oe) :: pn)) pins σ H s) (hz : Zc (.ref D) (some dd) oe) (hf : ∃ vs, oe.data = .fields vs) (hd : H dd = some (.xd fs)) :
    ∃ od, PySem.W.InstAt s.heap a oe D (some od) := by
  obtain ⟨hget, _⟩ := I.pin (a, oe) (List.mem_append.mpr (.inl List.mem_cons_self))
  obtain ⟨vs, hv⟩ := hf
  have hx : ObjOk X.prog X.w H s.heap dd (.xd fs) := I.hok dd _ hd
  obtain ⟨mA, hns, hr⟩ := hx
  obtain ⟨od, ho, hl⟩ := lookIn_ns hns
  exact ⟨od, ⟨hget, hz.1, by unfold PySem.W.notCls; rw [hv] <;> rfl, by rw [hz.2]; exact ho⟩⟩
theorem kitx_D {K : PySem.W.Frag} {D x : Addr} {ox : Obj} {od : Option Obj} (C : ExcC K D) : PySem.W.KitX K (.ref x) (.ref D) (fun h => PySem.W.InstAt h x ox D od) := by
  refine PySem.W.kitx_exc ?_ C.hg C.hk C.hs C.ha C.hn C.ht C.hm
  have h := C.hd
  obtain ⟨cd, hc, _⟩ := PySem.W.any_some h
  rw [hc]; rfl
theorem call_isX (hz : Zc cls d oe) (hf : ∃ vs, oe.data = .fields vs) : CallR (X.suite a ((a, oe) :: pn)) (.builtin "isinstance") (rIsX X.K cls d a) := by
  intro pins s σ H xs us Q I r h
  obtain ⟨D, dd, c, cv, b, fs, rfl, rfl, C, rfl, hd, k, e, q⟩ := h
  obtain ⟨u1, u2, rfl, r1, r2⟩ := vals2 r
  have e2 := k.eq r2
  subst e2
  obtain rfl : u1 = Value.ref a := r1
  obtain ⟨od, J⟩ := inst_at I hz hf hd
  exact PySem.W.kia_one (kitx_D C) I.kIn J e (fun z => nomatch z) fun tk => ⟨.bl b, H, I.kept (t' := tk) fun _ _ z => z, rfl, q⟩
theorem call_isXT (hz : Zc cls d oe) (hf : ∃ vs, oe.data = .fields vs) : CallR (X.suite a ((a, oe) :: pn)) (.builtin "isinstance") (rIsXT X.K cls d a) := by
  intro pins s σ H xs us Q I r h
  obtain ⟨D, dd, tp, cs, ws, b, fs, rfl, rfl, C, rfl, hd, hT, k, e, q⟩ := h
  obtain ⟨u1, u2, rfl, r1, r2⟩ := vals2 r
  obtain rfl : u2 = Value.ref tp := r2
  obtain rfl : u1 = Value.ref a := r1
  obtain ⟨od, J⟩ := inst_at I hz hf hd
  obtain ⟨_, its, rv, o, h1, h2, n, h3⟩ := (show ObjOk X.prog X.w H s.heap tp (.tup cs) from I.hok tp _ hT)
  have e3 := ClsV.all k rv
  subst e3
  obtain ⟨oc, od', dt, sl⟩ := o
  simp only at h2 h3
  subst h2 h3
  exact PySem.W.kia_tup (kitx_D C) I.kIn J h1 e (fun z => nomatch z) fun tk => ⟨.bl b, H, I.kept (t' := tk) fun _ _ z => z, rfl, q⟩
end
/-- the heap behind a made error -/
theorem made_same {H : Hp} {a dx : Addr} {o1 o2 o3 o4 : HO} (ha : H a = none) (hd : H dx = none) : Same H (upd (del (upd (upd (upd H a o1) dx o2) a o3) a) dx o4) := fun b u h => by
  rw [upd_ne (ne_of_none h hd), del_ne (ne_of_none h ha), upd_ne (ne_of_none h ha), upd_ne (ne_of_none h hd), upd_ne (ne_of_none h ha)]; exact h
/-- what a raised error tells: behind it all stands that stood -/
theorem paired1 {c : V} {u : Value} (k : ClsV c u) : Paired ClsV [c] [u] := .cons k .nil
end Z
namespace Z
open PySem L2 SX
open PySem.Builtin.Str (occurrences lastOccurrence subAt)
theorem at_one {x : Str} {c hi k : Nat} (h : hi ≤ (tl x).length) : StrLaws.At x (S [c]) hi k ↔ k < hi ∧ (tl x)[k]? = some c := by
  have e := StrLaws.subAt_one x c k
  have l1 : (S [c]).length = 1 := rfl
  unfold StrLaws.At
  constructor
  · rintro ⟨h1, h2⟩
    rw [l1] at h1
    refine ⟨by omega, e.mp ⟨?_, h2⟩⟩
    show k + 1 ≤ x.length
    rw [tl_len]; omega
  · rintro ⟨h1, h2⟩
    have h3 := e.mpr h2
    exact ⟨by rw [l1]; omega, h3.2⟩
theorem find_from (x : Str) (c : Nat) {i : Int} (h : 0 ≤ i) :
    (Txt.find3 x (S [c]) i = -1 ∧ ∀ k : Nat, i ≤ (k : Int) → (tl x)[k]? ≠ some c) ∨ ∃ k : Nat, Txt.find3 x (S [c]) i = (k : Int) ∧ i ≤ (k : Int) ∧ (tl x)[k]? = some c ∧ ∀ j : Nat, i ≤ (j : Int) → j < k → (tl x)[j]? ≠ some c := by
  obtain ⟨n, rfl⟩ := Int.eq_ofNat_of_zero_le h
  have hf : fromIndex x.length (n : Int) = n := by
    unfold fromIndex
    rw [if_neg (by omega), Int.max_eq_right (by omega)]; rfl
  unfold Txt.find3
  rw [hf, StrLaws.occ_eq]
  have hx : x.length = (tl x).length := tl_len x
  rcases StrLaws.occ_first x (S [c]) x.length 1 (Nat.le_refl _) (List.range' n (x.length + 1 - n)) n (fun i hi => (List.mem_range'_1.mp hi).1) with ⟨h0, hn⟩ | ⟨pre, a, post, e, h0, ha, hn⟩
  · refine .inl ⟨by rw [h0], fun k hk hc => ?_⟩
    have hlt := (List.getElem?_eq_some_iff.mp hc).1
    exact hn k (List.mem_range'_1.mpr ⟨by omega, by omega⟩) ((at_one (by omega)).mpr ⟨by omega, hc⟩)
  · have h1 := (at_one (by omega)).mp ha
    have hm : a ∈ List.range' n (x.length + 1 - n) := by rw [e]; simp
    refine .inr ⟨a, ?_, by have := (List.mem_range'_1.mp hm).1; omega, h1.2, fun j hj hl hc => ?_⟩
    · cases hq : (forIn (List.range' n (x.length + 1 - n)) ((#[] : Array Nat), n) (StrLaws.occBody x (S [c]) x.length 1)).run.fst.toList with
      | nil =>
        have : (forIn (List.range' n (x.length + 1 - n)) ((#[] : Array Nat), n) (StrLaws.occBody x (S [c]) x.length 1)).run.fst = #[] := Array.toList_eq_nil_iff.mp hq
        rw [this] at h0; simp at h0
      | cons b r =>
        have hb : (forIn (List.range' n (x.length + 1 - n)) ((#[] : Array Nat), n) (StrLaws.occBody x (S [c]) x.length 1)).run.fst[0]? = some b := by
          rw [← Array.getElem?_toList, hq]; rfl
        rw [hb] at h0
        cases h0; rfl
    · have hjm : j ∈ pre := by
        have hlt := (List.getElem?_eq_some_iff.mp hc).1
        have hjr : j ∈ List.range' n (x.length + 1 - n) := List.mem_range'_1.mpr ⟨by omega, by omega⟩
        have hp : (pre ++ a :: post).Pairwise (· < ·) := by rw [← e]; exact List.pairwise_lt_range'
        rw [e] at hjr
        rcases List.mem_append.mp hjr with q | q
        · exact q
        · rcases List.mem_cons.mp q with q | q
          · omega
          · have := (List.pairwise_cons.mp (List.pairwise_append.mp hp).2.1).1 j q
            omega
      exact hn j hjm ((at_one (by omega)).mpr ⟨by have := (List.getElem?_eq_some_iff.mp hc).1; omega, hc⟩)
theorem rfind_in (x : Str) (c : Nat) {i m : Int} (h : 0 ≤ i) (hm : 0 ≤ m) :
    (Txt.rfindIn x (S [c]) i m = -1 ∧ ∀ k : Nat, i ≤ (k : Int) → (k : Int) < m → (tl x)[k]? ≠ some c) ∨ ∃ k : Nat, Txt.rfindIn x (S [c]) i m = (k : Int) ∧ i ≤ (k : Int) ∧ (k : Int) < m ∧ (tl x)[k]? = some c ∧ ∀ j : Nat, k < j → (j : Int) < m → (tl x)[j]? ≠ some c := by
  obtain ⟨n, rfl⟩ := Int.eq_ofNat_of_zero_le h
  obtain ⟨e, rfl⟩ := Int.eq_ofNat_of_zero_le hm
  have hf : fromIndex x.length (n : Int) = n := by
    unfold fromIndex
    rw [if_neg (by omega), Int.max_eq_right (by omega)]; rfl
  have ht : toIndexW x.length (e : Int) = min e x.length := by
    unfold toIndexW
    rw [if_neg (by omega), Int.max_eq_right (by omega)]; rfl
  have hx : x.length = (tl x).length := tl_len x
  unfold Txt.rfindIn
  rw [hf, ht, StrLaws.last_eq]
  have key := StrLaws.last_run x (S [c]) (min e x.length) (List.range' n (min e x.length + 1 - n)) [] none (fun _ h => nomatch h) (fun _ h => nomatch h) List.pairwise_lt_range'
  rw [List.nil_append] at key
  cases hq : (forIn (List.range' n (min e x.length + 1 - n)) none (StrLaws.lastBody x (S [c]) (min e x.length))).run with
  | none =>
    rw [hq] at key
    refine .inl ⟨rfl, fun k hk hk2 hc => ?_⟩
    have hlt := (List.getElem?_eq_some_iff.mp hc).1
    exact key k (List.mem_range'_1.mpr ⟨by omega, by omega⟩) ((at_one (by omega)).mpr ⟨by omega, hc⟩)
  | some a =>
    rw [hq] at key
    obtain ⟨ha, hl⟩ := key
    have h1 := (at_one (by omega)).mp ha
    have hr : n ≤ a := by
      -- the last place is one of those that were looked at
      have : ∀ (l : List Nat) (st : Option Nat) (b : Nat), (forIn l st (StrLaws.lastBody x (S [c]) (min e x.length))).run = some b → st = some b ∨ b ∈ l := by
        intro l
        induction l with
        | nil => intro st b hb; exact .inl hb
        | cons d l ih =>
          intro st b hb
          rw [List.forIn_cons] at hb
          unfold StrLaws.lastBody at hb
          split at hb
          · rcases ih _ _ hb with q | q
            · exact .inr (by cases q; exact List.mem_cons_self)
            · exact .inr (List.mem_cons_of_mem _ q)
          · rcases ih _ _ hb with q | q
            · exact .inl q
            · exact .inr (List.mem_cons_of_mem _ q)
      rcases this _ _ _ hq with q | q
      · cases q
      · exact (List.mem_range'_1.mp q).1
    refine .inr ⟨a, rfl, by omega, by omega, h1.2, fun j hj hj2 hc => ?_⟩
    have hlt := (List.getElem?_eq_some_iff.mp hc).1
    exact hl j (List.mem_range'_1.mpr ⟨by omega, by omega⟩) hj ((at_one (by omega)).mpr ⟨by omega, hc⟩)

theorem tl_inj : ∀ {a b : List Str}, a.map tl = b.map tl → a = b
  | [], [], _ => rfl
  | [], _ :: _, h => by cases h
  | _ :: _, [], h => by cases h
  | x :: a, y :: b, h => by
    rw [List.map_cons, List.map_cons] at h
    obtain ⟨h1, h2⟩ := List.cons.inj h
    rw [tl_ext h1, tl_inj h2]
theorem DV.strsT {K : PySem.W.Frag} {H : Hp} {p : Addr} {xs : List Str} (h : SqT K H p (xs.map V.str)) : DV K H (.tup (xs.map D.str)) (.ref p) := by
  unfold DV
  exact ⟨p, _, rfl, h, DVs.strs xs⟩
end Z
namespace Z
open PySem L2 SX
def top (i : Nat) : Stmt := PySem.Challenge.pw_criermoot_k13_patterns_read.main.body.getD i (.Pass ⟨0, 0, 0, 0⟩)
abbrev s_may_stand : Stmt := top 16
abbrev N_may_stand : List Str := ["sign", "ahead", "commas", "place"]
theorem sc_may_stand : FnScope ["sign", "ahead", "commas", "place"] ["sign", "ahead", "commas", "place"] (defScope s_may_stand) := ⟨rfl, rfl, rfl, by decide +kernel, rfl, by decide +kernel, by decide +kernel⟩
abbrev s_wrong_place : Stmt := top 17
abbrev N_wrong_place : List Str := ["text", "ahead", "commas", "place", "sign"]
theorem sc_wrong_place : FnScope ["text", "ahead", "commas", "place", "sign"] ["text"] (defScope s_wrong_place) := ⟨rfl, rfl, rfl, by decide +kernel, rfl, by decide +kernel, by decide +kernel⟩
abbrev s_items_of : Stmt := top 18
abbrev N_items_of : List Str := ["pattern", "item"]
theorem sc_items_of : FnScope ["pattern", "item"] ["pattern"] (defScope s_items_of) := ⟨rfl, rfl, rfl, by decide +kernel, rfl, by decide +kernel, by decide +kernel⟩
abbrev s_read_pattern : Stmt := top 19
abbrev N_read_pattern : List Str := ["text", "place"]
theorem sc_read_pattern : FnScope ["text", "place"] ["text"] (defScope s_read_pattern) := ⟨rfl, rfl, rfl, by decide +kernel, rfl, by decide +kernel, by decide +kernel⟩
abbrev s_write_pattern : Stmt := top 20
abbrev N_write_pattern : List Str := ["items", "sign", "glob"]
theorem sc_write_pattern : FnScope ["items", "sign", "glob"] ["items"] (defScope s_write_pattern) := ⟨rfl, rfl, rfl, by decide +kernel, rfl, by decide +kernel, by decide +kernel⟩
abbrev s__law_mix : Stmt := top 22
abbrev N__law_mix : List Str := ["seed", "turn", "number"]
theorem sc__law_mix : FnScope ["seed", "turn", "number"] ["seed", "turn"] (defScope s__law_mix) := ⟨rfl, rfl, rfl, by decide +kernel, rfl, by decide +kernel, by decide +kernel⟩
abbrev s__law_source : Stmt := top 23
abbrev N__law_source : List Str := ["script", "seed", "k"]
theorem sc__law_source : FnScope ["script", "seed", "k"] ["script"] (defScope s__law_source) := ⟨rfl, rfl, rfl, by decide +kernel, rfl, by decide +kernel, by decide +kernel⟩
abbrev s__law_draw : Stmt := top 24
abbrev N__law_draw : List Str := ["source", "many", "cell", "value"]
theorem sc__law_draw : FnScope ["source", "many", "cell", "value"] ["source", "many"] (defScope s__law_draw) := ⟨rfl, rfl, rfl, by decide +kernel, rfl, by decide +kernel, by decide +kernel⟩
abbrev s__law_pick : Stmt := top 25
abbrev N__law_pick : List Str := ["source", "row"]
theorem sc__law_pick : FnScope ["source", "row"] ["source", "row"] (defScope s__law_pick) := ⟨rfl, rfl, rfl, by decide +kernel, rfl, by decide +kernel, by decide +kernel⟩
abbrev s__law_is_int : Stmt := top 26
abbrev N__law_is_int : List Str := ["value"]
theorem sc__law_is_int : FnScope ["value"] ["value"] (defScope s__law_is_int) := ⟨rfl, rfl, rfl, by decide +kernel, rfl, by decide +kernel, by decide +kernel⟩
abbrev s__law_same : Stmt := top 27
abbrev N__law_same : List Str := ["actual", "due", "k"]
theorem sc__law_same : FnScope ["actual", "due", "k"] ["actual", "due"] (defScope s__law_same) := ⟨rfl, rfl, rfl, by decide +kernel, rfl, by decide +kernel, by decide +kernel⟩
abbrev s__law_any_sign : Stmt := top 28
abbrev N__law_any_sign : List Str := ["source", "signs"]
theorem sc__law_any_sign : FnScope ["source", "signs"] ["source"] (defScope s__law_any_sign) := ⟨rfl, rfl, rfl, by decide +kernel, rfl, by decide +kernel, by decide +kernel⟩
abbrev s__law_item : Stmt := top 29
abbrev N__law_item : List Str := ["source", "menu", "glob", "k"]
theorem sc__law_item : FnScope ["source", "menu", "glob", "k"] ["source"] (defScope s__law_item) := ⟨rfl, rfl, rfl, by decide +kernel, rfl, by decide +kernel, by decide +kernel⟩
abbrev s__law_text : Stmt := top 30
abbrev N__law_text : List Str := ["source", "way", "many", "text", "sign", "k"]
theorem sc__law_text : FnScope ["source", "way", "many", "text", "sign", "k"] ["source"] (defScope s__law_text) := ⟨rfl, rfl, rfl, by decide +kernel, rfl, by decide +kernel, by decide +kernel⟩
abbrev s__law_bent : Stmt := top 31
abbrev N__law_bent : List Str := ["source", "text", "place", "sign", "way"]
theorem sc__law_bent : FnScope ["source", "text", "place", "sign", "way"] ["source", "text"] (defScope s__law_bent) := ⟨rfl, rfl, rfl, by decide +kernel, rfl, by decide +kernel, by decide +kernel⟩
abbrev s__law_edge : Stmt := top 32
abbrev N__law_edge : List Str := ["source", "text"]
theorem sc__law_edge : FnScope ["source", "text"] ["source"] (defScope s__law_edge) := ⟨rfl, rfl, rfl, by decide +kernel, rfl, by decide +kernel, by decide +kernel⟩
abbrev s__law_odd : Stmt := top 33
abbrev N__law_odd : List Str := ["source", "item", "other", "menu"]
theorem sc__law_odd : FnScope ["source", "item", "other", "menu"] ["source"] (defScope s__law_odd) := ⟨rfl, rfl, rfl, by decide +kernel, rfl, by decide +kernel, by decide +kernel⟩
abbrev s__law_is_pattern : Stmt := top 34
abbrev N__law_is_pattern : List Str := ["text", "items", "item", "glob", "sign"]
theorem sc__law_is_pattern : FnScope ["text", "items", "item", "glob", "sign"] ["text"] (defScope s__law_is_pattern) := ⟨rfl, rfl, rfl, by decide +kernel, rfl, by decide +kernel, by decide +kernel⟩
abbrev s__law_sign_and_glob : Stmt := top 35
abbrev N__law_sign_and_glob : List Str := ["item"]
theorem sc__law_sign_and_glob : FnScope ["item"] ["item"] (defScope s__law_sign_and_glob) := ⟨rfl, rfl, rfl, by decide +kernel, rfl, by decide +kernel, by decide +kernel⟩
abbrev s__law_due : Stmt := top 36
abbrev N__law_due : List Str := ["text", "k", "part", "item"]
theorem sc__law_due : FnScope ["text", "k", "part", "item"] ["text"] (defScope s__law_due) := ⟨rfl, rfl, rfl, by decide +kernel, rfl, by decide +kernel, by decide +kernel⟩
abbrev s__law_asked : Stmt := top 37
abbrev N__law_asked : List Str := ["text", "told", "e"]
theorem sc__law_asked : FnScope ["text", "told", "e"] ["text"] (defScope s__law_asked) := ⟨rfl, rfl, rfl, by decide +kernel, rfl, by decide +kernel, by decide +kernel⟩
abbrev s_law : Stmt := top 38
abbrev N_law : List Str := ["script", "source", "base", "bent", "texts", "text", "due"]
theorem sc_law : FnScope ["script", "source", "base", "bent", "texts", "text", "due"] ["script"] (defScope s_law) := ⟨rfl, rfl, rfl, by decide +kernel, rfl, by decide +kernel, by decide +kernel⟩
structure Tx (mg : Str → Option Value) : Prop where
  n_ValueError : mg "ValueError" = none
  n_abs : mg "abs" = none
  n_bool : mg "bool" = none
  n_enumerate : mg "enumerate" = none
  n_int : mg "int" = none
  n_isinstance : mg "isinstance" = none
  n_len : mg "len" = none
  n_list : mg "list" = none
  n_max : mg "max" = none
  n_min : mg "min" = none
  n_range : mg "range" = none
  n_str : mg "str" = none
  n_tuple : mg "tuple" = none
  c_MOST_ITEMS : ∃ t, mg "MOST_ITEMS" = some (.int 8 t)
  c_LONGEST_PATTERN : ∃ t, mg "LONGEST_PATTERN" = some (.int 60 t)
  c_GLOB_SIGNS : ∃ t, mg "GLOB_SIGNS" = some (.str ("abcdefghijklmnopqrstuvwxyz0123456789.*?") t)
abbrev s_init_BadPattern : Stmt := inClass (top 8) 0
theorem sc_init_BadPattern : FnScope ["self", "at"] ["self", "at"] (defScope s_init_BadPattern) := ⟨rfl, rfl, rfl, by decide +kernel, rfl, by decide +kernel, by decide +kernel⟩
section
variable {P : Program} {w : World} {K : PySem.W.Frag} {mg : Str → Option Value} {base : Heap}
theorem ok_init_BadPattern {C f : Addr} {fd : FuncData} (F : Fun K "__init__" "BadPattern.__init__" s_init_BadPattern f fd) : FnOk P w K mg base CX0 1 f fd ["self", "at"] (sp_init K C "at") := by
  refine F.ok sc_init_BadPattern (fun vs H Q E h => ?_) (fun cdv A outer s₀ H vs Q E hr h => ?_)
  · obtain ⟨a, v, rfl, _⟩ := h; rfl
  · obtain ⟨a, v, rfl, T, hno, ha, q⟩ := h
    refine ⟨_, (pss_one (ps_ost (pv 0) (pv 1))), ?_⟩
    exact ⟨_, rfl, _, rfl, a, C, rfl, T, hno, .inl ⟨ha, fun dx n ne => q dx n ne⟩⟩
end
structure Tc (K : PySem.W.Frag) (mg : Str → Option Value) (A_MootError A_TextError A_LimitError A_BadBook A_BadWord A_Fallen A_BadText A_BadPattern A_BadRule A_BadValue A_BadMarks : Addr) : Prop where
  g_MootError : mg "MootError" = some (.ref A_MootError)
  g_TextError : mg "TextError" = some (.ref A_TextError)
  g_LimitError : mg "LimitError" = some (.ref A_LimitError)
  g_BadBook : mg "BadBook" = some (.ref A_BadBook)
  g_BadWord : mg "BadWord" = some (.ref A_BadWord)
  g_Fallen : mg "Fallen" = some (.ref A_Fallen)
  g_BadText : mg "BadText" = some (.ref A_BadText)
  g_BadPattern : mg "BadPattern" = some (.ref A_BadPattern)
  g_BadRule : mg "BadRule" = some (.ref A_BadRule)
  g_BadValue : mg "BadValue" = some (.ref A_BadValue)
  g_BadMarks : mg "BadMarks" = some (.ref A_BadMarks)
  e_BadPattern : XOk K mg "BadPattern" A_BadPattern
  n_BadPattern_at : PySem.W.findIn K (.ref A_BadPattern) "at" = some none
  i_BadPattern : ∃ (fI : Addr) (fd : FuncData), Fun K "__init__" "BadPattern.__init__" s_init_BadPattern fI fd ∧ PySem.W.findIn K (.ref A_BadPattern) "__init__" = some (some (.ref fI)) ∧ PySem.W.typeIn K (.ref fI) = some (.type "function") ∧ Binds K fd ["self", "at"] []
  m_BadPattern_MootError : PySem.W.exmOne K (.ref A_BadPattern) (.ref A_MootError) = some true
  k_BadPattern_LimitError : PySem.W.kitOne K (.ref A_BadPattern) ((.ref A_LimitError)) = some false
  k_BadPattern_BadText : PySem.W.kitOne K (.ref A_BadPattern) ((.ref A_BadText)) = some false
  k_BadPattern_BadRule : PySem.W.kitOne K (.ref A_BadPattern) ((.ref A_BadRule)) = some false
  k_BadPattern_BadValue : PySem.W.kitOne K (.ref A_BadPattern) ((.ref A_BadValue)) = some false
  k_BadPattern_BadMarks : PySem.W.kitOne K (.ref A_BadPattern) ((.ref A_BadMarks)) = some false
  k_BadPattern_BadBook : PySem.W.kitOne K (.ref A_BadPattern) ((.ref A_BadBook)) = some false
  k_BadPattern_BadWord : PySem.W.kitOne K (.ref A_BadPattern) ((.ref A_BadWord)) = some false
  k_BadPattern_Fallen : PySem.W.kitOne K (.ref A_BadPattern) ((.ref A_Fallen)) = some false
  k_BadPattern_BadPattern : PySem.W.kitOne K (.ref A_BadPattern) ((.ref A_BadPattern)) = some true
  k_BadPattern_TextError : PySem.W.kitOne K (.ref A_BadPattern) ((.ref A_TextError)) = some true
  k_BadPattern_ValueError : PySem.W.kitOne K (.ref A_BadPattern) (.type "ValueError") = some true
end Z
namespace Z
open PySem PySem.Spec PyProof.Rows L2 SX
/-! ### enumerate(text) -/
def ItEs (x : Str) : It := ⟨fun i _ => i < x.cps.size, fun i H v H' => ∃ (T : Addr) (c : Nat), v = .ref T ∧ H T = none ∧ H' = upd H T (.tup [.int (i : Nat), .str ⟨#[c]⟩]) ∧ x.cps[i]? = some c, fun i _ => i = x.cps.size⟩
theorem turn_enumS {P : Program} {w : World} {K : PySem.W.Frag} {elts : List Expr} {kk : Nat} {tpos : Pos} (x : Str) (t : Tok) (e it : Addr) :
    Turn P w K (.Tuple elts kk tpos) (ItEs x) [e, it] e (fun i h => (∃ old, IsEnum h e it ((i : Nat) : Int) old) ∧ h.IsStrIter it (strIterType x) x t i ∧ e ≠ it) where
  mem := by simp
  obj := fun i h st b hb => by
    obtain ⟨⟨old, he⟩, ⟨o, ho, hc, hd⟩, _⟩ := st
    have e' : b = e ∨ b = it := by simpa using hb
    rcases e' with z | z
    · rw [z]; exact ⟨_, he, fun v q => nomatch q⟩
    · rw [z]; exact ⟨o, ho, fun v q => by rw [hd] at q; cases q⟩
  keep := fun i h h' st k => by
    obtain ⟨⟨old, he⟩, ⟨o, ho, r⟩, hne⟩ := st
    exact ⟨⟨old, k e (by simp) _ he⟩, ⟨o, k it (by simp) o ho, r⟩, hne⟩
  item := by
    intro X hP hw hK hc i pins s σ H E I hf st hg
    subst hP hw hK
    obtain ⟨⟨old, he⟩, hit, hne⟩ := st
    have hel : e < s.heap.objs.size := Heap.lt_size he
    have hil : it < s.heap.objs.size := by obtain ⟨_, q, _⟩ := hit; exact Heap.lt_size q
    have D := Draws.text (prog := X.prog) (w := X.w) (A := X.A.in1) (I.ok.hd hc) it x t
    refine wpAny_pyNext_enum_itemC D he hit hg hne (by simp [hne]) fun v h' tk hv ho hit' hT hsz hk => ?_
    obtain ⟨c, u, hcx, rfl⟩ := hv
    refine ⟨_, rfl, wpAny_letOwnedTupleGo_enum (s := { s with heap := h', toks := tk + 1 }) ho fun h'' he' sb => ?_⟩
    have hT2 : h''.get? s.heap.objs.size = some { cls := .type "tuple", data := .seq #[.int i tk, .str ⟨#[c]⟩ u] } := (sb.2 _ (Nat.ne_of_gt hel)).trans hT
    have new : ObjOk X.prog X.w (upd H s.heap.objs.size (.tup [.int (i : Nat), .str ⟨#[c]⟩])) h'' s.heap.objs.size (.tup [.int (i : Nat), .str ⟨#[c]⟩]) :=
      ⟨by show 2 ≤ sizeLine; decide, [.int i tk, .str ⟨#[c]⟩ u], .cons ⟨_, rfl⟩ (.cons ⟨_, rfl⟩ .nil), ⟨_, hT2, rfl, _, rfl⟩⟩
    have I1 : Inv X pins σ (upd H s.heap.objs.size (.tup [.int (i : Nat), .str ⟨#[c]⟩])) { s with heap := h'', toks := tk + 1 } :=
      I.turnedNew (ch := [e, it]) (fun b ob hb q => (sb.2 b (fun z => hb (by simp [z]))).trans (hk b ob (fun z => hb (by simp [z])) (fun z => hb (by simp [z])) q)) hf (Nat.le_refl _) new
    refine ⟨.ref s.heap.objs.size, _, I1, rfl, ⟨_, c, rfl, I.hok.fresh (Nat.le_refl _), rfl, hcx⟩, ⟨⟨.str ⟨#[c]⟩ u, ?_⟩, ?_, hne⟩, fun b hb => ?_⟩
    · have e1 : ((i + 1 : Nat) : Int) = (i : Int) + 1 := by omega
      rw [e1]; exact he'
    · obtain ⟨o, q, r⟩ := hit'
      exact ⟨o, (sb.2 it (Ne.symm hne)).trans q, r⟩
    · have hb' : b < s.heap.objs.size := by
        have e' : b = e ∨ b = it := by simpa using hb
        rcases e' with z | z
        · rw [z]; exact hel
        · rw [z]; exact hil
      rw [upd_ne (Nat.ne_of_lt hb')]
      exact (hf b hb).1
  done := by
    intro X hP hw hK hc i pins s σ H E I hf st hg
    subst hP hw hK
    obtain ⟨⟨old, he⟩, hit, hne⟩ := st
    obtain ⟨f0, f1, f2, f3, f4, f5⟩ := hf it (by simp)
    have hg' : i = x.cps.size := hg
    subst hg'
    have D := Draws.text (prog := X.prog) (w := X.w) (A := X.A.in1) (I.ok.hd hc) it x t
    exact wpAny_pyNext_enum_endD D he hit fun h' eb => ⟨rfl, I.turned (t' := s.toks) (fun b o hb q => eb b o hb q) f0 f1 f3 f4 f5⟩
  self := fun A i s Q E st h => let ⟨⟨_, he⟩, _⟩ := st; wpAny_pyIter_enum he h
def iEnumS (ta : TA) : TI := fun σ H R => ta σ H fun vs H1 => ∃ x : Str, vs = [.str x] ∧ R (ItEs x) H1
theorem pi_enumS {X : Cx} {e : Expr} {ta : TA} {p pos tpos : Pos} {elts : List Expr} {kk : Nat} (hg : Gl X "enumerate") (hm : X.mg "enumerate" = none) (ha : PA X [e] ta) (hs : starEach [e] X.env = [(false, eval e X.env)] := by rfl) :
    PI X (.Tuple elts kk tpos) (.Call (.Name "enumerate" p) [e] [] pos) (iEnumS ta) := by
  refine ⟨fun pins s σ H R I h => ?_⟩
  refine Call_ (ld_blt I hg hm boot_enumerate (PyProof.Rows.callWith_type1 (thn (ha.run pos pins s σ H _ I h) fun us s1 ⟨vs, H1, I1, r1, q1⟩ => ?_) hs rfl))
  obtain ⟨x, ex, q⟩ := q1
  subst ex
  cases r1 with
  | cons r rr =>
    cases rr
    obtain ⟨t, rfl⟩ := r
    refine call_enumerate_str fun h' he hit hsz hk => wpAny_pyIter_enum he ?_
    have I2 : Inv X pins σ H1 { s1 with heap := h' } := I1.kept (t' := s1.toks) hk
    refine ⟨s1.heap.objs.size + 1, [s1.heap.objs.size + 1, s1.heap.objs.size], _, _, H1, rfl, I2, turn_enumS x t (s1.heap.objs.size + 1) s1.heap.objs.size, ⟨⟨.none, he⟩, hit, Nat.succ_ne_self _⟩, fun b hb => ?_, q⟩
    have e' : b = s1.heap.objs.size + 1 ∨ b = s1.heap.objs.size := by simpa using hb
    have hle : s1.heap.objs.size ≤ b := by
      rcases e' with z | z
      · rw [z]; exact Nat.le_add_right _ _
      · rw [z]; exact Nat.le_refl _
    exact I1.fpOk hle (I1.hok.fresh hle)
theorem for_enumS {l : List Nat} {g : TG} {tb : TS} {D : Ends} {σ : L2.St} {H : Hp} (Pv : Nat → L2.St → Hp → Prop) (h0 : Pv 0 σ H)
    (hs : ∀ i c T σ H, l[i]? = some c → Pv i σ H → H T = none → g (.ref T) σ (upd H T (.tup [.int (i : Nat), .str (S [c])])) fun σ2 H2 => tb { D with nx := Pv (i + 1), ct := Pv (i + 1), bk := D.nx } σ2 H2) (hd : ∀ σ H, Pv l.length σ H → D.nx σ H) :
    ∃ W : Nat → Nat → L2.St → Hp → Prop, (∃ m, W 0 m σ H) ∧ ∀ i m σ H, W i m σ H →
      ((ItEs (S l)).stop i H ∧ D.nx σ H) ∨ ((ItEs (S l)).go i H ∧ ∃ N : L2.St → Hp → Prop, (∀ σ' H', N σ' H' → ∃ m', m' < m ∧ W (i + 1) m' σ' H') ∧ ∀ x H', (ItEs (S l)).yld i H x H' → g x σ H' fun σ2 H2 => tb { D with nx := N, ct := N, bk := D.nx } σ2 H2) := by
  refine ⟨fun i m σ H => m = l.length - i ∧ i ≤ l.length ∧ Pv i σ H, ⟨l.length, by simp, Nat.zero_le _, h0⟩, ?_⟩
  rintro i m σ H ⟨rfl, hi, p⟩
  by_cases hlt : i < l.length
  · refine .inr ⟨by show i < l.toArray.size; simpa using hlt, Pv (i + 1), fun σ' H' p' => ⟨l.length - (i + 1), by omega, rfl, hlt, p'⟩, fun x H' y => ?_⟩
    obtain ⟨T, c, rfl, hT, rfl, hc⟩ := y
    exact hs i c T _ _ (by simpa using hc) p hT
  · have e : i = l.length := by omega
    subst e
    exact .inl ⟨by show l.length = l.toArray.size; simp, hd σ H p⟩
end Z
namespace Z
open PySem L2 SX
/-! ### where a beginning stands in a glob -/
abbrev nts (l : List Nat) : List V := l.map fun k : Nat => V.int (k : Int)
def st0 (g : List Nat) : Nat → Prop
  | 0 => True
  | i + 1 => g[i]? = some 42 ∧ st0 g i
def nxt (g : List Nat) (M : Nat → Prop) (c : Nat) : Nat → Prop
  | 0 => False
  | i + 1 => (g[i]? = some 42 ∧ (nxt g M c i ∨ M (i + 1))) ∨ (g[i]? ≠ some 42 ∧ M i ∧ (g[i]? = some 63 ∨ g[i]? = some c))
def stand (g b : List Nat) : Nat → Prop := b.foldl (fun M c => nxt g M c) (st0 g)
/-- closed along stars -/
def closed (g : List Nat) (M : Nat → Prop) : Prop := ∀ y, M y → g[y]? = some 42 → M (y + 1)
def within (g : List Nat) (M : Nat → Prop) : Prop := ∀ y, M y → y ≤ g.length
theorem st0_closed (g : List Nat) : closed g (st0 g) := fun _ h e => ⟨e, h⟩
theorem st0_within (g : List Nat) : within g (st0 g) := fun y h => by
  cases y with
  | zero => omega
  | succ i => have := (List.getElem?_eq_some_iff.mp h.1).1; omega
theorem nxt_closed (g : List Nat) (M : Nat → Prop) (c : Nat) : closed g (nxt g M c) := fun _ h e => .inl ⟨e, .inl h⟩
theorem nxt_within (g : List Nat) (M : Nat → Prop) (c : Nat) : within g (nxt g M c) := fun y h => by
  cases y with
  | zero => omega
  | succ i =>
    rcases h with ⟨h, _⟩ | ⟨_, _, h | h⟩ <;> (have := (List.getElem?_eq_some_iff.mp h).1; omega)
theorem stand_nil (g : List Nat) : stand g [] = st0 g := rfl
theorem stand_snoc (g b : List Nat) (c : Nat) : stand g (b ++ [c]) = nxt g (stand g b) c := by unfold stand; rw [List.foldl_append]; rfl
theorem stand_ok (g b : List Nat) : closed g (stand g b) ∧ within g (stand g b) := by
  unfold stand
  rw [← List.reverse_reverse b, List.foldl_reverse]
  cases b.reverse with
  | nil => exact ⟨st0_closed g, st0_within g⟩
  | cons c r => exact ⟨nxt_closed g _ c, nxt_within g _ c⟩
/-- the places, ascending -/
def Asd (ps : List Nat) (M : Nat → Prop) : Prop := ps.Pairwise (· < ·) ∧ ∀ y, y ∈ ps ↔ M y
theorem asd_one : ∀ {a b : List Nat}, a.Pairwise (· < ·) → b.Pairwise (· < ·) → (∀ y, y ∈ a ↔ y ∈ b) → a = b
  | [], [], _, _, _ => rfl
  | [], y :: b, _, _, h => by have := (h y).mpr (by simp); cases this
  | x :: a, [], _, _, h => by have := (h x).mp (by simp); cases this
  | x :: a, y :: b, pa, pb, h => by
    have ha := List.pairwise_cons.mp pa
    have hb := List.pairwise_cons.mp pb
    have e : x = y := by
      have h1 := (h x).mp (by simp)
      have h2 := (h y).mpr (by simp)
      rcases List.mem_cons.mp h1 with e | e
      · exact e
      · rcases List.mem_cons.mp h2 with f | f
        · exact f.symm
        · have := hb.1 x e; have := ha.1 y f; omega
    subst e
    rw [asd_one ha.2 hb.2 fun z => ?_]
    constructor
    · intro hz
      rcases List.mem_cons.mp ((h z).mp (List.mem_cons_of_mem _ hz)) with e | e
      · subst e; have := ha.1 z hz; omega
      · exact e
    · intro hz
      rcases List.mem_cons.mp ((h z).mpr (List.mem_cons_of_mem _ hz)) with e | e
      · subst e; have := hb.1 z hz; omega
      · exact e
theorem Asd.one {a b : List Nat} {M : Nat → Prop} (x : Asd a M) (y : Asd b M) : a = b := asd_one x.1 y.1 fun z => (x.2 z).trans (y.2 z).symm
theorem Asd.congr {a : List Nat} {M N : Nat → Prop} (x : Asd a M) (h : ∀ y, M y ↔ N y) : Asd a N := ⟨x.1, fun y => (x.2 y).trans (h y)⟩
theorem Asd.len {a : List Nat} {M : Nat → Prop} {g : List Nat} (x : Asd a M) (w : within g M) : a.length ≤ g.length + 1 := by
  have : ∀ (n : Nat) (l : List Nat), l.Pairwise (· < ·) → (∀ y ∈ l, y < n) → l.length ≤ n := by
    intro n
    induction n with
    | zero => intro l _ h; cases l with
      | nil => simp
      | cons y r => have := h y (by simp); omega
    | succ n ih =>
      intro l p h
      rcases List.eq_nil_or_concat l with e | ⟨r, z, e⟩
      · subst e; simp
      · subst e
        rw [List.concat_eq_append] at p h ⊢
        have h2 := ih r (List.pairwise_append.mp p).1 (fun y hy => by
          have := (List.pairwise_append.mp p).2.2 y hy z (by simp)
          have := h z (by simp)
          omega)
        rw [List.length_append]; simp; exact h2
  exact this (g.length + 1) a x.1 fun y hy => by have := w y ((x.2 y).mp hy); omega
/-- a row of stars behind x -/
def isRun (g : List Nat) (x k : Nat) : Prop := (∀ j, j < k → g[x + j]? = some 42) ∧ g[x + k]? ≠ some 42
/-- places that are built up: L so far, m the greatest one that was put in, A what was put in -/
structure Up (g L : List Nat) (m : Nat) (A : Nat → Prop) : Prop where
  asc : L.Pairwise (· < ·)
  cl : ∀ y ∈ L, g[y]? = some 42 → y + 1 ∈ L
  gap : ∀ y z, m ≤ y → y ≤ z → z ∈ L → y ∈ L
  has : ∀ y, A y → y ∈ L
  only : ∀ (N : Nat → Prop), closed g N → (∀ y, A y → N y) → ∀ y ∈ L, N y
theorem Up.nil (g : List Nat) : Up g [] 0 (fun _ => False) := ⟨.nil, (fun _ h => by cases h), (fun _ _ _ _ h => by cases h), (fun _ h => h.elim), (fun _ _ _ _ h => by cases h)⟩
theorem Up.stay {g L : List Nat} {m x z : Nat} {A : Nat → Prop} (u : Up g L m A) (hm : m ≤ x) (hz : z ∈ L) (hx : x ≤ z) : Up g L x (fun y => A y ∨ y = x) :=
  ⟨u.asc, u.cl, fun y z a b c => u.gap y z (by omega) b c, fun y h => h.elim (u.has y) fun e => by subst e; exact u.gap _ _ hm hx hz, fun N c h => u.only N c fun y a => h y (.inl a)⟩
theorem run_mem {x k y : Nat} : y ∈ List.range' x (k + 1) ↔ x ≤ y ∧ y ≤ x + k := by rw [List.mem_range'_1]; omega
theorem Up.more {g L : List Nat} {m x k : Nat} {A : Nat → Prop} (u : Up g L m A) (hl : ∀ y ∈ L, y < x) (hr : isRun g x k) : Up g (L ++ List.range' x (k + 1)) x (fun y => A y ∨ y = x) := by
  refine ⟨?_, ?_, ?_, ?_, ?_⟩
  · exact List.pairwise_append.mpr ⟨u.asc, List.pairwise_lt_range', fun a ha b hb => by have := hl a ha; have := (run_mem.mp hb).1; omega⟩
  · intro y hy e
    rcases List.mem_append.mp hy with h | h
    · exact List.mem_append_left _ (u.cl y h e)
    · refine List.mem_append_right _ (run_mem.mpr ?_)
      have := run_mem.mp h
      by_cases q : y = x + k
      · subst q; exact absurd e hr.2
      · omega
  · intro y z hy hyz hz
    rcases List.mem_append.mp hz with h | h
    · have := hl z h; omega
    · have := run_mem.mp h
      exact List.mem_append_right _ (run_mem.mpr ⟨by omega, by omega⟩)
  · intro y h
    rcases h with h | e
    · exact List.mem_append_left _ (u.has y h)
    · subst e; exact List.mem_append_right _ (run_mem.mpr ⟨Nat.le_refl _, by omega⟩)
  · intro N c h y hy
    rcases List.mem_append.mp hy with q | q
    · exact u.only N c (fun z a => h z (.inl a)) y q
    · obtain ⟨q1, q2⟩ := run_mem.mp q
      have : ∀ j, j ≤ k → N (x + j) := by
        intro j
        induction j with
        | zero => intro _; exact h x (.inr rfl)
        | succ j ih => intro hj; exact c _ (ih (by omega)) (hr.1 j (by omega))
      have := this (y - x) (by omega)
      rwa [show x + (y - x) = y by omega] at this
theorem Up.congr {g L : List Nat} {m : Nat} {A B : Nat → Prop} (u : Up g L m A) (h : ∀ y, A y ↔ B y) : Up g L m B :=
  ⟨u.asc, u.cl, u.gap, fun y b => u.has y ((h y).mpr b), fun N c q => u.only N c fun y a => q y ((h y).mp a)⟩
/-- what is put in by the places of M that are taken -/
def puts (g : List Nat) (c : Nat) (T : Nat → Prop) (y : Nat) : Prop := (T y ∧ ∃ i, y = i + 1 ∧ g[i]? = some 42) ∨ ∃ i, y = i + 1 ∧ T i ∧ (g[i]? = some 63 ∨ g[i]? = some c)
theorem puts_next {g : List Nat} {M : Nat → Prop} {c : Nat} (hc : c ≠ 42) (cl : closed g M) {L : List Nat} {m : Nat} (u : Up g L m (puts g c M)) : Asd L (nxt g M c) := by
  refine ⟨u.asc, fun y => ⟨fun hy => u.only _ (nxt_closed g M c) (fun y p => ?_) y hy, ?_⟩⟩
  · rcases p with ⟨t, i, rfl, e⟩ | ⟨i, rfl, t, e⟩
    · exact .inl ⟨e, .inr t⟩
    · refine .inr ⟨fun q => ?_, t, e⟩
      rcases e with e | e <;> rw [e] at q
      · cases q
      · exact hc (Option.some.inj q)
  · intro h
    induction y with
    | zero => exact h.elim
    | succ i ih =>
      rcases h with ⟨e, h | h⟩ | ⟨_, t, e⟩
      · exact u.cl i (ih h) e
      · exact u.has _ (.inl ⟨h, i, rfl, e⟩)
      · exact u.has _ (.inr ⟨i, rfl, t, e⟩)
theorem start_asd {g L : List Nat} {m : Nat} (u : Up g L m (fun y => y = 0)) : Asd L (st0 g) := by
  refine ⟨u.asc, fun y => ⟨fun hy => u.only _ (st0_closed g) (fun y e => by subst e; exact True.intro) y hy, ?_⟩⟩
  intro h
  induction y with
  | zero => exact u.has 0 rfl
  | succ i ih => exact u.cl i (ih h.2) h.1
/-! ### promises -/
def sp_add_place : Sp := fun vs H Q _ => ∃ (g : Str) (p : Addr) (x : Nat) (L : List Nat) (m : Nat) (A : Nat → Prop), vs = [.str g, .ref p, .int (x : Int)] ∧ H p = some (.lst (nts L)) ∧ Up (tl g) L m A ∧ m ≤ x ∧ x ≤ (tl g).length ∧ (∀ y ∈ L, y ≤ (tl g).length) ∧ (tl g).length ≤ 10000 ∧
  ∀ (L' : List Nat) (H' : Hp), H' p = some (.lst (nts L')) → (∀ b, b ≠ p → H' b = H b) → Up (tl g) L' x (fun y => A y ∨ y = x) → (∀ y ∈ L', y ≤ (tl g).length) → Q .non H'
def sp_follows (K : PySem.W.Frag) : Sp := fun vs H Q _ => ∃ (g : Str) (a : Addr) (c : Nat) (ps : List Nat) (M : Nat → Prop), vs = [.str g, .ref a, .str (S [c])] ∧ SqT K H a (nts ps) ∧ Asd ps M ∧ closed (tl g) M ∧ within (tl g) M ∧ c ≠ 42 ∧ (tl g).length ≤ 10000 ∧
  ∀ (q : Addr) (qs : List Nat) (H' : Hp), Same H H' → H' q = some (.tup (nts qs)) → Asd qs (nxt (tl g) M c) → Q (.ref q) H'
def sp_standing (K : PySem.W.Frag) : Sp := fun vs H Q _ => ∃ (g b : Str), vs = [.str g, .str b] ∧ (∀ c ∈ tl b, c ≠ 42) ∧ (tl g).length ≤ 10000 ∧
  ∀ (q : Addr) (qs : List Nat) (H' : Hp), Same H H' → H' q = some (.tup (nts qs)) → Asd qs (stand (tl g) (tl b)) → Q (.ref q) H'
open Classical in
def sp_fits (K : PySem.W.Frag) : Sp := fun vs H Q _ => ∃ (g b : Str), vs = [.str g, .str b] ∧ (∀ c ∈ tl b, c ≠ 42) ∧ (tl g).length ≤ 10000 ∧
  ∀ (H' : Hp), Same H H' → Q (.bl (decide (stand (tl g) (tl b) (tl g).length))) H'
theorem inV_nts (n : Nat) (l : List Nat) : inV (V.int (n : Int)) (nts l) = decide (n ∈ l) := by
  unfold inV nts
  induction l with
  | nil => rfl
  | cons y ys ih =>
    rw [List.map_cons, List.any_cons, ih]
    by_cases e : n = y
    · subst e; simp [eqV]
    · have : ¬ (y : Int) = (n : Int) := fun h => e (by omega)
      simp [eqV, e, this]
theorem flat_nts (xs : List Nat) : (nts xs).all flatV = true := List.all_eq_true.mpr fun x h => by
  obtain ⟨y, _, rfl⟩ := List.mem_map.mp h; rfl
theorem DVs.nats {K : PySem.W.Frag} {H : Hp} (xs : List Nat) : DVs K H (xs.map fun k : Nat => D.int (k : Int)) (nts xs) := by
  have := DVs.ints (K := K) (H := H) (xs.map fun k : Nat => (k : Int))
  rwa [List.map_map, List.map_map] at this
theorem DV.nats {K : PySem.W.Frag} {H : Hp} {p : Addr} {xs : List Nat} (h : SqT K H p (nts xs)) : DV K H (.tup (xs.map fun k : Nat => D.int (k : Int))) (.ref p) := by
  unfold DV
  exact ⟨p, _, rfl, h, DVs.nats xs⟩
theorem DL.nats {n : Nat} (xs : List Nat) (h : xs.length ≤ 1000000) : DL (n + 2) (.tup (xs.map fun k : Nat => D.int (k : Int))) := ⟨by rw [List.length_map]; exact h, fun d m => by obtain ⟨x, _, rfl⟩ := List.mem_map.mp m; exact True.intro⟩
end Z
namespace Z
open PySem L2 SX
/-! ### patterns -/
def parts (p : List Nat) : List (List Nat) := TL.spl [44] 0 [] p
theorem spl_bound (c0 : Nat) : ∀ (l acc : List Nat), (∀ q ∈ TL.spl [c0] 0 acc l, q.length ≤ acc.length + l.length) ∧ (TL.spl [c0] 0 acc l).length ≤ l.length + 1
  | [], acc => by
    rw [TL.spl_nil]
    exact ⟨fun q h => by rw [List.mem_singleton.mp h]; exact Nat.le_refl _, Nat.le_refl _⟩
  | c :: r, acc => by
    cases h : TL.pre [c0] (c :: r) with
    | true =>
      rw [TL.spl_hit h]
      have ih := spl_bound c0 r []
      refine ⟨fun q hq => ?_, ?_⟩
      · rcases List.mem_cons.mp hq with e | e
        · subst e; omega
        · have := ih.1 q e; rw [List.length_nil] at this; rw [List.length_cons]; omega
      · have := ih.2; show (TL.spl [c0] 0 [] r).length + 1 ≤ r.length + 1 + 1; omega
    | false =>
      rw [TL.spl_miss h]
      have ih := spl_bound c0 r (acc ++ [c])
      refine ⟨fun q hq => ?_, ?_⟩
      · have := ih.1 q hq; rw [List.length_append] at this; rw [List.length_cons]; simp at this; omega
      · rw [List.length_cons]; have := ih.2; omega
theorem parts_len {p q : List Nat} (h : q ∈ parts p) : q.length ≤ p.length := by have := (spl_bound 44 p []).1 q h; rw [List.length_nil] at this; omega
theorem parts_num (p : List Nat) : (parts p).length ≤ p.length + 1 := (spl_bound 44 p []).2
/-- an item: its sign, its glob -/
def isBar (it : List Nat) : Bool := decide (it.take 1 = [33])
def globOf (it : List Nat) : List Nat := if isBar it = true then it.drop 1 else it
theorem globOf_len (it : List Nat) : (globOf it).length ≤ it.length := by
  unfold globOf; split
  · rw [List.length_drop]; omega
  · exact Nat.le_refl _
def fit (g b : List Nat) : Prop := stand g b g.length
open Classical in
noncomputable def letsL (its : List (List Nat)) (b : List Nat) : Bool := its.foldl (fun ans it => if fit (globOf it) b then !isBar it else ans) false
open Classical in
theorem lets_skip (b : List Nat) : ∀ (its : List (List Nat)) (v : Bool), (∀ it ∈ its, ¬ fit (globOf it) b) → its.foldl (fun ans it => if fit (globOf it) b then !isBar it else ans) v = v
  | [], _, _ => rfl
  | x :: r, v, h => by rw [List.foldl_cons, if_neg (h x (by simp))]; exact lets_skip b r v fun y hy => h y (List.mem_cons_of_mem _ hy)
theorem lets_last {its : List (List Nat)} {b : List Nat} {i : Nat} {it : List Nat} (h : its[i]? = some it) (hf : fit (globOf it) b) (hn : ∀ (j : Nat) (y : List Nat), i < j → its[j]? = some y → ¬ fit (globOf y) b) : letsL its b = !isBar it := by
  classical
  unfold letsL
  have e : its = its.take i ++ it :: its.drop (i + 1) := by
    obtain ⟨h1, h2⟩ := List.getElem?_eq_some_iff.mp h
    rw [← h2, List.getElem_cons_drop, List.take_append_drop]
  rw [e, List.foldl_append, List.foldl_cons, if_pos hf]
  refine lets_skip b _ _ fun y hy => ?_
  obtain ⟨j, hj, e2⟩ := List.getElem_of_mem hy
  refine hn (i + 1 + j) y (by omega) ?_
  have := List.getElem?_eq_getElem hj
  rw [List.getElem?_drop, e2] at this
  exact this
theorem lets_none {its : List (List Nat)} {b : List Nat} (hn : ∀ (j : Nat) (y : List Nat), its[j]? = some y → ¬ fit (globOf y) b) : letsL its b = false := by
  classical
  unfold letsL
  refine lets_skip b _ _ fun y hy => ?_
  obtain ⟨j, hj, e⟩ := List.getElem_of_mem hy
  exact hn j y (by rw [List.getElem?_eq_getElem hj, e])
def Clean (b : List Nat) : Prop := ∀ c ∈ b, c ≠ 42
theorem bar_starts (x : Str) : Txt.startswith x (Str.ofString "!") = isBar (tl x) := by
  have e := StrLaws.subAt_one x 33 0
  have e0 : ((tl x)[0]? = some 33) ↔ (tl x).take 1 = [33] := by
    cases tl x with
    | nil => simp
    | cons y r => simp
  unfold Txt.startswith isBar
  rw [Bool.eq_iff_iff, Bool.and_eq_true, decide_eq_true_iff, decide_eq_true_iff, ← e0]
  exact e
theorem bar_cut (x : Str) : decide (V.str (cutS x none (some 1)) = V.str (Str.ofString "!")) = isBar (tl x) := by
  unfold isBar
  rw [Bool.eq_iff_iff, decide_eq_true_iff, decide_eq_true_iff]
  have e : tl (cutS x none (some 1)) = (tl x).take 1 := cutS_to (by decide)
  constructor
  · intro h
    have h2 := congrArg tl (V.str.inj h)
    rw [e] at h2; exact h2
  · intro h
    exact congrArg V.str (tl_ext (by rw [e, h]; rfl))
/-- the law's places: those that lie ahead of a star, too -/
def Lax (g : List Nat) (N M : Nat → Prop) : Prop := ∀ y, M y ↔ (N y ∨ (g[y]? = some 42 ∧ N (y + 1)))
theorem lax_start (g : List Nat) : Lax g (st0 g) (st0 g) := fun y => ⟨.inl, fun h => h.elim id fun k => k.2.2⟩
/-- what the law puts in, ahead of its last loop -/
def lawA (g : List Nat) (M : Nat → Prop) (c : Nat) (y : Nat) : Prop := (M y ∧ g[y]? = some 42) ∨ ∃ i, y = i + 1 ∧ M i ∧ (g[i]? = some 63 ∨ g[i]? = some c)
def lawB (g : List Nat) (A : Nat → Prop) : Nat → Prop
  | 0 => A 0
  | i + 1 => A (i + 1) ∨ (lawB g A i ∧ g[i]? = some 42)
theorem lax_next {g : List Nat} {N M : Nat → Prop} {c : Nat} (hc : c ≠ 42) (cl : closed g N) (l : Lax g N M) : Lax g (nxt g N c) (lawB g (lawA g M c)) := by
  have ns : ∀ i : Nat, (g[i]? = some 63 ∨ g[i]? = some c) → g[i]? ≠ some 42 := fun i h e => by
    rcases h with h | h <;> rw [h] at e
    · cases e
    · exact hc (Option.some.inj e)
  have bA : ∀ y, lawA g M c y → lawB g (lawA g M c) y := fun y h => by
    cases y with
    | zero => exact h
    | succ i => exact .inl h
  have fA : ∀ y, lawA g M c y → nxt g N c y ∨ (g[y]? = some 42 ∧ nxt g N c (y + 1)) := fun y h => by
    rcases h with ⟨m, e⟩ | ⟨i, rfl, m, k⟩
    · refine .inr ⟨e, .inl ⟨e, .inr ?_⟩⟩
      rcases (l y).mp m with n | ⟨_, n⟩
      · exact cl y n e
      · exact n
    · refine .inl (.inr ⟨ns i k, ?_, k⟩)
      rcases (l i).mp m with n | ⟨q, _⟩
      · exact n
      · exact absurd q (ns i k)
  have back : ∀ y, nxt g N c y → lawB g (lawA g M c) y := fun y => by
    induction y with
    | zero => intro h; exact h.elim
    | succ i ih =>
      rintro (⟨e, h | h⟩ | ⟨_, n, k⟩)
      · exact .inr ⟨ih h, e⟩
      · exact .inr ⟨bA i (.inl ⟨(l i).mpr (.inr ⟨e, h⟩), e⟩), e⟩
      · exact .inl (.inr ⟨i, rfl, (l i).mpr (.inl n), k⟩)
  intro y
  constructor
  · induction y with
    | zero => intro h; exact fA 0 h
    | succ i ih =>
      rintro (h | ⟨h, e⟩)
      · exact fA _ h
      · rcases ih h with n | ⟨_, n⟩
        · exact .inl (.inl ⟨e, .inl n⟩)
        · exact .inl n
  · rintro (h | ⟨e, h⟩)
    · exact back y h
    · rcases h with ⟨_, h | h⟩ | ⟨q, _⟩
      · exact back y h
      · exact bA y (.inl ⟨(l y).mpr (.inr ⟨e, h⟩), e⟩)
      · exact absurd e q
/-! ### promises -/
def itemV (it : List Nat) : List V := [.int (if isBar it = true then 0 else 1), .str (S (globOf it))]
def sp_items_of (K : PySem.W.Frag) : Sp := fun vs H Q _ => ∃ (p : Str), vs = [.str p] ∧ (tl p).length ≤ 3000 ∧
  ∀ (q : Addr) (ts : List Addr) (H' : Hp), Same H H' → H' q = some (.tup (ts.map V.ref)) → ts.length = (parts (tl p)).length → (∀ (i : Nat) (t : Addr) (it : List Nat), ts[i]? = some t → (parts (tl p))[i]? = some it → H' t = some (.tup (itemV it))) → Q (.ref q) H'
def sp_lets (K : PySem.W.Frag) : Sp := fun vs H Q _ => ∃ (p b : Str), vs = [.str p, .str b] ∧ (tl p).length ≤ 3000 ∧ Clean (tl b) ∧ ∀ H', Same H H' → Q (.bl (letsL (parts (tl p)) (tl b))) H'
def sp_lets_one (K : PySem.W.Frag) : Sp := fun vs H Q _ => ∃ (p : Str) (a : Addr) (bs : List Str), vs = [.str p, .ref a] ∧ SqT K H a (bs.map V.str) ∧ (tl p).length ≤ 3000 ∧ bs.length ≤ 1000 ∧ (∀ b ∈ bs, Clean (tl b)) ∧ ∀ H', Same H H' → Q (.bl (bs.any fun b => letsL (parts (tl p)) (tl b))) H'
open Classical in
def sp__law_fits (K : PySem.W.Frag) : Sp := fun vs H Q _ => ∃ (g b : Str), vs = [.str g, .str b] ∧ Clean (tl b) ∧ (tl g).length ≤ 10000 ∧ ∀ (H' : Hp), Same H H' → Q (.bl (decide (fit (tl g) (tl b)))) H'
def sp__law_lets (K : PySem.W.Frag) : Sp := sp_lets K
def sp__law_lets_some (K : PySem.W.Frag) : Sp := sp_lets_one K
theorem split_bar (p : Str) : Txt.split p (Str.ofString ",") = (parts (tl p)).map S := split_S (a := tl p) (b := [44]) (by decide) (by decide)

/-! ### lists of truth values -/
def Bs (bs : List Bool) (n : Nat) (M : Nat → Prop) : Prop := bs.length = n + 1 ∧ ∀ y, bs[y]? = some true ↔ M y
theorem Bs.set {bs : List Bool} {n k : Nat} {M : Nat → Prop} (h : Bs bs n M) (hk : k ≤ n) : Bs (bs.set k true) n (fun y => M y ∨ y = k) := by
  refine ⟨by rw [List.length_set]; exact h.1, fun y => ?_⟩
  rw [List.getElem?_set]
  by_cases e : k = y
  · subst e
    rw [if_pos rfl, if_pos (by have := h.1; omega)]
    exact ⟨fun _ => .inr rfl, fun _ => rfl⟩
  · rw [if_neg e]
    exact ⟨fun q => .inl ((h.2 y).mp q), fun q => q.elim (h.2 y).mpr fun z => absurd z.symm e⟩
theorem Bs.congr {bs : List Bool} {n : Nat} {M N : Nat → Prop} (h : Bs bs n M) (e : ∀ y, M y ↔ N y) : Bs bs n N := ⟨h.1, fun y => (h.2 y).trans (e y)⟩
theorem Bs.get {bs : List Bool} {n k : Nat} {M : Nat → Prop} (h : Bs bs n M) (hk : k ≤ n) : ∃ b : Bool, bs[k]? = some b ∧ (b = true ↔ M k) := by
  have hl : k < bs.length := by have := h.1; omega
  refine ⟨bs[k], List.getElem?_eq_getElem hl, ?_⟩
  rw [← h.2 k, List.getElem?_eq_getElem hl]
  exact ⟨fun e => by rw [e], fun e => Option.some.inj e⟩
theorem atI_bl {bs : List Bool} {k : Nat} {b : Bool} {z : Int} (hz : z = (k : Int)) (h : bs[k]? = some b) : atI (bs.map V.bl) z = some (.bl b) := at_of hz (by rw [List.getElem?_map, h]; rfl)
theorem ixN_pos {n k : Nat} {z : Int} (hz : z = (k : Int)) (h : k < n) : ixN n z = some k := by
  subst hz
  unfold ixN
  rw [if_pos (by omega), if_pos (by omega)]; rfl
theorem map_set_bl (bs : List Bool) (k : Nat) : (bs.map V.bl).set k (.bl true) = (bs.set k true).map V.bl := by rw [List.map_set]
theorem bs_false (n : Nat) : Bs (List.replicate (n + 1) false) n (fun _ => False) := by
  refine ⟨List.length_replicate, fun y => ⟨fun h => ?_, fun h => h.elim⟩⟩
  rw [List.getElem?_replicate] at h
  split at h <;> cases h
theorem flatten_one (n : Nat) : (List.replicate n [V.bl false]).flatten = (List.replicate n false).map V.bl := by
  induction n with
  | zero => rfl
  | succ n ih => rw [List.replicate_succ, List.flatten_cons, ih, List.replicate_succ, List.map_cons]; rfl
end Z
namespace Z
open PySem L2 SX
def sp13 (f n : Nat) : Sp := fun vs H Q _ => ∃ (s a : Addr) (c : Nat), vs = [.ref s] ∧ Src H s a (c + f) ∧ ∀ (x : Str) (H' : Hp), (tl x).length ≤ n → Ext s H H' → Src H' s a c → Q (.str x) H'
def sp13_bent : Sp := fun vs H Q _ => ∃ (s a : Addr) (x : Str) (c : Nat), vs = [.ref s, .str x] ∧ (tl x).length ≤ 1000 ∧ Src H s a (c + 10) ∧ ∀ (y : Str) (H' : Hp), (tl y).length ≤ (tl x).length + 3 → Ext s H H' → Src H' s a c → Q (.str y) H'
theorem ext_free {H H1 : Hp} {s a u : Addr} {c : Nat} (x : Ext s H H1) (S : Src H1 s a c) (h : H1 u = none) : H u = none := by
  cases e : H u with
  | none => rfl
  | some o =>
    by_cases q : u = s
    · subst q
      obtain ⟨xs, e2⟩ := S.lst
      rw [h] at e2; cases e2
    · have := x _ _ q e
      rw [h] at this; cases this
theorem joinL_len {s : List Nat} {n : Nat} : ∀ {ls : List (List Nat)}, (∀ l ∈ ls, l.length ≤ n) → (TL.joinL s ls).length ≤ ls.length * (n + s.length)
  | [], _ => by simp [TL.joinL]
  | [x], h => by have := h x (by simp); show x.length ≤ 1 * (n + s.length); omega
  | x :: y :: r, h => by
    have ih := joinL_len (s := s) (ls := y :: r) (fun l m => h l (List.mem_cons_of_mem _ m))
    have := h x (by simp)
    show (x ++ (s ++ TL.joinL s (y :: r))).length ≤ ((y :: r).length + 1) * (n + s.length)
    rw [List.length_append, List.length_append, Nat.succ_mul]
    omega
theorem tl_joinS (s : Str) (xs : List Str) : tl (Txt.join s xs) = TL.joinL (tl s) (xs.map tl) := by
  have h := join_S (tl s) (xs.map tl)
  rw [tl_mapS] at h
  exact congrArg tl h
theorem sum_len {n : Nat} : ∀ {xs : List Str}, (∀ x ∈ xs, (tl x).length ≤ n) → (xs.map (·.length)).sum ≤ xs.length * n
  | [], _ => by simp
  | x :: xs, h => by
    have := h x (by simp)
    have ih := sum_len (n := n) (xs := xs) (fun y m => h y (List.mem_cons_of_mem _ m))
    rw [List.map_cons, List.sum_cons, List.length_cons, Nat.succ_mul, tl_len]; omega
theorem cut_le (x : Str) (i j : Option Int) : (tl (cutS x i j)).length ≤ (tl x).length := by
  show ((List.drop _ (tl x)).take _).length ≤ _
  rw [List.length_take, List.length_drop]; omega
theorem len_mem {n : Nat} {xs : List Str} {w : V} (h : ∀ x ∈ xs, (tl x).length ≤ n) (m : w ∈ xs.map V.str) : ∃ x, w = V.str x ∧ (tl x).length ≤ n := by
  obtain ⟨x, hx, rfl⟩ := List.mem_map.mp m
  exact ⟨x, rfl, h x hx⟩
end Z
namespace Z
open PySem L2 SX
/-! ### patterns: scanning and splitting -/
def okc (c : Nat) : Bool := decide (c ∈ tl (Str.ofString "abcdefghijklmnopqrstuvwxyz0123456789.*?"))
theorem okc_44 : okc 44 = false := by decide +kernel
theorem okc_33 : okc 33 = false := by decide +kernel
def step (a c : Nat) : Bool := (decide (c = 33) && decide (a = 44)) || (decide (c = 44) && (decide (a ≠ 44) && decide (a ≠ 33))) || okc c
/-- all signs may follow each other, behind a -/
def runs : Nat → List Nat → Bool
  | _, [] => true
  | a, c :: r => step a c && runs c r
def lastOf : Nat → List Nat → Nat
  | a, [] => a
  | _, c :: r => lastOf c r
def globP (it : List Nat) : List Nat := if decide (it.take 1 = [33]) = true then it.drop 1 else it
def goodItem (it : List Nat) : Bool := decide (globP it ≠ []) && (globP it).all okc
/-- an item so far: what stands behind its ! is of glob signs -/
def part1 (acc : List Nat) : Bool := (globP acc).all okc
theorem runs_app (a : Nat) (l m : List Nat) : runs a (l ++ m) = (runs a l && runs (lastOf a l) m) := by
  induction l generalizing a with
  | nil => simp [runs, lastOf]
  | cons c r ih => show (step a c && runs c (r ++ m)) = ((step a c && runs c r) && runs (lastOf c r) m); rw [ih, Bool.and_assoc]
theorem last_app (a c : Nat) (l : List Nat) : lastOf a (l ++ [c]) = c := by
  induction l generalizing a with
  | nil => rfl
  | cons d r ih => exact ih d
theorem globP_app {acc : List Nat} {c : Nat} (h : acc ≠ []) : globP (acc ++ [c]) = globP acc ++ [c] := by
  cases acc with
  | nil => exact absurd rfl h
  | cons d r =>
    unfold globP
    show (if decide ([d] = [33]) = true then r ++ [c] else d :: (r ++ [c])) = (if decide ([d] = [33]) = true then r else d :: r) ++ [c]
    split <;> rfl
/-- the last sign ahead, as the scan sees it: the accumulated item behind a comma -/
theorem good_last {acc : List Nat} (h : part1 acc = true) : goodItem acc = (decide (lastOf 44 acc ≠ 44) && decide (lastOf 44 acc ≠ 33)) := by
  rcases List.eq_nil_or_concat acc with e | ⟨l, c, e⟩
  · subst e; decide
  · rw [List.concat_eq_append] at e
    subst e
    rw [last_app]
    unfold goodItem
    rw [show (globP (l ++ [c])).all okc = true from h, Bool.and_true]
    by_cases hl : l = []
    · subst hl
      by_cases e33 : c = 33
      · subst e33; decide
      · have g : globP ([] ++ [c]) = [c] := by
          unfold globP
          rw [if_neg (by simp [e33])]; rfl
        have oc : okc c = true := by
          have h' : (globP ([] ++ [c])).all okc = true := h
          rw [g] at h'
          simpa using h'
        have e44 : c ≠ 44 := fun e => by rw [e, okc_44] at oc; cases oc
        rw [g, decide_eq_true (show [c] ≠ [] by simp), decide_eq_true e44, decide_eq_true e33]; rfl
    · have g := globP_app (c := c) hl
      have h' : (globP (l ++ [c])).all okc = true := h
      rw [g, List.all_append] at h'
      have oc : okc c = true := by
        have := (Bool.and_eq_true_iff.mp h').2
        simpa using this
      have e44 : c ≠ 44 := fun e => by rw [e, okc_44] at oc; cases oc
      have e33 : c ≠ 33 := fun e => by rw [e, okc_33] at oc; cases oc
      rw [g, decide_eq_true (show globP l ++ [c] ≠ [] by simp), decide_eq_true e44, decide_eq_true e33]; rfl
theorem part_step {acc : List Nat} {c : Nat} (h : part1 acc = true) (hc : c ≠ 44) : part1 (acc ++ [c]) = step (lastOf 44 acc) c := by
  unfold step
  rw [decide_eq_false hc, Bool.false_and, Bool.or_false]
  by_cases hl : acc = []
  · subst hl
    by_cases e33 : c = 33
    · subst e33; decide
    · have g : globP ([] ++ [c]) = [c] := by
        unfold globP
        rw [if_neg (by simp [e33])]; rfl
      unfold part1
      rw [g, decide_eq_false e33, Bool.false_and, Bool.false_or]
      simp
  · unfold part1
    rw [globP_app hl, List.all_append, show (globP acc).all okc = true from h]
    have l44 : lastOf 44 acc ≠ 44 := by
      rcases List.eq_nil_or_concat acc with e | ⟨l, d, e⟩
      · exact absurd e hl
      · rw [List.concat_eq_append] at e
        subst e
        rw [last_app]
        intro e
        subst e
        by_cases hl2 : l = []
        · subst hl2
          revert h; decide +kernel
        · have h' : (globP (l ++ [44])).all okc = true := h
          rw [globP_app hl2, List.all_append] at h'
          have := (Bool.and_eq_true_iff.mp h').2
          simp [okc_44] at this
    rw [decide_eq_false l44, Bool.and_false, Bool.false_or]
    simp
theorem bad_part (l : List Nat) : ∀ acc : List Nat, part1 acc = false → (TL.spl [44] 0 acc l).all goodItem = false := by
  induction l with
  | nil =>
    intro acc h
    rw [TL.spl_nil]
    show (goodItem acc && true) = false
    unfold goodItem
    rw [show (globP acc).all okc = false from h, Bool.and_false]; rfl
  | cons c r ih =>
    intro acc h
    by_cases hc : c = 44
    · subst hc
      rw [TL.spl_hit (show TL.pre [44] (44 :: r) = true by show ([44] == [44]) = true; rfl)]
      show (goodItem acc && _) = false
      unfold goodItem
      rw [show (globP acc).all okc = false from h, Bool.and_false, Bool.false_and]
    · rw [TL.spl_miss (show TL.pre [44] (c :: r) = false by show ([c] == [44]) = false; simp [hc])]
      refine ih _ ?_
      have hl : acc ≠ [] := fun e => by rw [e] at h; revert h; decide
      unfold part1
      rw [globP_app hl, List.all_append, show (globP acc).all okc = false from h, Bool.false_and]
theorem spl_good (l : List Nat) : ∀ acc : List Nat, part1 acc = true → (TL.spl [44] 0 acc l).all goodItem = (runs (lastOf 44 acc) l && (decide (lastOf (lastOf 44 acc) l ≠ 44) && decide (lastOf (lastOf 44 acc) l ≠ 33))) := by
  induction l with
  | nil =>
    intro acc h
    rw [TL.spl_nil]
    show (goodItem acc && true) = _
    rw [Bool.and_true, good_last h]; rfl
  | cons c r ih =>
    intro acc h
    by_cases hc : c = 44
    · subst hc
      rw [TL.spl_hit (show TL.pre [44] (44 :: r) = true by show ([44] == [44]) = true; rfl)]
      show (goodItem acc && (TL.spl [44] 0 [] r).all goodItem) = ((step (lastOf 44 acc) 44 && runs 44 r) && _)
      rw [ih [] (by decide), good_last h]
      have : step (lastOf 44 acc) 44 = (decide (lastOf 44 acc ≠ 44) && decide (lastOf 44 acc ≠ 33)) := by
        unfold step
        rw [okc_44]; simp
      rw [this]
      show (_ && (runs 44 r && (decide (lastOf 44 r ≠ 44) && decide (lastOf 44 r ≠ 33)))) = _
      rw [show lastOf (lastOf 44 acc) (44 :: r) = lastOf 44 r from rfl]
      simp only [Bool.and_assoc]
    · rw [TL.spl_miss (show TL.pre [44] (c :: r) = false by show ([c] == [44]) = false; simp [hc])]
      by_cases hs : step (lastOf 44 acc) c = true
      · rw [ih (acc ++ [c]) (by rw [part_step h hc]; exact hs), last_app]
        show _ = ((step (lastOf 44 acc) c && runs c r) && _)
        rw [hs, Bool.true_and]; rfl
      · have hs' : step (lastOf 44 acc) c = false := Bool.eq_false_iff.mpr hs
        show _ = ((step (lastOf 44 acc) c && runs c r) && _)
        rw [hs', Bool.false_and, Bool.false_and]
        have np : part1 (acc ++ [c]) = false := by rw [part_step h hc]; exact hs'
        exact bad_part r _ np
theorem spl_count (l : List Nat) : ∀ acc : List Nat, (TL.spl [44] 0 acc l).length = l.count 44 + 1 := by
  induction l with
  | nil => intro acc; rw [TL.spl_nil]; rfl
  | cons c r ih =>
    intro acc
    by_cases hc : c = 44
    · subst hc
      rw [TL.spl_hit (show TL.pre [44] (44 :: r) = true by show ([44] == [44]) = true; rfl), List.count_cons_self]
      show (TL.spl [44] 0 [] r).length + 1 = _
      rw [ih]
    · rw [TL.spl_miss (show TL.pre [44] (c :: r) = false by show ([c] == [44]) = false; simp [hc]), ih, List.count_cons_of_ne hc]
/-- a pattern, as the law splits it -/
def isPat (l : List Nat) : Bool := decide (l.length ≤ 60) && (decide ((TL.spl [44] 0 [] l).length ≤ 8) && (TL.spl [44] 0 [] l).all goodItem)
def endOk (a : Nat) : Bool := decide (a ≠ 44) && decide (a ≠ 33)
theorem isPat_eq (l : List Nat) : isPat l = (decide (l.length ≤ 60) && (decide (l.count 44 ≤ 7) && (runs 44 l && endOk (lastOf 44 l)))) := by
  unfold isPat endOk
  rw [spl_good l [] (by decide), spl_count]
  rw [show decide (l.count 44 + 1 ≤ 8) = decide (l.count 44 ≤ 7) by rw [decide_eq_decide]; omega]
  rfl
/-- the beginning of some pattern, as the law asks it -/
def isBeg (l : List Nat) : Bool := isPat l || isPat (l ++ [97])
theorem isBeg_eq (l : List Nat) : isBeg l = (runs 44 l && (decide (l.count 44 ≤ 7) && (decide (l.length ≤ 59) || (decide (l.length ≤ 60) && endOk (lastOf 44 l))))) := by
  unfold isBeg
  rw [isPat_eq, isPat_eq, runs_app, last_app, List.length_append, List.count_append]
  rw [show runs (lastOf 44 l) [97] = true by show (step _ 97 && true) = true; unfold step; rw [show okc 97 = true by decide +kernel]; simp, show endOk 97 = true by decide]
  rw [show List.count 44 [97] = 0 by decide, Nat.add_zero, Bool.and_true, Bool.and_true]
  rw [show decide (l.length + [97].length ≤ 60) = decide (l.length ≤ 59) by rw [decide_eq_decide]; show l.length + 1 ≤ 60 ↔ _; omega]
  cases runs 44 l <;> cases decide (l.count 44 ≤ 7) <;> cases decide (l.length ≤ 59) <;> cases decide (l.length ≤ 60) <;> cases endOk (lastOf 44 l) <;> rfl
/-- a sign behind a, behind k commas, at the place n -/
def may (c a k n : Nat) : Bool := if c = 33 then decide (a = 44) && decide (n < 59) else if c = 44 then (decide (a ≠ 44) && decide (a ≠ 33)) && (decide (k < 7) && decide (n < 59)) else okc c && decide (n < 60)
theorem isBeg_snoc (l : List Nat) (c : Nat) : isBeg (l ++ [c]) = (isBeg l && may c (lastOf 44 l) (l.count 44) l.length) := by
  rw [isBeg_eq, isBeg_eq, runs_app, last_app, List.length_append, List.count_append]
  show ((runs 44 l && (step (lastOf 44 l) c && true)) && (decide (l.count 44 + List.count 44 [c] ≤ 7) && (decide (l.length + 1 ≤ 59) || (decide (l.length + 1 ≤ 60) && endOk c)))) = _
  unfold may step
  by_cases h33 : c = 33
  · subst h33
    rw [if_pos rfl, show List.count 44 [33] = 0 by decide, okc_33, show endOk 33 = false by decide, decide_eq_true (rfl : (33 : Nat) = 33), decide_eq_false (show ¬ (33 : Nat) = 44 by decide)]
    by_cases hn : l.length < 59
    · rw [decide_eq_true (show l.length + 1 ≤ 59 by omega), decide_eq_true (show l.length ≤ 59 by omega), decide_eq_true hn]
      cases runs 44 l <;> cases decide (lastOf 44 l = 44) <;> cases decide (l.count 44 ≤ 7) <;> simp
    · rw [decide_eq_false (show ¬ l.length + 1 ≤ 59 by omega), decide_eq_false hn]
      simp
  · rw [if_neg h33]
    by_cases h44 : c = 44
    · subst h44
      rw [if_pos rfl, show List.count 44 [44] = 1 by decide, okc_44, show endOk 44 = false by decide, decide_eq_true (rfl : (44 : Nat) = 44), decide_eq_false h33]
      rw [show decide (l.count 44 + 1 ≤ 7) = decide (l.count 44 < 7) by rw [decide_eq_decide]; omega]
      by_cases hn : l.length < 59
      · rw [decide_eq_true (show l.length + 1 ≤ 59 by omega), decide_eq_true (show l.length ≤ 59 by omega), decide_eq_true hn]
        by_cases hk : l.count 44 < 7
        · rw [decide_eq_true hk, decide_eq_true (show l.count 44 ≤ 7 by omega)]; simp
        · rw [decide_eq_false hk]; simp
      · rw [decide_eq_false (show ¬ l.length + 1 ≤ 59 by omega), decide_eq_false hn]
        simp
    · rw [if_neg h44, show List.count 44 [c] = 0 by rw [List.count_cons_of_ne h44]; rfl, decide_eq_false h33, decide_eq_false h44, Nat.add_zero]
      have : endOk c = true := by unfold endOk; rw [decide_eq_true h44, decide_eq_true h33]; rfl
      rw [this]
      by_cases hn : l.length < 60
      · rw [decide_eq_true (show l.length + 1 ≤ 60 by omega), decide_eq_true (show l.length ≤ 59 by omega), decide_eq_true hn]
        cases runs 44 l <;> cases okc c <;> cases decide (l.count 44 ≤ 7) <;> simp
      · rw [decide_eq_false (show ¬ l.length + 1 ≤ 59 by omega), decide_eq_false (show ¬ l.length + 1 ≤ 60 by omega), decide_eq_false hn]
        simp
theorem isPat_of_beg {l : List Nat} (h : isBeg l = true) : isPat l = endOk (lastOf 44 l) := by
  rw [isPat_eq]
  rw [isBeg_eq] at h
  simp only [Bool.and_eq_true, Bool.or_eq_true] at h
  obtain ⟨h1, h2, h3⟩ := h
  rw [h1, h2]
  have : l.length ≤ 60 := by rcases h3 with h | h
                             · have := of_decide_eq_true h; omega
                             · exact of_decide_eq_true h.1
  rw [decide_eq_true this]; rfl
theorem eqL {x y : Str} : V.str x = V.str y ↔ tl x = tl y := ⟨fun h => by injection h with h; rw [h], fun h => by rw [tl_ext h]⟩
theorem split_comma (x : Str) : Txt.split x (Str.ofString ",") = (TL.spl [44] 0 [] (tl x)).map S := split_S (a := tl x) (b := [44]) (by decide) (by decide)
def sp_isPat : Sp := fun vs H Q _ => ∃ (x : Str), vs = [.str x] ∧ (tl x).length ≤ 2000 ∧ ∀ H', Same H H' → Q (.bl (isPat (tl x))) H'
def sp_may_stand : Sp := fun vs H Q _ => ∃ (c a k n : Nat), vs = [.str (S [c]), .str (S [a]), .int (k : Int), .int (n : Int)] ∧ Q (.bl (may c a k n)) H
/-- where a text is wrong -/
def wrongAt (l : List Nat) (o : Option Nat) : Prop := match o with
  | some k => (∀ j, j < k → j < l.length → isBeg (l.take (j + 1)) = true) ∧ ((k < l.length ∧ isBeg (l.take (k + 1)) = false) ∨ (k = l.length ∧ isPat l = false))
  | none => (∀ j, j < l.length → isBeg (l.take (j + 1)) = true) ∧ isPat l = true
theorem wrongAt_one {l : List Nat} {o p : Option Nat} (x : wrongAt l o) (y : wrongAt l p) : o = p := by
  have key : ∀ (k m : Nat), wrongAt l (some k) → wrongAt l (some m) → ¬ k < m := fun k m x y h => by
    obtain ⟨_, x2⟩ := x
    obtain ⟨y1, y2⟩ := y
    have ml : m ≤ l.length := by rcases y2 with h | h <;> omega
    rcases x2 with x2 | x2
    · have := y1 k h x2.1
      rw [x2.2] at this; cases this
    · omega
  have mix : ∀ k : Nat, wrongAt l (some k) → wrongAt l none → False := fun k x y => by
    obtain ⟨_, x2⟩ := x
    obtain ⟨y1, y2⟩ := y
    rcases x2 with x2 | x2
    · have := y1 k x2.1
      rw [x2.2] at this; cases this
    · rw [x2.2] at y2; cases y2
  cases o with
  | none => cases p with
    | none => rfl
    | some m => exact (mix m y x).elim
  | some k => cases p with
    | none => exact (mix k x y).elim
    | some m =>
      have h1 := key k m x y
      have h2 := key m k y x
      rw [show k = m by omega]
def optV : Option Nat → V
  | none => .non
  | some k => .int (k : Int)
def sp_wrong_place : Sp := fun vs H Q _ => ∃ (x : Str), vs = [.str x] ∧ (tl x).length ≤ 2000 ∧ ∀ o H', wrongAt (tl x) o → Same H H' → Q (optV o) H'
def sgnI (it : List Nat) : Int := if decide (it.take 1 = [33]) = true then 0 else 1
def itemP (it : List Nat) : List V := [.int (sgnI it), .str (S (globP it))]
def itemD (it : List Nat) : D := .tup [.int (sgnI it), .str (S (globP it))]
def sp_sign_and_glob : Sp := fun vs H Q _ => ∃ (x : Str), vs = [.str x] ∧ (tl x).length ≤ 2000 ∧ ∀ (t : Addr), H t = none → Q (.ref t) (upd H t (.tup (itemP (tl x))))
def dueD (l : List Nat) : Option Nat → D
  | some k => .tup [.str (Str.ofString "bad"), .int (k : Int)]
  | none => .tup [.str (Str.ofString "read"), .tup ((TL.spl [44] 0 [] l).map itemD)]
def sp_due (K : PySem.W.Frag) : Sp := fun vs H Q _ => ∃ (x : Str), vs = [.str x] ∧ (tl x).length ≤ 1000 ∧ ∀ o v H', wrongAt (tl x) o → DV K H' (dueD (tl x) o) v → Same H H' → Q v H'
theorem DVs.items {K : PySem.W.Frag} {H : Hp} : ∀ {its : List (List Nat)} {ts : List Addr}, ts.length = its.length → (∀ (k : Nat) (t : Addr) (it : List Nat), ts[k]? = some t → its[k]? = some it → H t = some (.tup (itemP it))) → DVs K H (its.map itemD) (ts.map V.ref)
  | [], [], _, _ => by unfold DVs; rfl
  | [], _ :: _, h, _ => by simp at h
  | _ :: _, [], h, _ => by simp at h
  | it :: its, t :: ts, h, f => by
    refine ⟨.ref t, ts.map V.ref, rfl, ?_, DVs.items (by simpa using h) fun k t' it' h1 h2 => f (k + 1) t' it' (by simpa using h1) (by simpa using h2)⟩
    exact ⟨t, _, rfl, SqT.of (f 0 t it rfl rfl), _, _, rfl, by unfold DV; rfl, _, _, rfl, by unfold DV; rfl, rfl⟩
def sp_write_pattern (K : PySem.W.Frag) : Sp := fun vs H Q _ => ∃ (a : Addr) (ts : List Addr) (its : List (List Nat)), vs = [.ref a] ∧ SqT K H a (ts.map V.ref) ∧ ts.length = its.length ∧ its.length ≤ 100 ∧ (∀ it ∈ its, it.length ≤ 1000) ∧ (∀ (k : Nat) (t : Addr) (it : List Nat), ts[k]? = some t → its[k]? = some it → SqT K H t (itemP it)) ∧
  ∀ (y : Str) (H' : Hp), tl y = TL.joinL [44] its → Same H H' → Q (.str y) H'
theorem join_spl (l : List Nat) : ∀ acc : List Nat, TL.joinL [44] (TL.spl [44] 0 acc l) = acc ++ l := by
  induction l with
  | nil => intro acc; rw [TL.spl_nil, List.append_nil]; rfl
  | cons c r ih =>
    intro acc
    by_cases hc : c = 44
    · subst hc
      rw [TL.spl_hit (show TL.pre [44] (44 :: r) = true by show ([44] == [44]) = true; rfl)]
      have e := ih []
      have ne : TL.spl [44] 0 [] r ≠ [] := fun h => by
        have := spl_count r []
        rw [h] at this; cases this
      show TL.joinL [44] (acc :: TL.spl [44] 0 [] r) = _
      cases hs : TL.spl [44] 0 [] r with
      | nil => exact absurd hs ne
      | cons y ys =>
        show acc ++ ([44] ++ TL.joinL [44] (y :: ys)) = _
        rw [← hs, e]; rfl
    · rw [TL.spl_miss (show TL.pre [44] (c :: r) = false by show ([c] == [44]) = false; simp [hc]), ih, List.append_assoc]; rfl
theorem DVs.items_inv {K : PySem.W.Frag} {H : Hp} : ∀ {its : List (List Nat)} {vs : List V}, DVs K H (its.map itemD) vs → ∃ ts : List Addr, vs = ts.map V.ref ∧ ts.length = its.length ∧ ∀ (k : Nat) (t : Addr) (it : List Nat), ts[k]? = some t → its[k]? = some it → SqT K H t (itemP it)
  | [], vs, h => by unfold DVs at h; subst h; exact ⟨[], rfl, rfl, fun k t it h1 h2 => by simp at h1⟩
  | it :: its, vs, h => by
    obtain ⟨v, r, rfl, h1, h2⟩ := h
    obtain ⟨ts, rfl, hl, hk⟩ := DVs.items_inv h2
    unfold itemD DV at h1
    obtain ⟨a, xs, rfl, hS, h3⟩ := h1
    obtain ⟨v1, r1, rfl, e1, h4⟩ := h3
    obtain ⟨v2, r2, rfl, e2, h5⟩ := h4
    unfold DV at e1 e2
    unfold DVs at h5
    subst e1 e2 h5
    refine ⟨a :: ts, rfl, by rw [List.length_cons, hl, List.length_cons], fun k t it' g1 g2 => ?_⟩
    cases k with
    | zero =>
      have ea : a = t := Option.some.inj g1
      have ei : it = it' := Option.some.inj g2
      subst ea ei
      exact hS
    | succ k => exact hk k t it' (by simpa using g1) (by simpa using g2)
def sp_read_pattern (K : PySem.W.Frag) (C : Addr) : Sp := fun vs H Q E => ∃ (x : Str), vs = [.str x] ∧ (tl x).length ≤ 1000 ∧
  (∀ (u : Addr) (ts : List Addr) (H1 : Hp), wrongAt (tl x) none → Same H H1 → H1 u = some (.tup (ts.map V.ref)) → ts.length = (TL.spl [44] 0 [] (tl x)).length → (∀ (i : Nat) (t : Addr) (it : List Nat), ts[i]? = some t → (TL.spl [44] 0 [] (tl x))[i]? = some it → H1 t = some (.tup (itemP it))) → Q (.ref u) H1) ∧
  (∀ (k : Nat) (dd : Addr) (H1 : Hp), wrongAt (tl x) (some k) → Same H H1 → H1 dd = some (.xd [("at", .int (k : Int))]) → E (.ref C) (some dd) H1)
end Z
namespace Z
open PySem L2
section
variable {P : Program} {w : World} {K : PySem.W.Frag} {mg : Str → Option Value} {base : Heap}
theorem ok__law_mix (D : Df K mg "_law_mix" s__law_mix ["seed", "turn"]) (T : Tx mg) : Cal P w K mg base "_law_mix" ["seed", "turn"] 1 sp__law_mix := by
  obtain ⟨f, fd, F, gf, bf⟩ := D
  refine ⟨f, fd, F.ok sc__law_mix (fun vs H Q E h => ?_) (fun cdv A outer s H vs Q E hr h => ?_), gf, F.kp, bf⟩
  · obtain ⟨x, y, rfl, _⟩ := h; rfl
  · obtain ⟨x, y, rfl, x0, x1, y0, y1, q⟩ := h
    refine ⟨_, (pss_cons (ps_set (i := 2) sc__law_mix.nd rfl (Or.inl rfl) (pe_op op_mod (pe_callTy call_int1 (by rfl) T.n_int (by decide +kernel) (pa_cons (pe_op op_add (pe_op op_add (pe_op op_mul (pv 0) pe_int) (pe_op op_mul (pv 1) pe_int)) pe_int) pa_nil)) pe_int))
      (pss_cons (ps_set (i := 2) sc__law_mix.nd rfl (Or.inl rfl) (pe_op op_mod (pe_callTy call_int1 (by rfl) T.n_int (by decide +kernel) (pa_cons (pe_op op_add (pe_op op_add (pe_op op_mul (pv 2) (pv 2)) (pe_op op_mul (pv 1) pe_int)) pe_int) pa_nil)) pe_int))
      (pss_cons (ps_set (i := 2) sc__law_mix.nd rfl (Or.inl rfl) (pe_op op_mod (pe_callTy call_int1 (by rfl) T.n_int (by decide +kernel) (pa_cons (pe_op op_add (pe_op op_add (pe_op op_mul (pv 2) pe_int) (pe_op op_mul (pe_op op_mul (pv 1) (pv 1)) pe_int)) pe_int) pa_nil)) pe_int))
      (pss_one (ps_ret (pv 2)))))), ?_⟩

    refine ⟨_, rfl, _, _, rfl, rfl, .inr (by decide), _, rfl, _, _, rfl, rfl, .inr (by decide), _, _, rfl, rfl, _, _, rfl, rfl, .inl ⟨_, rfl, _, _, rfl, rfl, (by show (0 : Int) < _; decide), ?_⟩⟩
    refine ⟨_, rfl, _, rfl, _, _, rfl, rfl, .inl ⟨by omega, by omega⟩, _, rfl, _, _, rfl, rfl, .inr (by decide), _, _, rfl, rfl, _, _, rfl, rfl, .inl ⟨_, rfl, _, _, rfl, rfl, (by show (0 : Int) < _; decide), ?_⟩⟩
    refine ⟨_, rfl, _, _, rfl, rfl, .inr (by decide), _, rfl, _, rfl, _, _, rfl, rfl, .inl ⟨by omega, by omega⟩, _, _, rfl, rfl, .inr (by decide), _, _, rfl, rfl, _, _, rfl, rfl, .inl ⟨_, rfl, _, _, rfl, rfl, (by show (0 : Int) < _; decide), ?_⟩⟩
    exact ⟨_, rfl, q _ (Int.emod_nonneg _ (by decide)) (by omega)⟩
end
end Z
namespace Z
open PySem L2
section
variable {P : Program} {w : World} {K : PySem.W.Frag} {mg : Str → Option Value} {base : Heap}
theorem ok__law_source (D : Df K mg "_law_source" s__law_source ["script"]) (T : Tx mg) (C__law_mix : Cal P w K mg base "_law_mix" ["seed", "turn"] 1 sp__law_mix) : Cal P w K mg base "_law_source" ["script"] 2 (sp__law_source K) := by
  obtain ⟨f__law_mix, fd__law_mix, G__law_mix, g__law_mix, k__law_mix, b__law_mix⟩ := C__law_mix
  obtain ⟨f, fd, F, gf, bf⟩ := D
  refine ⟨f, fd, F.ok sc__law_source (fun vs H Q E h => ?_) (fun cdv A outer s H vs Q E hr h => ?_), gf, F.kp, bf⟩
  · obtain ⟨a, ns, rfl, _⟩ := h; rfl
  · obtain ⟨a, ns, rfl, hS, hlen, q⟩ := h
    refine ⟨_, (pss_cons (ps_set (i := 1) sc__law_source.nd rfl (Or.inl rfl) pe_int)
      (pss_cons (ps_for PassesOwn.never rfl (pi_range1 (by rfl) T.n_range (pa_cons (pe_callB call_len_seq (by rfl) T.n_len PySem.boot_len (pa_cons (pv 0) pa_nil)) pa_nil)) (pg_name (i := 2) sc__law_source.nd rfl (Or.inl rfl))
      (pss_one (ps_set (i := 1) sc__law_source.nd rfl (Or.inl rfl) (pe_call G__law_mix (hr.mono (by decide)) (by rfl) g__law_mix k__law_mix b__law_mix .nil pass0 (pa_cons (pe_op op_add (pv 1) (pe_op op_mod (pe_callTy call_int1 (by rfl) T.n_int (by decide +kernel) (pa_cons (pe_ix ix_list (pv 0) (pv 2) (fun _ _ => rfl)) pa_nil)) pe_int)) (pa_cons (pv 2) pa_nil))))))
      (pss_one (ps_ret (pe_lst (pa_cons (pe_callTy call_list_of (by rfl) T.n_list (by decide +kernel) (pa_cons (pv 0) pa_nil)) (pa_cons pe_int (pa_cons pe_int (pa_cons (pv 1) (pa_cons pe_int pa_nil)))))))))), ?_⟩
    refine ⟨_, rfl, a, _, rfl, .inl hS, _, rfl, by rw [List.length_map]; omega, by rw [List.length_map]; omega, ?_⟩
    refine for_range (lo := 0) (n := (((ns.map V.int).length : Int)).toNat) (fun i σ H' => ∃ (e : Int) (v : Option V), σ = [some (.ref a), some (.int e), v] ∧ H' = H ∧ 0 ≤ e ∧ e < 2147483647) ⟨17, none, rfl, rfl, by decide, by decide⟩ ?_ ?_
    · rintro i σ H' hi ⟨e, v, rfl, rfl, e0, e1⟩
      rw [List.length_map] at hi
      have hi' : i < ns.length := by omega
      refine ⟨_, rfl, _, rfl, _, rfl, a, _, _, .int ns[i], rfl, rfl, hS, ?_, .inl ⟨_, rfl, _, _, rfl, rfl, (by show (0 : Int) < _; decide), _, _, rfl, rfl, _, rfl, ?_⟩⟩
      · rw [Int.zero_add]
        exact atI_nat (by rw [List.getElem?_map, List.getElem?_eq_getElem hi']; rfl)
      · refine ⟨_, _, rfl, ?_, ?_, ?_, ?_, fun v v0 v1 => ?_⟩
        · have := Int.emod_nonneg ns[i] (by decide : (2147483647 : Int) ≠ 0); omega
        · have := Int.emod_lt_of_pos ns[i] (by decide : (0 : Int) < 2147483647); omega
        · omega
        · omega
        · exact ⟨v, _, rfl, rfl, v0, v1⟩
    · rintro σ H' ⟨e, v, rfl, rfl, e0, e1⟩
      refine ⟨_, rfl, a, _, rfl, .inl hS, fun l hl => ?_⟩
      refine ⟨_, rfl, by show 5 ≤ sizeLine; decide, fun s hs => ?_⟩
      have hsl : s ≠ l := fun z => by rw [z, upd_same] at hs; cases hs
      have hs0 : H' s = none := by rw [upd_ne hsl] at hs; exact hs
      refine q s l _ hs0 ((same_new hl).trans (same_new hs)) ⟨ns, 0, 0, e, 0, upd_same, by rw [upd_ne hsl.symm, upd_same], hsl.symm, hlen, by decide, by decide, by decide, e0, e1, by decide, by decide⟩
end
end Z
namespace Z
open PySem L2
section
variable {P : Program} {w : World} {K : PySem.W.Frag} {mg : Str → Option Value} {base : Heap}
theorem ok__law_draw (D : Df K mg "_law_draw" s__law_draw ["source", "many"]) (T : Tx mg) (C__law_mix : Cal P w K mg base "_law_mix" ["seed", "turn"] 1 sp__law_mix) : Cal P w K mg base "_law_draw" ["source", "many"] 2 sp__law_draw := by
  obtain ⟨f__law_mix, fd__law_mix, G__law_mix, g__law_mix, k__law_mix, b__law_mix⟩ := C__law_mix
  obtain ⟨f, fd, F, gf, bf⟩ := D
  refine ⟨f, fd, F.ok sc__law_draw (fun vs H Q E h => ?_) (fun cdv A outer s H vs Q E hr h => ?_), gf, F.kp, bf⟩
  · obtain ⟨s, a, m, c, rfl, _⟩ := h; rfl
  · obtain ⟨s, a, m, c, rfl, m0, m1, hS, q⟩ := h
    refine ⟨_, (C8.pss_cut (ps_if (PW.pt (pw_and (pt_cmpR op_eq (pe_ix ix_list (pv 0) pe_int (fun _ _ => rfl)) pe_int (nomark _)) (pw_and (pt_cmpR op_lt (pe_ix ix_list (pv 0) pe_int (fun _ _ => rfl)) (pe_callB call_len_seq (by rfl) T.n_len PySem.boot_len (pa_cons (pe_ix ix_list (pv 0) pe_int (fun _ _ => rfl)) pa_nil)) (nomark _)) (pw_and1 (pt_cmpR op_eq (pe_op op_mod (pe_callTy call_int1 (by rfl) T.n_int (by decide +kernel) (pa_cons (pe_ix ix_list (pv 0) pe_int (fun _ _ => rfl)) pa_nil)) pe_int) pe_int (nomark _))))))
      (pss_cons (ps_set (i := 2) sc__law_draw.nd rfl (Or.inl rfl) (pe_ix ix_list (pe_ix ix_list (pv 0) pe_int (fun _ _ => rfl)) (pe_ix ix_list (pv 0) pe_int (fun _ _ => rfl)) (fun _ _ => rfl)))
        (pss_cons (ps_asg (pe_op op_add (pe_ix ix_list (pv 0) pe_int (fun _ _ => rfl)) pe_int) (pg_sub (pv 0) pe_int set_list))
        (pss_one (ps_if (pt_cmpR op_ge (pe_callB call_abs (by rfl) T.n_abs (by decide +kernel) (pa_cons (pv 2) pa_nil)) (pe_op op_pow pe_int pe_int) (nomark _))
        (pss_one (ps_asg (pe_op op_and (pe_callB call_abs (by rfl) T.n_abs (by decide +kernel) (pa_cons (pv 2) pa_nil)) (pe_op op_sub (pe_op op_shl pe_int pe_int) pe_int)) (pg_sub (pv 0) pe_int set_list)))
        (pss_one (ps_asg (pe_call G__law_mix (hr.mono (by decide)) (by rfl) g__law_mix k__law_mix b__law_mix .nil pass0 (pa_cons (pe_op op_add (pe_ix ix_list (pv 0) pe_int (fun _ _ => rfl)) (pe_op op_mod (pe_callTy call_int1 (by rfl) T.n_int (by decide +kernel) (pa_cons (pv 2) pa_nil)) pe_int)) (pa_cons (pe_ix ix_list (pv 0) pe_int (fun _ _ => rfl)) pa_nil))) (pg_sub (pv 0) pe_int set_list)))))))
      pss_nil)
      (pss_cons (ps_if (pt_cmpR op_gt (pe_ix ix_list (pv 0) pe_int (fun _ _ => rfl)) pe_int (nomark _))
      (pss_cons (ps_set (i := 3) sc__law_draw.nd rfl (Or.inl rfl) (pe_op op_mod (pe_callTy call_int1 (by rfl) T.n_int (by decide +kernel) (pa_cons (pe_ix ix_list (pv 0) pe_int (fun _ _ => rfl)) pa_nil)) (pv 1)))
        (pss_cons (ps_asg (pe_op op_fdivN (pe_callTy call_int1 (by rfl) T.n_int (by decide +kernel) (pa_cons (pe_ix ix_list (pv 0) pe_int (fun _ _ => rfl)) pa_nil)) (pv 1)) (pg_sub (pv 0) pe_int set_list))
        (pss_one (ps_ret (pv 3)))))
      pss_nil)
      (pss_cons (ps_asg (pe_op op_add (pe_ix ix_list (pv 0) pe_int (fun _ _ => rfl)) pe_int) (pg_sub (pv 0) pe_int set_list))
      (pss_one (ps_ret (pe_op op_mod (pe_callTy call_int1 (by rfl) T.n_int (by decide +kernel) (pa_cons (pe_op op_fdiv (pe_call G__law_mix (hr.mono (by decide)) (by rfl) g__law_mix k__law_mix b__law_mix .nil pass0 (pa_cons (pe_ix ix_list (pv 0) pe_int (fun _ _ => rfl)) (pa_cons (pe_ix ix_list (pv 0) pe_int (fun _ _ => rfl)) pa_nil))) pe_int) pa_nil)) (pv 1))))))), ?_⟩
    refine ⟨fun σ' H' => (∃ v2 v3, σ' = [some (.ref s), some (.int m), v2, v3]) ∧ Src H' s a (c + 1) ∧ Ext s H H', ?_, ?_⟩
    · obtain ⟨ns, i, b, e, t, h1, h2, as, h4, h5, h6, h7, h8, h9, h10, h11⟩ := id hS
      have hL : SqL K H s [.ref a, .int i, .int b, .int e, .int t] := SqL.of h1
      refine ⟨_, rfl, _, _, _, _, rfl, rfl, hL, rfl, rfl, _, rfl, ite2 (fun c1 => ?_) (fun c1 => iteF ⟨⟨_, _, rfl⟩, hS, Ext.refl _ _⟩)⟩
      refine ⟨_, rfl, _, _, _, _, rfl, rfl, hL, rfl, _, rfl, _, _, _, _, rfl, rfl, hL, rfl, a, _, rfl, .inl (SqL.of h2), _, _, rfl, rfl, _, rfl, ite2 (fun c2 => ?_) (fun c2 => iteF ⟨⟨_, _, rfl⟩, hS, Ext.refl _ _⟩)⟩
      refine ⟨_, rfl, _, _, _, _, rfl, rfl, hL, rfl, .inl ⟨_, rfl, _, _, rfl, rfl, (by show (0 : Int) < 6; decide), rfl, _, rfl, ite2 (fun c3 => ?_) (fun c3 => ⟨⟨_, _, rfl⟩, hS, Ext.refl _ _⟩)⟩⟩
      have hi : i < ns.length := by
        have := of_decide_eq_true c2
        rw [List.length_map] at this
        exact this
      have hi' : i.toNat < ns.length := by omega
      -- cell = source[0][source[1]]
      refine ⟨_, rfl, _, _, _, _, rfl, rfl, hL, rfl, _, rfl, _, _, _, _, rfl, rfl, hL, rfl, a, _, _, .int ns[i.toNat], rfl, rfl, SqL.of h2, at_of (j := i.toNat) (by omega) (by rw [List.getElem?_map, List.getElem?_eq_getElem hi']; rfl), ?_⟩
      -- source[1] = source[1] + 1
      refine ⟨_, rfl, _, _, _, _, rfl, rfl, hL, rfl, _, _, rfl, rfl, _, rfl, _, _, _, 1, rfl, rfl, h1, rfl, ?_⟩
      refine ⟨_, rfl, _, rfl, _, _, rfl, rfl, ⟨by decide, by decide, by decide⟩, _, _, rfl, rfl, _, rfl, ite2 (fun c4 => ?_) (fun c4 => ?_)⟩
      · refine ⟨_, rfl, _, rfl, _, _, rfl, rfl, ⟨by decide, by decide, by decide⟩, _, _, rfl, rfl, _, _, rfl, rfl, _, rfl, _, _, _, 2, rfl, rfl, upd_same, rfl, ?_⟩
        refine ⟨⟨_, _, rfl⟩, ?_, ?_⟩
        · refine ⟨ns, i + 1, _, e, t, upd_same, by rw [upd_ne as, upd_ne as]; exact h2, as, h4, by omega, by omega, ?_, h8, h9, h10, h11⟩
          exact and_nn (by split <;> omega) _
        · exact Ext.put.trans Ext.put
      · refine ⟨_, rfl, _, _, _, _, rfl, rfl, SqL.of upd_same, rfl, _, rfl, .inl ⟨_, rfl, _, _, rfl, rfl, (by show (0 : Int) < 2147483647; decide), _, _, rfl, rfl, _, rfl, _, _, _, _, rfl, rfl, SqL.of upd_same, rfl, _, _, rfl, ?_, ?_, ?_, ?_, fun v v0 v1 => ?_⟩⟩
        · have := Int.emod_nonneg ns[i.toNat] (by decide : (2147483647 : Int) ≠ 0); omega
        · have := Int.emod_lt_of_pos ns[i.toNat] (by decide : (0 : Int) < 2147483647); omega
        · omega
        · omega
        · refine ⟨_, rfl, _, _, _, 3, rfl, rfl, upd_same, rfl, ⟨_, _, rfl⟩, ?_, Ext.put.trans Ext.put⟩
          exact ⟨ns, i + 1, b, v, t, upd_same, by rw [upd_ne as, upd_ne as]; exact h2, as, h4, by omega, by omega, h7, v0, v1, h10, h11⟩
    · rintro σ' H' ⟨⟨v2, v3, rfl⟩, hS', hx⟩
      obtain ⟨ns, i, b, e, t, h1, h2, as, h4, h5, h6, h7, h8, h9, h10, h11⟩ := id hS'
      have hL : SqL K H' s [.ref a, .int i, .int b, .int e, .int t] := SqL.of h1
      refine ⟨_, rfl, _, _, _, _, rfl, rfl, hL, rfl, _, _, rfl, rfl, _, rfl, ite2 (fun c1 => ?_) (fun c1 => ?_)⟩
      · refine ⟨_, rfl, _, _, _, _, rfl, rfl, hL, rfl, .inl ⟨_, rfl, _, rfl, _, _, rfl, rfl, m0, ?_⟩⟩
        refine ⟨_, rfl, _, _, _, _, rfl, rfl, hL, rfl, .inl ⟨_, rfl, _, rfl, _, _, rfl, rfl, ⟨by omega, by omega⟩, _, rfl, _, _, _, 2, rfl, rfl, h1, rfl, ?_⟩⟩
        refine ⟨_, rfl, q _ _ (Int.emod_nonneg _ (by omega)) (Int.emod_lt_of_pos _ m0) (hx.trans Ext.put) ?_⟩
        refine ⟨ns, i, _, e, t, upd_same, by rw [upd_ne as]; exact h2, as, h4, h5, h6, ?_, h8, h9, h10, by omega⟩
        exact Int.fdiv_nonneg h7 (by omega)
      · refine ⟨_, rfl, _, _, _, _, rfl, rfl, hL, rfl, _, _, rfl, rfl, _, rfl, _, _, _, 4, rfl, rfl, h1, rfl, ?_⟩
        refine ⟨_, rfl, _, _, _, _, rfl, rfl, SqL.of upd_same, rfl, _, rfl, _, _, _, _, rfl, rfl, SqL.of upd_same, rfl, _, _, rfl, h8, by omega, by omega, by omega, fun v v0 v1 => ?_⟩
        refine ⟨_, _, rfl, rfl, ⟨by decide, by decide⟩, .inl ⟨_, rfl, _, rfl, _, _, rfl, rfl, m0, ?_⟩⟩
        refine q _ _ (Int.emod_nonneg _ (by omega)) (Int.emod_lt_of_pos _ m0) (hx.trans Ext.put) ?_
        exact ⟨ns, i, b, e, t + 1, upd_same, by rw [upd_ne as]; exact h2, as, h4, h5, h6, h7, h8, h9, by omega, by omega⟩
end
end Z
namespace Z
open PySem L2
section
variable {P : Program} {w : World} {K : PySem.W.Frag} {mg : Str → Option Value} {base : Heap}
theorem ok__law_is_int (D : Df K mg "_law_is_int" s__law_is_int ["value"]) (T : Tx mg)  : Cal P w K mg base "_law_is_int" ["value"] 1 (sp__law_is_int K) := by
  obtain ⟨f, fd, F, gf, bf⟩ := D
  refine ⟨f, fd, F.ok sc__law_is_int (fun vs H Q E h => ?_) (fun cdv A outer s H vs Q E hr h => ?_), gf, F.kp, bf⟩
  · obtain ⟨i, rfl, _⟩ := h; rfl
  · obtain ⟨i, rfl, q⟩ := h
    refine ⟨_, (pss_one (ps_ret (pe_and (pe_callB call_isi (by rfl) T.n_isinstance (by decide +kernel) (pa_cons (pv 0) (pa_cons (pe_bltn (v := .ty "int") (by rfl) T.n_int (by decide +kernel) rfl) pa_nil))) (pe_one (pe_not (pe_callB call_isi (by rfl) T.n_isinstance (by decide +kernel) (pa_cons (pv 0) (pa_cons (pe_bltn (v := .ty "bool") (by rfl) T.n_bool (by decide +kernel) rfl) pa_nil)))))))), ?_⟩
    refine ⟨_, rfl, _, _, _, _, true, rfl, .ty _, .base (.int i), kit_ty (by decide +kernel), _, rfl, ?_⟩
    refine iteT ⟨_, rfl, _, _, _, _, false, rfl, .ty _, .base (.int i), kit_ty (by decide +kernel), _, rfl, q⟩

theorem ok__law_same (D : Df K mg "_law_same" s__law_same ["actual", "due"]) (T : Tx mg) (C__law_is_int : Cal P w K mg base "_law_is_int" ["value"] 1 (sp__law_is_int K)) : ∀ n, Cal P w K mg base "_law_same" ["actual", "due"] (n + 1) (sp__law_same K n)
  | 0 => by
    obtain ⟨f, fd, F, gf, bf⟩ := D
    exact ⟨f, fd, ⟨fun vs H Q E h => by obtain ⟨_, _, _, _, _, _, h, _⟩ := h; exact h.elim, fun A outer s H args us vs Q E _ _ _ _ h => by obtain ⟨_, _, _, _, _, _, h, _⟩ := h; exact h.elim⟩, gf, F.kp, bf⟩
  | n + 1 => by
    obtain ⟨f__law_same, fd__law_same, G__law_same, g__law_same, k__law_same, b__law_same⟩ := ok__law_same D T C__law_is_int n
    obtain ⟨f__law_is_int, fd__law_is_int, G__law_is_int, g__law_is_int, k__law_is_int, b__law_is_int⟩ := C__law_is_int
    obtain ⟨f, fd, F, gf, bf⟩ := D
    refine ⟨f, fd, F.ok sc__law_same (fun vs H Q E h => ?_) (fun cdv A outer s H vs Q E hr h => ?_), gf, F.kp, bf⟩
    · obtain ⟨d, v, u, rfl, _⟩ := h; rfl
    · obtain ⟨d, v, u, rfl, hv, hu, hd, q⟩ := h
      refine ⟨_, (pss_cons (ps_if (pt_val (pe_callB call_isi (by rfl) T.n_isinstance (by decide +kernel) (pa_cons (pv 1) (pa_cons (pe_bltn (v := .ty "tuple") (by rfl) T.n_tuple (by decide +kernel) rfl) pa_nil))))
      (pss_cons (ps_if (PW.pt (pw_or (pt_not (pt_val (pe_callB call_isi (by rfl) T.n_isinstance (by decide +kernel) (pa_cons (pv 0) (pa_cons (pe_bltn (v := .ty "tuple") (by rfl) T.n_tuple (by decide +kernel) rfl) pa_nil))))) (pw_or1 (pt_cmpR op_ne (pe_callB call_len_seq (by rfl) T.n_len PySem.boot_len (pa_cons (pv 0) pa_nil)) (pe_callB call_len_seq (by rfl) T.n_len PySem.boot_len (pa_cons (pv 1) pa_nil)) (nomark _)))))
        (pss_one (ps_ret pe_bl))
        pss_nil)
        (pss_cons (ps_for PassesOwn.never rfl (pi_range1 (by rfl) T.n_range (pa_cons (pe_callB call_len_seq (by rfl) T.n_len PySem.boot_len (pa_cons (pv 1) pa_nil)) pa_nil)) (pg_name (i := 2) sc__law_same.nd rfl (Or.inl rfl))
        (pss_one (ps_if (pt_not (pt_val (pe_call G__law_same hr (by rfl) g__law_same k__law_same b__law_same .nil pass0 (pa_cons (pe_ix ix_tup (pv 0) (pv 2) (fun _ _ => rfl)) (pa_cons (pe_ix ix_tup (pv 1) (pv 2) (fun _ _ => rfl)) pa_nil)))))
          (pss_one (ps_ret pe_bl))
          pss_nil)))
        (pss_one (ps_ret pe_bl))))
      pss_nil)
      (pss_cons (ps_if (pt_cmpR op_isN (pv 1) pe_non (nomark _))
      (pss_one (ps_ret (pe_cmpR op_isN (pv 0) pe_non (nomark _))))
      pss_nil)
      (pss_cons (ps_if (pt_val (pe_callB call_isi (by rfl) T.n_isinstance (by decide +kernel) (pa_cons (pv 1) (pa_cons (pe_bltn (v := .ty "bool") (by rfl) T.n_bool (by decide +kernel) rfl) pa_nil))))
      (pss_one (ps_ret (pe_and (pe_callB call_isi (by rfl) T.n_isinstance (by decide +kernel) (pa_cons (pv 0) (pa_cons (pe_bltn (v := .ty "bool") (by rfl) T.n_bool (by decide +kernel) rfl) pa_nil))) (pe_one (pe_cmpR op_eq (pv 0) (pv 1) (nomark _))))))
      pss_nil)
      (pss_cons (ps_if (pt_val (pe_callB call_isi (by rfl) T.n_isinstance (by decide +kernel) (pa_cons (pv 1) (pa_cons (pe_bltn (v := .ty "int") (by rfl) T.n_int (by decide +kernel) rfl) pa_nil))))
      (pss_one (ps_ret (pe_and (pe_call G__law_is_int (hr.mono (by omega)) (by rfl) g__law_is_int k__law_is_int b__law_is_int .nil pass0 (pa_cons (pv 0) pa_nil)) (pe_one (pe_cmpR op_eq (pv 0) (pv 1) (nomark _))))))
      pss_nil)
      (pss_one (ps_ret (pe_and (pe_callB call_isi (by rfl) T.n_isinstance (by decide +kernel) (pa_cons (pv 0) (pa_cons (pe_bltn (v := .ty "str") (by rfl) T.n_str (by decide +kernel) rfl) pa_nil))) (pe_one (pe_cmpR op_eq (pv 0) (pv 1) (nomark _)))))))))), ?_⟩
      cases d with
      | non =>
        unfold DV at hv hu; subst hv hu
        refine ⟨_, rfl, _, _, _, _, false, rfl, .ty _, .base .non, kit_ty (by decide +kernel), _, rfl, iteF ?_⟩
        exact ⟨_, rfl, rfl, _, rfl, iteT ⟨_, rfl, rfl, q⟩⟩
      | bl b =>
        unfold DV at hv hu; subst hv hu
        refine ⟨_, rfl, _, _, _, _, false, rfl, .ty _, .base (.bl b), kit_ty (by decide +kernel), _, rfl, iteF ?_⟩
        refine ⟨_, rfl, rfl, _, rfl, iteF ?_⟩
        refine ⟨_, rfl, _, _, _, _, true, rfl, .ty _, .base (.bl b), kit_ty (by decide +kernel), _, rfl, iteT ?_⟩
        refine ⟨_, rfl, _, _, _, _, true, rfl, .ty _, .base (.bl b), kit_ty (by decide +kernel), _, rfl, iteT ?_⟩
        refine ⟨_, rfl, _, rfl, rfl, ?_⟩
        rw [decide_eq_true rfl]; exact q
      | int b =>
        unfold DV at hv hu; subst hv hu
        refine ⟨_, rfl, _, _, _, _, false, rfl, .ty _, .base (.int b), kit_ty (by decide +kernel), _, rfl, iteF ?_⟩
        refine ⟨_, rfl, rfl, _, rfl, iteF ?_⟩
        refine ⟨_, rfl, _, _, _, _, false, rfl, .ty _, .base (.int b), kit_ty (by decide +kernel), _, rfl, iteF ?_⟩
        refine ⟨_, rfl, _, _, _, _, true, rfl, .ty _, .base (.int b), kit_ty (by decide +kernel), _, rfl, iteT ?_⟩
        refine ⟨_, rfl, _, rfl, _, rfl, iteT ?_⟩
        refine ⟨_, rfl, _, rfl, rfl, ?_⟩
        rw [decide_eq_true rfl]; exact q
      | str b =>
        unfold DV at hv hu; subst hv hu
        refine ⟨_, rfl, _, _, _, _, false, rfl, .ty _, .base (.str b), kit_ty (by decide +kernel), _, rfl, iteF ?_⟩
        refine ⟨_, rfl, rfl, _, rfl, iteF ?_⟩
        refine ⟨_, rfl, _, _, _, _, false, rfl, .ty _, .base (.str b), kit_ty (by decide +kernel), _, rfl, iteF ?_⟩
        refine ⟨_, rfl, _, _, _, _, false, rfl, .ty _, .base (.str b), kit_ty (by decide +kernel), _, rfl, iteF ?_⟩
        refine ⟨_, rfl, _, _, _, _, true, rfl, .ty _, .base (.str b), kit_ty (by decide +kernel), _, rfl, iteT ?_⟩
        refine ⟨_, rfl, _, rfl, rfl, ?_⟩
        rw [decide_eq_true rfl]; exact q
      | tup ds =>
        unfold DV at hv hu
        obtain ⟨a, vs, rfl, ha, hvs⟩ := hv
        obtain ⟨b, us, rfl, hb, hus⟩ := hu
        have hl := hvs.len
        have hm := hus.len
        refine ⟨_, rfl, _, _, _, _, true, rfl, .ty _, TyX.ofT hb, kit_ty (by decide +kernel), _, rfl, iteT ?_⟩
        refine ⟨_, rfl, _, _, _, _, true, rfl, .ty _, TyX.ofT ha, kit_ty (by decide +kernel), _, rfl, iteF ?_⟩
        refine ⟨_, rfl, a, _, rfl, .inr ha, _, rfl, b, _, rfl, .inr hb, rfl, _, rfl, iteNS (by rw [hl, hm]) ?_⟩
        refine ⟨_, rfl, b, _, rfl, .inr hb, _, rfl, by omega, by have := hd.1; omega, ?_⟩
        refine for_range (lo := 0) (n := ((us.length : Int)).toNat) (fun i σ H' => ∃ (x : Option V), σ = [some (.ref a), some (.ref b), x] ∧ H' = H) ⟨none, rfl, rfl⟩ ?_ ?_
        · rintro i σ H' hi ⟨x, rfl, rfl⟩
          have hi' : i < us.length := by omega
          have hi2 : i < ds.length := by omega
          obtain ⟨v1, e1, q1⟩ := hvs.get (List.getElem?_eq_getElem hi2)
          obtain ⟨v2, e2, q2⟩ := hus.get (List.getElem?_eq_getElem hi2)
          refine ⟨_, rfl, _, rfl, a, _, _, v1, rfl, rfl, ha, at_of (j := i) (by omega) e1, _, rfl, _, rfl, b, _, _, v2, rfl, rfl, hb, at_of (j := i) (by omega) e2, ?_⟩
          refine ⟨ds[i], v1, v2, rfl, q1, q2, hd.2 _ (List.getElem_mem hi2), _, rfl, iteF ?_⟩
          exact ⟨_, rfl, rfl⟩
        · rintro σ H' ⟨x, rfl, rfl⟩
          exact q
end
end Z
namespace Z
open PySem L2 SX
section
variable {P : Program} {w : World} {K : PySem.W.Frag} {mg : Str → Option Value} {base : Heap}
theorem ok__law_pick (D : Df K mg "_law_pick" s__law_pick ["source", "row"]) (T : Tx mg) (C__law_draw : Cal P w K mg base "_law_draw" ["source", "many"] 2 sp__law_draw) : Cal P w K mg base "_law_pick" ["source", "row"] 3 (sp__law_pick K) := by
  obtain ⟨f__law_draw, fd__law_draw, G__law_draw, g__law_draw, k__law_draw, b__law_draw⟩ := C__law_draw
  obtain ⟨f, fd, F, gf, bf⟩ := D
  refine ⟨f, fd, F.ok sc__law_pick (fun vs H Q E h => ?_) (fun cdv A outer s H vs Q E hr h => ?_), gf, F.kp, bf⟩
  · rcases h with ⟨s, a, r, xs, c, rfl, _⟩ | ⟨s, a, x, c, rfl, _⟩ <;> rfl
  · refine ⟨_, (pss_one (ps_ret (pe_ix ix_seq (pv 1) (pe_call G__law_draw (hr.mono (by decide)) (by rfl) g__law_draw k__law_draw b__law_draw .nil pass0 (pa_cons (pv 0) (pa_cons (pe_callB call_len (by rfl) T.n_len PySem.boot_len (pa_cons (pv 1) pa_nil)) pa_nil))) (fun _ _ => rfl)))), ?_⟩
    rcases h with ⟨s, a, r, xs, c, rfl, hR, rs, ne, hl, hS, q⟩ | ⟨s, a, x, c, rfl, ne, hl, hS, q⟩
    · have n0 : 0 < xs.length := List.length_pos_iff.mpr ne
      refine ⟨_, rfl, _, rfl, _, rfl, _, _, rfl, .inl ⟨xs, hR, rfl⟩, s, a, (xs.length : Int), c, rfl, by omega, by omega, hS, fun v H' v0 v1 hE hS' => ?_⟩
      have hv : v.toNat < xs.length := by omega
      exact .inl ⟨r, xs, v, xs[v.toNat], rfl, rfl, hE.seqL rs hR, atI_pos v0 (List.getElem?_eq_getElem hv), q _ _ (List.getElem_mem hv) hE hS'⟩
    · have n0 : 0 < (tl x).length := List.length_pos_iff.mpr ne
      have hx := tl_len x
      refine ⟨_, rfl, _, rfl, _, rfl, _, x.length, rfl, ⟨by rw [hx]; exact Nat.le_trans hl (by decide), rfl⟩, s, a, (x.length : Int), c, rfl, by omega, by omega, hS, fun v H' v0 v1 hE hS' => ?_⟩
      have hv : v.toNat < (tl x).length := by omega
      exact .inr (.inr ⟨x, v, (tl x)[v.toNat], rfl, rfl, by rw [hx]; exact Nat.le_trans hl (by decide), atI_pos v0 (List.getElem?_eq_getElem hv), q _ _ (List.getElem_mem hv) hE hS'⟩)
end
end Z
namespace Z
open PySem L2 SX
section
variable {P : Program} {w : World} {K : PySem.W.Frag} {mg : Str → Option Value} {base : Heap}
theorem ok__law_any_sign (D : Df K mg "_law_any_sign" s__law_any_sign ["source"]) (T : Tx mg) (C__law_draw : Cal P w K mg base "_law_draw" ["source", "many"] 2 sp__law_draw) : Cal P w K mg base "_law_any_sign" ["source"] 3 (sp13 1 1) := by
  obtain ⟨f__law_draw, fd__law_draw, G__law_draw, g__law_draw, k__law_draw, b__law_draw⟩ := C__law_draw
  obtain ⟨f, fd, F, gf, bf⟩ := D
  refine ⟨f, fd, F.ok sc__law_any_sign (fun vs H Q E h => ?_) (fun cdv A outer s₀ H vs Q E hr h => ?_), gf, F.kp, bf⟩
  · obtain ⟨s, a, c, rfl, _⟩ := h; rfl
  · obtain ⟨s, a, c, rfl, hS, q⟩ := h
    refine ⟨_, (pss_cons (ps_set (i := 1) sc__law_any_sign.nd rfl (Or.inl rfl) pe_str)
      (pss_cons (ps_set (i := 1) sc__law_any_sign.nd rfl (Or.inl rfl) (pe_op op_add_str (pv 1) pe_str))
      (pss_one (ps_ret (pe_item_str (pv 1) (pe_call G__law_draw (hr.mono (by decide)) (by rfl) g__law_draw k__law_draw b__law_draw .nil pass0 (pa_cons (pv 0) (pa_cons (pe_callB call_lenS (by rfl) T.n_len PySem.boot_len (pa_cons (pv 1) pa_nil)) pa_nil))) (fun _ _ => rfl)))))), ?_⟩
    have e : (Str.ofString " !\"#$&'()*+,-./0123456789:;<=>?@ABCDEFGHIJKLMNOPQRSTUVWXYZ[\\]^_`" ++ Str.ofString "abcdefghijklmnopqrstuvwxyz{|}~").length = 94 := by decide +kernel
    refine ⟨_, rfl, _, _, rfl, rfl, by decide +kernel, ?_⟩
    generalize Str.ofString " !\"#$&'()*+,-./0123456789:;<=>?@ABCDEFGHIJKLMNOPQRSTUVWXYZ[\\]^_`" ++ Str.ofString "abcdefghijklmnopqrstuvwxyz{|}~" = z at e ⊢
    refine ⟨_, rfl, _, rfl, _, rfl, z, rfl, by rw [e]; decide, s, a, _, c, rfl, by omega, by omega, hS, fun v H1 v0 v1 x1 S1 => ?_⟩
    obtain ⟨ch, e1, _, _⟩ := at_str (x := z) v0 v1
    exact ⟨z, v, ch, rfl, rfl, v0, by omega, v1, e1, q _ H1 (Nat.le_refl 1) x1 S1⟩
end
section
variable {P : Program} {w : World} {K : PySem.W.Frag} {mg : Str → Option Value} {base : Heap}
theorem ok__law_item (D : Df K mg "_law_item" s__law_item ["source"]) (T : Tx mg) (C__law_draw : Cal P w K mg base "_law_draw" ["source", "many"] 2 sp__law_draw) : Cal P w K mg base "_law_item" ["source"] 3 (sp13 10 6) := by
  obtain ⟨f__law_draw, fd__law_draw, G__law_draw, g__law_draw, k__law_draw, b__law_draw⟩ := C__law_draw
  obtain ⟨f, fd, F, gf, bf⟩ := D
  refine ⟨f, fd, F.ok sc__law_item (fun vs H Q E h => ?_) (fun cdv A outer s₀ H vs Q E hr h => ?_), gf, F.kp, bf⟩
  · obtain ⟨s, a, c, rfl, _⟩ := h; rfl
  · obtain ⟨s, a, c, rfl, hS, q⟩ := h
    refine ⟨_, (pss_cons (ps_set (i := 1) sc__law_item.nd rfl (Or.inr rfl) pe_str)
      (pss_cons (ps_set (i := 2) sc__law_item.nd rfl (Or.inl rfl) (pe_join pe_str (pe_lc (own := [("k", 3)]) (g := gName 3) (tt := tYes) rfl sc__law_item.nd (pi_range1 (by rfl) T.n_range (pa_cons (pe_op op_add pe_int (pe_call G__law_draw (hr.mono (by decide)) (by rfl) g__law_draw k__law_draw b__law_draw .nil pass0 (pa_cons (pv 0) (pa_cons pe_int pa_nil)))) pa_nil)) (blkOk_by (own := [("k", 3)]) (N := N__law_item) (sc := defScope s__law_item) (by decide +kernel)) (fun _ _ _ _ _ => pg_name (i := 3) sc__law_item.nd rfl (Or.inl rfl)) (fun _ _ _ _ _ => pts_nil) (fun _ _ _ _ _ => (pe_item_str (pv 1) (pe_call G__law_draw (hr.mono (by decide)) (by rfl) g__law_draw k__law_draw b__law_draw .nil pass0 (pa_cons (pv 0) (pa_cons (pe_callB call_lenS (by rfl) T.n_len PySem.boot_len (pa_cons (pv 1) pa_nil)) pa_nil))) (fun _ _ => rfl))))))
      (pss_one (ps_ret (pe_op op_add_str (pe_ix ix_list (pe_lst (pa_cons pe_str (pa_cons pe_str pa_nil))) (pe_call G__law_draw (hr.mono (by decide)) (by rfl) g__law_draw k__law_draw b__law_draw .nil pass0 (pa_cons (pv 0) (pa_cons pe_int pa_nil))) (fun _ _ => rfl)) (pv 2)))))), ?_⟩
    have lS : ∀ y : Str, y.length = (tl y).length := tl_len
    have e : (Str.ofString "abcdefghijklmnopqrstuvwxyz0123456789...***???***").length = 48 := by decide +kernel
    refine ⟨⟨_, rfl⟩, _, rfl, s, a, _, c + 9, rfl, by decide, by decide, hS, fun v H1 v0 v1 x1 S1 => ?_⟩
    refine ⟨_, _, rfl, rfl, _, rfl, by omega, by omega, fun D hD => ?_⟩
    refine lc_strs (n := (1 + v).toNat) (d := 1) (c := c + 1) (fun x => (tl x).length = 1) hD (S1.mono (by omega)) (by omega) (fun _ => rfl) (fun i c' Hx R hi hE' hS' k => ?_) (fun xs H3 hx3 hl3 hA3 hE3 hS3 => ?_)
    · refine ⟨_, rfl, _, rfl, _, rfl, _, rfl, by decide +kernel, s, a, _, c', rfl, by decide +kernel, by decide +kernel, hS', fun w H4 w0 w1 x4 S4 => ?_⟩
      obtain ⟨ch, e1, _, _⟩ := at_str (x := Str.ofString "abcdefghijklmnopqrstuvwxyz0123456789...***???***") w0 w1
      have w48 : w < 48 := by rw [e] at w1; exact w1
      exact ⟨_, w, ch, rfl, rfl, w0, by omega, w1, e1, k _ H4 rfl x4 S4⟩
    · have hs := sum_len (n := 1) (xs := xs) fun x m => Nat.le_of_eq (hA3 x m)
      refine ⟨_, D, xs, rfl, rfl, .inl (SqL.of hx3), ?_, ?_⟩
      · show _ + xs.length * 0 ≤ _; omega
      have jl : (tl (Txt.join (Str.ofString "") xs)).length ≤ 5 := by
        rw [tl_joinS]
        refine Nat.le_trans (joinL_len (n := 1) fun l m => ?_) ?_
        · obtain ⟨x, hx, rfl⟩ := List.mem_map.mp m
          exact Nat.le_of_eq (hA3 x hx)
        · rw [List.length_map]; show xs.length * (1 + 0) ≤ 5; omega
      refine ⟨by show 2 ≤ sizeLine; decide, fun J hJ => ?_⟩
      refine ⟨_, rfl, s, a, _, c, rfl, by decide, by decide, hS3.new hJ, fun w H4 w0 w1 x4 S4 => ?_⟩
      have hJ4 := x4 _ _ (hS3.ne hJ) upd_same
      obtain ⟨jt, hj, jl2⟩ : ∃ jt : Str, [V.str (Str.ofString ""), V.str (Str.ofString "!")][w.toNat]? = some (V.str jt) ∧ (tl jt).length ≤ 1 := by
        rcases (by omega : w.toNat = 0 ∨ w.toNat = 1) with e | e <;> rw [e] <;> exact ⟨_, rfl, by decide +kernel⟩
      refine ⟨J, _, w, .str jt, rfl, rfl, SqL.of hJ4, atI_pos w0 hj, _, rfl, _, _, rfl, rfl, ?_, ?_⟩
      · rw [lS, lS]; exact Nat.le_trans (show _ ≤ 6 by omega) (by decide)
      · exact q _ H4 (by rw [tl_app, List.length_append]; omega) (x1.trans (hE3.trans ((Ext.new hJ).trans x4))) S4
end

end Z
namespace Z
open PySem L2 SX
section
variable {P : Program} {w : World} {K : PySem.W.Frag} {mg : Str → Option Value} {base : Heap}
theorem ok__law_text (D : Df K mg "_law_text" s__law_text ["source"]) (T : Tx mg) (C__law_draw : Cal P w K mg base "_law_draw" ["source", "many"] 2 sp__law_draw) (C__law_item : Cal P w K mg base "_law_item" ["source"] 3 (sp13 10 6)) (C__law_pick : Cal P w K mg base "_law_pick" ["source", "row"] 3 (sp__law_pick K)) : Cal P w K mg base "_law_text" ["source"] 4 (sp13 200 600) := by
  obtain ⟨f__law_draw, fd__law_draw, G__law_draw, g__law_draw, k__law_draw, b__law_draw⟩ := C__law_draw
  obtain ⟨f__law_item, fd__law_item, G__law_item, g__law_item, k__law_item, b__law_item⟩ := C__law_item
  obtain ⟨f__law_pick, fd__law_pick, G__law_pick, g__law_pick, k__law_pick, b__law_pick⟩ := C__law_pick
  obtain ⟨f, fd, F, gf, bf⟩ := D
  refine ⟨f, fd, F.ok sc__law_text (fun vs H Q E h => ?_) (fun cdv A outer s₀ H vs Q E hr h => ?_), gf, F.kp, bf⟩
  · obtain ⟨s, a, c, rfl, _⟩ := h; rfl
  · obtain ⟨s, a, c, rfl, hS, q⟩ := h
    refine ⟨_, (pss_cons (ps_set (i := 1) sc__law_text.nd rfl (Or.inl rfl) (pe_call G__law_draw (hr.mono (by decide)) (by rfl) g__law_draw k__law_draw b__law_draw .nil pass0 (pa_cons (pv 0) (pa_cons pe_int pa_nil))))
      (pss_cons (ps_set (i := 2) sc__law_text.nd rfl (Or.inl rfl) (pe_op op_add pe_int (pe_call G__law_draw (hr.mono (by decide)) (by rfl) g__law_draw k__law_draw b__law_draw .nil pass0 (pa_cons (pv 0) (pa_cons pe_int pa_nil)))))
      (C8.pss_cut (ps_if (pt_cmpR op_eq (pv 1) pe_int (nomark _))
      (pss_one (ps_set (i := 2) sc__law_text.nd rfl (Or.inl rfl) (pe_op op_add pe_int (pe_call G__law_draw (hr.mono (by decide)) (by rfl) g__law_draw k__law_draw b__law_draw .nil pass0 (pa_cons (pv 0) (pa_cons pe_int pa_nil))))))
      pss_nil)
      (pss_cons (ps_set (i := 3) sc__law_text.nd rfl (Or.inl rfl) (pe_join pe_str (pe_lc (own := [("k", 5)]) (g := gName 5) (tt := tYes) rfl sc__law_text.nd (pi_range1 (by rfl) T.n_range (pa_cons (pv 2) pa_nil)) (blkOk_by (own := [("k", 5)]) (N := N__law_text) (sc := defScope s__law_text) (by decide +kernel)) (fun _ _ _ _ _ => pg_name (i := 5) sc__law_text.nd rfl (Or.inl rfl)) (fun _ _ _ _ _ => pts_nil) (fun _ _ _ _ _ => (pe_call G__law_item (hr.mono (by decide)) (by rfl) g__law_item k__law_item b__law_item .nil pass0 (pa_cons (pv 0) pa_nil))))))
      (pss_cons (ps_set (i := 4) sc__law_text.nd rfl (Or.inl rfl) (pe_call G__law_pick (hr.mono (by decide)) (by rfl) g__law_pick k__law_pick b__law_pick .nil pass0 (pa_cons (pv 0) (pa_cons (pe_lst (pa_cons pe_str (pa_cons pe_str (pa_cons pe_str (pa_cons pe_str (pa_cons pe_str (pa_cons pe_str pa_nil))))))) pa_nil))))
      (C8.pss_cut (ps_if (pt_cmpR op_eq (pv 1) pe_int (nomark _))
      (pss_one (ps_set (i := 3) sc__law_text.nd rfl (Or.inl rfl) (pe_op op_add_str (pv 3) (pe_op op_mul_str (pv 4) (pe_callB (call_max2 rfl) (by rfl) T.n_max (by decide +kernel) (pa_cons pe_int (pa_cons (pe_op op_sub (pe_op op_add pe_int (pe_call G__law_draw (hr.mono (by decide)) (by rfl) g__law_draw k__law_draw b__law_draw .nil pass0 (pa_cons (pv 0) (pa_cons pe_int pa_nil)))) (pe_callB call_lenS (by rfl) T.n_len PySem.boot_len (pa_cons (pv 3) pa_nil))) pa_nil)))))))
      pss_nil)
      (C8.pss_cut (ps_if (pt_cmpR op_eq (pv 1) pe_int (nomark _))
      (pss_one (ps_set (i := 3) sc__law_text.nd rfl (Or.inl rfl) (pe_op op_add_str (pv 3) (pe_op op_mul_str (pv 4) (pe_callB (call_max2 rfl) (by rfl) T.n_max (by decide +kernel) (pa_cons pe_int (pa_cons (pe_op op_sub (pe_op op_add pe_int (pe_call G__law_draw (hr.mono (by decide)) (by rfl) g__law_draw k__law_draw b__law_draw .nil pass0 (pa_cons (pv 0) (pa_cons pe_int pa_nil)))) (pe_callB call_lenS (by rfl) T.n_len PySem.boot_len (pa_cons (pv 3) pa_nil))) pa_nil)))))))
      pss_nil)
      (pss_one (ps_ret (pv 3)))))))))), ?_⟩
    have small : ∀ n : Nat, n ≤ 30000 → n ≤ sizeLine := fun n h => Nat.le_trans h (by decide)
    have lS : ∀ y : Str, y.length = (tl y).length := tl_len
    refine ⟨_, rfl, s, a, _, c + 199, rfl, by decide, by decide, hS, fun v H1 v0 v1 x1 S1 => ?_⟩
    refine ⟨_, rfl, s, a, _, c + 198, rfl, by decide, by decide, S1, fun w H2 w0 w1 x2 S2 => ?_⟩
    refine ⟨_, _, rfl, rfl, ?_⟩
    refine ⟨fun σ' H' => ∃ (m : Int) (v3 v4 v5 : Option V), σ' = [some (.ref s), some (.int v), some (.int m), v3, v4, v5] ∧ 0 ≤ m ∧ m ≤ 10 ∧ Ext s H H' ∧ Src H' s a (c + 190), ?_, ?_⟩
    · refine ⟨_, rfl, rfl, _, rfl, ite2 (fun _ => ?_) (fun _ => ⟨_, _, _, _, rfl, by omega, by omega, x1.trans x2, S2.mono (by omega)⟩)⟩
      refine ⟨_, rfl, s, a, _, c + 197, rfl, by decide, by decide, S2, fun u H3 u0 u1 x3 S3 => ⟨_, _, rfl, rfl, ⟨_, _, _, _, rfl, by omega, by omega, x1.trans (x2.trans x3), S3.mono (by omega)⟩⟩⟩
    rintro σ' H3 ⟨m, v3, v4, v5, rfl, m0, m1, x3, S3⟩
    refine ⟨⟨_, rfl⟩, _, rfl, _, rfl, by omega, by omega, fun D hD => ?_⟩
    refine lc_strs (n := m.toNat) (d := 10) (c := c + 80) (fun x => (tl x).length ≤ 6) hD (S3.mono (by omega)) (by omega) (fun _ => rfl) (fun i c' Hx R hi hE' hS' k => ?_) (fun xs H4 hx4 hl4 hA4 hE4 hS4 => ?_)
    · exact ⟨_, rfl, s, a, c', rfl, hS', fun x H4 xl x4 S4 => k x H4 xl x4 S4⟩
    have hs := sum_len (n := 6) (xs := xs) hA4
    refine ⟨Str.ofString ",", D, xs, rfl, rfl, .inl (SqL.of hx4), ?_, ?_⟩
    · show _ + xs.length * 1 ≤ _; omega
    have jl : (tl (Txt.join (Str.ofString ",") xs)).length ≤ 70 := by
      rw [tl_joinS]
      refine Nat.le_trans (joinL_len (n := 6) fun l m => ?_) ?_
      · obtain ⟨x, hx, rfl⟩ := List.mem_map.mp m
        exact hA4 x hx
      · rw [List.length_map]; show xs.length * (6 + 1) ≤ 70; omega
    generalize Txt.join (Str.ofString ",") xs = t at jl ⊢
    refine ⟨_, rfl, by show 6 ≤ sizeLine; decide, fun J hJ => ?_⟩
    refine .inl ⟨s, a, J, [Str.ofString "a", Str.ofString "z", Str.ofString "7", Str.ofString ".", Str.ofString "*", Str.ofString "?"].map V.str, c + 79, rfl, SqL.of upd_same, hS4.ne hJ, (fun h => (by cases h)), by show 6 ≤ 100000; decide, hS4.new hJ, fun y H5 ym x5 S5 => ?_⟩
    obtain ⟨sg, rfl, sl⟩ := len_mem (n := 1) (by decide +kernel) ym
    have x05 : Ext s H H5 := x3.trans (hE4.trans ((Ext.new hJ).trans x5))
    have add : ∀ (n : Int) (t : Str) (k : Int) (r : Str), (tl t).length ≤ 300 → k = (if n - (t.length : Int) > 0 then n - (t.length : Int) else 0) → n ≤ 200 → tl r = rep k.toNat (tl sg) → (tl r).length ≤ 200 := fun n t k r h1 h2 h3 h4 => by
      rw [h4, rep_len]
      have : k.toNat ≤ 200 := by rw [h2]; split <;> omega
      exact Nat.le_trans (Nat.mul_le_mul this sl) (by decide)
    refine ⟨fun σ' H' => ∃ (t : Str) (v5 : Option V), σ' = [some (.ref s), some (.int v), some (.int m), some (.str t), some (.str sg), v5] ∧ (tl t).length ≤ 270 ∧ Ext s H H' ∧ Src H' s a (c + 50), ?_, ?_⟩
    · refine ⟨_, rfl, rfl, _, rfl, ite2 (fun _ => ?_) (fun _ => ⟨t, _, rfl, by omega, x05, S5.mono (by omega)⟩)⟩
      refine ⟨_, rfl, _, rfl, _, rfl, s, a, _, c + 78, rfl, by decide, by decide, S5, fun u H6 u0 u1 x6 S6 => ?_⟩
      have lt := lS t
      refine ⟨_, _, rfl, rfl, _, rfl, t, rfl, small _ (by omega), _, _, rfl, rfl, _, _, rfl, sg, _, rfl, rfl, by split <;> omega, by split <;> omega, ?_, fun r hr' => ?_⟩
      · exact Nat.le_trans (Nat.mul_le_mul sl (show _ ≤ 200 by split <;> omega)) (by decide)
      have lr := add _ t _ r (by omega) rfl (by omega) hr'
      refine ⟨_, _, rfl, rfl, small _ (by rw [lS, lS]; omega), ?_⟩
      exact ⟨_, _, rfl, by rw [tl_app, List.length_append]; omega, x05.trans x6, S6.mono (by omega)⟩
    rintro σ' H6 ⟨t, v5, rfl, tlen, x6, S6⟩
    refine ⟨fun σ' H' => ∃ (t : Str) (v5 : Option V), σ' = [some (.ref s), some (.int v), some (.int m), some (.str t), some (.str sg), v5] ∧ (tl t).length ≤ 600 ∧ Ext s H H' ∧ Src H' s a c, ?_, ?_⟩
    · refine ⟨_, rfl, rfl, _, rfl, ite2 (fun _ => ?_) (fun _ => ⟨t, _, rfl, by omega, x6, S6.mono (by omega)⟩)⟩
      refine ⟨_, rfl, _, rfl, _, rfl, s, a, _, c + 49, rfl, by decide, by decide, S6, fun u H7 u0 u1 x7 S7 => ?_⟩
      have lt := lS t
      refine ⟨_, _, rfl, rfl, _, rfl, t, rfl, small _ (by omega), _, _, rfl, rfl, _, _, rfl, sg, _, rfl, rfl, by split <;> omega, by split <;> omega, ?_, fun r hr' => ?_⟩
      · exact Nat.le_trans (Nat.mul_le_mul sl (show _ ≤ 200 by split <;> omega)) (by decide)
      have lr := add _ t _ r (by omega) rfl (by omega) hr'
      refine ⟨_, _, rfl, rfl, small _ (by rw [lS, lS]; omega), ?_⟩
      exact ⟨_, _, rfl, by rw [tl_app, List.length_append]; omega, x6.trans x7, S7.mono (by omega)⟩
    rintro σ' H7 ⟨t, v5, rfl, tlen, x7, S7⟩
    exact ⟨_, rfl, q t H7 tlen x7 S7⟩
end
section
variable {P : Program} {w : World} {K : PySem.W.Frag} {mg : Str → Option Value} {base : Heap}
theorem ok__law_odd (D : Df K mg "_law_odd" s__law_odd ["source"]) (T : Tx mg) (C__law_item : Cal P w K mg base "_law_item" ["source"] 3 (sp13 10 6)) (C__law_pick : Cal P w K mg base "_law_pick" ["source", "row"] 3 (sp__law_pick K)) : Cal P w K mg base "_law_odd" ["source"] 4 (sp13 30 40) := by
  obtain ⟨f__law_item, fd__law_item, G__law_item, g__law_item, k__law_item, b__law_item⟩ := C__law_item
  obtain ⟨f__law_pick, fd__law_pick, G__law_pick, g__law_pick, k__law_pick, b__law_pick⟩ := C__law_pick
  obtain ⟨f, fd, F, gf, bf⟩ := D
  refine ⟨f, fd, F.ok sc__law_odd (fun vs H Q E h => ?_) (fun cdv A outer s₀ H vs Q E hr h => ?_), gf, F.kp, bf⟩
  · obtain ⟨s, a, c, rfl, _⟩ := h; rfl
  · obtain ⟨s, a, c, rfl, hS, q⟩ := h
    refine ⟨_, (pss_cons (ps_set (i := 1) sc__law_odd.nd rfl (Or.inl rfl) (pe_call G__law_item (hr.mono (by decide)) (by rfl) g__law_item k__law_item b__law_item .nil pass0 (pa_cons (pv 0) pa_nil)))
      (pss_cons (ps_set (i := 2) sc__law_odd.nd rfl (Or.inl rfl) (pe_call G__law_item (hr.mono (by decide)) (by rfl) g__law_item k__law_item b__law_item .nil pass0 (pa_cons (pv 0) pa_nil)))
      (pss_cons (ps_set (i := 3) sc__law_odd.nd rfl (Or.inl rfl) (pe_lst (pa_cons pe_str (pa_cons (pe_op op_add_str (pv 1) pe_str) (pa_cons (pe_op op_add_str (pv 1) pe_str) (pa_cons (pe_op op_add_str pe_str (pv 1)) (pa_cons (pe_op op_add_str pe_str (pv 1)) (pa_cons (pe_op op_add_str (pe_op op_add_str (pv 1) pe_str) (pv 2)) (pa_cons (pe_op op_add_str (pv 1) pe_str) (pa_cons (pe_op op_add_str (pe_op op_add_str (pv 1) pe_str) (pv 2)) pa_nil))))))))))
      (pss_one (ps_ret (pe_call G__law_pick (hr.mono (by decide)) (by rfl) g__law_pick k__law_pick b__law_pick .nil pass0 (pa_cons (pv 0) (pa_cons (pe_op L2.op_cat (pv 3) (pe_lst (pa_cons (pe_op op_add_str (pe_op op_add_str (pv 1) pe_str) (pv 2)) (pa_cons (pe_op op_add_str (pe_op op_add_str (pv 1) pe_str) (pv 2)) pa_nil)))) pa_nil)))))))), ?_⟩
    have small : ∀ n : Nat, n ≤ 30000 → n ≤ sizeLine := fun n h => Nat.le_trans h (by decide)
    have lS : ∀ y : Str, y.length = (tl y).length := tl_len
    refine ⟨_, rfl, s, a, c + 20, rfl, hS, fun x H1 xl x1 S1 => ?_⟩
    refine ⟨_, rfl, s, a, c + 10, rfl, S1, fun y H2 yl x2 S2 => ?_⟩
    have b1 : ∀ z : Str, (tl z).length ≤ 2 → (tl (x ++ z)).length ≤ 8 := fun z h => by rw [tl_app, List.length_append]; omega
    have b2 : ∀ z : Str, (tl z).length ≤ 2 → (tl (z ++ x)).length ≤ 8 := fun z h => by rw [tl_app, List.length_append]; omega
    have b3 : ∀ z : Str, (tl z).length ≤ 2 → (tl (x ++ z ++ y)).length ≤ 14 := fun z h => by rw [tl_app, List.length_append]; have := b1 z h; omega
    have i1 : ∀ z : Str, (tl z).length ≤ 2 → x.length + z.length ≤ sizeLine := fun z h => small _ (by rw [lS, lS]; omega)
    have i2 : ∀ z : Str, (tl z).length ≤ 2 → z.length + x.length ≤ sizeLine := fun z h => small _ (by rw [lS, lS]; omega)
    have i3 : ∀ z : Str, (tl z).length ≤ 2 → (x ++ z).length + y.length ≤ sizeLine := fun z h => small _ (by rw [lS, lS]; have := b1 z h; omega)
    refine ⟨_, rfl, _, _, rfl, rfl, i1 _ (by decide), _, rfl, _, _, rfl, rfl, i1 _ (by decide), _, rfl, _, _, rfl, rfl, i2 _ (by decide), _, rfl, _, _, rfl, rfl, i2 _ (by decide), _, rfl, _, _, rfl, rfl, i1 _ (by decide), _, rfl, _, _, rfl, rfl, i3 _ (by decide), _, rfl, _, _, rfl, rfl, i1 _ (by decide), _, rfl, _, _, rfl, rfl, i1 _ (by decide), _, rfl, _, _, rfl, rfl, i3 _ (by decide), by show 8 ≤ sizeLine; decide, fun M hM => ?_⟩
    refine ⟨_, rfl, _, rfl, _, rfl, _, _, rfl, rfl, i1 _ (by decide), _, rfl, _, _, rfl, rfl, i3 _ (by decide), _, rfl, _, _, rfl, rfl, i1 _ (by decide), _, rfl, _, _, rfl, rfl, i3 _ (by decide), by show 2 ≤ sizeLine; decide, fun N hN => ?_⟩
    refine ⟨M, N, _, _, rfl, rfl, same_new hN _ _ upd_same, upd_same, by show 8 + 2 ≤ sizeLine; decide, fun R hR => ?_⟩
    refine .inl ⟨s, a, R, _, c + 9, rfl, SqL.of upd_same, Src.ne ((S2.new hM).new hN) hR, (fun h => (by cases h)), by show 10 ≤ 100000; decide, Src.new ((S2.new hM).new hN) hR, fun w H5 wm x5 S5 => ?_⟩
    have x05 : Ext s H H5 := x1.trans (x2.trans ((Ext.new hM).trans ((Ext.new hN).trans ((Ext.new hR).trans x5))))
    obtain ⟨z, rfl, zl⟩ : ∃ z : Str, w = V.str z ∧ (tl z).length ≤ 14 := by
      refine len_mem (n := 14) (xs := [Str.ofString "", x ++ Str.ofString ",", x ++ Str.ofString "!", Str.ofString "!" ++ x, Str.ofString "," ++ x, x ++ Str.ofString ",," ++ y, x ++ Str.ofString ",!", x ++ Str.ofString "," ++ y, x ++ Str.ofString "!" ++ y, x ++ Str.ofString ",!" ++ y]) (fun z hz => ?_) wm
      simp only [List.mem_cons, List.not_mem_nil, or_false] at hz
      rcases hz with e | e | e | e | e | e | e | e | e | e <;> subst e
      · decide
      · exact Nat.le_trans (b1 _ (by decide)) (by decide)
      · exact Nat.le_trans (b1 _ (by decide)) (by decide)
      · exact Nat.le_trans (b2 _ (by decide)) (by decide)
      · exact Nat.le_trans (b2 _ (by decide)) (by decide)
      · exact b3 _ (by decide)
      · exact Nat.le_trans (b1 _ (by decide)) (by decide)
      · exact b3 _ (by decide)
      · exact b3 _ (by decide)
      · exact b3 _ (by decide)
    exact q z H5 (by omega) x05 (S5.mono (by omega))
end
section
variable {P : Program} {w : World} {K : PySem.W.Frag} {mg : Str → Option Value} {base : Heap}
theorem ok__law_edge (D : Df K mg "_law_edge" s__law_edge ["source"]) (T : Tx mg) (C__law_item : Cal P w K mg base "_law_item" ["source"] 3 (sp13 10 6)) (C__law_pick : Cal P w K mg base "_law_pick" ["source", "row"] 3 (sp__law_pick K)) : Cal P w K mg base "_law_edge" ["source"] 4 (sp13 40 100) := by
  obtain ⟨f__law_item, fd__law_item, G__law_item, g__law_item, k__law_item, b__law_item⟩ := C__law_item
  obtain ⟨f__law_pick, fd__law_pick, G__law_pick, g__law_pick, k__law_pick, b__law_pick⟩ := C__law_pick
  obtain ⟨f, fd, F, gf, bf⟩ := D
  refine ⟨f, fd, F.ok sc__law_edge (fun vs H Q E h => ?_) (fun cdv A outer s₀ H vs Q E hr h => ?_), gf, F.kp, bf⟩
  · obtain ⟨s, a, c, rfl, _⟩ := h; rfl
  · obtain ⟨s, a, c, rfl, hS, q⟩ := h
    refine ⟨_, (pss_cons (ps_set (i := 1) sc__law_edge.nd rfl (Or.inl rfl) (pe_op op_add_str (pe_op op_add_str (pe_call G__law_item (hr.mono (by decide)) (by rfl) g__law_item k__law_item b__law_item .nil pass0 (pa_cons (pv 0) pa_nil)) pe_str) (pe_call G__law_item (hr.mono (by decide)) (by rfl) g__law_item k__law_item b__law_item .nil pass0 (pa_cons (pv 0) pa_nil))))
      (pss_cons (ps_set (i := 1) sc__law_edge.nd rfl (Or.inl rfl) (pe_op op_add_str (pv 1) (pe_op op_mul_str (pe_call G__law_pick (hr.mono (by decide)) (by rfl) g__law_pick k__law_pick b__law_pick .nil pass0 (pa_cons (pv 0) (pa_cons (pe_lst (pa_cons pe_str (pa_cons pe_str (pa_cons pe_str (pa_cons pe_str (pa_cons pe_str pa_nil)))))) pa_nil))) (pe_op op_sub pe_int (pe_callB call_lenS (by rfl) T.n_len PySem.boot_len (pa_cons (pv 1) pa_nil))))))
      (pss_cons (ps_set (i := 1) sc__law_edge.nd rfl (Or.inl rfl) (pe_op op_add_str (pv 1) (pe_call G__law_pick (hr.mono (by decide)) (by rfl) g__law_pick k__law_pick b__law_pick .nil pass0 (pa_cons (pv 0) (pa_cons (pe_lst (pa_cons pe_str (pa_cons pe_str (pa_cons pe_str (pa_cons pe_str pa_nil))))) pa_nil)))))
      (pss_one (ps_ret (pe_op op_add_str (pv 1) (pe_call G__law_pick (hr.mono (by decide)) (by rfl) g__law_pick k__law_pick b__law_pick .nil pass0 (pa_cons (pv 0) (pa_cons (pe_lst (pa_cons pe_str (pa_cons pe_str (pa_cons pe_str (pa_cons pe_str (pa_cons pe_str (pa_cons pe_str (pa_cons pe_str (pa_cons pe_str (pa_cons pe_str pa_nil)))))))))) pa_nil))))))))), ?_⟩
    have small : ∀ n : Nat, n ≤ 30000 → n ≤ sizeLine := fun n h => Nat.le_trans h (by decide)
    have lS : ∀ y : Str, y.length = (tl y).length := tl_len
    refine ⟨_, rfl, s, a, c + 30, rfl, hS, fun x H1 xl x1 S1 => ?_⟩
    have e1 : (tl (x ++ Str.ofString ",")).length = (tl x).length + 1 := by rw [tl_app, List.length_append]; rfl
    refine ⟨_, _, rfl, rfl, small _ (by rw [lS, lS]; show _ + 1 ≤ _; omega), _, rfl, s, a, c + 20, rfl, S1, fun y H2 yl x2 S2 => ?_⟩
    refine ⟨_, _, rfl, rfl, small _ (by rw [lS, lS]; omega), ?_⟩
    have lt : (tl (x ++ Str.ofString "," ++ y)).length ≤ 13 := by rw [tl_app, List.length_append]; omega
    generalize x ++ Str.ofString "," ++ y = t at lt ⊢
    have ltS := lS t
    refine ⟨_, rfl, _, rfl, by show 5 ≤ sizeLine; decide, fun J hJ => ?_⟩
    refine .inl ⟨s, a, J, [Str.ofString "b", Str.ofString "0", Str.ofString "*", Str.ofString "?", Str.ofString "."].map V.str, c + 19, rfl, SqL.of upd_same, S2.ne hJ, (fun h => (by cases h)), by show 5 ≤ 100000; decide, S2.new hJ, fun w H3 wm x3 S3 => ?_⟩
    obtain ⟨z, rfl, zl⟩ := len_mem (n := 1) (by decide +kernel) wm
    refine ⟨_, rfl, t, rfl, small _ (by omega), _, _, rfl, rfl, z, _, rfl, rfl, by omega, by omega, ?_, fun r hr' => ?_⟩
    · exact Nat.le_trans (Nat.mul_le_mul zl (show _ ≤ 58 by omega)) (by decide)
    have lr : (tl r).length ≤ 58 := by
      rw [hr', rep_len]
      have : ((58 : Int) - (t.length : Int)).toNat ≤ 58 := by omega
      exact Nat.le_trans (Nat.mul_le_mul this zl) (by decide)
    refine ⟨_, _, rfl, rfl, small _ (by rw [lS, lS]; omega), ?_⟩
    have lt2 : (tl (t ++ r)).length ≤ 71 := by rw [tl_app, List.length_append]; omega
    generalize t ++ r = t2 at lt2 ⊢
    refine ⟨_, rfl, _, rfl, by show 4 ≤ sizeLine; decide, fun J2 hJ2 => ?_⟩
    refine .inl ⟨s, a, J2, [Str.ofString "a", Str.ofString ",", Str.ofString "!", Str.ofString "?"].map V.str, c + 18, rfl, SqL.of upd_same, S3.ne hJ2, (fun h => (by cases h)), by show 4 ≤ 100000; decide, S3.new hJ2, fun w H4 wm x4 S4 => ?_⟩
    obtain ⟨z2, rfl, zl2⟩ := len_mem (n := 1) (by decide +kernel) wm
    refine ⟨_, _, rfl, rfl, small _ (by rw [lS, lS]; omega), ?_⟩
    have lt3 : (tl (t2 ++ z2)).length ≤ 72 := by rw [tl_app, List.length_append]; omega
    generalize t2 ++ z2 = t3 at lt3 ⊢
    refine ⟨_, rfl, _, rfl, by show 9 ≤ sizeLine; decide, fun J3 hJ3 => ?_⟩
    refine .inl ⟨s, a, J3, [Str.ofString "", Str.ofString "a", Str.ofString ",", Str.ofString "!", Str.ofString "*", Str.ofString "!a", Str.ofString ",a", Str.ofString "a,", Str.ofString "ab"].map V.str, c + 17, rfl, SqL.of upd_same, S4.ne hJ3, (fun h => (by cases h)), by show 9 ≤ 100000; decide, S4.new hJ3, fun w H5 wm x5 S5 => ?_⟩
    obtain ⟨z3, rfl, zl3⟩ := len_mem (n := 2) (by decide +kernel) wm
    refine ⟨_, _, rfl, rfl, small _ (by rw [lS, lS]; omega), ?_⟩
    exact q _ H5 (by rw [tl_app, List.length_append]; omega) (x1.trans (x2.trans ((Ext.new hJ).trans (x3.trans ((Ext.new hJ2).trans (x4.trans ((Ext.new hJ3).trans x5))))))) (S5.mono (by omega))
end
section
variable {P : Program} {w : World} {K : PySem.W.Frag} {mg : Str → Option Value} {base : Heap}
theorem ok__law_bent (D : Df K mg "_law_bent" s__law_bent ["source", "text"]) (T : Tx mg) (C__law_any_sign : Cal P w K mg base "_law_any_sign" ["source"] 3 (sp13 1 1)) (C__law_draw : Cal P w K mg base "_law_draw" ["source", "many"] 2 sp__law_draw) (C__law_pick : Cal P w K mg base "_law_pick" ["source", "row"] 3 (sp__law_pick K)) : Cal P w K mg base "_law_bent" ["source", "text"] 4 sp13_bent := by
  obtain ⟨f__law_any_sign, fd__law_any_sign, G__law_any_sign, g__law_any_sign, k__law_any_sign, b__law_any_sign⟩ := C__law_any_sign
  obtain ⟨f__law_draw, fd__law_draw, G__law_draw, g__law_draw, k__law_draw, b__law_draw⟩ := C__law_draw
  obtain ⟨f__law_pick, fd__law_pick, G__law_pick, g__law_pick, k__law_pick, b__law_pick⟩ := C__law_pick
  obtain ⟨f, fd, F, gf, bf⟩ := D
  refine ⟨f, fd, F.ok sc__law_bent (fun vs H Q E h => ?_) (fun cdv A outer s₀ H vs Q E hr h => ?_), gf, F.kp, bf⟩
  · obtain ⟨s, a, x, c, rfl, _⟩ := h; rfl
  · obtain ⟨s, a, x, c, rfl, xl, hS, q⟩ := h
    refine ⟨_, (pss_cons (ps_set (i := 2) sc__law_bent.nd rfl (Or.inl rfl) (pe_call G__law_draw (hr.mono (by decide)) (by rfl) g__law_draw k__law_draw b__law_draw .nil pass0 (pa_cons (pv 0) (pa_cons (pe_op op_add (pe_callB call_lenS (by rfl) T.n_len PySem.boot_len (pa_cons (pv 1) pa_nil)) pe_int) pa_nil))))
      (C8.pss_cut (ps_if (pt_cmpR op_eq (pe_call G__law_draw (hr.mono (by decide)) (by rfl) g__law_draw k__law_draw b__law_draw .nil pass0 (pa_cons (pv 0) (pa_cons pe_int pa_nil))) pe_int (nomark _))
      (pss_one (ps_set (i := 2) sc__law_bent.nd rfl (Or.inl rfl) (pe_callB (call_min2 rfl) (by rfl) T.n_min (by decide +kernel) (pa_cons (pe_callB call_lenS (by rfl) T.n_len PySem.boot_len (pa_cons (pv 1) pa_nil)) (pa_cons (pe_op op_add pe_int (pe_call G__law_draw (hr.mono (by decide)) (by rfl) g__law_draw k__law_draw b__law_draw .nil pass0 (pa_cons (pv 0) (pa_cons pe_int pa_nil)))) pa_nil)))))
      pss_nil)
      (pss_cons (ps_set (i := 3) sc__law_bent.nd rfl (Or.inl rfl) (pe_call G__law_pick (hr.mono (by decide)) (by rfl) g__law_pick k__law_pick b__law_pick .nil pass0 (pa_cons (pv 0) (pa_cons (pe_lst (pa_cons pe_str (pa_cons pe_str (pa_cons pe_str (pa_cons pe_str (pa_cons (pe_call G__law_any_sign (hr.mono (by decide)) (by rfl) g__law_any_sign k__law_any_sign b__law_any_sign .nil pass0 (pa_cons (pv 0) pa_nil)) pa_nil)))))) pa_nil))))
      (pss_cons (ps_set (i := 4) sc__law_bent.nd rfl (Or.inl rfl) (pe_call G__law_draw (hr.mono (by decide)) (by rfl) g__law_draw k__law_draw b__law_draw .nil pass0 (pa_cons (pv 0) (pa_cons pe_int pa_nil))))
      (pss_cons (ps_if (pt_cmpR op_eq (pv 4) pe_int (nomark _))
      (pss_one (ps_ret (pe_slice sl_str (pv 1) po_none (po_some (pv 2)))))
      pss_nil)
      (pss_cons (ps_if (pt_cmpR op_eq (pv 4) pe_int (nomark _))
      (pss_one (ps_ret (pe_op op_add_str (pe_slice sl_str (pv 1) po_none (po_some (pv 2))) (pe_slice sl_str (pv 1) (po_some (pe_op op_add (pv 2) pe_int)) po_none))))
      pss_nil)
      (pss_cons (ps_if (PW.pt (pw_or (pt_cmpR op_eq (pv 4) pe_int (nomark _)) (pw_or1 (pt_cmpR op_eq (pv 4) pe_int (nomark _)))))
      (pss_one (ps_ret (pe_op op_add_str (pe_op op_add_str (pe_slice sl_str (pv 1) po_none (po_some (pv 2))) (pv 3)) (pe_slice sl_str (pv 1) (po_some (pv 2)) po_none))))
      pss_nil)
      (pss_one (ps_ret (pe_op op_add_str (pe_op op_add_str (pe_slice sl_str (pv 1) po_none (po_some (pv 2))) (pv 3)) (pe_slice sl_str (pv 1) (po_some (pe_op op_add (pv 2) pe_int)) po_none))))))))))), ?_⟩
    have small : ∀ n : Nat, n ≤ 30000 → n ≤ sizeLine := fun n h => Nat.le_trans h (by decide)
    have lS : ∀ y : Str, y.length = (tl y).length := tl_len
    have lx := lS x
    refine ⟨_, rfl, _, rfl, x, rfl, small _ (by omega), _, _, rfl, rfl, s, a, _, c + 9, rfl, by omega, by omega, hS, fun v H1 v0 v1 x1 S1 => ?_⟩
    refine ⟨fun σ' H' => ∃ (p : Int) (v3 v4 : Option V), σ' = [some (.ref s), some (.str x), some (.int p), v3, v4] ∧ 0 ≤ p ∧ p ≤ (tl x).length ∧ Ext s H H' ∧ Src H' s a (c + 7), ?_, ?_⟩
    · refine ⟨_, rfl, s, a, _, c + 8, rfl, by decide, by decide, S1, fun w H2 w0 w1 x2 S2 => ?_⟩
      refine ⟨rfl, _, rfl, ite2 (fun _ => ?_) (fun _ => ⟨v, _, _, rfl, v0, by omega, x1.trans x2, S2.mono (by omega)⟩)⟩
      refine ⟨_, rfl, x, rfl, small _ (by omega), _, rfl, s, a, _, c + 7, rfl, by decide, by decide, S2, fun u H3 u0 u1 x3 S3 => ?_⟩
      refine ⟨_, _, rfl, rfl, _, _, rfl, ⟨_, _, _, rfl, ?_, ?_, x1.trans (x2.trans x3), S3⟩⟩
      · split <;> omega
      · split <;> omega
    rintro σ' H3 ⟨p, v3, v4, rfl, p0, p1, x3, S3⟩
    refine ⟨_, rfl, _, rfl, s, a, c + 6, rfl, S3, fun z H4 zl x4 S4 => ?_⟩
    refine ⟨by show 5 ≤ sizeLine; decide, fun J hJ => ?_⟩
    refine .inl ⟨s, a, J, [Str.ofString ",", Str.ofString "!", Str.ofString "*", Str.ofString ",!", z].map V.str, c + 5, rfl, SqL.of upd_same, S4.ne hJ, (fun h => (by cases h)), by show 5 ≤ 100000; decide, S4.new hJ, fun w H5 wm x5 S5 => ?_⟩
    obtain ⟨sg, rfl, sl⟩ : ∃ y : Str, w = V.str y ∧ (tl y).length ≤ 2 := by
      refine len_mem (n := 2) (fun y hy => ?_) wm
      simp only [List.mem_cons, List.not_mem_nil, or_false] at hy
      rcases hy with e | e | e | e | e <;> subst e
      · decide
      · decide
      · decide
      · decide
      · omega
    refine ⟨_, rfl, s, a, _, c + 4, rfl, by decide, by decide, S5, fun y H6 y0 y1 x6 S6 => ?_⟩
    have xx : Ext s H H6 := x3.trans (x4.trans ((Ext.new hJ).trans (x5.trans x6)))
    have e1 : (tl (cutS x none (some p))).length ≤ p.toNat ∧ (tl (cutS x none (some p))).length ≤ (tl x).length := by
      refine ⟨?_, cut_le _ _ _⟩
      rw [cutS_to p0, List.length_take]; exact Nat.min_le_left _ _
    have e2 : (tl (cutS x (some p) none)).length = (tl x).length - p.toNat := by rw [cutS_from p0, List.length_drop]
    have e3 : (tl (cutS x (some (p + 1)) none)).length ≤ (tl x).length - p.toNat := by rw [cutS_from (by omega), List.length_drop]; omega
    refine ⟨_, rfl, rfl, _, rfl, ite2 (fun _ => ?_) (fun _ => ?_)⟩
    · refine ⟨_, rfl, _, rfl, p, rfl, x, rfl, small _ (by omega), ?_⟩
      exact q _ _ (by omega) xx (S6.mono (by omega))
    refine ⟨_, rfl, rfl, _, rfl, ite2 (fun _ => ?_) (fun _ => ?_)⟩
    · refine ⟨_, rfl, _, rfl, p, rfl, x, rfl, small _ (by omega), _, rfl, _, rfl, _, _, rfl, rfl, _, rfl, x, rfl, small _ (by omega), _, _, rfl, rfl, small _ (by rw [lS, lS]; omega), ?_⟩
      exact q _ _ (by rw [tl_app, List.length_append]; omega) xx (S6.mono (by omega))
    refine ⟨_, rfl, rfl, _, rfl, ite2 (fun _ => iteT ?_) (fun _ => ⟨_, rfl, rfl, _, rfl, ite2 (fun _ => ?_) (fun _ => ?_)⟩)⟩
    · refine ⟨_, rfl, _, rfl, p, rfl, x, rfl, small _ (by omega), _, rfl, _, _, rfl, rfl, small _ (by rw [lS, lS]; omega), _, rfl, _, rfl, p, rfl, x, rfl, small _ (by omega), _, _, rfl, rfl, small _ (by rw [lS, lS, tl_app, List.length_append]; omega), ?_⟩
      exact q _ _ (by rw [tl_app, tl_app, List.length_append, List.length_append]; omega) xx (S6.mono (by omega))
    · refine ⟨_, rfl, _, rfl, p, rfl, x, rfl, small _ (by omega), _, rfl, _, _, rfl, rfl, small _ (by rw [lS, lS]; omega), _, rfl, _, rfl, p, rfl, x, rfl, small _ (by omega), _, _, rfl, rfl, small _ (by rw [lS, lS, tl_app, List.length_append]; omega), ?_⟩
      exact q _ _ (by rw [tl_app, tl_app, List.length_append, List.length_append]; omega) xx (S6.mono (by omega))
    · refine ⟨_, rfl, _, rfl, p, rfl, x, rfl, small _ (by omega), _, rfl, _, _, rfl, rfl, small _ (by rw [lS, lS]; omega), _, rfl, _, rfl, _, _, rfl, rfl, _, rfl, x, rfl, small _ (by omega), _, _, rfl, rfl, small _ (by rw [lS, lS, tl_app, List.length_append]; omega), ?_⟩
      exact q _ _ (by rw [tl_app, tl_app, List.length_append, List.length_append]; omega) xx (S6.mono (by omega))
end

end Z
namespace Z
open PySem L2 SX
section
variable {P : Program} {w : World} {K : PySem.W.Frag} {mg : Str → Option Value} {base : Heap}
theorem ok__law_is_pattern (D : Df K mg "_law_is_pattern" s__law_is_pattern ["text"]) (T : Tx mg)  : Cal P w K mg base "_law_is_pattern" ["text"] 1 sp_isPat := by
  obtain ⟨f, fd, F, gf, bf⟩ := D
  refine ⟨f, fd, F.ok sc__law_is_pattern (fun vs H Q E h => ?_) (fun cdv A outer s₀ H vs Q E hr h => ?_), gf, F.kp, bf⟩
  · obtain ⟨x, rfl, _⟩ := h; rfl
  · obtain ⟨x, rfl, xl, q⟩ := h
    refine ⟨_, (pss_cons (ps_set (i := 1) sc__law_is_pattern.nd rfl (Or.inl rfl) (pe_split (pv 0) pe_str))
      (pss_cons (ps_if (PW.pt (pw_or (pt_cmpR op_gt (pe_callB call_lenS (by rfl) T.n_len PySem.boot_len (pa_cons (pv 0) pa_nil)) pe_int (nomark _)) (pw_or1 (pt_cmpR op_gt (pe_callB call_len_seq (by rfl) T.n_len PySem.boot_len (pa_cons (pv 1) pa_nil)) pe_int (nomark _)))))
      (pss_one (ps_ret pe_bl))
      pss_nil)
      (pss_cons (ps_for PassesOwn.never rfl (pi_list (pv 1)) (pg_name (i := 2) sc__law_is_pattern.nd rfl (Or.inl rfl))
      (pss_cons (ps_set (i := 3) sc__law_is_pattern.nd rfl (Or.inl rfl) (pv 2))
        (C8.pss_cut (ps_if (pt_cmpR op_eq (pe_slice sl_str (pv 2) po_none (po_some pe_int)) pe_str (nomark _))
        (pss_one (ps_set (i := 3) sc__law_is_pattern.nd rfl (Or.inl rfl) (pe_slice sl_str (pv 2) (po_some pe_int) po_none)))
        pss_nil)
        (pss_cons (ps_if (pt_cmpR op_eq (pv 3) pe_str (nomark _))
        (pss_one (ps_ret pe_bl))
        pss_nil)
        (pss_one (ps_for PassesOwn.never rfl (pi_str (pv 3)) (pg_name (i := 4) sc__law_is_pattern.nd rfl (Or.inl rfl))
        (pss_one (ps_if (pt_cmpR op_notIn_sign (pv 4) pe_str (by rfl))
          (pss_one (ps_ret pe_bl))
          pss_nil))))))))
      (pss_one (ps_ret pe_bl))))), ?_⟩
    have small : ∀ n : Nat, n ≤ 30000 → n ≤ sizeLine := fun n h => Nat.le_trans h (by decide)
    have lS : ∀ y : Str, y.length = (tl y).length := tl_len
    have lx := lS x
    refine ⟨_, rfl, ⟨_, rfl⟩, x, Str.ofString ",", rfl, rfl, rfl, small _ (by omega), fun B hB => ?_⟩
    rw [split_comma]
    have pb := spl_bound 44 (tl x) []
    have hB1 : (upd H B (HO.lst (((TL.spl [44] 0 [] (tl x)).map S).map V.str))) B = some (.lst (((TL.spl [44] 0 [] (tl x)).map S).map V.str)) := upd_same
    have no : isPat (tl x) = false → ∀ H', Same (upd H B (HO.lst (((TL.spl [44] 0 [] (tl x)).map S).map V.str))) H' → Q (.bl false) H' := fun h H' m => by
      have := q H' ((same_new hB).trans m)
      rw [h] at this; exact this
    refine ⟨_, rfl, x, rfl, small _ (by omega), _, _, rfl, rfl, _, rfl, ite2 (fun c => iteT ?_) (fun c => ?_)⟩
    · have h : (60 : Int) < (x.length : Int) := of_decide_eq_true c
      refine no ?_ _ (Same.refl _)
      unfold isPat
      rw [decide_eq_false (show ¬ (tl x).length ≤ 60 by omega)]; rfl
    have l60 : (tl x).length ≤ 60 := by
      have : ¬ (60 : Int) < (x.length : Int) := fun h => c (decide_eq_true h)
      omega
    refine ⟨_, rfl, B, _, rfl, .inl (SqL.of hB1), _, _, rfl, rfl, _, rfl, ite2 (fun c2 => ?_) (fun c2 => ?_)⟩
    · have h := of_decide_eq_true c2
      rw [List.length_map, List.length_map] at h
      refine no ?_ _ (Same.refl _)
      unfold isPat
      rw [decide_eq_false (show ¬ (TL.spl [44] 0 [] (tl x)).length ≤ 8 by omega), Bool.false_and, Bool.and_false]
    have l8 : (TL.spl [44] 0 [] (tl x)).length ≤ 8 := by
      have : ¬ (8 : Int) < (((((TL.spl [44] 0 [] (tl x)).map S).map V.str).length : Nat) : Int) := fun h => c2 (decide_eq_true h)
      rw [List.length_map, List.length_map] at this
      omega
    have bad : ∀ it ∈ TL.spl [44] 0 [] (tl x), goodItem it = false → isPat (tl x) = false := fun it hm h => by
      unfold isPat
      have : (TL.spl [44] 0 [] (tl x)).all goodItem = false := by
        cases e : (TL.spl [44] 0 [] (tl x)).all goodItem with
        | false => rfl
        | true => rw [List.all_eq_true.mp e it hm] at h; cases h
      rw [this, Bool.and_false, Bool.and_false]
    refine ⟨_, rfl, B, rfl, ⟨_, SqL.of hB1⟩, ?_⟩
    refine for_list (K := K) (a := B) (xs := ((TL.spl [44] 0 [] (tl x)).map S).map V.str) (fun i σ H' => (∃ v2 v3 v4 : Option V, σ = [some (.str x), some (.ref B), v2, v3, v4]) ∧ Same (upd H B (HO.lst (((TL.spl [44] 0 [] (tl x)).map S).map V.str))) H' ∧ ((TL.spl [44] 0 [] (tl x)).take i).all goodItem = true) ⟨⟨_, _, _, rfl⟩, Same.refl _, rfl⟩ (fun i σ H' _ h => SqL.of (h.2.1 _ _ hB1)) ?_ ?_
    · rintro i y σ H' hi ⟨⟨v2, v3, v4, rfl⟩, h2, h3⟩
      rw [List.getElem?_map, List.getElem?_map] at hi
      obtain ⟨y', hy, rfl⟩ := Option.map_eq_some_iff.mp hi
      obtain ⟨it, hit, rfl⟩ := Option.map_eq_some_iff.mp hy
      have im := List.mem_of_getElem? hit
      have il := pb.1 it im
      rw [List.length_nil] at il
      have sl : (S it).length = it.length := S_len it
      have et : (TL.spl [44] 0 [] (tl x)).take (i + 1) = (TL.spl [44] 0 [] (tl x)).take i ++ [it] := by rw [List.take_add_one, hit]; rfl
      have t1 : tl (cutS (S it) none (some 1)) = it.take 1 := cutS_to (by decide)
      refine ⟨_, rfl, ?_⟩
      refine ⟨fun σ' H2 => ∃ (g : Str) (v4 : Option V), σ' = [some (.str x), some (.ref B), some (.str (S it)), some (.str g), v4] ∧ tl g = globP it ∧ H2 = H', ?_, ?_⟩
      · refine ⟨_, rfl, 1, rfl, S it, rfl, small _ (by omega), rfl, _, rfl, ite2 (fun c => ?_) (fun c => ?_)⟩
        · refine ⟨_, rfl, 1, rfl, S it, rfl, small _ (by omega), ⟨_, _, rfl, ?_, rfl⟩⟩
          have e : it.take 1 = [33] := by rw [← t1]; exact eqL.mp (of_decide_eq_true c)
          unfold globP
          rw [if_pos (decide_eq_true e)]; exact cutS_from (by decide)
        · refine ⟨S it, _, rfl, ?_, rfl⟩
          have e : ¬ it.take 1 = [33] := fun e => c (decide_eq_true (eqL.mpr (by rw [t1]; exact e)))
          unfold globP
          rw [if_neg (fun h => e (of_decide_eq_true h))]
      rintro σ' H2 ⟨g, v4, rfl, eg, rfl⟩
      refine ⟨_, rfl, rfl, _, rfl, ite2 (fun c => ?_) (fun c => ?_)⟩
      · have e : tl g = [] := eqL.mp (of_decide_eq_true c)
        refine no (bad it im ?_) _ h2
        unfold goodItem
        rw [← eg, e]; rfl
      have gne : globP it ≠ [] := fun e => c (decide_eq_true (eqL.mpr (by rw [eg]; exact e)))
      refine ⟨_, rfl, g, rfl, ?_⟩
      refine for_str (l := tl g) (fun k σ H3 => (∃ v4 : Option V, σ = [some (.str x), some (.ref B), some (.str (S it)), some (.str g), v4]) ∧ H3 = H2 ∧ ((tl g).take k).all okc = true) ⟨⟨_, rfl⟩, rfl, rfl⟩ ?_ ?_
      · rintro k d σ H3 hk ⟨⟨v4, rfl⟩, rfl, h4⟩
        have ek : (tl g).take (k + 1) = (tl g).take k ++ [d] := by rw [List.take_add_one, hk]; rfl
        refine ⟨_, rfl, d, _, rfl, rfl, _, rfl, ite2 (fun c => ?_) (fun c => ⟨⟨_, rfl⟩, rfl, ?_⟩)⟩
        · have c' : (!okc d) = true := c
          refine no (bad it im ?_) _ h2
          unfold goodItem
          have : (globP it).all okc = false := by
            cases e : (globP it).all okc with
            | false => rfl
            | true => rw [List.all_eq_true.mp e d (by rw [← eg]; exact List.mem_of_getElem? hk)] at c'; cases c'
          rw [this, Bool.and_false]
        · rw [ek, List.all_append, h4]
          have : okc d = true := by
            cases e : okc d with
            | true => rfl
            | false => exact absurd (show (!okc d) = true by rw [e]; rfl) c
          show (true && (okc d && true)) = true
          rw [this]; rfl
      · rintro σ H3 ⟨⟨v4, rfl⟩, rfl, h4⟩
        rw [List.take_length, eg] at h4
        refine ⟨⟨_, _, _, rfl⟩, h2, ?_⟩
        rw [et, List.all_append, h3]
        show (true && (goodItem it && true)) = true
        unfold goodItem
        rw [h4, decide_eq_true gne]; rfl
    · rintro σ H' ⟨⟨v2, v3, v4, rfl⟩, h2, h3⟩
      rw [List.length_map, List.length_map, List.take_length] at h3
      have := q H' ((same_new hB).trans h2)
      unfold isPat at this
      rw [h3, decide_eq_true l60, decide_eq_true l8] at this; exact this
end

end Z
namespace Z
open PySem L2 SX
section
variable {P : Program} {w : World} {K : PySem.W.Frag} {mg : Str → Option Value} {base : Heap}
theorem ok_may_stand (D : Df K mg "may_stand" s_may_stand ["sign", "ahead", "commas", "place"]) (T : Tx mg)  : Cal P w K mg base "may_stand" ["sign", "ahead", "commas", "place"] 1 sp_may_stand := by
  obtain ⟨t_GLOB_SIGNS, h_GLOB_SIGNS⟩ := T.c_GLOB_SIGNS
  obtain ⟨t_LONGEST_PATTERN, h_LONGEST_PATTERN⟩ := T.c_LONGEST_PATTERN
  obtain ⟨t_MOST_ITEMS, h_MOST_ITEMS⟩ := T.c_MOST_ITEMS
  obtain ⟨f, fd, F, gf, bf⟩ := D
  refine ⟨f, fd, F.ok sc_may_stand (fun vs H Q E h => ?_) (fun cdv A outer s₀ H vs Q E hr h => ?_), gf, F.kp, bf⟩
  · obtain ⟨c, a, k, n, rfl, _⟩ := h; rfl
  · obtain ⟨c, a, k, n, rfl, q⟩ := h
    refine ⟨_, (pss_cons (ps_if (pt_cmpR op_eq (pv 0) pe_str (nomark _))
      (pss_one (ps_ret (pe_and (pe_cmpR op_eq (pv 1) pe_str (nomark _)) (pe_one (pe_cmpR op_lt (pv 3) (pe_op op_sub (pe_glob (v := .int 60) (by rfl) h_LONGEST_PATTERN ⟨_, rfl⟩) pe_int) (nomark _))))))
      pss_nil)
      (pss_cons (ps_if (pt_cmpR op_eq (pv 0) pe_str (nomark _))
      (pss_one (ps_ret (pe_and (pe_cmpR op_notIn_sign (pv 1) pe_str (by rfl)) (pe_and (pe_cmpR op_lt (pv 2) (pe_op op_sub (pe_glob (v := .int 8) (by rfl) h_MOST_ITEMS ⟨_, rfl⟩) pe_int) (nomark _)) (pe_one (pe_cmpR op_lt (pv 3) (pe_op op_sub (pe_glob (v := .int 60) (by rfl) h_LONGEST_PATTERN ⟨_, rfl⟩) pe_int) (nomark _)))))))
      pss_nil)
      (pss_one (ps_ret (pe_and (pe_cmpR op_in_sign (pv 0) (pe_glob (v := .str ("abcdefghijklmnopqrstuvwxyz0123456789.*?")) (by rfl) h_GLOB_SIGNS ⟨_, rfl⟩) (by rfl)) (pe_one (pe_cmpR op_lt (pv 3) (pe_glob (v := .int 60) (by rfl) h_LONGEST_PATTERN ⟨_, rfl⟩) (nomark _)))))))), ?_⟩
    have fin : ∀ b : Bool, may c a k n = b → Q (.bl b) H := fun b h => by rw [h] at q; exact q
    have one : ∀ (d e : Nat), V.str (S [d]) = V.str (S [e]) ↔ d = e := fun d e => eqL.trans ⟨fun h => (List.cons.inj (show [d] = [e] from h)).1, fun h => by rw [h]⟩
    unfold may at fin
    refine ⟨_, rfl, rfl, _, rfl, ite2 (fun c1 => ?_) (fun c1 => ?_)⟩
    · have e : c = 33 := (one c 33).mp (of_decide_eq_true c1)
      rw [if_pos e] at fin
      refine ⟨_, rfl, rfl, _, rfl, ite2 (fun c2 => ?_) (fun c2 => ?_)⟩
      · have e2 : a = 44 := (one a 44).mp (of_decide_eq_true c2)
        refine ⟨_, rfl, _, _, rfl, rfl, _, _, rfl, rfl, fin _ ?_⟩
        rw [decide_eq_true e2, Bool.true_and, decide_eq_decide]
        show n < 59 ↔ (n : Int) < 60 - 1
        omega
      · refine fin false ?_
        rw [decide_eq_false (fun e => c2 (decide_eq_true ((one a 44).mpr e)))]; rfl
    have n33 : ¬ c = 33 := fun e => c1 (decide_eq_true ((one c 33).mpr e))
    rw [if_neg n33] at fin
    refine ⟨_, rfl, rfl, _, rfl, ite2 (fun c2 => ?_) (fun c2 => ?_)⟩
    · have e : c = 44 := (one c 44).mp (of_decide_eq_true c2)
      rw [if_pos e] at fin
      have mem : (!decide (a ∈ tl (Str.ofString ",!"))) = (decide (a ≠ 44) && decide (a ≠ 33)) := by
        rw [show tl (Str.ofString ",!") = [44, 33] from rfl, Bool.eq_iff_iff]
        simp
      refine ⟨_, rfl, a, _, rfl, rfl, _, rfl, ite2 (fun c3 => ?_) (fun c3 => ?_)⟩
      · have c3' : (!decide (a ∈ tl (Str.ofString ",!"))) = true := c3
        rw [mem] at c3'
        rw [c3', Bool.true_and] at fin
        refine ⟨_, rfl, _, _, rfl, rfl, _, _, rfl, rfl, _, rfl, ite2 (fun c4 => ?_) (fun c4 => ?_)⟩
        · have h4 : k < 7 := by have : (k : Int) < 8 - 1 := of_decide_eq_true c4; omega
          refine ⟨_, rfl, _, _, rfl, rfl, _, _, rfl, rfl, fin _ ?_⟩
          rw [decide_eq_true h4, Bool.true_and, decide_eq_decide]
          show n < 59 ↔ (n : Int) < 60 - 1
          omega
        · refine fin false ?_
          have h4 : ¬ k < 7 := fun h => c4 (decide_eq_true (show (k : Int) < 8 - 1 by omega))
          rw [decide_eq_false h4]; rfl
      · have c3' : ¬ (!decide (a ∈ tl (Str.ofString ",!"))) = true := c3
        rw [mem] at c3'
        rw [Bool.eq_false_iff.mpr c3', Bool.false_and] at fin
        exact fin false rfl
    have n44 : ¬ c = 44 := fun e => c2 (decide_eq_true ((one c 44).mpr e))
    rw [if_neg n44] at fin
    refine ⟨_, rfl, c, _, rfl, rfl, _, rfl, ite2 (fun c3 => ?_) (fun c3 => ?_)⟩
    · have c3' : okc c = true := c3
      refine ⟨_, rfl, _, _, rfl, rfl, fin _ ?_⟩
      rw [c3', Bool.true_and, decide_eq_decide]
      show n < 60 ↔ (n : Int) < 60
      omega
    · refine fin false ?_
      rw [show okc c = false from Bool.eq_false_iff.mpr c3]; rfl
end
section
variable {P : Program} {w : World} {K : PySem.W.Frag} {mg : Str → Option Value} {base : Heap}
theorem ok_wrong_place (D : Df K mg "wrong_place" s_wrong_place ["text"]) (T : Tx mg) (C_may_stand : Cal P w K mg base "may_stand" ["sign", "ahead", "commas", "place"] 1 sp_may_stand) : Cal P w K mg base "wrong_place" ["text"] 2 sp_wrong_place := by
  obtain ⟨f_may_stand, fd_may_stand, G_may_stand, g_may_stand, k_may_stand, b_may_stand⟩ := C_may_stand
  obtain ⟨f, fd, F, gf, bf⟩ := D
  refine ⟨f, fd, F.ok sc_wrong_place (fun vs H Q E h => ?_) (fun cdv A outer s₀ H vs Q E hr h => ?_), gf, F.kp, bf⟩
  · obtain ⟨x, rfl, _⟩ := h; rfl
  · obtain ⟨x, rfl, xl, q⟩ := h
    refine ⟨_, (pss_cons (ps_set (i := 1) sc_wrong_place.nd rfl (Or.inl rfl) pe_str)
      (pss_cons (ps_set (i := 2) sc_wrong_place.nd rfl (Or.inl rfl) pe_int)
      (pss_cons (ps_for PassesOwn.never rfl (pi_enumS (by rfl) T.n_enumerate (pa_cons (pv 0) pa_nil)) (pg_tup rfl (pgs_cons (pg_name (i := 3) sc_wrong_place.nd rfl (Or.inl rfl)) (pgs_cons (pg_name (i := 4) sc_wrong_place.nd rfl (Or.inl rfl)) pgs_nil)))
      (pss_cons (ps_if (pt_not (pt_val (pe_call G_may_stand (hr.mono (by decide)) (by rfl) g_may_stand k_may_stand b_may_stand .nil pass0 (pa_cons (pv 4) (pa_cons (pv 1) (pa_cons (pv 2) (pa_cons (pv 3) pa_nil)))))))
        (pss_one (ps_ret (pv 3)))
        pss_nil)
        (C8.pss_cut (ps_if (pt_cmpR op_eq (pv 4) pe_str (nomark _))
        (pss_one (ps_aug (i := 2) sc_wrong_place.nd rfl (Or.inl rfl) pe_int ip_add))
        pss_nil)
        (pss_one (ps_set (i := 1) sc_wrong_place.nd rfl (Or.inl rfl) (pv 4))))))
      (pss_one (ps_ret (pe_ifExp (pt_cmpR op_in_sign (pv 1) pe_str (by rfl)) (pe_callB call_lenS (by rfl) T.n_len PySem.boot_len (pa_cons (pv 0) pa_nil)) pe_non)))))), ?_⟩
    have small : ∀ n : Nat, n ≤ 30000 → n ≤ sizeLine := fun n h => Nat.le_trans h (by decide)
    have lS : ∀ y : Str, y.length = (tl y).length := tl_len
    refine ⟨_, rfl, x, rfl, ?_⟩
    refine for_enumS (l := tl x) (fun i σ H' => (∃ v3 v4 : Option V, σ = [some (.str x), some (.str (S [lastOf 44 ((tl x).take i)])), some (.int (((tl x).take i).count 44 : Nat)), v3, v4]) ∧ Same H H' ∧ isBeg ((tl x).take i) = true ∧ ∀ j, j < i → isBeg ((tl x).take (j + 1)) = true) ⟨⟨_, _, rfl⟩, Same.refl _, (by rw [List.take_zero]; decide +kernel), fun j h => by omega⟩ ?_ ?_
    · rintro i c T σ H1 hi ⟨⟨v3, v4, rfl⟩, m1, hb0, hb⟩ hT
      have ib := (List.getElem?_eq_some_iff.mp hi).1
      have et : (tl x).take (i + 1) = (tl x).take i ++ [c] := by rw [List.take_add_one, hi]; rfl
      have sn := isBeg_snoc ((tl x).take i) c
      rw [← et, hb0, Bool.true_and, List.length_take, Nat.min_eq_left (by omega)] at sn
      have mT := same_new (o := HO.tup [V.int ((i : Nat) : Int), .str (S [c])]) hT
      refine ⟨T, _, rfl, SqT.of upd_same, rfl, _, _, rfl, _, _, rfl, rfl, ?_⟩
      refine ⟨_, rfl, _, rfl, _, rfl, _, rfl, c, lastOf 44 ((tl x).take i), ((tl x).take i).count 44, i, rfl, _, rfl, ite2 (fun k => ?_) (fun k => ?_)⟩
      · have k' : (!may c (lastOf 44 ((tl x).take i)) (((tl x).take i).count 44) i) = true := k
        rw [← sn] at k'
        refine ⟨_, rfl, q (some i) _ ⟨fun j h1 h2 => hb j h1, .inl ⟨ib, ?_⟩⟩ (m1.trans mT)⟩
        cases e : isBeg ((tl x).take (i + 1)) with
        | false => rfl
        | true => rw [e] at k'; cases k'
      have hb1 : isBeg ((tl x).take (i + 1)) = true := by
        cases e : isBeg ((tl x).take (i + 1)) with
        | true => rfl
        | false => exact absurd (show (!may c (lastOf 44 ((tl x).take i)) (((tl x).take i).count 44) i) = true by rw [← sn, e]; rfl) k
      have go : ∀ j, j < i + 1 → isBeg ((tl x).take (j + 1)) = true := fun j hj => by
        by_cases e : j = i
        · subst e; exact hb1
        · exact hb j (by omega)
      have el : lastOf 44 ((tl x).take (i + 1)) = c := by rw [et, last_app]
      refine ⟨fun σ' H' => ∃ (v3 : Option V), σ' = [some (.str x), some (.str (S [lastOf 44 ((tl x).take i)])), some (.int (((tl x).take (i + 1)).count 44 : Nat)), v3, some (.str (S [c]))] ∧ Same H H', ?_, ?_⟩
      · refine ⟨_, rfl, rfl, _, rfl, ite2 (fun k2 => ?_) (fun k2 => ?_)⟩
        · have e : c = 44 := (List.cons.inj (show [c] = [44] from eqL.mp (of_decide_eq_true k2))).1
          refine ⟨_, rfl, _, _, rfl, rfl, ⟨some (.int ((i : Nat) : Int)), ?_, m1.trans mT⟩⟩
          rw [et, List.count_append, e]; rfl
        · have e : c ≠ 44 := fun e => k2 (decide_eq_true (eqL.mpr (by rw [e]; rfl)))
          refine ⟨some (.int ((i : Nat) : Int)), ?_, m1.trans mT⟩
          rw [et, List.count_append, List.count_cons_of_ne e]; rfl
      rintro σ' H2 ⟨v3, rfl, m2⟩
      refine ⟨_, rfl, ⟨v3, some (.str (S [c])), ?_⟩, m2, hb1, go⟩
      rw [el]; rfl
    · rintro σ H1 ⟨⟨v3, v4, rfl⟩, m1, hb0, hb⟩
      rw [List.take_length] at hb0
      have hp := isPat_of_beg hb0
      have mem : decide (lastOf 44 (tl x) ∈ tl (Str.ofString ",!")) = !endOk (lastOf 44 (tl x)) := by
        rw [show tl (Str.ofString ",!") = [44, 33] from rfl, Bool.eq_iff_iff]
        unfold endOk
        simp
      refine ⟨_, rfl, lastOf 44 ((tl x).take (tl x).length), _, rfl, rfl, _, rfl, ite2 (fun k => ?_) (fun k => ?_)⟩
      · have k' : decide (lastOf 44 ((tl x).take (tl x).length) ∈ tl (Str.ofString ",!")) = true := k
        rw [List.take_length, mem] at k'
        refine ⟨_, rfl, x, rfl, small _ (by rw [lS]; omega), ?_⟩
        have := q (some (tl x).length) H1 ⟨fun j h1 h2 => hb j h2, .inr ⟨rfl, ?_⟩⟩ m1
        · rw [show (x.length : Int) = (((tl x).length : Nat) : Int) by rw [lS]]; exact this
        · rw [hp]
          cases e : endOk (lastOf 44 (tl x)) with
          | false => rfl
          | true => rw [e] at k'; cases k'
      · have k' : ¬ decide (lastOf 44 ((tl x).take (tl x).length) ∈ tl (Str.ofString ",!")) = true := k
        rw [List.take_length, mem] at k'
        refine q none H1 ⟨fun j h => hb j h, ?_⟩ m1
        rw [hp]
        cases e : endOk (lastOf 44 (tl x)) with
        | true => rfl
        | false => exact absurd (by rw [e]; rfl) k'
end

end Z
namespace Z
open PySem L2 SX
section
variable {P : Program} {w : World} {K : PySem.W.Frag} {mg : Str → Option Value} {base : Heap}
theorem ok__law_sign_and_glob (D : Df K mg "_law_sign_and_glob" s__law_sign_and_glob ["item"]) (T : Tx mg)  : Cal P w K mg base "_law_sign_and_glob" ["item"] 1 sp_sign_and_glob := by
  obtain ⟨f, fd, F, gf, bf⟩ := D
  refine ⟨f, fd, F.ok sc__law_sign_and_glob (fun vs H Q E h => ?_) (fun cdv A outer s₀ H vs Q E hr h => ?_), gf, F.kp, bf⟩
  · obtain ⟨x, rfl, _⟩ := h; rfl
  · obtain ⟨x, rfl, xl, q⟩ := h
    refine ⟨_, (pss_cons (ps_if (pt_cmpR op_eq (pe_slice sl_str (pv 0) po_none (po_some pe_int)) pe_str (nomark _))
      (pss_one (ps_ret (pe_tup (pa_cons pe_int (pa_cons (pe_slice sl_str (pv 0) (po_some pe_int) po_none) pa_nil)))))
      pss_nil)
      (pss_one (ps_ret (pe_tup (pa_cons pe_int (pa_cons (pv 0) pa_nil)))))), ?_⟩
    have small : ∀ n : Nat, n ≤ 30000 → n ≤ sizeLine := fun n h => Nat.le_trans h (by decide)
    have lS : ∀ y : Str, y.length = (tl y).length := tl_len
    have lx := lS x
    have t1 : tl (cutS x none (some 1)) = (tl x).take 1 := cutS_to (by decide)
    refine ⟨_, rfl, 1, rfl, x, rfl, small _ (by omega), rfl, _, rfl, ite2 (fun c => ?_) (fun c => ?_)⟩
    · have e : (tl x).take 1 = [33] := by rw [← t1]; exact eqL.mp (of_decide_eq_true c)
      refine ⟨_, rfl, 1, rfl, x, rfl, small _ (by omega), by show 2 ≤ sizeLine; decide, fun t ht => ?_⟩
      have := q t ht
      unfold itemP sgnI globP at this
      rw [if_pos (decide_eq_true e), if_pos (decide_eq_true e)] at this
      rw [show cutS x (some 1) none = S ((tl x).drop 1) from tl_ext (cutS_from (by decide))]
      exact this
    · have e : ¬ (tl x).take 1 = [33] := fun e => c (decide_eq_true (eqL.mpr (by rw [t1]; exact e)))
      refine ⟨_, rfl, by show 2 ≤ sizeLine; decide, fun t ht => ?_⟩
      have := q t ht
      unfold itemP sgnI globP at this
      rw [if_neg (fun h => e (of_decide_eq_true h)), if_neg (fun h => e (of_decide_eq_true h))] at this
      exact this
end
section
variable {P : Program} {w : World} {K : PySem.W.Frag} {mg : Str → Option Value} {base : Heap}
theorem ok__law_due (D : Df K mg "_law_due" s__law_due ["text"]) (T : Tx mg) (C__law_is_pattern : Cal P w K mg base "_law_is_pattern" ["text"] 1 sp_isPat) (C__law_sign_and_glob : Cal P w K mg base "_law_sign_and_glob" ["item"] 1 sp_sign_and_glob) : Cal P w K mg base "_law_due" ["text"] 2 (sp_due K) := by
  obtain ⟨f__law_is_pattern, fd__law_is_pattern, G__law_is_pattern, g__law_is_pattern, k__law_is_pattern, b__law_is_pattern⟩ := C__law_is_pattern
  obtain ⟨f__law_sign_and_glob, fd__law_sign_and_glob, G__law_sign_and_glob, g__law_sign_and_glob, k__law_sign_and_glob, b__law_sign_and_glob⟩ := C__law_sign_and_glob
  obtain ⟨f, fd, F, gf, bf⟩ := D
  refine ⟨f, fd, F.ok sc__law_due (fun vs H Q E h => ?_) (fun cdv A outer s₀ H vs Q E hr h => ?_), gf, F.kp, bf⟩
  · obtain ⟨x, rfl, _⟩ := h; rfl
  · obtain ⟨x, rfl, xl, q⟩ := h
    refine ⟨_, (pss_cons (ps_for PassesOwn.never rfl (pi_range1 (by rfl) T.n_range (pa_cons (pe_callB call_lenS (by rfl) T.n_len PySem.boot_len (pa_cons (pv 0) pa_nil)) pa_nil)) (pg_name (i := 1) sc__law_due.nd rfl (Or.inl rfl))
      (pss_cons (ps_set (i := 2) sc__law_due.nd rfl (Or.inl rfl) (pe_slice sl_str (pv 0) po_none (po_some (pe_op op_add (pv 1) pe_int))))
        (pss_one (ps_if (PW.pt (pw_and (pt_not (pt_val (pe_call G__law_is_pattern (hr.mono (by decide)) (by rfl) g__law_is_pattern k__law_is_pattern b__law_is_pattern .nil pass0 (pa_cons (pv 2) pa_nil)))) (pw_and1 (pt_not (pt_val (pe_call G__law_is_pattern (hr.mono (by decide)) (by rfl) g__law_is_pattern k__law_is_pattern b__law_is_pattern .nil pass0 (pa_cons (pe_op op_add_str (pv 2) pe_str) pa_nil)))))))
        (pss_one (ps_ret (pe_tup (pa_cons pe_str (pa_cons (pv 1) pa_nil)))))
        pss_nil))))
      (pss_cons (ps_if (pt_not (pt_val (pe_call G__law_is_pattern (hr.mono (by decide)) (by rfl) g__law_is_pattern k__law_is_pattern b__law_is_pattern .nil pass0 (pa_cons (pv 0) pa_nil))))
      (pss_one (ps_ret (pe_tup (pa_cons pe_str (pa_cons (pe_callB call_lenS (by rfl) T.n_len PySem.boot_len (pa_cons (pv 0) pa_nil)) pa_nil)))))
      pss_nil)
      (pss_one (ps_ret (pe_tup (pa_cons pe_str (pa_cons (pe_callTy call_tuple_of (by rfl) T.n_tuple (by decide +kernel) (pa_cons (pe_lc (own := [("item", 3)]) (g := gName 3) (tt := tYes) rfl sc__law_due.nd (pi_list (pe_split (pv 0) pe_str)) (blkOk_by (own := [("item", 3)]) (N := N__law_due) (sc := defScope s__law_due) (by decide +kernel)) (fun _ _ _ _ _ => pg_name (i := 3) sc__law_due.nd rfl (Or.inl rfl)) (fun _ _ _ _ _ => pts_nil) (fun _ _ _ _ _ => (pe_call G__law_sign_and_glob (hr.mono (by decide)) (by rfl) g__law_sign_and_glob k__law_sign_and_glob b__law_sign_and_glob .nil pass0 (pa_cons (pv 3) pa_nil)))) pa_nil)) pa_nil))))))), ?_⟩
    have small : ∀ n : Nat, n ≤ 30000 → n < sizeLine := fun n h => Nat.lt_of_le_of_lt h (by decide)
    have lS : ∀ y : Str, y.length = (tl y).length := tl_len
    have lx := lS x
    refine ⟨_, rfl, x, rfl, Nat.le_of_lt (small _ (by omega)), _, rfl, by omega, by omega, ?_⟩
    refine for_range (lo := 0) (n := ((x.length : Int)).toNat) (fun i σ H' => (∃ v1 v2 v3 : Option V, σ = [some (.str x), v1, v2, v3]) ∧ Same H H' ∧ ∀ j, j < i → isBeg ((tl x).take (j + 1)) = true) ⟨⟨_, _, _, rfl⟩, Same.refl _, fun j h => by omega⟩ ?_ ?_
    · rintro i σ H1 hi ⟨⟨v1, v2, v3, rfl⟩, m1, hb⟩
      have ib : i < (tl x).length := by omega
      refine ⟨_, rfl, _, rfl, _, _, rfl, rfl, _, rfl, x, rfl, Nat.le_of_lt (small _ (by omega)), ?_⟩
      have ep : tl (cutS x none (some (0 + (i : Int) + 1))) = (tl x).take (i + 1) := by rw [cutS_to (by omega), show (0 + (i : Int) + 1).toNat = i + 1 by omega]
      generalize cutS x none (some (0 + (i : Int) + 1)) = part at ep ⊢
      have plen : (tl part).length ≤ 2000 := by rw [ep, List.length_take]; omega
      have ea : tl (part ++ Str.ofString "a") = (tl x).take (i + 1) ++ [97] := by rw [tl_app, ep]; rfl
      have go : isBeg ((tl x).take (i + 1)) = true → ∀ j, j < i + 1 → isBeg ((tl x).take (j + 1)) = true := fun h j hj => by
        by_cases e : j = i
        · subst e; exact h
        · exact hb j (by omega)
      refine ⟨_, rfl, part, rfl, plen, fun H2 m2 => ⟨_, rfl, ite2 (fun c => ?_) (fun c => iteF ⟨⟨_, _, _, rfl⟩, m1.trans m2, go ?_⟩)⟩⟩
      · have c' : (!isPat (tl part)) = true := c
        refine ⟨_, rfl, _, _, rfl, rfl, Nat.le_of_lt (small _ (by rw [lS, lS]; show _ + 1 ≤ _; omega)), part ++ Str.ofString "a", rfl, by rw [tl_app, List.length_append, ep, List.length_take]; show _ + 1 ≤ 2000; omega, fun H3 m3 => ⟨_, rfl, ite2 (fun c2 => ?_) (fun c2 => ⟨⟨_, _, _, rfl⟩, m1.trans (m2.trans m3), go ?_⟩)⟩⟩
        · have c2' : (!isPat (tl (part ++ Str.ofString "a"))) = true := c2
          rw [ea] at c2'
          rw [ep] at c'
          refine ⟨_, rfl, by show 2 ≤ sizeLine; decide, fun t ht => ?_⟩
          refine q (some i) _ _ ⟨fun j h1 h2 => hb j h1, .inl ⟨ib, ?_⟩⟩ ?_ (m1.trans (m2.trans (m3.trans (same_new ht))))
          · unfold isBeg
            cases e1 : isPat ((tl x).take (i + 1)) with
            | true => rw [e1] at c'; cases c'
            | false => cases e2 : isPat ((tl x).take (i + 1) ++ [97]) with
              | true => rw [e2] at c2'; cases c2'
              | false => rfl
          · refine ⟨t, _, rfl, SqT.of upd_same, _, _, rfl, by unfold DV; rfl, _, _, rfl, ?_, rfl⟩
            unfold DV
            rw [Int.zero_add]
        · have c2' : ¬ (!isPat (tl (part ++ Str.ofString "a"))) = true := c2
          rw [ea] at c2'
          unfold isBeg
          cases e2 : isPat ((tl x).take (i + 1) ++ [97]) with
          | true => rw [Bool.or_true]
          | false => exact absurd (by rw [e2]; rfl) c2'
      · have c' : ¬ (!isPat (tl part)) = true := c
        rw [ep] at c'
        unfold isBeg
        cases e1 : isPat ((tl x).take (i + 1)) with
        | true => rfl
        | false => exact absurd (by rw [e1]; rfl) c'
    · rintro σ H1 ⟨⟨v1, v2, v3, rfl⟩, m1, hb⟩
      have hb' : ∀ j, j < (tl x).length → isBeg ((tl x).take (j + 1)) = true := fun j h => hb j (by omega)
      refine ⟨_, rfl, x, rfl, Nat.le_trans xl (by decide), fun H2 m2 => ⟨_, rfl, ite2 (fun c => ?_) (fun c => ?_)⟩⟩
      · have c' : (!isPat (tl x)) = true := c
        refine ⟨_, rfl, x, rfl, Nat.le_of_lt (small _ (by omega)), by show 2 ≤ sizeLine; decide, fun t ht => ?_⟩
        refine q (some (tl x).length) _ _ ⟨fun j _ h2 => hb' j h2, .inr ⟨rfl, ?_⟩⟩ ⟨t, _, rfl, SqT.of upd_same, _, _, rfl, by unfold DV; rfl, _, _, rfl, by unfold DV; rw [lx], rfl⟩ (m1.trans (m2.trans (same_new ht)))
        cases e : isPat (tl x) with
        | false => rfl
        | true => rw [e] at c'; cases c'
      · have hp : isPat (tl x) = true := by
          cases e : isPat (tl x) with
          | true => rfl
          | false => exact absurd (show (!isPat (tl x)) = true by rw [e]; rfl) c
        refine ⟨_, rfl, ⟨_, rfl⟩, x, Str.ofString ",", rfl, rfl, rfl, Nat.le_of_lt (small _ (by omega)), fun B hB => ?_⟩
        rw [split_comma]
        have pb := spl_bound 44 (tl x) []
        have hB1 : (upd H2 B (HO.lst (((TL.spl [44] 0 [] (tl x)).map S).map V.str))) B = some (.lst (((TL.spl [44] 0 [] (tl x)).map S).map V.str)) := upd_same
        refine ⟨B, rfl, ⟨_, SqL.of hB1⟩, fun D hD => ?_⟩
        refine lc_list (K := K) (a := B) (xs := ((TL.spl [44] 0 [] (tl x)).map S).map V.str) (fun i H' => ∃ ts : List Addr, H' D = some (.lst (ts.map V.ref)) ∧ ts.length = i ∧ Same (upd H2 B (HO.lst (((TL.spl [44] 0 [] (tl x)).map S).map V.str))) H' ∧ (∀ (j : Nat) (t : Addr) (it : List Nat), ts[j]? = some t → (TL.spl [44] 0 [] (tl x))[j]? = some it → H' t = some (.tup (itemP it)))) ⟨[], upd_same, rfl, same_new hD, fun j t it h => by simp at h⟩ (fun i H' _ ⟨_, _, _, h, _⟩ => SqL.of (h _ _ hB1)) ?_ ?_
        · rintro i y H3 hi ⟨ts, h1, h2, h3, h4⟩
          rw [List.getElem?_map, List.getElem?_map] at hi
          obtain ⟨y', hy, rfl⟩ := Option.map_eq_some_iff.mp hi
          obtain ⟨it, hit, rfl⟩ := Option.map_eq_some_iff.mp hy
          have il := pb.1 it (List.mem_of_getElem? hit)
          have ic := pb.2
          have ib := (List.getElem?_eq_some_iff.mp hit).1
          rw [List.length_nil] at il
          refine ⟨rfl, _, rfl, S it, rfl, by show it.length ≤ _; omega, fun t ht => ?_⟩
          have tD : D ≠ t := ne_of_none h1 ht
          refine ⟨_, by rw [upd_ne tD]; exact h1, by rw [List.length_map]; exact small _ (by omega), ts ++ [t], by rw [upd_same, List.map_append]; rfl, by rw [List.length_append, h2]; rfl, fun u o h => by rw [upd_ne (ne_of_none h hD)]; exact same_new ht _ _ (h3 _ _ h), fun j t' it' e1 e2 => ?_⟩
          by_cases e : j < ts.length
          · rw [List.getElem?_append_left e] at e1
            have z := h4 j t' it' e1 e2
            have zD : t' ≠ D := fun ee => by rw [ee, h1] at z; cases z
            rw [upd_ne zD]; exact same_new ht _ _ z
          · have : j < (ts ++ [t]).length := (List.getElem?_eq_some_iff.mp e1).1
            rw [List.length_append, List.length_singleton] at this
            have ej : j = ts.length := by omega
            subst ej
            rw [List.getElem?_append_right (Nat.le_refl _), Nat.sub_self] at e1
            have et : t = t' := Option.some.inj e1
            subst et
            rw [h2, hit] at e2
            have ei : it = it' := Option.some.inj e2
            subst ei
            rw [upd_ne tD.symm]; exact upd_same
        · rintro H3 ⟨ts, h1, h2, h3, h4⟩
          rw [List.length_map, List.length_map] at h2
          refine ⟨D, _, rfl, .inl ⟨SqL.of h1, fun l hl => ?_⟩⟩
          refine ⟨by show 2 ≤ sizeLine; decide, fun t ht => ?_⟩
          have n1 := same_new (o := HO.tup (ts.map V.ref)) hl
          have n2 := same_new (o := HO.tup [V.str (Str.ofString "read"), .ref l]) ht
          refine q none _ _ ⟨hb', hp⟩ ?_ (m1.trans (m2.trans ((same_new hB).trans (h3.trans (n1.trans n2)))))
          refine ⟨t, _, rfl, SqT.of upd_same, _, _, rfl, by unfold DV; rfl, _, _, rfl, ?_, rfl⟩
          exact ⟨l, _, rfl, SqT.of (n2 _ _ upd_same), DVs.items h2 fun k t' it e1 e2 => n2 _ _ (n1 _ _ (h4 k t' it e1 e2))⟩
end

end Z
namespace Z
open PySem L2 SX
section
variable {P : Program} {w : World} {K : PySem.W.Frag} {mg : Str → Option Value} {base : Heap}
theorem ok_write_pattern (D : Df K mg "write_pattern" s_write_pattern ["items"]) (T : Tx mg)  : Cal P w K mg base "write_pattern" ["items"] 1 (sp_write_pattern K) := by
  obtain ⟨f, fd, F, gf, bf⟩ := D
  refine ⟨f, fd, F.ok sc_write_pattern (fun vs H Q E h => ?_) (fun cdv A outer s₀ H vs Q E hr h => ?_), gf, F.kp, bf⟩
  · obtain ⟨a, ts, its, rfl, _⟩ := h; rfl
  · obtain ⟨a, ts, its, rfl, hA, tn, il, ib, hts, q⟩ := h
    refine ⟨_, (pss_one (ps_ret (pe_join pe_str (pe_lc (own := [("sign", 1), ("glob", 2)]) (g := gTup K 2 (gCons (gName 1) (gCons (gName 2) gNil))) (tt := tYes) rfl sc_write_pattern.nd (pi_tup (pv 0)) (blkOk_by (own := [("sign", 1), ("glob", 2)]) (N := N_write_pattern) (sc := defScope s_write_pattern) (by decide +kernel)) (fun _ _ _ _ _ => (pg_tup rfl (pgs_cons (pg_name (i := 1) sc_write_pattern.nd rfl (Or.inl rfl)) (pgs_cons (pg_name (i := 2) sc_write_pattern.nd rfl (Or.inl rfl)) pgs_nil)))) (fun _ _ _ _ _ => pts_nil) (fun _ _ _ _ _ => (pe_ifExp (pt_cmpR op_eq (pv 1) pe_int (nomark _)) (pv 2) (pe_op op_add_str pe_str (pv 2)))))))), ?_⟩
    have small : ∀ n : Nat, n ≤ 30000 → n < sizeLine := fun n h => Nat.lt_of_le_of_lt h (by decide)
    refine ⟨⟨_, rfl⟩, _, rfl, a, rfl, ⟨_, hA⟩, fun D hD => ?_⟩
    refine lc_tup (K := K) (a := a) (xs := ts.map V.ref) (fun i H' => H' D = some (.lst (((its.take i).map S).map V.str)) ∧ Same H H') ⟨upd_same, same_new hD⟩ (fun i H' _ h => h.2.tup hA) ?_ ?_
    · rintro i x H' hi ⟨h1, h2⟩
      rw [List.getElem?_map] at hi
      obtain ⟨t, ht, rfl⟩ := Option.map_eq_some_iff.mp hi
      have ibd := (List.getElem?_eq_some_iff.mp ht).1
      obtain ⟨it, hit⟩ : ∃ it, its[i]? = some it := ⟨_, List.getElem?_eq_getElem (by omega)⟩
      have hT := h2.tup (hts i t it ht hit)
      have lit := ib it (List.mem_of_getElem? hit)
      have et : its.take (i + 1) = its.take i ++ [it] := by rw [List.take_add_one, hit]; rfl
      have fin : ∀ y : Str, tl y = it → ∃ acc, H' D = some (.lst acc) ∧ acc.length < sizeLine ∧ (upd H' D (.lst (acc ++ [V.str y]))) D = some (.lst (((its.take (i + 1)).map S).map V.str)) ∧ Same H (upd H' D (.lst (acc ++ [V.str y]))) := fun y hy => by
        have ey : y = S it := tl_ext hy
        subst ey
        refine ⟨_, h1, by rw [List.length_map, List.length_map, List.length_take]; exact small _ (by omega), by rw [upd_same, et, List.map_append, List.map_append]; rfl, fun bb o hh => ?_⟩
        rw [upd_ne (ne_of_none hh hD)]; exact h2 _ _ hh
      refine ⟨t, _, rfl, hT, rfl, _, _, rfl, _, _, rfl, rfl, rfl, ?_⟩
      by_cases e : it.take 1 = [33]
      · have s0 : sgnI it = 0 := by unfold sgnI; rw [if_pos (decide_eq_true e)]
        have g0 : globP it = it.drop 1 := by unfold globP; rw [if_pos (decide_eq_true e)]
        refine ⟨_, rfl, rfl, _, rfl, ite2 (fun c => ?_) (fun _ => ?_)⟩
        · rw [s0] at c
          exact absurd c (by decide)
        · refine ⟨_, rfl, _, _, rfl, rfl, ?_, fin _ ?_⟩
          · rw [g0]
            show 1 + (S (it.drop 1)).length ≤ _
            rw [S_len, List.length_drop]; exact Nat.le_of_lt (small _ (by omega))
          · rw [tl_app, g0]
            show [33] ++ it.drop 1 = it
            rw [← e, List.take_append_drop]
      · have s1 : sgnI it = 1 := by unfold sgnI; rw [if_neg (fun h => e (of_decide_eq_true h))]
        have g1 : globP it = it := by unfold globP; rw [if_neg (fun h => e (of_decide_eq_true h))]
        refine ⟨_, rfl, rfl, _, rfl, ite2 (fun _ => ⟨_, rfl, fin _ g1⟩) (fun c => ?_)⟩
        rw [s1] at c
        exact absurd rfl c
    · rintro H' ⟨h1, h2⟩
      rw [List.length_map, tn, List.take_length] at h1
      have jA : ∀ x ∈ its.map S, (tl x).length ≤ 1000 := fun x m => by
        obtain ⟨it, hm, rfl⟩ := List.mem_map.mp m
        exact ib it hm
      have js := sum_len jA
      refine ⟨Str.ofString ",", D, its.map S, rfl, rfl, .inl (SqL.of h1), ?_, ?_⟩
      · rw [List.length_map] at js ⊢
        show _ + its.length * 1 ≤ _
        omega
      refine q _ H' ?_ h2
      rw [tl_joinS, List.map_map]
      show TL.joinL [44] (its.map fun x => x) = _
      rw [List.map_id']
end

end Z
namespace Z
open PySem L2 SX
section
variable {P : Program} {w : World} {K : PySem.W.Frag} {mg : Str → Option Value} {base : Heap}
theorem ok_items_of (D : Df K mg "items_of" s_items_of ["pattern"]) (T : Tx mg)   : Cal P w K mg base "items_of" ["pattern"] 1 (sp_items_of K) := by
  obtain ⟨f, fd, F, gf, bf⟩ := D
  refine ⟨f, fd, F.ok sc_items_of (fun vs H Q E h => ?_) (fun cdv A outer s₀ H vs Q E hr h => ?_), gf, F.kp, bf⟩
  · obtain ⟨p, rfl, _⟩ := h; rfl
  · obtain ⟨p, rfl, pl, q⟩ := h
    refine ⟨_, (pss_one (ps_ret (pe_callTy call_tuple_of (by rfl) T.n_tuple (by decide +kernel) (pa_cons (pe_lc (own := [("item", 1)]) (g := gName 1) (tt := tYes) rfl sc_items_of.nd (pi_list (pe_split (pv 0) pe_str)) (blkOk_by (own := [("item", 1)]) (N := N_items_of) (sc := defScope s_items_of) (by decide +kernel)) (fun _ _ _ _ _ => pg_name (i := 1) sc_items_of.nd rfl (Or.inl rfl)) (fun _ _ _ _ _ => pts_nil) (fun _ _ _ _ _ => (pe_ifExp (pt_val (pe_m1 PySem.F.slot_str_startswith PySem.F.type_str_startswith mt_startswith (pv 1) pe_str)) (pe_tup (pa_cons pe_int (pa_cons (pe_slice sl_str (pv 1) (po_some pe_int) po_none) pa_nil))) (pe_tup (pa_cons pe_int (pa_cons (pv 1) pa_nil)))))) pa_nil)))), ?_⟩
    have lp := tl_len p
    have small : ∀ n : Nat, n ≤ 30000 → n < sizeLine := fun n h => Nat.lt_of_le_of_lt h (by decide)
    refine ⟨_, rfl, ⟨_, rfl⟩, p, Str.ofString ",", rfl, rfl, rfl, Nat.le_of_lt (small _ (by omega)), fun B hB => ?_⟩
    rw [split_bar]
    have pn := parts_num (tl p)
    have hB1 : (upd H B (HO.lst (((parts (tl p)).map S).map V.str))) B = some (.lst (((parts (tl p)).map S).map V.str)) := upd_same
    refine ⟨B, rfl, ⟨_, SqL.of hB1⟩, fun D hD => ?_⟩
    refine lc_list (K := K) (a := B) (xs := ((parts (tl p)).map S).map V.str) (fun i H' => ∃ ts : List Addr, H' D = some (.lst (ts.map V.ref)) ∧ ts.length = i ∧ Same (upd H B (HO.lst (((parts (tl p)).map S).map V.str))) H' ∧ (∀ (j : Nat) (t : Addr) (it : List Nat), ts[j]? = some t → (parts (tl p))[j]? = some it → H' t = some (.tup (itemV it)))) ⟨[], upd_same, rfl, same_new hD, fun j t it h => by simp at h⟩ (fun i H' _ h => by obtain ⟨_, _, _, h, _⟩ := h; exact SqL.of (h _ _ hB1)) ?_ ?_
    · rintro i x H' hi ⟨ts, h1, h2, h3, h4⟩
      rw [List.getElem?_map, List.getElem?_map] at hi
      obtain ⟨y, hy, rfl⟩ := Option.map_eq_some_iff.mp hi
      obtain ⟨it, hit, rfl⟩ := Option.map_eq_some_iff.mp hy
      have il := parts_len (List.mem_of_getElem? hit)
      have ilt : i < (parts (tl p)).length := (List.getElem?_eq_some_iff.mp hit).1
      have fin : ∀ (t : Addr), H' t = none → ∃ acc, (upd H' t (HO.tup (itemV it))) D = some (.lst acc) ∧ acc.length < sizeLine ∧ ∃ ts : List Addr, (upd (upd H' t (HO.tup (itemV it))) D (HO.lst (acc ++ [V.ref t]))) D = some (.lst (ts.map V.ref)) ∧ ts.length = i + 1 ∧ Same (upd H B (HO.lst (((parts (tl p)).map S).map V.str))) (upd (upd H' t (HO.tup (itemV it))) D (HO.lst (acc ++ [V.ref t]))) ∧ (∀ (j : Nat) (t' : Addr) (it' : List Nat), ts[j]? = some t' → (parts (tl p))[j]? = some it' → (upd (upd H' t (HO.tup (itemV it))) D (HO.lst (acc ++ [V.ref t]))) t' = some (.tup (itemV it'))) := fun t ht => by
        have tD : t ≠ D := (ne_of_none h1 ht).symm
        refine ⟨ts.map V.ref, (same_new ht) _ _ h1, by rw [List.length_map]; exact small _ (by omega), ts ++ [t], by rw [upd_same, List.map_append]; rfl, by rw [List.length_append]; simp [h2], fun b o hb => ?_, fun j t' it' hj hj2 => ?_⟩
        · rw [upd_ne (ne_of_none hb hD)]; exact (h3.trans (same_new ht)) _ _ hb
        · by_cases e : j < ts.length
          · rw [List.getElem?_append_left e] at hj
            have h5 := h4 j t' it' hj hj2
            have : t' ≠ D := fun q => by rw [q, h1] at h5; cases h5
            rw [upd_ne this]; exact (same_new ht) _ _ h5
          · rw [List.getElem?_append_right (by omega)] at hj
            have ej : j - ts.length = 0 := by
              have := (List.getElem?_eq_some_iff.mp hj).1
              simp at this; omega
            rw [ej] at hj
            have : t = t' := by simpa using hj
            subst this
            have : j = i := by omega
            subst this
            rw [hit] at hj2
            cases hj2
            rw [upd_ne tD, upd_same]
      refine ⟨rfl, _, rfl, ⟨_, rfl⟩, _, _, rfl, rfl, _, rfl, ?_⟩
      rw [bar_starts]
      refine ite2 (fun cc => ?_) (fun cc => ?_)
      · refine ⟨_, rfl, 1, rfl, S it, rfl, Nat.le_of_lt (small _ (by show (S it).length ≤ _; rw [S_len]; omega)), by show 2 ≤ sizeLine; decide, fun t ht => ?_⟩
        have e : [V.int 0, V.str (cutS (S it) (some 1) none)] = itemV it := by
          unfold itemV globOf
          have cc' : isBar it = true := cc
          rw [if_pos cc', if_pos cc']
          have : cutS (S it) (some 1) none = S (it.drop 1) := tl_ext (cutS_from (by decide))
          rw [this]
        rw [e]
        exact fin t ht
      · refine ⟨_, rfl, by show 2 ≤ sizeLine; decide, fun t ht => ?_⟩
        have e : [V.int 1, V.str (S it)] = itemV it := by
          unfold itemV globOf
          have cc' : ¬ isBar it = true := cc
          rw [if_neg cc', if_neg cc']
        rw [e]
        exact fin t ht
    · rintro H' ⟨ts, h1, h2, h3, h4⟩
      rw [List.length_map, List.length_map] at h2
      refine ⟨D, _, rfl, .inl ⟨SqL.of h1, fun u hu => ?_⟩⟩
      exact q u ts _ (((same_new hB).trans h3).trans (same_new hu)) upd_same h2 fun i t it a b => (same_new hu) _ _ (h4 i t it a b)
end
section
variable {P : Program} {w : World} {K : PySem.W.Frag} {mg : Str → Option Value} {base : Heap}
theorem ok_read_pattern (D : Df K mg "read_pattern" s_read_pattern ["text"]) (T : Tx mg) {A_MootError A_TextError A_LimitError A_BadBook A_BadWord A_Fallen A_BadText A_BadPattern A_BadRule A_BadValue A_BadMarks : Addr} (Y : Tc K mg A_MootError A_TextError A_LimitError A_BadBook A_BadWord A_Fallen A_BadText A_BadPattern A_BadRule A_BadValue A_BadMarks) (C_items_of : Cal P w K mg base "items_of" ["pattern"] 1 (sp_items_of K)) (C_wrong_place : Cal P w K mg base "wrong_place" ["text"] 2 sp_wrong_place) : CalX P w K mg base "read_pattern" ["text"] 3 (sp_read_pattern K A_BadPattern) := by
  obtain ⟨f_items_of, fd_items_of, G_items_of, g_items_of, k_items_of, b_items_of⟩ := C_items_of
  obtain ⟨f_wrong_place, fd_wrong_place, G_wrong_place, g_wrong_place, k_wrong_place, b_wrong_place⟩ := C_wrong_place
  obtain ⟨fI_BadPattern, fdI_BadPattern, FI_BadPattern, iC_BadPattern, tI_BadPattern, bI_BadPattern⟩ := Y.i_BadPattern
  obtain ⟨f, fd, F, gf, bf⟩ := D
  refine ⟨f, fd, F.okX sc_read_pattern (fun vs H Q E h => ?_) (fun cdv A outer s₀ H vs Q E hr h => ?_), gf, F.kp, bf⟩
  · obtain ⟨x, rfl, _⟩ := h; rfl
  · obtain ⟨x, rfl, xl, qn, qe⟩ := h
    refine ⟨_, (pss_cons (ps_set (i := 1) sc_read_pattern.nd rfl (Or.inl rfl) (pe_call G_wrong_place (hr.mono (by decide)) (by rfl) g_wrong_place k_wrong_place b_wrong_place .nil pass0 (pa_cons (pv 0) pa_nil)))
      (pss_cons (ps_if (pt_cmpR op_notN (pv 1) pe_non (nomark _))
      (pss_one (ps_raise rfl (takes_of rfl rfl rfl rfl) (pmk_oex (dvs := []) Y.e_BadPattern.o iC_BadPattern tI_BadPattern (ok_init_BadPattern (C := A_BadPattern) FI_BadPattern) (hr.mono (by decide)) bI_BadPattern .nil pass0 (by rfl) Y.g_BadPattern (pa_cons (pv 1) pa_nil))))
      pss_nil)
      (pss_one (ps_ret (pe_call G_items_of (hr.mono (by decide)) (by rfl) g_items_of k_items_of b_items_of .nil pass0 (pa_cons (pv 0) pa_nil)))))), ?_⟩
    refine ⟨_, rfl, x, rfl, Nat.le_trans xl (by decide), fun o H1 wo m1 => ?_⟩
    cases o with
    | none =>
      refine ⟨_, rfl, rfl, _, rfl, iteF ?_⟩
      refine ⟨_, rfl, x, rfl, Nat.le_trans xl (by decide), fun u ts H2 m2 e2 l2 g2 => ?_⟩
      exact qn u ts H2 wo (m1.trans m2) e2 l2 g2
    | some k =>
      refine ⟨_, rfl, rfl, _, rfl, iteT ?_⟩
      refine ⟨_, rfl, by show 1 ≤ 1000; decide, fun a ha => ⟨a, _, rfl, Y.e_BadPattern.o, Y.n_BadPattern_at, upd_same, fun dx n ne => ⟨rfl, dx, _, upd_same, by rw [upd_ne ne]; exact upd_same, by rw [upd_ne ne] at n; exact n, ?_⟩⟩⟩
      rw [upd_ne ne] at n
      exact qe k dx _ wo (m1.trans (made_same ha n)) upd_same
end
section
variable {P : Program} {w : World} {K : PySem.W.Frag} {mg : Str → Option Value} {base : Heap}
theorem ok__law_asked (D : Df K mg "_law_asked" s__law_asked ["text"]) (T : Tx mg) {A_MootError A_TextError A_LimitError A_BadBook A_BadWord A_Fallen A_BadText A_BadPattern A_BadRule A_BadValue A_BadMarks : Addr} (Y : Tc K mg A_MootError A_TextError A_LimitError A_BadBook A_BadWord A_Fallen A_BadText A_BadPattern A_BadRule A_BadValue A_BadMarks) (C_read_pattern : CalX P w K mg base "read_pattern" ["text"] 3 (sp_read_pattern K A_BadPattern)) : Cal P w K mg base "_law_asked" ["text"] 4 (sp_due K) := by
  obtain ⟨f_read_pattern, fd_read_pattern, G_read_pattern, g_read_pattern, k_read_pattern, b_read_pattern⟩ := C_read_pattern
  obtain ⟨f, fd, F, gf, bf⟩ := D
  refine ⟨f, fd, F.ok sc__law_asked (fun vs H Q E h => ?_) (fun cdv A outer s₀ H vs Q E hr h => ?_), gf, F.kp, bf⟩
  · obtain ⟨x, rfl, _⟩ := h; rfl
  · obtain ⟨x, rfl, xl, q⟩ := h
    refine ⟨_, (pss_cons (ps_try_as (i := 2) rfl rfl sc__law_asked.nd rfl rfl ⟨rfl, by decide, Or.inl Y.g_MootError⟩ takes0 (fun W pn xe tk _ => (pss_one (ps_set (i := 1) sc__law_asked.nd rfl (Or.inl rfl) (pe_callS G_read_pattern (hr.mono (by decide)) (by rfl) g_read_pattern k_read_pattern b_read_pattern (fun σ => passAt tk σ) (pa_cons (pv 0) pa_nil)))))
      (fun a oe cls d pn hz hf => (pss_cons (ps_if (PW.pt (pw_or (pt_not (pt_val (pe_callB (call_isX hz hf) (by rfl) T.n_isinstance (by decide +kernel) (pa_cons (pv 2) (pa_cons (pe_glob (v := .ref A_BadPattern) (by rfl) Y.g_BadPattern rfl) pa_nil))))) (pw_or (pt_not (pt_val (pe_callB (call_isX hz hf) (by rfl) T.n_isinstance (by decide +kernel) (pa_cons (pv 2) (pa_cons (pe_glob (v := .ref A_TextError) (by rfl) Y.g_TextError rfl) pa_nil))))) (pw_or1 (pt_not (pt_val (pe_callB (call_isX hz hf) (by rfl) T.n_isinstance (by decide +kernel) (pa_cons (pv 2) (pa_cons (pe_bltn (v := .ty "ValueError") (by rfl) T.n_ValueError (by decide +kernel) rfl) pa_nil)))))))))
        (pss_one (ps_ret (pe_tup (pa_cons pe_str pa_nil))))
        pss_nil)
        (pss_cons (ps_if (pt_val (pe_callB (call_isXT hz hf) (by rfl) T.n_isinstance (by decide +kernel) (pa_cons (pv 2) (pa_cons (pe_tup (pa_cons (pe_glob (v := .ref A_LimitError) (by rfl) Y.g_LimitError rfl) (pa_cons (pe_glob (v := .ref A_BadText) (by rfl) Y.g_BadText rfl) (pa_cons (pe_glob (v := .ref A_BadRule) (by rfl) Y.g_BadRule rfl) (pa_cons (pe_glob (v := .ref A_BadValue) (by rfl) Y.g_BadValue rfl) (pa_cons (pe_glob (v := .ref A_BadMarks) (by rfl) Y.g_BadMarks rfl) (pa_cons (pe_glob (v := .ref A_BadBook) (by rfl) Y.g_BadBook rfl) (pa_cons (pe_glob (v := .ref A_BadWord) (by rfl) Y.g_BadWord rfl) (pa_cons (pe_glob (v := .ref A_Fallen) (by rfl) Y.g_Fallen rfl) pa_nil))))))))) pa_nil))))
        (pss_one (ps_ret (pe_tup (pa_cons pe_str pa_nil))))
        pss_nil)
        (pss_one (ps_ret (pe_tup (pa_cons pe_str (pa_cons (pe_xf Y.e_BadPattern.xf Y.n_BadPattern_at hz hf (pv 2)) pa_nil)))))))))
      (pss_one (ps_ret (pe_tup (pa_cons pe_str (pa_cons (pv 1) pa_nil)))))), ?_⟩
    refine ⟨_, rfl, x, rfl, xl, fun u ts H1 wo m1 e1 l1 g1 => ?_, fun k dd H1 wo m1 hd => ⟨true, Y.m_BadPattern_MootError, fun _ a ha => ?_, fun h => Bool.noConfusion h⟩⟩
    · refine ⟨_, rfl, by show 2 ≤ sizeLine; decide, fun t ht => ?_⟩
      have n1 := same_new (o := HO.tup [V.str (Str.ofString "read"), .ref u]) ht
      refine q none _ _ wo ?_ (m1.trans n1)
      exact ⟨t, _, rfl, SqT.of upd_same, _, _, rfl, by unfold DV; rfl, _, _, rfl, ⟨u, _, rfl, SqT.of (n1 _ _ e1), DVs.items l1 fun k t it e1 e2 => n1 _ _ (g1 k t it e1 e2)⟩, rfl⟩
    refine ⟨_, rfl, A_BadPattern, dd, _, _, true, _, rfl, rfl, Y.e_BadPattern.e, rfl, hd, .own _, Y.k_BadPattern_BadPattern, _, rfl, iteF ?_⟩
    refine ⟨_, rfl, A_BadPattern, dd, _, _, true, _, rfl, rfl, Y.e_BadPattern.e, rfl, hd, .own _, Y.k_BadPattern_TextError, _, rfl, iteF ?_⟩
    refine ⟨_, rfl, A_BadPattern, dd, _, _, true, _, rfl, rfl, Y.e_BadPattern.e, rfl, hd, .ty _, Y.k_BadPattern_ValueError, _, rfl, iteF ?_⟩
    refine ⟨_, rfl, by show 8 ≤ sizeLine; decide, fun t ht => ?_⟩
    have hd2 := same_new (o := HO.tup [V.ref A_LimitError, .ref A_BadText, .ref A_BadRule, .ref A_BadValue, .ref A_BadMarks, .ref A_BadBook, .ref A_BadWord, .ref A_Fallen]) ht _ _ hd
    refine ⟨A_BadPattern, dd, t, _, _, false, _, rfl, rfl, Y.e_BadPattern.e, rfl, hd2, upd_same, .cons (.own _) (.cons (.own _) (.cons (.own _) (.cons (.own _) (.cons (.own _) (.cons (.own _) (.cons (.own _) (.cons (.own _) .nil))))))), ?_, _, rfl, iteF ?_⟩
    · refine kitAny_cons Y.k_BadPattern_LimitError (fun _ => ?_) (fun h => Bool.noConfusion h)
      refine kitAny_cons Y.k_BadPattern_BadText (fun _ => ?_) (fun h => Bool.noConfusion h)
      refine kitAny_cons Y.k_BadPattern_BadRule (fun _ => ?_) (fun h => Bool.noConfusion h)
      refine kitAny_cons Y.k_BadPattern_BadValue (fun _ => ?_) (fun h => Bool.noConfusion h)
      refine kitAny_cons Y.k_BadPattern_BadMarks (fun _ => ?_) (fun h => Bool.noConfusion h)
      refine kitAny_cons Y.k_BadPattern_BadBook (fun _ => ?_) (fun h => Bool.noConfusion h)
      refine kitAny_cons Y.k_BadPattern_BadWord (fun _ => ?_) (fun h => Bool.noConfusion h)
      refine kitAny_cons Y.k_BadPattern_Fallen (fun _ => ?_) (fun h => Bool.noConfusion h)
      exact kitAny_nil
    refine ⟨_, rfl, rfl, rfl, dd, _, _, rfl, hd2, rfl, by show 2 ≤ sizeLine; decide, fun t2 ht2 => ?_⟩
    refine q (some k) _ _ wo ?_ (m1.trans ((same_new ht).trans (same_new ht2)))
    exact ⟨t2, _, rfl, SqT.of upd_same, _, _, rfl, by unfold DV; rfl, _, _, rfl, by unfold DV; rfl, rfl⟩
end

end Z
namespace Z
open PySem L2 SX
section
theorem DL_due (l : List Nat) (o : Option Nat) (h : l.length ≤ 100000) : DL 4 (dueD l o) := by
  cases o with
  | some k =>
    refine ⟨by show 2 ≤ _; decide, fun x hx => ?_⟩
    rcases List.mem_cons.mp hx with e | hx
    · subst e; exact True.intro
    · rw [List.mem_singleton.mp hx]; exact True.intro
  | none =>
    refine ⟨by show 2 ≤ _; decide, fun x hx => ?_⟩
    rcases List.mem_cons.mp hx with e | hx
    · subst e; exact True.intro
    · rw [List.mem_singleton.mp hx]
      have pb := spl_bound 44 l []
      refine ⟨by rw [List.length_map]; omega, fun x hx => ?_⟩
      obtain ⟨it, _, rfl⟩ := List.mem_map.mp hx
      refine ⟨by show 2 ≤ _; decide, fun x hx => ?_⟩
      rcases List.mem_cons.mp hx with e | hx
      · subst e; exact True.intro
      · rw [List.mem_singleton.mp hx]; exact True.intro
end
section
variable {P : Program} {w : World} {K : PySem.W.Frag} {mg : Str → Option Value} {base : Heap}
theorem ok_law {f : Addr} {fd : FuncData} (F : Fun K "law" "law" s_law f fd) (T : Tx mg)  (C__law_asked : Cal P w K mg base "_law_asked" ["text"] 4 (sp_due K)) (C__law_bent : Cal P w K mg base "_law_bent" ["source", "text"] 4 sp13_bent) (C__law_due : Cal P w K mg base "_law_due" ["text"] 2 (sp_due K)) (C__law_edge : Cal P w K mg base "_law_edge" ["source"] 4 (sp13 40 100)) (C__law_odd : Cal P w K mg base "_law_odd" ["source"] 4 (sp13 30 40)) (C__law_same : Cal P w K mg base "_law_same" ["actual", "due"] 5 (sp__law_same K 4)) (C__law_source : Cal P w K mg base "_law_source" ["script"] 2 (sp__law_source K)) (C__law_text : Cal P w K mg base "_law_text" ["source"] 4 (sp13 200 600)) (C_write_pattern : Cal P w K mg base "write_pattern" ["items"] 1 (sp_write_pattern K)) : FnOk P w K mg base CX0 6 f fd ["script"] (sp_law K) := by
  obtain ⟨f__law_asked, fd__law_asked, G__law_asked, g__law_asked, k__law_asked, b__law_asked⟩ := C__law_asked
  obtain ⟨f__law_bent, fd__law_bent, G__law_bent, g__law_bent, k__law_bent, b__law_bent⟩ := C__law_bent
  obtain ⟨f__law_due, fd__law_due, G__law_due, g__law_due, k__law_due, b__law_due⟩ := C__law_due
  obtain ⟨f__law_edge, fd__law_edge, G__law_edge, g__law_edge, k__law_edge, b__law_edge⟩ := C__law_edge
  obtain ⟨f__law_odd, fd__law_odd, G__law_odd, g__law_odd, k__law_odd, b__law_odd⟩ := C__law_odd
  obtain ⟨f__law_same, fd__law_same, G__law_same, g__law_same, k__law_same, b__law_same⟩ := C__law_same
  obtain ⟨f__law_source, fd__law_source, G__law_source, g__law_source, k__law_source, b__law_source⟩ := C__law_source
  obtain ⟨f__law_text, fd__law_text, G__law_text, g__law_text, k__law_text, b__law_text⟩ := C__law_text
  obtain ⟨f_write_pattern, fd_write_pattern, G_write_pattern, g_write_pattern, k_write_pattern, b_write_pattern⟩ := C_write_pattern
  refine F.ok sc_law (fun vs H Q E h => ?_) (fun cdv A outer s₀ H vs Q E hr h => ?_)
  · obtain ⟨a, ns, rfl, _⟩ := h; rfl
  · obtain ⟨a, ns, rfl, hA, hlen, q⟩ := h
    refine ⟨_, (pss_cons (ps_set (i := 1) sc_law.nd rfl (Or.inl rfl) (pe_call G__law_source (hr.mono (by decide)) (by rfl) g__law_source k__law_source b__law_source .nil pass0 (pa_cons (pv 0) pa_nil)))
      (pss_cons (ps_set (i := 2) sc_law.nd rfl (Or.inl rfl) (pe_call G__law_text (hr.mono (by decide)) (by rfl) g__law_text k__law_text b__law_text .nil pass0 (pa_cons (pv 1) pa_nil)))
      (pss_cons (ps_set (i := 3) sc_law.nd rfl (Or.inl rfl) (pe_call G__law_bent (hr.mono (by decide)) (by rfl) g__law_bent k__law_bent b__law_bent .nil pass0 (pa_cons (pv 1) (pa_cons (pv 2) pa_nil))))
      (pss_cons (ps_set (i := 4) sc_law.nd rfl (Or.inl rfl) (pe_lst (pa_cons (pv 2) (pa_cons (pv 3) (pa_cons (pe_call G__law_bent (hr.mono (by decide)) (by rfl) g__law_bent k__law_bent b__law_bent .nil pass0 (pa_cons (pv 1) (pa_cons (pv 3) pa_nil))) (pa_cons (pe_call G__law_edge (hr.mono (by decide)) (by rfl) g__law_edge k__law_edge b__law_edge .nil pass0 (pa_cons (pv 1) pa_nil)) (pa_cons (pe_call G__law_odd (hr.mono (by decide)) (by rfl) g__law_odd k__law_odd b__law_odd .nil pass0 (pa_cons (pv 1) pa_nil)) (pa_cons (pv 2) (pa_cons (pv 3) pa_nil)))))))))
      (pss_cons (ps_for PassesOwn.never rfl (pi_list (pv 4)) (pg_name (i := 5) sc_law.nd rfl (Or.inl rfl))
      (pss_cons (ps_set (i := 6) sc_law.nd rfl (Or.inl rfl) (pe_call G__law_due (hr.mono (by decide)) (by rfl) g__law_due k__law_due b__law_due .nil pass0 (pa_cons (pe_slice sl_str (pv 5) po_none (po_some pe_int)) pa_nil)))
        (pss_cons (ps_if (pt_not (pt_val (pe_call G__law_same (hr.mono (by decide)) (by rfl) g__law_same k__law_same b__law_same .nil pass0 (pa_cons (pe_call G__law_asked (hr.mono (by decide)) (by rfl) g__law_asked k__law_asked b__law_asked .nil pass0 (pa_cons (pe_slice sl_str (pv 5) po_none (po_some pe_int)) pa_nil)) (pa_cons (pv 6) pa_nil)))))
        (pss_one (ps_ret pe_bl))
        pss_nil)
        (pss_one (ps_if (PW.pt (pw_and (pt_cmpR op_eq (pe_ix ix_tup (pv 6) pe_int (fun _ _ => rfl)) pe_str (nomark _)) (pw_and1 (pt_not (pt_val (pe_call G__law_same (hr.mono (by decide)) (by rfl) g__law_same k__law_same b__law_same .nil pass0 (pa_cons (pe_call G_write_pattern (hr.mono (by decide)) (by rfl) g_write_pattern k_write_pattern b_write_pattern .nil pass0 (pa_cons (pe_ix ix_tup (pv 6) pe_int (fun _ _ => rfl)) pa_nil)) (pa_cons (pe_slice sl_str (pv 5) po_none (po_some pe_int)) pa_nil))))))))
        (pss_one (ps_ret pe_bl))
        pss_nil)))))
      (pss_one (ps_ret pe_bl))))))), ?_⟩
    have small : ∀ n : Nat, n ≤ 30000 → n ≤ sizeLine := fun n h => Nat.le_trans h (by decide)
    have lS : ∀ y : Str, y.length = (tl y).length := tl_len
    refine ⟨_, rfl, a, ns, rfl, hA, hlen, fun s b H1 hs x1 S1 => ?_⟩
    refine ⟨_, rfl, s, b, 2000, rfl, S1.mono (by decide), fun x H2 xl x2 S2 => ?_⟩
    refine ⟨_, rfl, _, rfl, s, b, x, 1900, rfl, by omega, S2.mono (by decide), fun y H3 yl x3 S3 => ?_⟩
    refine ⟨_, rfl, _, rfl, _, rfl, _, rfl, s, b, y, 1800, rfl, by omega, S3.mono (by decide), fun z H4 zl x4 S4 => ?_⟩
    refine ⟨_, rfl, s, b, 1700, rfl, S4.mono (by decide), fun e H5 el x5 S5 => ?_⟩
    refine ⟨_, rfl, s, b, 1600, rfl, S5.mono (by decide), fun o H6 ol x6 S6 => ?_⟩
    refine ⟨_, rfl, _, rfl, by show 7 ≤ sizeLine; decide, fun l hl => ?_⟩
    have hl1 : (upd H6 l (HO.lst (([x, y, z, e, o, x, y] : List Str).map V.str))) l = some (.lst (([x, y, z, e, o, x, y] : List Str).map V.str)) := upd_same
    refine ⟨_, rfl, l, rfl, ⟨_, SqL.of hl1⟩, ?_⟩
    refine for_list (K := K) (a := l) (xs := ([x, y, z, e, o, x, y] : List Str).map V.str) (fun i σ G => (∃ (v5 v6 : Option V), σ = [some (.ref a), some (.ref s), some (.str x), some (.str y), some (.ref l), v5, v6]) ∧ Same (upd H6 l (HO.lst (([x, y, z, e, o, x, y] : List Str).map V.str))) G) ⟨⟨_, _, rfl⟩, Same.refl _⟩ (fun i σ G _ h => SqL.of (h.2 _ _ hl1)) ?_ ?_
    · rintro i u σ G hi ⟨⟨v5, v6, rfl⟩, mG⟩
      obtain ⟨w', rfl, wl⟩ := len_mem (n := 1000) (xs := [x, y, z, e, o, x, y]) (fun k hk => by
        simp only [List.mem_cons, List.not_mem_nil, or_false] at hk
        rcases hk with e | e | e | e | e | e | e <;> subst e <;> omega) (List.mem_of_getElem? hi)
      have lw := lS w'
      have cl : (tl (cutS w' none (some 200))).length ≤ 200 := by rw [cutS_to (by decide), List.length_take]; exact Nat.min_le_left _ _
      refine ⟨_, rfl, 200, rfl, w', rfl, small _ (by omega), _, rfl, by omega, fun o1 v1 G1 w1 d1 m1 => ?_⟩
      refine ⟨_, rfl, 200, rfl, w', rfl, small _ (by omega), _, rfl, by omega, fun o2 v2 G2 w2 d2 m2 => ?_⟩
      have eo := wrongAt_one w1 w2
      subst eo
      have d1' := DV.ext (fun _ _ h => m2.tup h) d1
      refine ⟨_, rfl, _, _, _, rfl, d2, d1', DL_due _ _ (by omega), _, rfl, iteF ?_⟩
      cases o1 with
      | some k =>
        obtain ⟨t, vs, rfl, hS, h3⟩ := d1'
        obtain ⟨u1, r1, rfl, e1, h4⟩ := h3
        unfold DV at e1
        subst e1
        refine ⟨_, rfl, t, _, _, _, rfl, rfl, hS, atI_nat (j := 0) rfl, rfl, _, rfl, ite2 (fun c => absurd (of_decide_eq_true c) (by decide)) (fun _ => iteF ⟨⟨_, _, rfl⟩, mG.trans (m1.trans m2)⟩)⟩
      | none =>
        obtain ⟨t, vs, rfl, hS, h3⟩ := d1'
        obtain ⟨u1, r1, rfl, e1, h4⟩ := h3
        obtain ⟨u2, r2, rfl, e2, h5⟩ := h4
        unfold DV at e1
        subst e1
        obtain ⟨t2, vs2, rfl, hS2, h6⟩ := e2
        obtain ⟨ts, rfl, tn, tk⟩ := DVs.items_inv h6
        have pt := w1.2
        have pb := spl_bound 44 (tl (cutS w' none (some 200))) []
        have p8 : (TL.spl [44] 0 [] (tl (cutS w' none (some 200)))).length ≤ 8 := by
          unfold isPat at pt
          simp only [Bool.and_eq_true] at pt
          exact of_decide_eq_true pt.2.1
        refine ⟨_, rfl, t, _, _, _, rfl, rfl, hS, atI_nat (j := 0) rfl, rfl, _, rfl, iteT ?_⟩
        refine ⟨_, rfl, t, _, _, _, rfl, rfl, hS, atI_nat (j := 1) rfl, ?_⟩
        refine ⟨t2, ts, _, rfl, hS2, tn, by omega, fun it hit => by have := pb.1 it hit; rw [List.length_nil] at this; omega, tk, fun yy G3 ey m3 => ?_⟩
        refine ⟨_, rfl, 200, rfl, w', rfl, small _ (by omega), ?_⟩
        have ez : yy = cutS w' none (some 200) := tl_ext (by rw [ey, join_spl]; rfl)
        subst ez
        exact ⟨.str (cutS w' none (some 200)), _, _, rfl, by unfold DV; rfl, by unfold DV; rfl, True.intro, _, rfl, iteF ⟨⟨_, _, rfl⟩, mG.trans (m1.trans (m2.trans m3))⟩⟩
    · rintro σ G ⟨⟨v5, v6, rfl⟩, mG⟩
      exact q _
end

end Z
namespace Z
open PySem L2 SX
theorem all_mk {l : PySem.W.OpenLaw} {w : World} {K : PySem.W.Frag} {h : Heap} {mg : Str → Option Value} {fa : Addr} (X : K.In h) (G : h.Ns mainGlobals mg) (hfa : mg "law" = some (.ref fa))
    {f0 : Addr} {od0 an0 : Option Addr} {sl0 : Array (Option Value)} {oc0 kV0 dc0 pm0 cd0 ct0 : Value}
    {f1 : Addr} {od1 an1 : Option Addr} {sl1 : Array (Option Value)} {oc1 kV1 dc1 pm1 cd1 ct1 : Value}
    {f2 : Addr} {od2 an2 : Option Addr} {sl2 : Array (Option Value)} {oc2 kV2 dc2 pm2 cd2 ct2 : Value}
    {f3 : Addr} {od3 an3 : Option Addr} {sl3 : Array (Option Value)} {oc3 kV3 dc3 pm3 cd3 ct3 : Value}
    {f4 : Addr} {od4 an4 : Option Addr} {sl4 : Array (Option Value)} {oc4 kV4 dc4 pm4 cd4 ct4 : Value}
    {f5 : Addr} {od5 an5 : Option Addr} {sl5 : Array (Option Value)} {oc5 kV5 dc5 pm5 cd5 ct5 : Value}
    {f6 : Addr} {od6 an6 : Option Addr} {sl6 : Array (Option Value)} {oc6 kV6 dc6 pm6 cd6 ct6 : Value}
    {f7 : Addr} {od7 an7 : Option Addr} {sl7 : Array (Option Value)} {oc7 kV7 dc7 pm7 cd7 ct7 : Value}
    {f8 : Addr} {od8 an8 : Option Addr} {sl8 : Array (Option Value)} {oc8 kV8 dc8 pm8 cd8 ct8 : Value}
    {f9 : Addr} {od9 an9 : Option Addr} {sl9 : Array (Option Value)} {oc9 kV9 dc9 pm9 cd9 ct9 : Value}
    {f10 : Addr} {od10 an10 : Option Addr} {sl10 : Array (Option Value)} {oc10 kV10 dc10 pm10 cd10 ct10 : Value}
    {f11 : Addr} {od11 an11 : Option Addr} {sl11 : Array (Option Value)} {oc11 kV11 dc11 pm11 cd11 ct11 : Value}
    {f12 : Addr} {od12 an12 : Option Addr} {sl12 : Array (Option Value)} {oc12 kV12 dc12 pm12 cd12 ct12 : Value}
    {f13 : Addr} {od13 an13 : Option Addr} {sl13 : Array (Option Value)} {oc13 kV13 dc13 pm13 cd13 ct13 : Value}
    {f14 : Addr} {od14 an14 : Option Addr} {sl14 : Array (Option Value)} {oc14 kV14 dc14 pm14 cd14 ct14 : Value}
    {f15 : Addr} {od15 an15 : Option Addr} {sl15 : Array (Option Value)} {oc15 kV15 dc15 pm15 cd15 ct15 : Value}
    {f16 : Addr} {od16 an16 : Option Addr} {sl16 : Array (Option Value)} {oc16 kV16 dc16 pm16 cd16 ct16 : Value}
    {f17 : Addr} {od17 an17 : Option Addr} {sl17 : Array (Option Value)} {oc17 kV17 dc17 pm17 cd17 ct17 : Value}
    {f18 : Addr} {od18 an18 : Option Addr} {sl18 : Array (Option Value)} {oc18 kV18 dc18 pm18 cd18 ct18 : Value}
    {f19 : Addr} {od19 an19 : Option Addr} {sl19 : Array (Option Value)} {oc19 kV19 dc19 pm19 cd19 ct19 : Value}
    {f20 : Addr} {od20 an20 : Option Addr} {sl20 : Array (Option Value)} {oc20 kV20 dc20 pm20 cd20 ct20 : Value}
    {f21 : Addr} {od21 an21 : Option Addr} {sl21 : Array (Option Value)} {oc21 kV21 dc21 pm21 cd21 ct21 : Value}
    {A_MootError A_TextError A_LimitError A_BadBook A_BadWord A_Fallen A_BadText A_BadPattern A_BadRule A_BadValue A_BadMarks : Addr}
    {nm_BadPattern q_BadPattern : Str} {N_BadPattern fI_BadPattern : Addr} {bs_BadPattern bm_BadPattern : List Value} {sn_BadPattern : List Str} {sub_BadPattern : List Value} {ab_BadPattern : Bool} {col_BadPattern : Option Bool} {dd_BadPattern : Option Addr} {m0_BadPattern m1_BadPattern m2_BadPattern m3_BadPattern m5_BadPattern : Option Value} {oI_BadPattern kI0_BadPattern dI_BadPattern pI_BadPattern cdI_BadPattern ctI_BadPattern : Value} {odI_BadPattern anI_BadPattern : Option Addr} {slI_BadPattern : Array (Option Value)}
    (a0 : PySem.W.nsIn K mainGlobals "may_stand" = some (some (.ref f0))) (l0 : K.lookup f0 = some ⟨oc0, od0, .func (PySem.W.fnOf "may_stand" "may_stand" (defArgs s_may_stand) (defBody s_may_stand) (defScope s_may_stand) .none kV0 dc0 pm0 an0 cd0 ct0), sl0⟩) (c0 : PySem.W.codeIn K cd0 "may_stand" = true) (k0 : PySem.W.keepIn K (.ref f0) = true)
    (a1 : PySem.W.nsIn K mainGlobals "wrong_place" = some (some (.ref f1))) (l1 : K.lookup f1 = some ⟨oc1, od1, .func (PySem.W.fnOf "wrong_place" "wrong_place" (defArgs s_wrong_place) (defBody s_wrong_place) (defScope s_wrong_place) .none kV1 dc1 pm1 an1 cd1 ct1), sl1⟩) (c1 : PySem.W.codeIn K cd1 "wrong_place" = true) (k1 : PySem.W.keepIn K (.ref f1) = true)
    (a2 : PySem.W.nsIn K mainGlobals "items_of" = some (some (.ref f2))) (l2 : K.lookup f2 = some ⟨oc2, od2, .func (PySem.W.fnOf "items_of" "items_of" (defArgs s_items_of) (defBody s_items_of) (defScope s_items_of) .none kV2 dc2 pm2 an2 cd2 ct2), sl2⟩) (c2 : PySem.W.codeIn K cd2 "items_of" = true) (k2 : PySem.W.keepIn K (.ref f2) = true)
    (a3 : PySem.W.nsIn K mainGlobals "read_pattern" = some (some (.ref f3))) (l3 : K.lookup f3 = some ⟨oc3, od3, .func (PySem.W.fnOf "read_pattern" "read_pattern" (defArgs s_read_pattern) (defBody s_read_pattern) (defScope s_read_pattern) .none kV3 dc3 pm3 an3 cd3 ct3), sl3⟩) (c3 : PySem.W.codeIn K cd3 "read_pattern" = true) (k3 : PySem.W.keepIn K (.ref f3) = true)
    (a4 : PySem.W.nsIn K mainGlobals "write_pattern" = some (some (.ref f4))) (l4 : K.lookup f4 = some ⟨oc4, od4, .func (PySem.W.fnOf "write_pattern" "write_pattern" (defArgs s_write_pattern) (defBody s_write_pattern) (defScope s_write_pattern) .none kV4 dc4 pm4 an4 cd4 ct4), sl4⟩) (c4 : PySem.W.codeIn K cd4 "write_pattern" = true) (k4 : PySem.W.keepIn K (.ref f4) = true)
    (a5 : PySem.W.nsIn K mainGlobals "_law_mix" = some (some (.ref f5))) (l5 : K.lookup f5 = some ⟨oc5, od5, .func (PySem.W.fnOf "_law_mix" "_law_mix" (defArgs s__law_mix) (defBody s__law_mix) (defScope s__law_mix) .none kV5 dc5 pm5 an5 cd5 ct5), sl5⟩) (c5 : PySem.W.codeIn K cd5 "_law_mix" = true) (k5 : PySem.W.keepIn K (.ref f5) = true)
    (a6 : PySem.W.nsIn K mainGlobals "_law_source" = some (some (.ref f6))) (l6 : K.lookup f6 = some ⟨oc6, od6, .func (PySem.W.fnOf "_law_source" "_law_source" (defArgs s__law_source) (defBody s__law_source) (defScope s__law_source) .none kV6 dc6 pm6 an6 cd6 ct6), sl6⟩) (c6 : PySem.W.codeIn K cd6 "_law_source" = true) (k6 : PySem.W.keepIn K (.ref f6) = true)
    (a7 : PySem.W.nsIn K mainGlobals "_law_draw" = some (some (.ref f7))) (l7 : K.lookup f7 = some ⟨oc7, od7, .func (PySem.W.fnOf "_law_draw" "_law_draw" (defArgs s__law_draw) (defBody s__law_draw) (defScope s__law_draw) .none kV7 dc7 pm7 an7 cd7 ct7), sl7⟩) (c7 : PySem.W.codeIn K cd7 "_law_draw" = true) (k7 : PySem.W.keepIn K (.ref f7) = true)
    (a8 : PySem.W.nsIn K mainGlobals "_law_pick" = some (some (.ref f8))) (l8 : K.lookup f8 = some ⟨oc8, od8, .func (PySem.W.fnOf "_law_pick" "_law_pick" (defArgs s__law_pick) (defBody s__law_pick) (defScope s__law_pick) .none kV8 dc8 pm8 an8 cd8 ct8), sl8⟩) (c8 : PySem.W.codeIn K cd8 "_law_pick" = true) (k8 : PySem.W.keepIn K (.ref f8) = true)
    (a9 : PySem.W.nsIn K mainGlobals "_law_is_int" = some (some (.ref f9))) (l9 : K.lookup f9 = some ⟨oc9, od9, .func (PySem.W.fnOf "_law_is_int" "_law_is_int" (defArgs s__law_is_int) (defBody s__law_is_int) (defScope s__law_is_int) .none kV9 dc9 pm9 an9 cd9 ct9), sl9⟩) (c9 : PySem.W.codeIn K cd9 "_law_is_int" = true) (k9 : PySem.W.keepIn K (.ref f9) = true)
    (a10 : PySem.W.nsIn K mainGlobals "_law_same" = some (some (.ref f10))) (l10 : K.lookup f10 = some ⟨oc10, od10, .func (PySem.W.fnOf "_law_same" "_law_same" (defArgs s__law_same) (defBody s__law_same) (defScope s__law_same) .none kV10 dc10 pm10 an10 cd10 ct10), sl10⟩) (c10 : PySem.W.codeIn K cd10 "_law_same" = true) (k10 : PySem.W.keepIn K (.ref f10) = true)
    (a11 : PySem.W.nsIn K mainGlobals "_law_any_sign" = some (some (.ref f11))) (l11 : K.lookup f11 = some ⟨oc11, od11, .func (PySem.W.fnOf "_law_any_sign" "_law_any_sign" (defArgs s__law_any_sign) (defBody s__law_any_sign) (defScope s__law_any_sign) .none kV11 dc11 pm11 an11 cd11 ct11), sl11⟩) (c11 : PySem.W.codeIn K cd11 "_law_any_sign" = true) (k11 : PySem.W.keepIn K (.ref f11) = true)
    (a12 : PySem.W.nsIn K mainGlobals "_law_item" = some (some (.ref f12))) (l12 : K.lookup f12 = some ⟨oc12, od12, .func (PySem.W.fnOf "_law_item" "_law_item" (defArgs s__law_item) (defBody s__law_item) (defScope s__law_item) .none kV12 dc12 pm12 an12 cd12 ct12), sl12⟩) (c12 : PySem.W.codeIn K cd12 "_law_item" = true) (k12 : PySem.W.keepIn K (.ref f12) = true)
    (a13 : PySem.W.nsIn K mainGlobals "_law_text" = some (some (.ref f13))) (l13 : K.lookup f13 = some ⟨oc13, od13, .func (PySem.W.fnOf "_law_text" "_law_text" (defArgs s__law_text) (defBody s__law_text) (defScope s__law_text) .none kV13 dc13 pm13 an13 cd13 ct13), sl13⟩) (c13 : PySem.W.codeIn K cd13 "_law_text" = true) (k13 : PySem.W.keepIn K (.ref f13) = true)
    (a14 : PySem.W.nsIn K mainGlobals "_law_bent" = some (some (.ref f14))) (l14 : K.lookup f14 = some ⟨oc14, od14, .func (PySem.W.fnOf "_law_bent" "_law_bent" (defArgs s__law_bent) (defBody s__law_bent) (defScope s__law_bent) .none kV14 dc14 pm14 an14 cd14 ct14), sl14⟩) (c14 : PySem.W.codeIn K cd14 "_law_bent" = true) (k14 : PySem.W.keepIn K (.ref f14) = true)
    (a15 : PySem.W.nsIn K mainGlobals "_law_edge" = some (some (.ref f15))) (l15 : K.lookup f15 = some ⟨oc15, od15, .func (PySem.W.fnOf "_law_edge" "_law_edge" (defArgs s__law_edge) (defBody s__law_edge) (defScope s__law_edge) .none kV15 dc15 pm15 an15 cd15 ct15), sl15⟩) (c15 : PySem.W.codeIn K cd15 "_law_edge" = true) (k15 : PySem.W.keepIn K (.ref f15) = true)
    (a16 : PySem.W.nsIn K mainGlobals "_law_odd" = some (some (.ref f16))) (l16 : K.lookup f16 = some ⟨oc16, od16, .func (PySem.W.fnOf "_law_odd" "_law_odd" (defArgs s__law_odd) (defBody s__law_odd) (defScope s__law_odd) .none kV16 dc16 pm16 an16 cd16 ct16), sl16⟩) (c16 : PySem.W.codeIn K cd16 "_law_odd" = true) (k16 : PySem.W.keepIn K (.ref f16) = true)
    (a17 : PySem.W.nsIn K mainGlobals "_law_is_pattern" = some (some (.ref f17))) (l17 : K.lookup f17 = some ⟨oc17, od17, .func (PySem.W.fnOf "_law_is_pattern" "_law_is_pattern" (defArgs s__law_is_pattern) (defBody s__law_is_pattern) (defScope s__law_is_pattern) .none kV17 dc17 pm17 an17 cd17 ct17), sl17⟩) (c17 : PySem.W.codeIn K cd17 "_law_is_pattern" = true) (k17 : PySem.W.keepIn K (.ref f17) = true)
    (a18 : PySem.W.nsIn K mainGlobals "_law_sign_and_glob" = some (some (.ref f18))) (l18 : K.lookup f18 = some ⟨oc18, od18, .func (PySem.W.fnOf "_law_sign_and_glob" "_law_sign_and_glob" (defArgs s__law_sign_and_glob) (defBody s__law_sign_and_glob) (defScope s__law_sign_and_glob) .none kV18 dc18 pm18 an18 cd18 ct18), sl18⟩) (c18 : PySem.W.codeIn K cd18 "_law_sign_and_glob" = true) (k18 : PySem.W.keepIn K (.ref f18) = true)
    (a19 : PySem.W.nsIn K mainGlobals "_law_due" = some (some (.ref f19))) (l19 : K.lookup f19 = some ⟨oc19, od19, .func (PySem.W.fnOf "_law_due" "_law_due" (defArgs s__law_due) (defBody s__law_due) (defScope s__law_due) .none kV19 dc19 pm19 an19 cd19 ct19), sl19⟩) (c19 : PySem.W.codeIn K cd19 "_law_due" = true) (k19 : PySem.W.keepIn K (.ref f19) = true)
    (a20 : PySem.W.nsIn K mainGlobals "_law_asked" = some (some (.ref f20))) (l20 : K.lookup f20 = some ⟨oc20, od20, .func (PySem.W.fnOf "_law_asked" "_law_asked" (defArgs s__law_asked) (defBody s__law_asked) (defScope s__law_asked) .none kV20 dc20 pm20 an20 cd20 ct20), sl20⟩) (c20 : PySem.W.codeIn K cd20 "_law_asked" = true) (k20 : PySem.W.keepIn K (.ref f20) = true)
    (a21 : PySem.W.nsIn K mainGlobals "law" = some (some (.ref f21))) (l21 : K.lookup f21 = some ⟨oc21, od21, .func (PySem.W.fnOf "law" "law" (defArgs s_law) (defBody s_law) (defScope s_law) .none kV21 dc21 pm21 an21 cd21 ct21), sl21⟩) (c21 : PySem.W.codeIn K cd21 "law" = true) (k21 : PySem.W.keepIn K (.ref f21) = true)
    (z_ValueError : PySem.W.nsIn K mainGlobals "ValueError" = some none)
    (z_abs : PySem.W.nsIn K mainGlobals "abs" = some none)
    (z_bool : PySem.W.nsIn K mainGlobals "bool" = some none)
    (z_enumerate : PySem.W.nsIn K mainGlobals "enumerate" = some none)
    (z_int : PySem.W.nsIn K mainGlobals "int" = some none)
    (z_isinstance : PySem.W.nsIn K mainGlobals "isinstance" = some none)
    (z_len : PySem.W.nsIn K mainGlobals "len" = some none)
    (z_list : PySem.W.nsIn K mainGlobals "list" = some none)
    (z_max : PySem.W.nsIn K mainGlobals "max" = some none)
    (z_min : PySem.W.nsIn K mainGlobals "min" = some none)
    (z_range : PySem.W.nsIn K mainGlobals "range" = some none)
    (z_str : PySem.W.nsIn K mainGlobals "str" = some none)
    (z_tuple : PySem.W.nsIn K mainGlobals "tuple" = some none)
    {t_MOST_ITEMS : Tok} (v_MOST_ITEMS : PySem.W.nsIn K mainGlobals "MOST_ITEMS" = some (some (.int 8 t_MOST_ITEMS)))
    {t_LONGEST_PATTERN : Tok} (v_LONGEST_PATTERN : PySem.W.nsIn K mainGlobals "LONGEST_PATTERN" = some (some (.int 60 t_LONGEST_PATTERN)))
    {t_GLOB_SIGNS : Tok} (v_GLOB_SIGNS : PySem.W.nsIn K mainGlobals "GLOB_SIGNS" = some (some (.str ("abcdefghijklmnopqrstuvwxyz0123456789.*?") t_GLOB_SIGNS)))
    (aC_MootError : PySem.W.nsIn K mainGlobals "MootError" = some (some (.ref A_MootError)))
    (aC_TextError : PySem.W.nsIn K mainGlobals "TextError" = some (some (.ref A_TextError)))
    (aC_LimitError : PySem.W.nsIn K mainGlobals "LimitError" = some (some (.ref A_LimitError)))
    (aC_BadBook : PySem.W.nsIn K mainGlobals "BadBook" = some (some (.ref A_BadBook)))
    (aC_BadWord : PySem.W.nsIn K mainGlobals "BadWord" = some (some (.ref A_BadWord)))
    (aC_Fallen : PySem.W.nsIn K mainGlobals "Fallen" = some (some (.ref A_Fallen)))
    (aC_BadText : PySem.W.nsIn K mainGlobals "BadText" = some (some (.ref A_BadText)))
    (aC_BadPattern : PySem.W.nsIn K mainGlobals "BadPattern" = some (some (.ref A_BadPattern)))
    (aC_BadRule : PySem.W.nsIn K mainGlobals "BadRule" = some (some (.ref A_BadRule)))
    (aC_BadValue : PySem.W.nsIn K mainGlobals "BadValue" = some (some (.ref A_BadValue)))
    (aC_BadMarks : PySem.W.nsIn K mainGlobals "BadMarks" = some (some (.ref A_BadMarks)))
    (hn_ : PySem.W.specialIn K (.builtin "object.__class__") "__get__" = some (some (.builtin "getset_descriptor.__get__")))
    (ht_ : PySem.W.takesIn K (.builtin "object.__class__") = some true)
    (xL_BadPattern : K.lookup A_BadPattern = some (excClassObj nm_BadPattern q_BadPattern A_BadPattern N_BadPattern bs_BadPattern bm_BadPattern true sn_BadPattern sub_BadPattern ab_BadPattern col_BadPattern dd_BadPattern m0_BadPattern m1_BadPattern m2_BadPattern m3_BadPattern m5_BadPattern "ValueError.__new__"))
    (rb_BadPattern : PySem.HandSPX.refsVE bm_BadPattern = true)
    (sa_BadPattern : PySem.W.findIn K (.ref A_BadPattern) "__setattr__" = some (some (.builtin "object.__setattr__")))
    (ex_BadPattern : PySem.W.subIn K (.ref A_BadPattern) (.type "BaseException") = some true)
    (ty_BadPattern : PySem.W.typeIn K (.ref A_BadPattern) = some (.type "type"))
    (kC_BadPattern : PySem.W.keepIn K (.ref A_BadPattern) = true)
    (hg_BadPattern : PySem.W.findIn K (.ref A_BadPattern) "__getattribute__" = some (some (.builtin "BaseException.__getattribute__")))
    (hk_BadPattern : PySem.W.findIn K (.ref A_BadPattern) "__getattr__" = some none)
    (hd_BadPattern : PySem.W.hasDictIn K A_BadPattern = true)
    (ha_BadPattern : PySem.W.findIn K (.ref A_BadPattern) "__class__" = some (some (.builtin "object.__class__")))
    (hm_BadPattern : PySem.W.mroIn K A_BadPattern (.type "object") = some true)
    (nf_BadPattern_at : PySem.W.findIn K (.ref A_BadPattern) "at" = some none)
    (iC_BadPattern : PySem.W.findIn K (.ref A_BadPattern) "__init__" = some (some (.ref fI_BadPattern)))
    (tI_BadPattern : PySem.W.typeIn K (.ref fI_BadPattern) = some (.type "function"))
    (lI_BadPattern : K.lookup fI_BadPattern = some ⟨oI_BadPattern, odI_BadPattern, .func (PySem.W.fnOf "__init__" "BadPattern.__init__" (defArgs s_init_BadPattern) (defBody s_init_BadPattern) (defScope s_init_BadPattern) .none kI0_BadPattern dI_BadPattern pI_BadPattern anI_BadPattern cdI_BadPattern ctI_BadPattern), slI_BadPattern⟩)
    (cI_BadPattern : PySem.W.codeIn K cdI_BadPattern "BadPattern.__init__" = true)
    (kF_BadPattern : PySem.W.keepIn K (.ref fI_BadPattern) = true)
    (hdD_MootError : PySem.W.hasDictIn K A_MootError = true)
    (tyD_MootError : PySem.W.typeIn K (.ref A_MootError) = some (.type "type"))
    (exD_MootError : PySem.W.subIn K (.ref A_MootError) (.type "BaseException") = some true)
    (su_BadPattern_MootError : PySem.W.subIn K (.ref A_BadPattern) (.ref A_MootError) = some true)
    (ki_BadPattern_LimitError : PySem.W.kitOne K (.ref A_BadPattern) (.ref A_LimitError) = some false)
    (ki_BadPattern_BadText : PySem.W.kitOne K (.ref A_BadPattern) (.ref A_BadText) = some false)
    (ki_BadPattern_BadRule : PySem.W.kitOne K (.ref A_BadPattern) (.ref A_BadRule) = some false)
    (ki_BadPattern_BadValue : PySem.W.kitOne K (.ref A_BadPattern) (.ref A_BadValue) = some false)
    (ki_BadPattern_BadMarks : PySem.W.kitOne K (.ref A_BadPattern) (.ref A_BadMarks) = some false)
    (ki_BadPattern_BadBook : PySem.W.kitOne K (.ref A_BadPattern) (.ref A_BadBook) = some false)
    (ki_BadPattern_BadWord : PySem.W.kitOne K (.ref A_BadPattern) (.ref A_BadWord) = some false)
    (ki_BadPattern_Fallen : PySem.W.kitOne K (.ref A_BadPattern) (.ref A_Fallen) = some false)
    (ki_BadPattern_BadPattern : PySem.W.kitOne K (.ref A_BadPattern) (.ref A_BadPattern) = some true)
    (ki_BadPattern_TextError : PySem.W.kitOne K (.ref A_BadPattern) (.ref A_TextError) = some true)
    (ki_BadPattern_ValueError : PySem.W.kitOne K (.ref A_BadPattern) (.type "ValueError") = some true) :
    ∃ fd : FuncData, (∀ (s : Shared) (v : Value), BindsTo s fd ⟨[v], []⟩ [("script", v)]) ∧ ∀ base : Heap, K.In base → base.Ns mainGlobals mg → FnOk l.prog w K mg base CX0 6 fa fd ["script"] (sp_law K) := by
  have e := hfa.symm.trans (PySem.W.mg_of X G a21)
  cases e
  have T : Tx mg := ⟨PySem.W.mg_none_of X G z_ValueError, PySem.W.mg_none_of X G z_abs, PySem.W.mg_none_of X G z_bool, PySem.W.mg_none_of X G z_enumerate, PySem.W.mg_none_of X G z_int, PySem.W.mg_none_of X G z_isinstance, PySem.W.mg_none_of X G z_len, PySem.W.mg_none_of X G z_list, PySem.W.mg_none_of X G z_max, PySem.W.mg_none_of X G z_min, PySem.W.mg_none_of X G z_range, PySem.W.mg_none_of X G z_str, PySem.W.mg_none_of X G z_tuple, ⟨_, PySem.W.mg_of X G v_MOST_ITEMS⟩, ⟨_, PySem.W.mg_of X G v_LONGEST_PATTERN⟩, ⟨_, PySem.W.mg_of X G v_GLOB_SIGNS⟩⟩
  refine ⟨PySem.W.fnOf "law" "law" (defArgs s_law) (defBody s_law) (defScope s_law) .none kV21 dc21 pm21 an21 cd21 ct21, fun s v => .of_eq rfl, fun base _ _ => ?_⟩
  have D_may_stand : Df K mg "may_stand" s_may_stand ["sign", "ahead", "commas", "place"] := ⟨f0, _, fun_mk (st := s_may_stand) l0 c0 k0, PySem.W.mg_of X G a0, (fun_mk (st := s_may_stand) l0 c0 k0).binds (ps := ["sign", "ahead", "commas", "place"]) fun _ _ _ _ _ _ us hl => match us, hl with | [_, _, _, _], _ => rfl⟩
  have D_wrong_place : Df K mg "wrong_place" s_wrong_place ["text"] := ⟨f1, _, fun_mk (st := s_wrong_place) l1 c1 k1, PySem.W.mg_of X G a1, (fun_mk (st := s_wrong_place) l1 c1 k1).binds (ps := ["text"]) fun _ _ _ _ _ _ us hl => match us, hl with | [_], _ => rfl⟩
  have D_items_of : Df K mg "items_of" s_items_of ["pattern"] := ⟨f2, _, fun_mk (st := s_items_of) l2 c2 k2, PySem.W.mg_of X G a2, (fun_mk (st := s_items_of) l2 c2 k2).binds (ps := ["pattern"]) fun _ _ _ _ _ _ us hl => match us, hl with | [_], _ => rfl⟩
  have D_read_pattern : Df K mg "read_pattern" s_read_pattern ["text"] := ⟨f3, _, fun_mk (st := s_read_pattern) l3 c3 k3, PySem.W.mg_of X G a3, (fun_mk (st := s_read_pattern) l3 c3 k3).binds (ps := ["text"]) fun _ _ _ _ _ _ us hl => match us, hl with | [_], _ => rfl⟩
  have D_write_pattern : Df K mg "write_pattern" s_write_pattern ["items"] := ⟨f4, _, fun_mk (st := s_write_pattern) l4 c4 k4, PySem.W.mg_of X G a4, (fun_mk (st := s_write_pattern) l4 c4 k4).binds (ps := ["items"]) fun _ _ _ _ _ _ us hl => match us, hl with | [_], _ => rfl⟩
  have D__law_mix : Df K mg "_law_mix" s__law_mix ["seed", "turn"] := ⟨f5, _, fun_mk (st := s__law_mix) l5 c5 k5, PySem.W.mg_of X G a5, (fun_mk (st := s__law_mix) l5 c5 k5).binds (ps := ["seed", "turn"]) fun _ _ _ _ _ _ us hl => match us, hl with | [_, _], _ => rfl⟩
  have D__law_source : Df K mg "_law_source" s__law_source ["script"] := ⟨f6, _, fun_mk (st := s__law_source) l6 c6 k6, PySem.W.mg_of X G a6, (fun_mk (st := s__law_source) l6 c6 k6).binds (ps := ["script"]) fun _ _ _ _ _ _ us hl => match us, hl with | [_], _ => rfl⟩
  have D__law_draw : Df K mg "_law_draw" s__law_draw ["source", "many"] := ⟨f7, _, fun_mk (st := s__law_draw) l7 c7 k7, PySem.W.mg_of X G a7, (fun_mk (st := s__law_draw) l7 c7 k7).binds (ps := ["source", "many"]) fun _ _ _ _ _ _ us hl => match us, hl with | [_, _], _ => rfl⟩
  have D__law_pick : Df K mg "_law_pick" s__law_pick ["source", "row"] := ⟨f8, _, fun_mk (st := s__law_pick) l8 c8 k8, PySem.W.mg_of X G a8, (fun_mk (st := s__law_pick) l8 c8 k8).binds (ps := ["source", "row"]) fun _ _ _ _ _ _ us hl => match us, hl with | [_, _], _ => rfl⟩
  have D__law_is_int : Df K mg "_law_is_int" s__law_is_int ["value"] := ⟨f9, _, fun_mk (st := s__law_is_int) l9 c9 k9, PySem.W.mg_of X G a9, (fun_mk (st := s__law_is_int) l9 c9 k9).binds (ps := ["value"]) fun _ _ _ _ _ _ us hl => match us, hl with | [_], _ => rfl⟩
  have D__law_same : Df K mg "_law_same" s__law_same ["actual", "due"] := ⟨f10, _, fun_mk (st := s__law_same) l10 c10 k10, PySem.W.mg_of X G a10, (fun_mk (st := s__law_same) l10 c10 k10).binds (ps := ["actual", "due"]) fun _ _ _ _ _ _ us hl => match us, hl with | [_, _], _ => rfl⟩
  have D__law_any_sign : Df K mg "_law_any_sign" s__law_any_sign ["source"] := ⟨f11, _, fun_mk (st := s__law_any_sign) l11 c11 k11, PySem.W.mg_of X G a11, (fun_mk (st := s__law_any_sign) l11 c11 k11).binds (ps := ["source"]) fun _ _ _ _ _ _ us hl => match us, hl with | [_], _ => rfl⟩
  have D__law_item : Df K mg "_law_item" s__law_item ["source"] := ⟨f12, _, fun_mk (st := s__law_item) l12 c12 k12, PySem.W.mg_of X G a12, (fun_mk (st := s__law_item) l12 c12 k12).binds (ps := ["source"]) fun _ _ _ _ _ _ us hl => match us, hl with | [_], _ => rfl⟩
  have D__law_text : Df K mg "_law_text" s__law_text ["source"] := ⟨f13, _, fun_mk (st := s__law_text) l13 c13 k13, PySem.W.mg_of X G a13, (fun_mk (st := s__law_text) l13 c13 k13).binds (ps := ["source"]) fun _ _ _ _ _ _ us hl => match us, hl with | [_], _ => rfl⟩
  have D__law_bent : Df K mg "_law_bent" s__law_bent ["source", "text"] := ⟨f14, _, fun_mk (st := s__law_bent) l14 c14 k14, PySem.W.mg_of X G a14, (fun_mk (st := s__law_bent) l14 c14 k14).binds (ps := ["source", "text"]) fun _ _ _ _ _ _ us hl => match us, hl with | [_, _], _ => rfl⟩
  have D__law_edge : Df K mg "_law_edge" s__law_edge ["source"] := ⟨f15, _, fun_mk (st := s__law_edge) l15 c15 k15, PySem.W.mg_of X G a15, (fun_mk (st := s__law_edge) l15 c15 k15).binds (ps := ["source"]) fun _ _ _ _ _ _ us hl => match us, hl with | [_], _ => rfl⟩
  have D__law_odd : Df K mg "_law_odd" s__law_odd ["source"] := ⟨f16, _, fun_mk (st := s__law_odd) l16 c16 k16, PySem.W.mg_of X G a16, (fun_mk (st := s__law_odd) l16 c16 k16).binds (ps := ["source"]) fun _ _ _ _ _ _ us hl => match us, hl with | [_], _ => rfl⟩
  have D__law_is_pattern : Df K mg "_law_is_pattern" s__law_is_pattern ["text"] := ⟨f17, _, fun_mk (st := s__law_is_pattern) l17 c17 k17, PySem.W.mg_of X G a17, (fun_mk (st := s__law_is_pattern) l17 c17 k17).binds (ps := ["text"]) fun _ _ _ _ _ _ us hl => match us, hl with | [_], _ => rfl⟩
  have D__law_sign_and_glob : Df K mg "_law_sign_and_glob" s__law_sign_and_glob ["item"] := ⟨f18, _, fun_mk (st := s__law_sign_and_glob) l18 c18 k18, PySem.W.mg_of X G a18, (fun_mk (st := s__law_sign_and_glob) l18 c18 k18).binds (ps := ["item"]) fun _ _ _ _ _ _ us hl => match us, hl with | [_], _ => rfl⟩
  have D__law_due : Df K mg "_law_due" s__law_due ["text"] := ⟨f19, _, fun_mk (st := s__law_due) l19 c19 k19, PySem.W.mg_of X G a19, (fun_mk (st := s__law_due) l19 c19 k19).binds (ps := ["text"]) fun _ _ _ _ _ _ us hl => match us, hl with | [_], _ => rfl⟩
  have D__law_asked : Df K mg "_law_asked" s__law_asked ["text"] := ⟨f20, _, fun_mk (st := s__law_asked) l20 c20 k20, PySem.W.mg_of X G a20, (fun_mk (st := s__law_asked) l20 c20 k20).binds (ps := ["text"]) fun _ _ _ _ _ _ us hl => match us, hl with | [_], _ => rfl⟩
  have Y : Tc K mg A_MootError A_TextError A_LimitError A_BadBook A_BadWord A_Fallen A_BadText A_BadPattern A_BadRule A_BadValue A_BadMarks := { g_MootError := PySem.W.mg_of X G aC_MootError, g_TextError := PySem.W.mg_of X G aC_TextError, g_LimitError := PySem.W.mg_of X G aC_LimitError, g_BadBook := PySem.W.mg_of X G aC_BadBook, g_BadWord := PySem.W.mg_of X G aC_BadWord, g_Fallen := PySem.W.mg_of X G aC_Fallen, g_BadText := PySem.W.mg_of X G aC_BadText, g_BadPattern := PySem.W.mg_of X G aC_BadPattern, g_BadRule := PySem.W.mg_of X G aC_BadRule, g_BadValue := PySem.W.mg_of X G aC_BadValue, g_BadMarks := PySem.W.mg_of X G aC_BadMarks, e_BadPattern := ⟨PySem.W.mg_of X G aC_BadPattern, ⟨⟨nm_BadPattern, q_BadPattern, N_BadPattern, bs_BadPattern, bm_BadPattern, sn_BadPattern, sub_BadPattern, ab_BadPattern, col_BadPattern, dd_BadPattern, m0_BadPattern, m1_BadPattern, m2_BadPattern, m3_BadPattern, m5_BadPattern, xL_BadPattern, rb_BadPattern⟩, sa_BadPattern, ex_BadPattern, ty_BadPattern, kC_BadPattern⟩, ⟨hg_BadPattern, hk_BadPattern, ex_BadPattern, hd_BadPattern, ha_BadPattern, hn_, ht_, hm_BadPattern⟩⟩, n_BadPattern_at := nf_BadPattern_at, i_BadPattern := ⟨fI_BadPattern, _, fun_mk (st := s_init_BadPattern) lI_BadPattern cI_BadPattern kF_BadPattern, iC_BadPattern, tI_BadPattern, (fun_mk (st := s_init_BadPattern) lI_BadPattern cI_BadPattern kF_BadPattern).binds (ps := ["self", "at"]) fun _ _ _ _ _ _ us hl => match us, hl with | [_, _], _ => rfl⟩, m_BadPattern_MootError := PySem.W.exm_ref exD_MootError hdD_MootError tyD_MootError su_BadPattern_MootError, k_BadPattern_LimitError := ki_BadPattern_LimitError, k_BadPattern_BadText := ki_BadPattern_BadText, k_BadPattern_BadRule := ki_BadPattern_BadRule, k_BadPattern_BadValue := ki_BadPattern_BadValue, k_BadPattern_BadMarks := ki_BadPattern_BadMarks, k_BadPattern_BadBook := ki_BadPattern_BadBook, k_BadPattern_BadWord := ki_BadPattern_BadWord, k_BadPattern_Fallen := ki_BadPattern_Fallen, k_BadPattern_BadPattern := ki_BadPattern_BadPattern, k_BadPattern_TextError := ki_BadPattern_TextError, k_BadPattern_ValueError := ki_BadPattern_ValueError }
  have C_items_of := ok_items_of (P := l.prog) (w := w) (base := base) D_items_of T 
  have C_may_stand := ok_may_stand (P := l.prog) (w := w) (base := base) D_may_stand T 
  have C_wrong_place := ok_wrong_place (P := l.prog) (w := w) (base := base) D_wrong_place T C_may_stand
  have C_read_pattern := ok_read_pattern (P := l.prog) (w := w) (base := base) D_read_pattern T Y C_items_of C_wrong_place
  have C__law_asked := ok__law_asked (P := l.prog) (w := w) (base := base) D__law_asked T Y C_read_pattern
  have C__law_mix := ok__law_mix (P := l.prog) (w := w) (base := base) D__law_mix T 
  have C__law_draw := ok__law_draw (P := l.prog) (w := w) (base := base) D__law_draw T C__law_mix
  have C__law_any_sign := ok__law_any_sign (P := l.prog) (w := w) (base := base) D__law_any_sign T C__law_draw
  have C__law_pick := ok__law_pick (P := l.prog) (w := w) (base := base) D__law_pick T C__law_draw
  have C__law_bent := ok__law_bent (P := l.prog) (w := w) (base := base) D__law_bent T C__law_any_sign C__law_draw C__law_pick
  have C__law_is_pattern := ok__law_is_pattern (P := l.prog) (w := w) (base := base) D__law_is_pattern T 
  have C__law_sign_and_glob := ok__law_sign_and_glob (P := l.prog) (w := w) (base := base) D__law_sign_and_glob T 
  have C__law_due := ok__law_due (P := l.prog) (w := w) (base := base) D__law_due T C__law_is_pattern C__law_sign_and_glob
  have C__law_item := ok__law_item (P := l.prog) (w := w) (base := base) D__law_item T C__law_draw
  have C__law_edge := ok__law_edge (P := l.prog) (w := w) (base := base) D__law_edge T C__law_item C__law_pick
  have C__law_odd := ok__law_odd (P := l.prog) (w := w) (base := base) D__law_odd T C__law_item C__law_pick
  have C__law_is_int := ok__law_is_int (P := l.prog) (w := w) (base := base) D__law_is_int T 
  have C__law_same := ok__law_same (P := l.prog) (w := w) (base := base) D__law_same T C__law_is_int 4
  have C__law_source := ok__law_source (P := l.prog) (w := w) (base := base) D__law_source T C__law_mix
  have C__law_text := ok__law_text (P := l.prog) (w := w) (base := base) D__law_text T C__law_draw C__law_item C__law_pick
  have C_write_pattern := ok_write_pattern (P := l.prog) (w := w) (base := base) D_write_pattern T 
  exact ok_law (fun_mk (st := s_law) l21 c21 k21) T C__law_asked C__law_bent C__law_due C__law_edge C__law_odd C__law_same C__law_source C__law_text C_write_pattern
theorem walk {l : PySem.W.OpenLaw} {q : Program} {loose : List Str} {XP : (Str → Option Value) → Heap → Prop} {YP : World → Heap → Prop} {d : DefRec} {K : Params → PySem.W.Frag} (hn : l.most = some 63) (hdf : d.params.defaults = [])
    (hY : ∀ (w : World) (h : Heap), YP w h → (K w.params).In h)
    (F : ∀ (w : World) (mg : Str → Option Value) (fa : Addr) (h : Heap), (K w.params).In h → h.Ns mainGlobals mg → mg d.name = some (.ref fa) →
      ∃ fd : FuncData, (∀ (s : Shared) (u : Value), BindsTo s fd ⟨[u], []⟩ [("script", u)]) ∧ ∀ base : Heap, (K w.params).In base → base.Ns mainGlobals mg → FnOk l.prog w (K w.params) mg base CX0 6 fa fd ["script"] (sp_law (K w.params))) :
    PySem.W.WalkO q loose XP YP l.row.toRowW d [] (fun f vs => PySem.call f vs) :=
  L2.walk_of (n := 63) (k := 6) (x := "script") (CX := fun _ => CX0) (sp := fun w => sp_law (K w.params)) hn (by decide) hdf ⟨rfl, by decide, by decide⟩ hY F (fun _ _ a ns hl _ hS => ⟨a, ns, rfl, hS, hl, fun _ => rfl⟩) fun _ _ _ _ _ z => z
end Z
open PySem PySem.W PyProof.Rows in
set_option maxRecDepth 100000 in
set_option maxHeartbeats 0 in
theorem PySem.Challenge.cw_criermoot_k13_patterns_read_holds : PySem.Challenge.rw_criermoot_k13_patterns_read.Holds := by
  w_on; o_law; k_head; (case hw => w_witness2)
  k_fill
  refine Z.walk (l := PySem.Challenge.rw_criermoot_k13_patterns_read) rfl rfl (fun w h Y => PySem.W.kIn_of Y) ?F
  case F =>
    intro w mg fa h KX G hmg
    refine' Z.all_mk KX G hmg ?a0 ?l0 ?c0 ?k0 ?a1 ?l1 ?c1 ?k1 ?a2 ?l2 ?c2 ?k2 ?a3 ?l3 ?c3 ?k3 ?a4 ?l4 ?c4 ?k4 ?a5 ?l5 ?c5 ?k5 ?a6 ?l6 ?c6 ?k6 ?a7 ?l7 ?c7 ?k7 ?a8 ?l8 ?c8 ?k8 ?a9 ?l9 ?c9 ?k9 ?a10 ?l10 ?c10 ?k10 ?a11 ?l11 ?c11 ?k11 ?a12 ?l12 ?c12 ?k12 ?a13 ?l13 ?c13 ?k13 ?a14 ?l14 ?c14 ?k14 ?a15 ?l15 ?c15 ?k15 ?a16 ?l16 ?c16 ?k16 ?a17 ?l17 ?c17 ?k17 ?a18 ?l18 ?c18 ?k18 ?a19 ?l19 ?c19 ?k19 ?a20 ?l20 ?c20 ?k20 ?a21 ?l21 ?c21 ?k21 ?z_ValueError ?z_abs ?z_bool ?z_enumerate ?z_int ?z_isinstance ?z_len ?z_list ?z_max ?z_min ?z_range ?z_str ?z_tuple ?v_MOST_ITEMS ?v_LONGEST_PATTERN ?v_GLOB_SIGNS ?aC_MootError ?aC_TextError ?aC_LimitError ?aC_BadBook ?aC_BadWord ?aC_Fallen ?aC_BadText ?aC_BadPattern ?aC_BadRule ?aC_BadValue ?aC_BadMarks ?hn_ ?ht_ ?xL_BadPattern ?rb_BadPattern ?sa_BadPattern ?ex_BadPattern ?ty_BadPattern ?kC_BadPattern ?hg_BadPattern ?hk_BadPattern ?hd_BadPattern ?ha_BadPattern ?hm_BadPattern ?nf_BadPattern_at ?iC_BadPattern ?tI_BadPattern ?lI_BadPattern ?cI_BadPattern ?kF_BadPattern ?hdD_MootError ?tyD_MootError ?exD_MootError ?su_BadPattern_MootError ?ki_BadPattern_LimitError ?ki_BadPattern_BadText ?ki_BadPattern_BadRule ?ki_BadPattern_BadValue ?ki_BadPattern_BadMarks ?ki_BadPattern_BadBook ?ki_BadPattern_BadWord ?ki_BadPattern_Fallen ?ki_BadPattern_BadPattern ?ki_BadPattern_TextError ?ki_BadPattern_ValueError
    (case a0 => k_is)
    (case l0 => k_is)
    (case c0 => k_is)
    (case k0 => k_is)
    (case a1 => k_is)
    (case l1 => k_is)
    (case c1 => k_is)
    (case k1 => k_is)
    (case a2 => k_is)
    (case l2 => k_is)
    (case c2 => k_is)
    (case k2 => k_is)
    (case a3 => k_is)
    (case l3 => k_is)
    (case c3 => k_is)
    (case k3 => k_is)
    (case a4 => k_is)
    (case l4 => k_is)
    (case c4 => k_is)
    (case k4 => k_is)
    (case a5 => k_is)
    (case l5 => k_is)
    (case c5 => k_is)
    (case k5 => k_is)
    (case a6 => k_is)
    (case l6 => k_is)
    (case c6 => k_is)
    (case k6 => k_is)
    (case a7 => k_is)
    (case l7 => k_is)
    (case c7 => k_is)
    (case k7 => k_is)
    (case a8 => k_is)
    (case l8 => k_is)
    (case c8 => k_is)
    (case k8 => k_is)
    (case a9 => k_is)
    (case l9 => k_is)
    (case c9 => k_is)
    (case k9 => k_is)
    (case a10 => k_is)
    (case l10 => k_is)
    (case c10 => k_is)
    (case k10 => k_is)
    (case a11 => k_is)
    (case l11 => k_is)
    (case c11 => k_is)
    (case k11 => k_is)
    (case a12 => k_is)
    (case l12 => k_is)
    (case c12 => k_is)
    (case k12 => k_is)
    (case a13 => k_is)
    (case l13 => k_is)
    (case c13 => k_is)
    (case k13 => k_is)
    (case a14 => k_is)
    (case l14 => k_is)
    (case c14 => k_is)
    (case k14 => k_is)
    (case a15 => k_is)
    (case l15 => k_is)
    (case c15 => k_is)
    (case k15 => k_is)
    (case a16 => k_is)
    (case l16 => k_is)
    (case c16 => k_is)
    (case k16 => k_is)
    (case a17 => k_is)
    (case l17 => k_is)
    (case c17 => k_is)
    (case k17 => k_is)
    (case a18 => k_is)
    (case l18 => k_is)
    (case c18 => k_is)
    (case k18 => k_is)
    (case a19 => k_is)
    (case l19 => k_is)
    (case c19 => k_is)
    (case k19 => k_is)
    (case a20 => k_is)
    (case l20 => k_is)
    (case c20 => k_is)
    (case k20 => k_is)
    (case a21 => k_is)
    (case l21 => k_is)
    (case c21 => k_is)
    (case k21 => k_is)
    (case z_ValueError => k_is)
    (case z_abs => k_is)
    (case z_bool => k_is)
    (case z_enumerate => k_is)
    (case z_int => k_is)
    (case z_isinstance => k_is)
    (case z_len => k_is)
    (case z_list => k_is)
    (case z_max => k_is)
    (case z_min => k_is)
    (case z_range => k_is)
    (case z_str => k_is)
    (case z_tuple => k_is)
    (case v_MOST_ITEMS => k_is)
    (case v_LONGEST_PATTERN => k_is)
    (case v_GLOB_SIGNS => k_is)
    (case aC_MootError => k_is)
    (case aC_TextError => k_is)
    (case aC_LimitError => k_is)
    (case aC_BadBook => k_is)
    (case aC_BadWord => k_is)
    (case aC_Fallen => k_is)
    (case aC_BadText => k_is)
    (case aC_BadPattern => k_is)
    (case aC_BadRule => k_is)
    (case aC_BadValue => k_is)
    (case aC_BadMarks => k_is)
    (case hn_ => k_is)
    (case ht_ => k_is)
    (case xL_BadPattern => k_is)
    (case rb_BadPattern => first | rfl | decide +kernel)
    (case sa_BadPattern => k_is)
    (case ex_BadPattern => k_is)
    (case ty_BadPattern => k_is)
    (case kC_BadPattern => k_is)
    (case hg_BadPattern => k_is)
    (case hk_BadPattern => k_is)
    (case hd_BadPattern => k_is)
    (case ha_BadPattern => k_is)
    (case hm_BadPattern => k_is)
    (case nf_BadPattern_at => k_is)
    (case iC_BadPattern => k_is)
    (case tI_BadPattern => k_is)
    (case lI_BadPattern => k_is)
    (case cI_BadPattern => k_is)
    (case kF_BadPattern => k_is)
    (case hdD_MootError => k_is)
    (case tyD_MootError => k_is)
    (case exD_MootError => k_is)
    (case su_BadPattern_MootError => k_is)
    (case ki_BadPattern_LimitError => kit_is)
    (case ki_BadPattern_BadText => kit_is)
    (case ki_BadPattern_BadRule => kit_is)
    (case ki_BadPattern_BadValue => kit_is)
    (case ki_BadPattern_BadMarks => kit_is)
    (case ki_BadPattern_BadBook => kit_is)
    (case ki_BadPattern_BadWord => kit_is)
    (case ki_BadPattern_Fallen => kit_is)
    (case ki_BadPattern_BadPattern => kit_is)
    (case ki_BadPattern_TextError => kit_is)
    (case ki_BadPattern_ValueError => kit_is)
