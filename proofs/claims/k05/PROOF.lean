import PyProof.Rows.All
import Wide.All
import OpenK.AllK
import Wide.FinOn
import HandS.Base
import HandS.Call
import HandS.List
import HandS.Comp
import HandS.Ends
import HandS.Dict
import HandS.Iter
import HandS.Text
import HandS.Words
import HandS.WordsList
import HandS.Conv
import HandS.Codes
import HandS.IsInst
import HandS.Replace
import HandS.StrMore
import HandS.TupAny
import HandS.WideBits
import PySem.Challenge.RW_criermoot_k05_marks
set_option Elab.async false
set_option linter.all false
set_option maxRecDepth 100000
namespace Z
open PySem L2

/-! ### heaps -/
/-- all that was tracked is as it was, but for what stands at s -/
def Ext (s : Addr) (H H' : Hp) : Prop := ∀ b o, b ≠ s → H b = some o → H' b = some o
theorem Ext.refl (s : Addr) (H : Hp) : Ext s H H := fun _ _ _ h => h
theorem Ext.trans {s : Addr} {H H1 H2 : Hp} (a : Ext s H H1) (b : Ext s H1 H2) : Ext s H H2 := fun c o n h => b c o n (a c o n h)
theorem Ext.of {s : Addr} {H H' : Hp} (a : Same H H') : Ext s H H' := fun c o _ h => a c o h
theorem Ext.new {s p : Addr} {H : Hp} {o : HO} (n : H p = none) : Ext s H (upd H p o) := fun b u _ h => by
  rw [upd_ne (ne_of_none h n)]; exact h
theorem Ext.put {s : Addr} {H : Hp} {o : HO} : Ext s H (upd H s o) := fun b u n h => by
  rw [upd_ne n]; exact h
theorem same_new {p : Addr} {H : Hp} {o : HO} (n : H p = none) : Same H (upd H p o) := fun b u h => by
  rw [upd_ne (ne_of_none h n)]; exact h
theorem Ext.seqT {K : PySem.W.Frag} {s a : Addr} {H H' : Hp} {xs ys : List V} (x : Ext s H H') (hs : H s = some (.lst ys)) (h : SqT K H a xs) : SqT K H' a xs := by
  rcases h with (h | ⟨o, h⟩) | h
  · exact .inl (.inl (x _ _ (fun e => by rw [e, hs] at h; cases h) h))
  · exact .inl (.inr ⟨o, x _ _ (fun e => by rw [e, hs] at h; cases h) h⟩)
  · exact .inr h
theorem Ext.seqL {K : PySem.W.Frag} {s a : Addr} {H H' : Hp} {xs : List V} (x : Ext s H H') (n : a ≠ s) (h : SqL K H a xs) : SqL K H' a xs := by
  rcases h with (h | ⟨o, h⟩) | h
  · exact .inl (.inl (x _ _ n h))
  · exact .inl (.inr ⟨o, x _ _ n h⟩)
  · exact .inr h

theorem and_nn {x : Int} (hx : 0 ≤ x) (k : Nat) : 0 ≤ Builtin.bitAnd x (1 * 2 ^ k - 1) := by
  rw [Int.one_mul, Bits.bitAnd_mask k hx]
  exact Int.emod_nonneg _ (Int.ne_of_gt (Int.pow_pos (by decide)))
/-! ### the source of draws -/
def Src (H : Hp) (s a : Addr) (c : Nat) : Prop := ∃ (ns : List Int) (i b e t : Int),
  H s = some (.lst [.ref a, .int i, .int b, .int e, .int t]) ∧ H a = some (.lst (ns.map V.int)) ∧ a ≠ s ∧ ns.length ≤ 63 ∧ 0 ≤ i ∧ i ≤ 63 ∧ 0 ≤ b ∧ 0 ≤ e ∧ e < 2147483647 ∧ 0 ≤ t ∧ t + c < 4000000000000000000
theorem Src.lst {H : Hp} {s a : Addr} {c : Nat} (h : Src H s a c) : ∃ xs, H s = some (.lst xs) := by
  obtain ⟨_, _, _, _, _, h, _⟩ := h; exact ⟨_, h⟩
theorem Src.mono {H : Hp} {s a : Addr} {c d : Nat} (h : Src H s a c) (l : d ≤ c) : Src H s a d := by
  obtain ⟨ns, i, b, e, t, h1, h2, h3, h4, h5, h6, h7, h8, h9, h10, h11⟩ := h
  exact ⟨ns, i, b, e, t, h1, h2, h3, h4, h5, h6, h7, h8, h9, h10, by omega⟩
theorem Src.ext {H H' : Hp} {s a : Addr} {c : Nat} (h : Src H s a c) (x : Same H H') : Src H' s a c := by
  obtain ⟨ns, i, b, e, t, h1, h2, h3⟩ := h
  exact ⟨ns, i, b, e, t, x _ _ h1, x _ _ h2, h3⟩
theorem Src.new {H : Hp} {s a p : Addr} {o : HO} {c : Nat} (h : Src H s a c) (n : H p = none) : Src (upd H p o) s a c := h.ext (same_new n)
theorem Src.ne {H : Hp} {s a p : Addr} {c : Nat} (h : Src H s a c) (n : H p = none) : p ≠ s := by
  obtain ⟨xs, e⟩ := h.lst
  exact (ne_of_none e n).symm
theorem Src.nea {H : Hp} {s a p : Addr} {c : Nat} (h : Src H s a c) (n : H p = none) : p ≠ a := by
  obtain ⟨ns, i, b, e, t, h1, h2, h3⟩ := h
  exact (ne_of_none h2 n).symm
theorem Src.put {H : Hp} {s a p : Addr} {o : HO} {c : Nat} (h : Src H s a c) (n : p ≠ s) (m : p ≠ a) : Src (upd H p o) s a c := by
  obtain ⟨ns, i, b, e', t, h1, h2, h3⟩ := h
  exact ⟨ns, i, b, e', t, by rw [upd_ne n.symm]; exact h1, by rw [upd_ne m.symm]; exact h2, h3⟩

/-! ### defs and their callers -/
section
variable (P : Program) (w : World) (K : PySem.W.Frag) (mg : Str → Option Value) (base : Heap)
/-- a def as callers use it -/
def Cal (x : Str) (ps : List Str) (k : Nat) (sp : Sp) : Prop := ∃ (f : Addr) (fd : FuncData), FnOk P w K mg base CX0 k f fd ps sp ∧ mg x = some (.ref f) ∧ PySem.W.keepIn K (.ref f) = true ∧ Binds K fd ps []
/-- a def as the top has left it -/
def Df (x : Str) (st : Stmt) (ps : List Str) : Prop := ∃ (f : Addr) (fd : FuncData), Fun K x x st f fd ∧ mg x = some (.ref f) ∧ Binds K fd ps []
end
theorem Cal.mono {P : Program} {w : World} {K : PySem.W.Frag} {mg : Str → Option Value} {base : Heap} {x : Str} {ps : List Str} {j k : Nat} {sp : Sp} (C : Cal P w K mg base x ps j sp) (h : j ≤ k) : Cal P w K mg base x ps k sp := by
  obtain ⟨f, fd, G, g, kp, b⟩ := C
  exact ⟨f, fd, G.mono h, g, kp, b⟩

/-! ### the promises of the drawing defs -/
def sp__law_mix : Sp := fun vs H Q _ => ∃ (x y : Int), vs = [.int x, .int y] ∧ 0 ≤ x ∧ x < 9000000000000000000 ∧ 0 ≤ y ∧ y < 9000000000000000000 ∧ ∀ v : Int, 0 ≤ v → v < 2147483647 → Q (.int v) H
def sp__law_source (K : PySem.W.Frag) : Sp := fun vs H Q _ => ∃ (a : Addr) (ns : List Int), vs = [.ref a] ∧ SqL K H a (ns.map V.int) ∧ ns.length ≤ 63 ∧ ∀ (s b : Addr) (H' : Hp), H s = none → Same H H' → Src H' s b 3000000000000000000 → Q (.ref s) H'
def sp__law_draw : Sp := fun vs H Q _ => ∃ (s a : Addr) (m : Int) (c : Nat), vs = [.ref s, .int m] ∧ 0 < m ∧ m < 1073741824 ∧ Src H s a (c + 1) ∧ ∀ (v : Int) (H' : Hp), 0 ≤ v → v < m → Ext s H H' → Src H' s a c → Q (.int v) H'

/-! ### data -/
inductive D where
  | non | bl (b : Bool) | int (i : Int) | str (x : Str) | tup (xs : List D)
mutual
def DV (K : PySem.W.Frag) (H : Hp) : D → V → Prop
  | .non, v => v = .non
  | .bl b, v => v = .bl b
  | .int i, v => v = .int i
  | .str x, v => v = .str x
  | .tup ds, v => ∃ a vs, v = .ref a ∧ SqT K H a vs ∧ DVs K H ds vs
def DVs (K : PySem.W.Frag) (H : Hp) : List D → List V → Prop
  | [], vs => vs = []
  | d :: ds, vs => ∃ v r, vs = v :: r ∧ DV K H d v ∧ DVs K H ds r
end
mutual
theorem DV.ext {K : PySem.W.Frag} {H H' : Hp} (x : ∀ a xs, SqT K H a xs → SqT K H' a xs) : ∀ {d : D} {v : V}, DV K H d v → DV K H' d v
  | .non, _, h => by unfold DV at *; exact h
  | .bl _, _, h => by unfold DV at *; exact h
  | .int _, _, h => by unfold DV at *; exact h
  | .str _, _, h => by unfold DV at *; exact h
  | .tup ds, v, h => by
    unfold DV at *
    obtain ⟨a, vs, e, q, r⟩ := h
    exact ⟨a, vs, e, x _ _ q, DVs.ext x r⟩
theorem DVs.ext {K : PySem.W.Frag} {H H' : Hp} (x : ∀ a xs, SqT K H a xs → SqT K H' a xs) : ∀ {ds : List D} {vs : List V}, DVs K H ds vs → DVs K H' ds vs
  | [], _, h => by unfold DVs at *; exact h
  | d :: ds, vs, h => by
    unfold DVs at *
    obtain ⟨v, r, e, q, t⟩ := h
    exact ⟨v, r, e, DV.ext x q, DVs.ext x t⟩
end
theorem DVs.len {K : PySem.W.Frag} {H : Hp} : ∀ {ds : List D} {vs : List V}, DVs K H ds vs → vs.length = ds.length
  | [], _, h => by unfold DVs at h; subst h; rfl
  | d :: ds, vs, h => by
    unfold DVs at h
    obtain ⟨v, r, e, q, t⟩ := h
    rw [e, List.length_cons, List.length_cons, DVs.len t]
theorem DVs.get {K : PySem.W.Frag} {H : Hp} : ∀ {ds : List D} {vs : List V} {i : Nat} {d : D}, DVs K H ds vs → ds[i]? = some d → ∃ v, vs[i]? = some v ∧ DV K H d v
  | [], _, i, d, h, e => by simp at e
  | x :: ds, vs, i, d, h, e => by
    unfold DVs at h
    obtain ⟨v, r, e1, q, t⟩ := h
    subst e1
    cases i with
    | zero =>
      have : x = d := by simpa using e
      subst this
      exact ⟨v, rfl, q⟩
    | succ i => exact DVs.get (i := i) t (by simpa using e)
theorem DVs.strs {K : PySem.W.Frag} {H : Hp} : ∀ (xs : List Str), DVs K H (xs.map D.str) (xs.map V.str)
  | [] => by unfold DVs; rfl
  | x :: xs => by
    unfold DVs
    exact ⟨_, _, rfl, by unfold DV; rfl, DVs.strs xs⟩
theorem DVs.ints {K : PySem.W.Frag} {H : Hp} : ∀ (xs : List Int), DVs K H (xs.map D.int) (xs.map V.int)
  | [] => by unfold DVs; rfl
  | x :: xs => by
    unfold DVs
    exact ⟨_, _, rfl, by unfold DV; rfl, DVs.ints xs⟩
/-- tuples lie within fewer than n others -/
def DL : Nat → D → Prop
  | 0, _ => False
  | n + 1, .tup xs => xs.length ≤ 1000000 ∧ ∀ x ∈ xs, DL n x
  | _ + 1, _ => True
theorem TyX.ofT {K : PySem.W.Frag} {H : Hp} {a : Addr} {xs : List V} (h : SqT K H a xs) : TyX K H (.ref a) (.type "tuple") := by
  rcases h with (h | ⟨o, h⟩) | ⟨o, _, _, e, c, _⟩
  · exact .base (.tup h)
  · exact .fTuple h
  · exact .kTuple e c
def sp__law_is_int (K : PySem.W.Frag) : Sp := fun vs H Q _ => ∃ i : Int, vs = [.int i] ∧ Q (.bl true) H
/-- of two values with the same data it tells True -/
def sp__law_same (K : PySem.W.Frag) (n : Nat) : Sp := fun vs H Q _ => ∃ (d : D) (v u : V), vs = [v, u] ∧ DV K H d v ∧ DV K H d u ∧ DL n d ∧ Q (.bl true) H

/-! ### texts by their signs -/
open SX (S S_cat S_len S_inj)
theorem S_lst (l : List Nat) : (S l).cps.toList = l := rfl
theorem S_of (x : Str) : x = S x.cps.toList := (SX.S_tl x).symm
theorem S_app (a b : List Nat) : S a ++ S b = S (a ++ b) := S_cat a b
/-- a for over the signs of a text -/
theorem for_str {l : List Nat} {g : TG} {tb : TS} {D : Ends} {σ : St} {H : Hp} (Pv : Nat → St → Hp → Prop) (h0 : Pv 0 σ H)
    (hs : ∀ i c σ H, l[i]? = some c → Pv i σ H → g (.str (S [c])) σ H fun σ2 H2 => tb { D with nx := Pv (i + 1), ct := Pv (i + 1), bk := D.nx } σ2 H2) (hd : ∀ σ H, Pv l.length σ H → D.nx σ H) :
    ∃ W : Nat → Nat → St → Hp → Prop, (∃ m, W 0 m σ H) ∧ ∀ i m σ H, W i m σ H →
      ((Its (S l)).stop i H ∧ D.nx σ H) ∨ ((Its (S l)).go i H ∧ ∃ N : St → Hp → Prop, (∀ σ' H', N σ' H' → ∃ m', m' < m ∧ W (i + 1) m' σ' H') ∧ ∀ x H', (Its (S l)).yld i H x H' → g x σ H' fun σ2 H2 => tb { D with nx := N, ct := N, bk := D.nx } σ2 H2) := by
  refine ⟨fun i m σ H => m = l.length - i ∧ i ≤ l.length ∧ Pv i σ H, ⟨l.length, by simp, Nat.zero_le _, h0⟩, ?_⟩
  rintro i m σ H ⟨rfl, hi, p⟩
  by_cases hlt : i < l.length
  · refine .inr ⟨by show i < l.toArray.size; simpa using hlt, Pv (i + 1), fun σ' H' p' => ⟨l.length - (i + 1), by omega, rfl, hlt, p'⟩, fun x H' y => ?_⟩
    obtain ⟨e, c, hc, y⟩ := y
    subst e y
    exact hs i c σ _ (by simpa using hc) p
  · have e : i = l.length := by omega
    subst e
    exact .inl ⟨by show l.toArray.size ≤ l.length; simp, hd σ H p⟩
/-- a comprehension over the signs of a text -/
theorem lc_str {l : List Nat} {g : TG} {tt : TT} {te : TE} {vs : List Nat} {σ : St} {H1 : Hp} {D : Addr} {Qd : Hp → Prop} (Pv : Nat → Hp → Prop) (h0 : Pv 0 (upd H1 D (.lst [])))
    (hs : ∀ i c H, l[i]? = some c → Pv i H → g (.str (S [c])) (wipe σ vs) H fun σ2 H2 => wipe σ2 vs = wipe σ vs ∧ tt σ2 H2 fun b H3 =>
      if b = true then te σ2 H3 fun y H4 => ∃ acc, H4 D = some (.lst acc) ∧ acc.length < sizeLine ∧ Pv (i + 1) (upd H4 D (.lst (acc ++ [y]))) else Pv (i + 1) H3) (hd : ∀ H, Pv l.length H → Qd H) :
    ∃ W : Nat → Nat → Hp → Prop, (∃ m, W 0 m (upd H1 D (.lst []))) ∧ ∀ i m H, W i m H →
      ((Its (S l)).stop i H ∧ Qd H) ∨ ((Its (S l)).go i H ∧ ∃ Nx : Hp → Prop, (∀ H', Nx H' → ∃ m', m' < m ∧ W (i + 1) m' H') ∧ ∀ x H', (Its (S l)).yld i H x H' → g x (wipe σ vs) H' fun σ2 H2 => wipe σ2 vs = wipe σ vs ∧ tt σ2 H2 fun b H3 =>
        if b = true then te σ2 H3 fun y H4 => ∃ acc, H4 D = some (.lst acc) ∧ acc.length < sizeLine ∧ Nx (upd H4 D (.lst (acc ++ [y]))) else Nx H3) := by
  refine ⟨fun i m H => m = l.length - i ∧ i ≤ l.length ∧ Pv i H, ⟨l.length, by simp, Nat.zero_le _, h0⟩, ?_⟩
  rintro i m H ⟨rfl, hi, p⟩
  by_cases hlt : i < l.length
  · refine .inr ⟨by show i < l.toArray.size; simpa using hlt, Pv (i + 1), fun H' p' => ⟨l.length - (i + 1), by omega, rfl, hlt, p'⟩, fun x H' y => ?_⟩
    obtain ⟨e, c, hc, y⟩ := y
    subst e y
    exact hs i c _ (by simpa using hc) p
  · have e : i = l.length := by omega
    subst e
    exact .inl ⟨by show l.toArray.size ≤ l.length; simp, hd H p⟩
/-- signs of rows -/
def Asc (l : List Nat) : Prop := ∀ x ∈ l, 32 ≤ x ∧ x ≤ 126
theorem Asc.nil : Asc [] := fun _ h => nomatch h
theorem Asc.app {a b : List Nat} (x : Asc a) (y : Asc b) : Asc (a ++ b) := fun c h => (List.mem_append.mp h).elim (x c) (y c)
theorem Asc.by_ {l : List Nat} (h : l.all (fun x => decide (32 ≤ x) && decide (x ≤ 126)) = true) : Asc l := fun x m => by
  have := List.all_eq_true.mp h x m
  simp at this
  exact this
theorem Asc.all128 {l : List Nat} (h : Asc l) : l.all (· < 128) = true := List.all_eq_true.mpr fun x m => decide_eq_true (by have := h x m; omega)
theorem joinNil : ∀ ls : List (List Nat), TL.joinL [] ls = ls.flatten
  | [] => rfl
  | [x] => by simp [TL.joinL]
  | x :: y :: r => by
    have := joinNil (y :: r)
    simp only [TL.joinL] at *
    rw [List.flatten_cons, ← this]
    simp [TL.joinL]
theorem join_nil (ls : List (List Nat)) : Txt.join (S []) (ls.map S) = S ls.flatten := by
  rw [SX.join_S, joinNil]

/-! ### texts, further -/
abbrev tl (x : Str) : List Nat := x.cps.toList
theorem tl_S (l : List Nat) : tl (S l) = l := rfl
theorem S_tl (x : Str) : S (tl x) = x := rfl
theorem tl_app (x y : Str) : tl (x ++ y) = tl x ++ tl y := TL.tl_append x y
theorem tl_len (x : Str) : x.length = (tl x).length := by show x.cps.size = x.cps.toList.length; simp
theorem tl_ext {x y : Str} (h : tl x = tl y) : x = y := TL.ext_tl h
theorem at_str {x : Str} {i : Int} (h0 : 0 ≤ i) (h1 : i < (x.length : Int)) : ∃ c, x.cps[i.toNat]? = some c ∧ (tl x)[i.toNat]? = some c ∧ c ∈ tl x := by
  have h : i.toNat < (tl x).length := by rw [← tl_len]; omega
  refine ⟨(tl x)[i.toNat], ?_, List.getElem?_eq_getElem h, List.getElem_mem h⟩
  have := List.getElem?_eq_getElem h
  rw [← this]; simp [tl]
/-- small letters and digits -/
def Low (l : List Nat) : Prop := ∀ x ∈ l, (97 ≤ x ∧ x ≤ 122) ∨ (48 ≤ x ∧ x ≤ 57)
theorem Low.nil : Low [] := fun _ h => nomatch h
theorem Low.app {a b : List Nat} (x : Low a) (y : Low b) : Low (a ++ b) := fun c h => (List.mem_append.mp h).elim (x c) (y c)
theorem Low.asc {a : List Nat} (x : Low a) : Asc a := fun c h => by have := x c h; omega
theorem low_num (n : Nat) : Low (TL.numL n) := fun c h => .inr (by have := TL.numL_digits n c h; omega)
theorem num_len : ∀ n : Nat, (TL.numL n).length ≤ n + 1 := fun n => by
  induction n using Nat.strongRecOn with
  | ind n ih =>
    by_cases h : n < 10
    · rw [TL.numL_lt h]; simp
    · rw [TL.numL_step (by omega), List.length_append]
      have := ih (n / 10) (by omega)
      simp; omega
/-- a name: a letter, then letters and digits -/
def Nm (l : List Nat) : Prop := (∃ c r, l = c :: r ∧ 97 ≤ c ∧ c ≤ 122) ∧ Low l
theorem Nm.app {a b : List Nat} (x : Nm a) (y : Low b) : Nm (a ++ b) := by
  obtain ⟨⟨c, r, e, h⟩, l⟩ := x
  exact ⟨⟨c, r ++ b, by rw [e]; rfl, h⟩, l.app y⟩
theorem flat_strs (xs : List Str) : (xs.map V.str).all flatV = true := List.all_eq_true.mpr fun x h => by
  obtain ⟨y, _, rfl⟩ := List.mem_map.mp h; rfl
theorem inV_strs (x : Str) (xs : List Str) : inV (V.str x) (xs.map V.str) = decide (x ∈ xs) := by
  unfold inV
  induction xs with
  | nil => rfl
  | cons y ys ih =>
    rw [List.map_cons, List.any_cons, ih]
    by_cases e : x = y
    · subst e; simp [eqV]
    · have : ¬ y = x := fun h => e h.symm
      simp [eqV, e, this]
def sp__law_new_name (K : PySem.W.Frag) : Sp := fun vs H Q _ => ∃ (s a u : Addr) (us : List Str) (c : Nat), vs = [.ref s, .ref u] ∧ SqL K H u (us.map V.str) ∧ u ≠ s ∧ us.length ≤ 60 ∧ Src H s a (c + 8) ∧
  ∀ (x : Str) (H' : Hp), Nm (tl x) → (tl x).length ≤ 70 → Ext s H H' → Src H' s a c → Q (.str x) H'
def sp__law_names (K : PySem.W.Frag) : Sp := fun vs H Q _ => ∃ (s a : Addr) (m c : Nat), vs = [.ref s, .int m] ∧ m ≤ 60 ∧ Src H s a (c + 8 * m) ∧
  ∀ (u : Addr) (us : List Str) (H' : Hp), H u = none → H' u = some (.lst (us.map V.str)) → us.length = m → (∀ x ∈ us, Nm (tl x) ∧ (tl x).length ≤ 70) → Ext s H H' → Src H' s a c → Q (.ref u) H'
def sp__law_row : Sp := fun vs H Q _ => ∃ (s a : Addr) (m : Int) (c : Nat), vs = [.ref s, .int m] ∧ 0 ≤ m ∧ m ≤ 1000 ∧ Src H s a (c + m.toNat) ∧
  ∀ (x : Str) (H' : Hp), Asc (tl x) → (tl x).length = m.toNat → Ext s H H' → Src H' s a c → Q (.str x) H'

/-! ### rules that name the written part themselves (for the blocks of comprehensions) -/
section
variable {X : Cx} {K : PySem.W.Frag}
/-- len of a text -/
theorem call_lenS : CallR X (.builtin "len") (fun xs H Q => ∃ x : Str, xs = [.str x] ∧ x.length ≤ sizeLine ∧ Q (.int x.length) H) := by
  intro pins s σ H xs us Q I r h
  obtain ⟨x, e, hl, q⟩ := h
  exact call_len pins s σ H xs us Q I r ⟨.str x, x.length, e, ⟨hl, rfl⟩, q⟩
theorem call_lenQ (h : X.K = K) : CallR X (.builtin "len") (fun xs H Q => ∃ p ys, xs = [.ref p] ∧ (SqL K H p ys ∨ SqT K H p ys) ∧ Q (.int ys.length) H) := by
  subst h; exact call_len_seq
theorem ix_listQ (h : X.K = K) : IxR X (rIxL K) := by subst h; exact ix_list
theorem ix_tupQ (h : X.K = K) : IxR X (rIxT K) := by subst h; exact ix_tup
theorem in_seqQ (h : X.K = K) : OpR X (compareOp .In) (rIn K false) := by subst h; exact op_in_seq
theorem notIn_seqQ (h : X.K = K) : OpR X (compareOp .NotIn) (rIn K true) := by subst h; exact op_notIn_seq
theorem isiQ (h : X.K = K) : CallR X (.builtin "isinstance") (rIsi K) := by subst h; exact call_isi
end

/-- texts of one sign each -/
def Ones (p : Nat → Prop) (xs : List Str) : Prop := ∀ x ∈ xs, ∃ c, tl x = [c] ∧ p c
theorem Ones.tail {p : Nat → Prop} {x : Str} {xs : List Str} (h : Ones p (x :: xs)) : Ones p xs := fun y m => h y (List.mem_cons_of_mem _ m)
theorem ones_len {p : Nat → Prop} : ∀ {xs : List Str}, (∀ x ∈ xs, ∃ c, tl x = [c] ∧ p c) → (xs.map (·.length)).sum = xs.length
  | [], _ => rfl
  | x :: xs, h => by
    obtain ⟨c, e, _⟩ := h x List.mem_cons_self
    have : x.length = 1 := by rw [tl_len, e]; rfl
    rw [List.map_cons, List.sum_cons, ones_len (Ones.tail h), List.length_cons, this]
    omega
/-- their only signs -/
def heads (xs : List Str) : List Nat := xs.map fun x => (tl x).headD 0
theorem tl_join0 (xs : List Str) : tl (Txt.join (S []) xs) = (xs.map tl).flatten := by
  have e : xs = (xs.map tl).map S := by rw [List.map_map]; exact (List.map_id _).symm
  have h := join_nil (xs.map tl)
  rw [← e] at h
  show tl (Txt.join (S []) xs) = _
  rw [h]
theorem ones_join {p : Nat → Prop} {xs : List Str} (h : ∀ x ∈ xs, ∃ c, tl x = [c] ∧ p c) : tl (Txt.join (S []) xs) = heads xs := by
  rw [tl_join0]
  induction xs with
  | nil => rfl
  | cons x xs ih =>
    obtain ⟨c, e, _⟩ := h x List.mem_cons_self
    rw [List.map_cons, List.flatten_cons, ih (Ones.tail h), e]
    show c :: heads xs = (tl x).headD 0 :: heads xs
    rw [e]; rfl
theorem ones_all {p : Nat → Prop} {xs : List Str} (h : ∀ x ∈ xs, ∃ c, tl x = [c] ∧ p c) : ∀ c ∈ heads xs, p c := fun c m => by
  obtain ⟨x, hx, e⟩ := List.mem_map.mp m
  obtain ⟨d, e2, hd⟩ := h x hx
  rw [e2] at e
  have : d = c := e
  rw [← this]; exact hd
theorem str0 : Str.ofString "" = S [] := rfl
theorem ones_room {p : Nat → Prop} {xs : List Str} (h : ∀ x ∈ xs, ∃ c, tl x = [c] ∧ p c) : (xs.map (·.length)).sum + xs.length * (Str.ofString "").length = xs.length := by
  rw [ones_len h]; show xs.length + xs.length * 0 = xs.length; omega
theorem ones_joinE {p : Nat → Prop} {xs : List Str} (h : ∀ x ∈ xs, ∃ c, tl x = [c] ∧ p c) : tl (Txt.join (Str.ofString "") xs) = heads xs := ones_join h
theorem ones_asc {xs : List Str} (h : ∀ x ∈ xs, ∃ c, tl x = [c] ∧ 32 ≤ c ∧ c ≤ 126) : Asc (heads xs) := fun c m => ones_all (p := fun c => 32 ≤ c ∧ c ≤ 126) h c m
theorem heads_len (xs : List Str) : (heads xs).length = xs.length := List.length_map _

theorem alpha_mem {c : Nat} (h : c ∈ tl (Str.ofString "abcdefghijklmnopqrstuvwxyz")) : 97 ≤ c ∧ c ≤ 122 := by
  have : (tl (Str.ofString "abcdefghijklmnopqrstuvwxyz")).all (fun c => decide (97 ≤ c) && decide (c ≤ 122)) = true := by decide +kernel
  have := List.all_eq_true.mp this c h
  simp at this; exact this
theorem low_mem {c : Nat} (h : c ∈ tl (Str.ofString "abcdefghijklmnopqrstuvwxyz" ++ Str.ofString "0123456789")) : (97 ≤ c ∧ c ≤ 122) ∨ (48 ≤ c ∧ c ≤ 57) := by
  rw [tl_app] at h
  have : (tl (Str.ofString "abcdefghijklmnopqrstuvwxyz") ++ tl (Str.ofString "0123456789")).all (fun c => (decide (97 ≤ c) && decide (c ≤ 122)) || (decide (48 ≤ c) && decide (c ≤ 57))) = true := by decide +kernel
  have := List.all_eq_true.mp this c h
  simp at this; exact this

theorem log_small {i : Nat} (h : i ≤ 1000000) : (Int.natAbs (0 + (i : Int))).log2 < 1920 := by
  rw [Int.zero_add, Int.natAbs_natCast]
  by_cases e : i = 0
  · subst e; decide
  · rw [Nat.log2_lt e]
    exact Nat.lt_of_le_of_lt h (Nat.lt_of_lt_of_le (by decide : 1000000 < 2 ^ 20) (Nat.pow_le_pow_right (by decide) (by decide)))

theorem fold_take {α β : Type} {f : β → α → β} {a : β} {l : List α} {i : Nat} {c : α} (h : l[i]? = some c) : (l.take (i + 1)).foldl f a = f ((l.take i).foldl f a) c := by
  rw [List.take_add_one, h, List.foldl_append]
  rfl
theorem fold_all {α β : Type} {f : β → α → β} {a : β} {l : List α} : (l.take l.length).foldl f a = l.foldl f a := by rw [List.take_length]
theorem in_abc {c : Nat} : decide (c ∈ (Str.ofString "abcdefghijklmnopqrstuvwxyz").cps.toList) = (decide (97 ≤ c) && decide (c ≤ 122)) := by
  have e : (Str.ofString "abcdefghijklmnopqrstuvwxyz").cps.toList = List.range' 97 26 := by decide +kernel
  rw [e, Bool.eq_iff_iff, decide_eq_true_iff, List.mem_range'_1]
  simp only [Bool.and_eq_true, decide_eq_true_eq]
  omega
theorem in_ABC {c : Nat} : decide (c ∈ (Str.ofString "ABCDEFGHIJKLMNOPQRSTUVWXYZ").cps.toList) = (decide (65 ≤ c) && decide (c ≤ 90)) := by
  have e : (Str.ofString "ABCDEFGHIJKLMNOPQRSTUVWXYZ").cps.toList = List.range' 65 26 := by decide +kernel
  rw [e, Bool.eq_iff_iff, decide_eq_true_iff, List.mem_range'_1]
  simp only [Bool.and_eq_true, decide_eq_true_eq]
  omega
theorem in_012 {c : Nat} : decide (c ∈ (Str.ofString "0123456789").cps.toList) = (decide (48 ≤ c) && decide (c ≤ 57)) := by
  have e : (Str.ofString "0123456789").cps.toList = List.range' 48 10 := by decide +kernel
  rw [e, Bool.eq_iff_iff, decide_eq_true_iff, List.mem_range'_1]
  simp only [Bool.and_eq_true, decide_eq_true_eq]
  omega
theorem in_abc012 {c : Nat} : decide (c ∈ (Str.ofString "abcdefghijklmnopqrstuvwxyz0123456789").cps.toList) = ((decide (97 ≤ c) && decide (c ≤ 122)) || (decide (48 ≤ c) && decide (c ≤ 57))) := by
  have e : (Str.ofString "abcdefghijklmnopqrstuvwxyz0123456789").cps.toList = List.range' 97 26 ++ List.range' 48 10 := by decide +kernel
  rw [e, Bool.eq_iff_iff, decide_eq_true_iff, List.mem_append, List.mem_range'_1, List.mem_range'_1]
  simp only [Bool.and_eq_true, Bool.or_eq_true, decide_eq_true_eq]
  omega
/-- literal texts -/
theorem tl_mapS (ws : List Str) : (ws.map tl).map S = ws := by rw [List.map_map]; exact List.map_id _

theorem strs_at (zs : List Str) {v : Int} (h0 : 0 ≤ v) (h1 : v < (zs.length : Int)) : ∃ z, z ∈ zs ∧ atI (zs.map V.str) v = some (.str z) := by
  have h : v.toNat < zs.length := by omega
  exact ⟨zs[v.toNat], List.getElem_mem h, at_of (j := v.toNat) (by omega) (by rw [List.getElem?_map, List.getElem?_eq_getElem h]; rfl)⟩
theorem tl_upper {x : Str} (h : Asc (tl x)) : tl (Txt.upper x) = (tl x).map PyProof.Rows.up1 := congrArg tl (SX.upper_S (a := tl x) h.all128)
theorem asc_upper {x : Str} (h : Asc (tl x)) : Asc (tl (Txt.upper x)) := by
  rw [tl_upper h]
  intro c hc
  obtain ⟨d, hd, e⟩ := List.mem_map.mp hc
  have := h d hd
  unfold PyProof.Rows.up1 at e
  split at e <;> omega
theorem len_upper {x : Str} (h : Asc (tl x)) : (tl (Txt.upper x)).length = (tl x).length := by rw [tl_upper h, List.length_map]
theorem DL.strs {n : Nat} (xs : List Str) (h : xs.length ≤ 1000000) : DL (n + 2) (.tup (xs.map D.str)) := ⟨by rw [List.length_map]; exact h, fun d m => by obtain ⟨x, _, rfl⟩ := List.mem_map.mp m; exact True.intro⟩
theorem DV.strs {K : PySem.W.Frag} {H : Hp} {p : Addr} {xs : List Str} (h : H p = some (.tup (xs.map V.str))) : DV K H (.tup (xs.map D.str)) (.ref p) := by
  unfold DV
  exact ⟨p, _, rfl, SqT.of h, DVs.strs xs⟩
def sp_law (K : PySem.W.Frag) : Sp := fun vs H Q _ => ∃ (a : Addr) (ns : List Int), vs = [.ref a] ∧ SqL K H a (ns.map V.int) ∧ ns.length ≤ 63 ∧ ∀ H', Q (.bl true) H'
end Z
namespace Z
open PySem L2 SX
/-! ### cuts -/
theorem sIx_pos {n d : Nat} {i : Int} (h : 0 ≤ i) : HT.sIx n d (some i) = min i.toNat n := by
  obtain ⟨k, rfl⟩ := Int.eq_ofNat_of_zero_le h
  rw [HT.sIx_nat]; rfl
theorem cutS_to {z : Str} {i : Int} (h : 0 ≤ i) : tl (cutS z none (some i)) = (tl z).take i.toNat := by
  show ((tl z).drop 0).take (HT.sIx z.length z.length (some i) - 0) = _
  rw [sIx_pos h, List.drop_zero, Nat.sub_zero, tl_len]
  by_cases e : i.toNat ≤ (tl z).length
  · rw [Nat.min_eq_left e]
  · rw [Nat.min_eq_right (by omega), List.take_length, List.take_of_length_le (by omega)]
theorem cutS_from {z : Str} {i : Int} (h : 0 ≤ i) : tl (cutS z (some i) none) = (tl z).drop i.toNat := by
  show ((tl z).drop (HT.sIx z.length 0 (some i))).take (z.length - HT.sIx z.length 0 (some i)) = _
  rw [sIx_pos h, tl_len]
  by_cases e : i.toNat ≤ (tl z).length
  · rw [Nat.min_eq_left e, List.take_of_length_le (by rw [List.length_drop]; omega)]
  · rw [Nat.min_eq_right (by omega), List.drop_of_length_le (l := tl z) (i := i.toNat) (by omega), List.drop_of_length_le (Nat.le_refl _), List.take_nil]
theorem cutS_mid {z : Str} {i j : Int} (h : 0 ≤ i) (h2 : 0 ≤ j) : tl (cutS z (some i) (some j)) = ((tl z).drop i.toNat).take (j.toNat - i.toNat) := by
  show ((tl z).drop (HT.sIx z.length 0 (some i))).take (HT.sIx z.length z.length (some j) - HT.sIx z.length 0 (some i)) = _
  rw [sIx_pos h, sIx_pos h2, tl_len]
  by_cases e : i.toNat ≤ (tl z).length
  · rw [Nat.min_eq_left e]
    by_cases f : j.toNat ≤ (tl z).length
    · rw [Nat.min_eq_left f]
    · rw [Nat.min_eq_right (by omega), List.take_of_length_le (by rw [List.length_drop]; omega), List.take_of_length_le (by rw [List.length_drop]; omega)]
  · rw [Nat.min_eq_right (a := i.toNat) (by omega), List.drop_of_length_le (Nat.le_refl _), List.drop_of_length_le (l := tl z) (i := i.toNat) (by omega)]; simp
theorem cutV_to {xs : List V} {i : Int} (h : 0 ≤ i) : cutV xs none (some i) = xs.take i.toNat := by
  show ((xs.drop 0).take (HT.sIx xs.length xs.length (some i) - 0)) = _
  rw [sIx_pos h, List.drop_zero, Nat.sub_zero]
  by_cases e : i.toNat ≤ xs.length
  · rw [Nat.min_eq_left e]
  · rw [Nat.min_eq_right (by omega), List.take_length, List.take_of_length_le (by omega)]
theorem cutV_from {xs : List V} {i : Int} (h : 0 ≤ i) : cutV xs (some i) none = xs.drop i.toNat := by
  show ((xs.drop (HT.sIx xs.length 0 (some i))).take (xs.length - HT.sIx xs.length 0 (some i))) = _
  rw [sIx_pos h]
  by_cases e : i.toNat ≤ xs.length
  · rw [Nat.min_eq_left e, List.take_of_length_le (by rw [List.length_drop]; omega)]
  · rw [Nat.min_eq_right (by omega), List.drop_of_length_le (l := xs) (i := i.toNat) (by omega), List.drop_of_length_le (Nat.le_refl _), List.take_nil]
/-- the text k times -/
def rep (k : Nat) (l : List Nat) : List Nat := (List.replicate k l).flatten
theorem rep_fold (x : Array Nat) : ∀ (k : Nat) (a : Array Nat), ((List.replicate k x).foldl (· ++ ·) a).toList = a.toList ++ rep k x.toList
  | 0, a => by simp [rep]
  | k + 1, a => by
    rw [List.replicate_succ, List.foldl_cons, rep_fold x k]
    simp [rep, List.replicate_succ]
theorem rep_len (k : Nat) (l : List Nat) : (rep k l).length = k * l.length := by
  induction k with
  | zero => simp [rep]
  | succ k ih => unfold rep at *; rw [List.replicate_succ, List.flatten_cons, List.length_append, ih, Nat.succ_mul]; omega
theorem rep_mem {k : Nat} {l : List Nat} {c : Nat} (h : c ∈ rep k l) : c ∈ l := by
  obtain ⟨x, hx, hc⟩ := List.mem_flatten.mp h
  rw [(List.mem_replicate.mp hx).2] at hc; exact hc
section
variable {X : Cx}
/-- s * k -/
theorem op_mul_str : OpR X (binaryOp .Mult) (fun x y H Q => ∃ (z : Str) (k : Int), x = .str z ∧ y = .int k ∧ k ≤ 100000 ∧ (-100000 ≤ k) ∧ (tl z).length * k.toNat ≤ 100000 ∧ ∀ r : Str, tl r = rep k.toNat (tl z) → Q (.str r) H) := by
  intro pins s σ H x y v u Q I rx ry h
  obtain ⟨z, k, rfl, rfl, h1, h0, hz, q⟩ := h
  obtain ⟨t, rfl⟩ := rx
  obtain ⟨t', rfl⟩ := ry
  have hz' : z.length * k.toNat ≤ 100000 := by rw [tl_len]; exact hz
  have small := PyProof.Rows.short24 (n := z.length * k.toNat) (Nat.le_trans hz' (by decide))
  refine P.mul_str ?_ (fun a b => ?_) (fun _ _ => small) ?_
  · rw [decide_eq_false (by omega), decide_eq_false (by omega)]; rfl
  · have hk : 1 ≤ k := by omega
    have hm : (z.length : Int) * k ≤ 100000 := by
      have : ((z.length * k.toNat : Nat) : Int) ≤ 100000 := by omega
      rw [Int.natCast_mul, Int.toNat_of_nonneg (by omega)] at this; exact this
    have hle : (z.length : Int) ≤ (2 ^ 63 - 1) / k := by
      rw [Int.le_ediv_iff_mul_le (by omega)]
      exact Int.le_trans hm (by decide)
    omega
  · by_cases hk : k < 1
    · rw [if_pos hk]
      refine ⟨by decide, ?_⟩
      exact ⟨.str Str.empty, H, I.tok _, ⟨_, rfl⟩, q _ (by rw [show k.toNat = 0 by omega]; rfl)⟩
    · rw [if_neg hk]
      by_cases hb : (k == 1 || z.length == 0) = true
      · rw [if_pos hb]
        refine ⟨.str z, H, I, ⟨_, rfl⟩, q _ ?_⟩
        rw [Bool.or_eq_true] at hb
        rcases hb with e | e
        · have : k = 1 := by simpa using e
          subst this; simp [rep]
        · have e : z.length = 0 := by simpa using e
          rw [tl_len] at e
          have : tl z = [] := List.length_eq_zero_iff.mp e
          rw [this]
          exact (List.length_eq_zero_iff.mp (by rw [rep_len]; rfl)).symm
      · rw [if_neg hb]
        have hr : tl (⟨(List.replicate k.toNat z.cps).foldl (· ++ ·) #[]⟩ : Str) = rep k.toNat (tl z) := by
          show ((List.replicate k.toNat z.cps).foldl (· ++ ·) #[]).toList = _
          rw [rep_fold]; simp [tl]
        refine ⟨?_, ?_⟩
        · rw [tl_len, hr, rep_len, Nat.mul_comm]
          exact Nat.le_trans hz (by decide)
        · exact ⟨.str _, H, I.tok _, ⟨_, rfl⟩, q _ hr⟩
end
section
variable {X : Cx} {K : PySem.W.Frag}
/-- t + u, of tuples -/
theorem op_cat (hK : X.K = K) : OpR X (binaryOp .Add) (fun x y H Q => ∃ a b xs ys, x = .ref a ∧ y = .ref b ∧ SqT K H a xs ∧ SqT K H b ys ∧ xs.length + ys.length ≤ sizeLine ∧
    ∀ p H', Same H H' → SqT K H' p (xs ++ ys) → Q (.ref p) H') := by
  subst hK
  intro pins s σ H x y v u Q I rx ry h
  obtain ⟨a, b, xs, ys, e1, e2, ha, hb, hz, q⟩ := h
  refine op_catA pins s σ H x y v u Q I rx ry ⟨a, b, xs, ys, e1, e2, ha, hb, hz, fun e => ?_, fun _ e => ?_, fun _ _ p hp => q p _ (same_new hp) (SqT.of upd_same)⟩
  · subst e; exact q b H (Same.refl _) hb
  · subst e; exact q a H (Same.refl _) (by rw [List.append_nil]; exact ha)
/-- t[lo:hi] of a tuple -/
theorem sl_tupS (hK : X.K = K) : SlR X (fun x lo hi H Q => ∃ a xs, x = .ref a ∧ SqT K H a xs ∧ ∀ p H', Same H H' → SqT K H' p (cutV xs lo hi) → Q (.ref p) H') := by
  subst hK
  intro pins s σ H x v vl vu lo hi sl Q I rx hs pl pu h
  obtain ⟨a, xs, e, hx, q⟩ := h
  refine sl_tupA pins s σ H x v vl vu lo hi sl Q I rx hs pl pu ⟨a, xs, e, hx, fun hw => q a H (Same.refl _) ?_, fun _ p hp => q p _ (same_new hp) (SqT.of upd_same)⟩
  have : cutV xs lo hi = xs := by
    show (xs.drop (HT.sIx xs.length 0 lo)).take (HT.sIx xs.length xs.length hi - HT.sIx xs.length 0 lo) = xs
    rw [hw.1, hw.2, List.drop_zero, Nat.sub_zero, List.take_length]
  rw [this]; exact hx
end
theorem _root_.L2.Same.tup {K : PySem.W.Frag} {H H' : Hp} {a : Addr} {xs : List V} (e : Same H H') (h : SqT K H a xs) : SqT K H' a xs := by
  rcases h with (h | ⟨o, h⟩) | h
  · exact .inl (.inl (e _ _ h))
  · exact .inl (.inr ⟨o, e _ _ h⟩)
  · exact .inr h

/-- a comprehension over a range that makes texts by draws (at most d of them for each) -/
theorem lc_strs {j n d : Nat} {te : TE} {vs : List Nat} {σ : St} {H : Hp} {D s a : Addr} {c : Nat} {Qd : Hp → Prop} (p : Str → Prop) (hD : H D = none) (hS : Src H s a (c + n * d)) (hn : n ≤ 100000)
    (hw : ∀ i : Nat, wipe ((wipe σ vs).set j (some (.int (0 + (i : Int))))) vs = wipe σ vs)
    (hs : ∀ (i c' : Nat) (H1 : Hp) (R : VK), i < n → Ext s H H1 → Src H1 s a (c' + d) → (∀ (x : Str) (H2 : Hp), p x → Ext s H1 H2 → Src H2 s a c' → R (.str x) H2) → te ((wipe σ vs).set j (some (.int (0 + (i : Int))))) H1 R)
    (hd : ∀ (xs : List Str) (H' : Hp), H' D = some (.lst (xs.map V.str)) → xs.length = n → (∀ x ∈ xs, p x) → Ext s H H' → Src H' s a c → Qd H') :
    ∃ W : Nat → Nat → Hp → Prop, (∃ m, W 0 m (upd H D (.lst []))) ∧ ∀ i m H, W i m H →
      ((Itr 0 n).stop i H ∧ Qd H) ∨ ((Itr 0 n).go i H ∧ ∃ Nx : Hp → Prop, (∀ H', Nx H' → ∃ m', m' < m ∧ W (i + 1) m' H') ∧ ∀ x H', (Itr 0 n).yld i H x H' → gName j x (wipe σ vs) H' fun σ2 H2 => wipe σ2 vs = wipe σ vs ∧ tYes σ2 H2 fun b H3 =>
        if b = true then te σ2 H3 fun y H4 => ∃ acc, H4 D = some (.lst acc) ∧ acc.length < sizeLine ∧ Nx (upd H4 D (.lst (acc ++ [y]))) else Nx H3) := by
  have Ds : D ≠ s := hS.ne hD
  have Da : D ≠ a := hS.nea hD
  refine lc_range (lo := 0) (n := n) (fun i H' => ∃ xs : List Str, H' D = some (.lst (xs.map V.str)) ∧ xs.length = i ∧ (∀ x ∈ xs, p x) ∧ Ext s H H' ∧ Src H' s a (c + (n - i) * d)) ?_ ?_ ?_
  · exact ⟨[], upd_same, rfl, (fun _ h => by cases h), Ext.new hD, (hS.new hD).mono (by simp)⟩
  · rintro i H' hi ⟨xs, hx, hl, hA, hE, hS'⟩
    refine ⟨hw i, ?_⟩
    show te _ H' _
    have e : c + (n - i) * d = c + (n - (i + 1)) * d + d := by
      rw [show n - i = n - (i + 1) + 1 by omega, Nat.succ_mul]; omega
    refine hs i (c + (n - (i + 1)) * d) H' _ hi hE (by rw [← e]; exact hS') (fun x H2 hp hE2 hS2 => ?_)
    refine ⟨xs.map V.str, hE2 _ _ Ds hx, ?_, xs ++ [x], by rw [upd_same, List.map_append]; rfl, by rw [List.length_append]; simp [hl], fun y hy => ?_, ?_, hS2.put Ds Da⟩
    · rw [List.length_map]; exact Nat.lt_of_lt_of_le (show xs.length < 100000 by omega) (by decide)
    · rcases List.mem_append.mp hy with h | h
      · exact hA y h
      · rw [List.mem_singleton.mp h]; exact hp
    · intro b o hb hH
      rw [upd_ne (ne_of_none hH hD)]; exact hE2 _ _ hb (hE _ _ hb hH)
  · rintro H' ⟨xs, hx, hl, hA, hE, hS'⟩
    exact hd xs H' hx hl hA hE (hS'.mono (by omega))
theorem atI_pos {α : Type} {xs : List α} {v : Int} {x : α} (h0 : 0 ≤ v) (h : xs[v.toNat]? = some x) : atI xs v = some x := by
  have e : v = (v.toNat : Int) := by omega
  rw [e]; exact atI_nat h
/-- any item of a list of texts -/
def sp__law_pick (K : PySem.W.Frag) : Sp := fun vs H Q _ =>
  (∃ (s a r : Addr) (xs : List V) (c : Nat), vs = [.ref s, .ref r] ∧ SqL K H r xs ∧ r ≠ s ∧ xs ≠ [] ∧ xs.length ≤ 100000 ∧ Src H s a (c + 1) ∧ ∀ (v : V) (H' : Hp), v ∈ xs → Ext s H H' → Src H' s a c → Q v H') ∨
  (∃ (s a : Addr) (x : Str) (c : Nat), vs = [.ref s, .str x] ∧ tl x ≠ [] ∧ (tl x).length ≤ 100000 ∧ Src H s a (c + 1) ∧ ∀ (ch : Nat) (H' : Hp), ch ∈ tl x → Ext s H H' → Src H' s a c → Q (.str (S [ch])) H')
def sp__law_once_in : Sp := fun vs H Q _ => ∃ (s a : Addr) (m : Int) (c : Nat), vs = [.ref s, .int m] ∧ 0 < m ∧ m < 1073741824 ∧ Src H s a (c + 1) ∧ ∀ (b : Bool) (H' : Hp), Ext s H H' → Src H' s a c → Q (.bl b) H'
end Z
namespace Z
open PySem L2 SX
def top (i : Nat) : Stmt := PySem.Challenge.pw_criermoot_k05_marks.main.body.getD i (.Pass ⟨0, 0, 0, 0⟩)
abbrev s_mark_of : Stmt := top 1
abbrev N_mark_of : List Str := ["rows", "mark", "row", "sign"]
theorem sc_mark_of : FnScope ["rows", "mark", "row", "sign"] ["rows"] (defScope s_mark_of) := ⟨rfl, rfl, rfl, by decide +kernel, rfl, by decide +kernel, by decide +kernel⟩
abbrev s__law_mix : Stmt := top 3
abbrev N__law_mix : List Str := ["seed", "turn", "number"]
theorem sc__law_mix : FnScope ["seed", "turn", "number"] ["seed", "turn"] (defScope s__law_mix) := ⟨rfl, rfl, rfl, by decide +kernel, rfl, by decide +kernel, by decide +kernel⟩
abbrev s__law_source : Stmt := top 4
abbrev N__law_source : List Str := ["script", "seed", "k"]
theorem sc__law_source : FnScope ["script", "seed", "k"] ["script"] (defScope s__law_source) := ⟨rfl, rfl, rfl, by decide +kernel, rfl, by decide +kernel, by decide +kernel⟩
abbrev s__law_draw : Stmt := top 5
abbrev N__law_draw : List Str := ["source", "many", "cell", "value"]
theorem sc__law_draw : FnScope ["source", "many", "cell", "value"] ["source", "many"] (defScope s__law_draw) := ⟨rfl, rfl, rfl, by decide +kernel, rfl, by decide +kernel, by decide +kernel⟩
abbrev s__law_pick : Stmt := top 6
abbrev N__law_pick : List Str := ["source", "row"]
theorem sc__law_pick : FnScope ["source", "row"] ["source", "row"] (defScope s__law_pick) := ⟨rfl, rfl, rfl, by decide +kernel, rfl, by decide +kernel, by decide +kernel⟩
abbrev s__law_once_in : Stmt := top 7
abbrev N__law_once_in : List Str := ["source", "many"]
theorem sc__law_once_in : FnScope ["source", "many"] ["source", "many"] (defScope s__law_once_in) := ⟨rfl, rfl, rfl, by decide +kernel, rfl, by decide +kernel, by decide +kernel⟩
abbrev s__law_is_int : Stmt := top 8
abbrev N__law_is_int : List Str := ["value"]
theorem sc__law_is_int : FnScope ["value"] ["value"] (defScope s__law_is_int) := ⟨rfl, rfl, rfl, by decide +kernel, rfl, by decide +kernel, by decide +kernel⟩
abbrev s__law_same : Stmt := top 9
abbrev N__law_same : List Str := ["actual", "due", "k"]
theorem sc__law_same : FnScope ["actual", "due", "k"] ["actual", "due"] (defScope s__law_same) := ⟨rfl, rfl, rfl, by decide +kernel, rfl, by decide +kernel, by decide +kernel⟩
abbrev s__law_signs : Stmt := top 10
abbrev N__law_signs : List Str := ["letters"]
theorem sc__law_signs : FnScope ["letters"] [] (defScope s__law_signs) := ⟨rfl, rfl, rfl, by decide +kernel, rfl, by decide +kernel, by decide +kernel⟩
abbrev s__law_due : Stmt := top 11
abbrev N__law_due : List Str := ["rows", "number", "row", "sign"]
theorem sc__law_due : FnScope ["rows", "number", "row", "sign"] ["rows"] (defScope s__law_due) := ⟨rfl, rfl, rfl, by decide +kernel, rfl, by decide +kernel, by decide +kernel⟩
abbrev s__law_drawn_row : Stmt := top 12
abbrev N__law_drawn_row : List Str := ["source", "signs", "way", "piece", "k"]
theorem sc__law_drawn_row : FnScope ["source", "signs", "way", "piece", "k"] ["source"] (defScope s__law_drawn_row) := ⟨rfl, rfl, rfl, by decide +kernel, rfl, by decide +kernel, by decide +kernel⟩
abbrev s__law_with : Stmt := top 13
abbrev N__law_with : List Str := ["rows", "place", "more"]
theorem sc__law_with : FnScope ["rows", "place", "more"] ["rows", "place", "more"] (defScope s__law_with) := ⟨rfl, rfl, rfl, by decide +kernel, rfl, by decide +kernel, by decide +kernel⟩
abbrev s__law_other : Stmt := top 14
abbrev N__law_other : List Str := ["source", "sign", "signs"]
theorem sc__law_other : FnScope ["source", "sign", "signs"] ["source", "sign"] (defScope s__law_other) := ⟨rfl, rfl, rfl, by decide +kernel, rfl, by decide +kernel, by decide +kernel⟩
abbrev s__law_unlike_right : Stmt := top 15
abbrev N__law_unlike_right : List Str := ["rows", "changed", "told"]
theorem sc__law_unlike_right : FnScope ["rows", "changed", "told"] ["rows", "changed"] (defScope s__law_unlike_right) := ⟨rfl, rfl, rfl, by decide +kernel, rfl, by decide +kernel, by decide +kernel⟩
abbrev s__law_changes_right : Stmt := top 16
abbrev N__law_changes_right : List Str := ["source", "rows", "place", "row", "at", "changed", "unlike", "k"]
theorem sc__law_changes_right : FnScope ["source", "rows", "place", "row", "at", "changed", "unlike", "k"] ["source", "rows", "place"] (defScope s__law_changes_right) := ⟨rfl, rfl, rfl, by decide +kernel, rfl, by decide +kernel, by decide +kernel⟩
abbrev s__law_others : Stmt := top 17
abbrev N__law_others : List Str := ["source", "rows", "place", "row", "at", "found"]
theorem sc__law_others : FnScope ["source", "rows", "place", "row", "at", "found"] ["source", "rows", "place"] (defScope s__law_others) := ⟨rfl, rfl, rfl, by decide +kernel, rfl, by decide +kernel, by decide +kernel⟩
abbrev s_law : Stmt := top 18
abbrev N_law : List Str := ["script", "source", "rows", "first", "full", "other", "k"]
theorem sc_law : FnScope ["script", "source", "rows", "first", "full", "other", "k"] ["script"] (defScope s_law) := ⟨rfl, rfl, rfl, by decide +kernel, rfl, by decide +kernel, by decide +kernel⟩
structure Tx (mg : Str → Option Value) : Prop where
  n_abs : mg "abs" = none
  n_bool : mg "bool" = none
  n_int : mg "int" = none
  n_isinstance : mg "isinstance" = none
  n_len : mg "len" = none
  n_list : mg "list" = none
  n_ord : mg "ord" = none
  n_range : mg "range" = none
  n_str : mg "str" = none
  n_tuple : mg "tuple" = none
end Z
namespace Z
open PySem L2 SX
def mst (m : Int) (c : Nat) : Int := (131 * m + (c : Int)) % 1000003
/-- the codes of rows, each with its end -/
def codes (rs : List (List Nat)) : List Nat := rs.flatMap fun r => r ++ [10]
def mark (rs : List (List Nat)) : Int := (codes rs).foldl mst 7
def bst (m : Int) (c : Nat) : Int := m * 131 + (c : Int)
theorem mst_bst (m k : Int) (c : Nat) (h : m = k % 1000003) : mst m c = bst k c % 1000003 := by
  unfold mst bst; subst h; omega
theorem fold_mb (l : List Nat) : ∀ (m k : Int), m = k % 1000003 → l.foldl mst m = (l.foldl bst k) % 1000003 := by
  induction l with
  | nil => intro m k h; exact h
  | cons c l ih => intro m k h; rw [List.foldl_cons, List.foldl_cons]; exact ih _ _ (mst_bst m k c h)
theorem mark_big (rs : List (List Nat)) : mark rs = ((codes rs).foldl bst 7) % 1000003 := fold_mb _ _ _ (by decide)
theorem mst_range (m : Int) (c : Nat) : 0 ≤ mst m c ∧ mst m c < 1000003 := by unfold mst; omega
/-- two marks that are unlike stay so -/
theorem mst_inj {m n : Int} {c : Nat} (h0 : 0 ≤ m ∧ m < 1000003) (h1 : 0 ≤ n ∧ n < 1000003) (h : mst m c = mst n c) : m = n := by
  unfold mst at h
  -- 131 * 412215 = 1 modulo 1000003
  have e : (131 * (m - n)) % 1000003 = 0 := by omega
  omega
theorem fold_inj (l : List Nat) : ∀ {m n : Int}, (0 ≤ m ∧ m < 1000003) → (0 ≤ n ∧ n < 1000003) → l.foldl mst m = l.foldl mst n → m = n := by
  induction l with
  | nil => intro m n _ _ h; exact h
  | cons c l ih =>
    intro m n h0 h1 h
    rw [List.foldl_cons, List.foldl_cons] at h
    exact mst_inj h0 h1 (ih (mst_range _ _) (mst_range _ _) h)
theorem fold_range (l : List Nat) : ∀ {m : Int}, (0 ≤ m ∧ m < 1000003) → 0 ≤ l.foldl mst m ∧ l.foldl mst m < 1000003 := by
  induction l with
  | nil => intro m h; exact h
  | cons c l ih => intro m h; rw [List.foldl_cons]; exact ih (mst_range _ _)
theorem change_one (a b : List Nat) {c d : Nat} (hc : c ≤ 127) (hd : d ≤ 127) (ne : c ≠ d) : (a ++ c :: b).foldl mst 7 ≠ (a ++ d :: b).foldl mst 7 := by
  intro h
  rw [List.foldl_append, List.foldl_append, List.foldl_cons, List.foldl_cons] at h
  have h2 := fold_inj b (mst_range _ _) (mst_range _ _) h
  have r := fold_range a (m := 7) (by decide)
  unfold mst at h2
  omega
theorem change_two (a b : List Nat) {c d : Nat} (hc : c ≤ 127) (hd : d ≤ 127) (ne : c ≠ d) : (a ++ c :: d :: b).foldl mst 7 ≠ (a ++ d :: c :: b).foldl mst 7 := by
  intro h
  rw [List.foldl_append, List.foldl_append, List.foldl_cons, List.foldl_cons, List.foldl_cons, List.foldl_cons] at h
  have h2 := fold_inj b (mst_range _ _) (mst_range _ _) h
  have r := fold_range a (m := 7) (by decide)
  unfold mst at h2
  omega
theorem codes_app (a b : List (List Nat)) : codes (a ++ b) = codes a ++ codes b := by unfold codes; exact List.flatMap_append
theorem codes_one (r : List Nat) : codes [r] = r ++ [10] := by simp [codes]
/-- a row changed in one sign -/
theorem mark_one (as bs : List (List Nat)) (u v : List Nat) {c d : Nat} (hc : c ≤ 127) (hd : d ≤ 127) (ne : c ≠ d) : mark (as ++ [u ++ c :: v] ++ bs) ≠ mark (as ++ [u ++ d :: v] ++ bs) := by
  unfold mark
  rw [codes_app, codes_app, codes_app, codes_app, codes_one, codes_one]
  have := change_one (codes as ++ u) (v ++ [10] ++ codes bs) hc hd ne
  simpa [List.append_assoc] using this
theorem mark_two (as bs : List (List Nat)) (u v : List Nat) {c d : Nat} (hc : c ≤ 127) (hd : d ≤ 127) (ne : c ≠ d) : mark (as ++ [u ++ c :: d :: v] ++ bs) ≠ mark (as ++ [u ++ d :: c :: v] ++ bs) := by
  unfold mark
  rw [codes_app, codes_app, codes_app, codes_app, codes_one, codes_one]
  have := change_two (codes as ++ u) (v ++ [10] ++ codes bs) hc hd ne
  simpa [List.append_assoc] using this

def sp_mark_of (K : PySem.W.Frag) : Sp := fun vs H Q _ => ∃ (a : Addr) (rs : List Str), vs = [.ref a] ∧ SqT K H a (rs.map V.str) ∧ Q (.int (mark (rs.map tl))) H
def sp__law_due (K : PySem.W.Frag) : Sp := sp_mark_of K
theorem codes_take {rs : List Str} {i : Nat} {r : Str} (h : rs[i]? = some r) : codes ((rs.take (i + 1)).map tl) = codes ((rs.take i).map tl) ++ (tl r ++ [10]) := by
  rw [List.take_add_one, h, List.map_append, codes_app]
  show _ ++ codes [tl r] = _
  rw [codes_one]
theorem take_snoc {l : List Nat} {i c : Nat} (h : l[i]? = some c) : l.take (i + 1) = l.take i ++ [c] := by
  rw [List.take_add_one, h]; rfl

theorem fold_snoc {β : Type} {f : β → Nat → β} {a : β} {X l : List Nat} {j c : Nat} (h : l[j]? = some c) : (X ++ l.take (j + 1)).foldl f a = f ((X ++ l.take j).foldl f a) c := by
  rw [take_snoc h, ← List.append_assoc, List.foldl_append]; rfl
theorem fold_row {β : Type} {f : β → Nat → β} {a : β} {rs : List Str} {i : Nat} {r : Str} (h : rs[i]? = some r) : (codes ((rs.take (i + 1)).map tl)).foldl f a = f ((codes ((rs.take i).map tl) ++ (tl r).take (tl r).length).foldl f a) 10 := by
  rw [codes_take h, List.take_length, ← List.append_assoc, List.foldl_append]; rfl

/-- the signs of rows -/
def sgn : List Nat := (List.range' 32 5) ++ (List.range' 38 89)
theorem sgn_occ : ∀ i < 94, ∃ d, sgn[i]? = some d ∧ Builtin.Str.occurrences (S sgn) (S [d]) 0 (S sgn).length 1 = [i] := by decide +kernel
theorem sgn_nodup : sgn.Nodup := by decide +kernel
def Sg (l : List Nat) : Prop := ∀ c ∈ l, c ∈ sgn
theorem sg_le {c : Nat} (h : c ∈ sgn) : c ≤ 127 := by
  have : sgn.all (fun c => decide (c ≤ 127)) = true := by decide +kernel
  simpa using List.all_eq_true.mp this c h
theorem Sg.app {a b : List Nat} (x : Sg a) (y : Sg b) : Sg (a ++ b) := fun c h => (List.mem_append.mp h).elim (x c) (y c)
theorem Sg.take {a : List Nat} (x : Sg a) (k : Nat) : Sg (a.take k) := fun c h => x c (List.mem_of_mem_take h)
theorem Sg.rep {a : List Nat} (x : Sg a) (k : Nat) : Sg (rep k a) := fun c h => x c (rep_mem h)
theorem Sg.by_ {l : List Nat} (h : l.all (fun c => decide (c ∈ sgn)) = true) : Sg l := fun c m => of_decide_eq_true (List.all_eq_true.mp h c m)
theorem ones_sg {xs : List Str} (h : ∀ x ∈ xs, ∃ c, tl x = [c] ∧ c ∈ sgn) : Sg (heads xs) := fun c m => ones_all (p := fun c => c ∈ sgn) h c m
theorem cut_at {α : Type} {l : List α} {i : Nat} {x : α} (h : l[i]? = some x) : l = l.take i ++ x :: l.drop (i + 1) := by
  obtain ⟨hi, e⟩ := List.getElem?_eq_some_iff.mp h
  rw [← e, List.getElem_cons_drop, List.take_append_drop]
theorem cut_two {α : Type} {l : List α} {i : Nat} {x y : α} (h : l[i]? = some x) (h2 : l[i + 1]? = some y) : l = l.take i ++ x :: y :: l.drop (i + 2) := by
  have e := cut_at h2
  have e2 : l.take (i + 1) = l.take i ++ [x] := by rw [List.take_add_one, h]; rfl
  rw [e2, List.append_assoc] at e
  exact e
def sp__law_signs : Sp := fun vs H Q _ => vs = [] ∧ ∀ x : Str, tl x = sgn → Q (.str x) H
def sp__law_drawn_row : Sp := fun vs H Q _ => ∃ (s a : Addr) (c : Nat), vs = [.ref s] ∧ Src H s a (c + 60) ∧ ∀ (x : Str) (H' : Hp), Sg (tl x) → (tl x).length ≤ 200 → Ext s H H' → Src H' s a c → Q (.str x) H'
def sp__law_with (K : PySem.W.Frag) : Sp := fun vs H Q _ => ∃ (a b : Addr) (p : Int) (xs ys : List V), vs = [.ref a, .int p, .ref b] ∧ SqT K H a xs ∧ SqT K H b ys ∧ 0 ≤ p ∧ xs.length ≤ 1000 ∧ ys.length ≤ 1000 ∧
  ∀ (q : Addr) (H' : Hp), Same H H' → SqT K H' q (xs.take p.toNat ++ ys ++ xs.drop (p.toNat + 1)) → Q (.ref q) H'
def sp__law_other : Sp := fun vs H Q _ => ∃ (s a : Addr) (d : Nat) (c : Nat), vs = [.ref s, .str (S [d])] ∧ d ∈ sgn ∧ Src H s a (c + 1) ∧
  ∀ (e : Nat) (H' : Hp), e ∈ sgn → e ≠ d → Ext s H H' → Src H' s a c → Q (.str (S [e])) H'
def sp__law_unlike_right (K : PySem.W.Frag) : Sp := fun vs H Q _ => ∃ (a b : Addr) (xs ys : List Str), vs = [.ref a, .ref b] ∧ SqT K H a (xs.map V.str) ∧ SqT K H b (ys.map V.str) ∧ mark (ys.map tl) ≠ mark (xs.map tl) ∧ Q (.bl true) H
def sp__law_changes_right (K : PySem.W.Frag) : Sp := fun vs H Q _ => ∃ (s a r : Addr) (p : Int) (xs : List Str) (c : Nat), vs = [.ref s, .ref r, .int p] ∧ SqT K H r (xs.map V.str) ∧ 0 ≤ p ∧ p < (xs.length : Int) ∧ xs.length ≤ 20 ∧
  (∀ x ∈ xs, Sg (tl x) ∧ (tl x).length ≤ 3000) ∧ (∀ x, xs[p.toNat]? = some x → tl x ≠ []) ∧ Src H s a (c + 10) ∧ ∀ H' : Hp, Ext s H H' → Src H' s a c → Q (.bl true) H'
def sp__law_others (K : PySem.W.Frag) : Sp := fun vs H Q _ => ∃ (s a r : Addr) (p : Int) (xs : List Str) (c : Nat), vs = [.ref s, .ref r, .int p] ∧ SqT K H r (xs.map V.str) ∧ 0 ≤ p ∧ p < (xs.length : Int) ∧ xs.length ≤ 20 ∧
  (∀ x ∈ xs, (tl x).length ≤ 3000) ∧ Src H s a (c + 10) ∧ ∀ (L : Addr) (vs : List V) (H' : Hp), H' L = some (.lst vs) → (∀ v ∈ vs, ∃ (t : Addr) (rs : List Str), v = .ref t ∧ SqT K H' t (rs.map V.str)) → L ≠ s → Ext s H H' → Src H' s a c → Q (.ref L) H'
end Z
namespace Z
open PySem L2
section
variable {P : Program} {w : World} {K : PySem.W.Frag} {mg : Str → Option Value} {base : Heap}
theorem ok__law_mix (D : Df K mg "_law_mix" s__law_mix ["seed", "turn"]) (T : Tx mg) : Cal P w K mg base "_law_mix" ["seed", "turn"] 1 sp__law_mix := by
  obtain ⟨f, fd, F, gf, bf⟩ := D
  refine ⟨f, fd, F.ok sc__law_mix (fun vs H Q E h => ?_) (fun cdv A outer s H vs Q E hr h => ?_), gf, F.kp, bf⟩
  · obtain ⟨x, y, rfl, _⟩ := h; rfl
  · obtain ⟨x, y, rfl, x0, x1, y0, y1, q⟩ := h
    refine ⟨_, (pss_cons (ps_set (i := 2) sc__law_mix.nd rfl (Or.inl rfl) (pe_op op_mod (pe_callTy call_int1 (by rfl) T.n_int (by decide +kernel) (pa_cons (pe_op op_add (pe_op op_add (pe_op op_mul (pv 0) pe_int) (pe_op op_mul (pv 1) pe_int)) pe_int) pa_nil)) pe_int))
      (pss_cons (ps_set (i := 2) sc__law_mix.nd rfl (Or.inl rfl) (pe_op op_mod (pe_callTy call_int1 (by rfl) T.n_int (by decide +kernel) (pa_cons (pe_op op_add (pe_op op_add (pe_op op_mul (pv 2) (pv 2)) (pe_op op_mul (pv 1) pe_int)) pe_int) pa_nil)) pe_int))
      (pss_cons (ps_set (i := 2) sc__law_mix.nd rfl (Or.inl rfl) (pe_op op_mod (pe_callTy call_int1 (by rfl) T.n_int (by decide +kernel) (pa_cons (pe_op op_add (pe_op op_add (pe_op op_mul (pv 2) pe_int) (pe_op op_mul (pe_op op_mul (pv 1) (pv 1)) pe_int)) pe_int) pa_nil)) pe_int))
      (pss_one (ps_ret (pv 2)))))), ?_⟩

    refine ⟨_, rfl, _, _, rfl, rfl, .inr (by decide), _, rfl, _, _, rfl, rfl, .inr (by decide), _, _, rfl, rfl, _, _, rfl, rfl, .inl ⟨_, rfl, _, _, rfl, rfl, (by show (0 : Int) < _; decide), ?_⟩⟩
    refine ⟨_, rfl, _, rfl, _, _, rfl, rfl, .inl ⟨by omega, by omega⟩, _, rfl, _, _, rfl, rfl, .inr (by decide), _, _, rfl, rfl, _, _, rfl, rfl, .inl ⟨_, rfl, _, _, rfl, rfl, (by show (0 : Int) < _; decide), ?_⟩⟩
    refine ⟨_, rfl, _, _, rfl, rfl, .inr (by decide), _, rfl, _, rfl, _, _, rfl, rfl, .inl ⟨by omega, by omega⟩, _, _, rfl, rfl, .inr (by decide), _, _, rfl, rfl, _, _, rfl, rfl, .inl ⟨_, rfl, _, _, rfl, rfl, (by show (0 : Int) < _; decide), ?_⟩⟩
    exact ⟨_, rfl, q _ (Int.emod_nonneg _ (by decide)) (by omega)⟩
end
end Z
namespace Z
open PySem L2
section
variable {P : Program} {w : World} {K : PySem.W.Frag} {mg : Str → Option Value} {base : Heap}
theorem ok__law_source (D : Df K mg "_law_source" s__law_source ["script"]) (T : Tx mg) (C__law_mix : Cal P w K mg base "_law_mix" ["seed", "turn"] 1 sp__law_mix) : Cal P w K mg base "_law_source" ["script"] 2 (sp__law_source K) := by
  obtain ⟨f__law_mix, fd__law_mix, G__law_mix, g__law_mix, k__law_mix, b__law_mix⟩ := C__law_mix
  obtain ⟨f, fd, F, gf, bf⟩ := D
  refine ⟨f, fd, F.ok sc__law_source (fun vs H Q E h => ?_) (fun cdv A outer s H vs Q E hr h => ?_), gf, F.kp, bf⟩
  · obtain ⟨a, ns, rfl, _⟩ := h; rfl
  · obtain ⟨a, ns, rfl, hS, hlen, q⟩ := h
    refine ⟨_, (pss_cons (ps_set (i := 1) sc__law_source.nd rfl (Or.inl rfl) pe_int)
      (pss_cons (ps_for PassesOwn.never rfl (pi_range1 (by rfl) T.n_range (pa_cons (pe_callB call_len_seq (by rfl) T.n_len PySem.boot_len (pa_cons (pv 0) pa_nil)) pa_nil)) (pg_name (i := 2) sc__law_source.nd rfl (Or.inl rfl))
      (pss_one (ps_set (i := 1) sc__law_source.nd rfl (Or.inl rfl) (pe_call G__law_mix (hr.mono (by decide)) (by rfl) g__law_mix k__law_mix b__law_mix .nil pass0 (pa_cons (pe_op op_add (pv 1) (pe_op op_mod (pe_callTy call_int1 (by rfl) T.n_int (by decide +kernel) (pa_cons (pe_ix ix_list (pv 0) (pv 2) (fun _ _ => rfl)) pa_nil)) pe_int)) (pa_cons (pv 2) pa_nil))))))
      (pss_one (ps_ret (pe_lst (pa_cons (pe_callTy call_list_of (by rfl) T.n_list (by decide +kernel) (pa_cons (pv 0) pa_nil)) (pa_cons pe_int (pa_cons pe_int (pa_cons (pv 1) (pa_cons pe_int pa_nil)))))))))), ?_⟩
    refine ⟨_, rfl, a, _, rfl, .inl hS, _, rfl, by rw [List.length_map]; omega, by rw [List.length_map]; omega, ?_⟩
    refine for_range (lo := 0) (n := (((ns.map V.int).length : Int)).toNat) (fun i σ H' => ∃ (e : Int) (v : Option V), σ = [some (.ref a), some (.int e), v] ∧ H' = H ∧ 0 ≤ e ∧ e < 2147483647) ⟨17, none, rfl, rfl, by decide, by decide⟩ ?_ ?_
    · rintro i σ H' hi ⟨e, v, rfl, rfl, e0, e1⟩
      rw [List.length_map] at hi
      have hi' : i < ns.length := by omega
      refine ⟨_, rfl, _, rfl, _, rfl, a, _, _, .int ns[i], rfl, rfl, hS, ?_, .inl ⟨_, rfl, _, _, rfl, rfl, (by show (0 : Int) < _; decide), _, _, rfl, rfl, _, rfl, ?_⟩⟩
      · rw [Int.zero_add]
        exact atI_nat (by rw [List.getElem?_map, List.getElem?_eq_getElem hi']; rfl)
      · refine ⟨_, _, rfl, ?_, ?_, ?_, ?_, fun v v0 v1 => ?_⟩
        · have := Int.emod_nonneg ns[i] (by decide : (2147483647 : Int) ≠ 0); omega
        · have := Int.emod_lt_of_pos ns[i] (by decide : (0 : Int) < 2147483647); omega
        · omega
        · omega
        · exact ⟨v, _, rfl, rfl, v0, v1⟩
    · rintro σ H' ⟨e, v, rfl, rfl, e0, e1⟩
      refine ⟨_, rfl, a, _, rfl, .inl hS, fun l hl => ?_⟩
      refine ⟨_, rfl, by show 5 ≤ sizeLine; decide, fun s hs => ?_⟩
      have hsl : s ≠ l := fun z => by rw [z, upd_same] at hs; cases hs
      have hs0 : H' s = none := by rw [upd_ne hsl] at hs; exact hs
      refine q s l _ hs0 ((same_new hl).trans (same_new hs)) ⟨ns, 0, 0, e, 0, upd_same, by rw [upd_ne hsl.symm, upd_same], hsl.symm, hlen, by decide, by decide, by decide, e0, e1, by decide, by decide⟩
end
end Z
namespace Z
open PySem L2
section
variable {P : Program} {w : World} {K : PySem.W.Frag} {mg : Str → Option Value} {base : Heap}
theorem ok__law_draw (D : Df K mg "_law_draw" s__law_draw ["source", "many"]) (T : Tx mg) (C__law_mix : Cal P w K mg base "_law_mix" ["seed", "turn"] 1 sp__law_mix) : Cal P w K mg base "_law_draw" ["source", "many"] 2 sp__law_draw := by
  obtain ⟨f__law_mix, fd__law_mix, G__law_mix, g__law_mix, k__law_mix, b__law_mix⟩ := C__law_mix
  obtain ⟨f, fd, F, gf, bf⟩ := D
  refine ⟨f, fd, F.ok sc__law_draw (fun vs H Q E h => ?_) (fun cdv A outer s H vs Q E hr h => ?_), gf, F.kp, bf⟩
  · obtain ⟨s, a, m, c, rfl, _⟩ := h; rfl
  · obtain ⟨s, a, m, c, rfl, m0, m1, hS, q⟩ := h
    refine ⟨_, (C8.pss_cut (ps_if (PW.pt (pw_and (pt_cmpR op_eq (pe_ix ix_list (pv 0) pe_int (fun _ _ => rfl)) pe_int (nomark _)) (pw_and (pt_cmpR op_lt (pe_ix ix_list (pv 0) pe_int (fun _ _ => rfl)) (pe_callB call_len_seq (by rfl) T.n_len PySem.boot_len (pa_cons (pe_ix ix_list (pv 0) pe_int (fun _ _ => rfl)) pa_nil)) (nomark _)) (pw_and1 (pt_cmpR op_eq (pe_op op_mod (pe_callTy call_int1 (by rfl) T.n_int (by decide +kernel) (pa_cons (pe_ix ix_list (pv 0) pe_int (fun _ _ => rfl)) pa_nil)) pe_int) pe_int (nomark _))))))
      (pss_cons (ps_set (i := 2) sc__law_draw.nd rfl (Or.inl rfl) (pe_ix ix_list (pe_ix ix_list (pv 0) pe_int (fun _ _ => rfl)) (pe_ix ix_list (pv 0) pe_int (fun _ _ => rfl)) (fun _ _ => rfl)))
        (pss_cons (ps_asg (pe_op op_add (pe_ix ix_list (pv 0) pe_int (fun _ _ => rfl)) pe_int) (pg_sub (pv 0) pe_int set_list))
        (pss_one (ps_if (pt_cmpR op_ge (pe_callB call_abs (by rfl) T.n_abs (by decide +kernel) (pa_cons (pv 2) pa_nil)) (pe_op op_pow pe_int pe_int) (nomark _))
        (pss_one (ps_asg (pe_op op_and (pe_callB call_abs (by rfl) T.n_abs (by decide +kernel) (pa_cons (pv 2) pa_nil)) (pe_op op_sub (pe_op op_shl pe_int pe_int) pe_int)) (pg_sub (pv 0) pe_int set_list)))
        (pss_one (ps_asg (pe_call G__law_mix (hr.mono (by decide)) (by rfl) g__law_mix k__law_mix b__law_mix .nil pass0 (pa_cons (pe_op op_add (pe_ix ix_list (pv 0) pe_int (fun _ _ => rfl)) (pe_op op_mod (pe_callTy call_int1 (by rfl) T.n_int (by decide +kernel) (pa_cons (pv 2) pa_nil)) pe_int)) (pa_cons (pe_ix ix_list (pv 0) pe_int (fun _ _ => rfl)) pa_nil))) (pg_sub (pv 0) pe_int set_list)))))))
      pss_nil)
      (pss_cons (ps_if (pt_cmpR op_gt (pe_ix ix_list (pv 0) pe_int (fun _ _ => rfl)) pe_int (nomark _))
      (pss_cons (ps_set (i := 3) sc__law_draw.nd rfl (Or.inl rfl) (pe_op op_mod (pe_callTy call_int1 (by rfl) T.n_int (by decide +kernel) (pa_cons (pe_ix ix_list (pv 0) pe_int (fun _ _ => rfl)) pa_nil)) (pv 1)))
        (pss_cons (ps_asg (pe_op op_fdivN (pe_callTy call_int1 (by rfl) T.n_int (by decide +kernel) (pa_cons (pe_ix ix_list (pv 0) pe_int (fun _ _ => rfl)) pa_nil)) (pv 1)) (pg_sub (pv 0) pe_int set_list))
        (pss_one (ps_ret (pv 3)))))
      pss_nil)
      (pss_cons (ps_asg (pe_op op_add (pe_ix ix_list (pv 0) pe_int (fun _ _ => rfl)) pe_int) (pg_sub (pv 0) pe_int set_list))
      (pss_one (ps_ret (pe_op op_mod (pe_callTy call_int1 (by rfl) T.n_int (by decide +kernel) (pa_cons (pe_op op_fdiv (pe_call G__law_mix (hr.mono (by decide)) (by rfl) g__law_mix k__law_mix b__law_mix .nil pass0 (pa_cons (pe_ix ix_list (pv 0) pe_int (fun _ _ => rfl)) (pa_cons (pe_ix ix_list (pv 0) pe_int (fun _ _ => rfl)) pa_nil))) pe_int) pa_nil)) (pv 1))))))), ?_⟩
    refine ⟨fun σ' H' => (∃ v2 v3, σ' = [some (.ref s), some (.int m), v2, v3]) ∧ Src H' s a (c + 1) ∧ Ext s H H', ?_, ?_⟩
    · obtain ⟨ns, i, b, e, t, h1, h2, as, h4, h5, h6, h7, h8, h9, h10, h11⟩ := id hS
      have hL : SqL K H s [.ref a, .int i, .int b, .int e, .int t] := SqL.of h1
      refine ⟨_, rfl, _, _, _, _, rfl, rfl, hL, rfl, rfl, _, rfl, ite2 (fun c1 => ?_) (fun c1 => iteF ⟨⟨_, _, rfl⟩, hS, Ext.refl _ _⟩)⟩
      refine ⟨_, rfl, _, _, _, _, rfl, rfl, hL, rfl, _, rfl, _, _, _, _, rfl, rfl, hL, rfl, a, _, rfl, .inl (SqL.of h2), _, _, rfl, rfl, _, rfl, ite2 (fun c2 => ?_) (fun c2 => iteF ⟨⟨_, _, rfl⟩, hS, Ext.refl _ _⟩)⟩
      refine ⟨_, rfl, _, _, _, _, rfl, rfl, hL, rfl, .inl ⟨_, rfl, _, _, rfl, rfl, (by show (0 : Int) < 6; decide), rfl, _, rfl, ite2 (fun c3 => ?_) (fun c3 => ⟨⟨_, _, rfl⟩, hS, Ext.refl _ _⟩)⟩⟩
      have hi : i < ns.length := by
        have := of_decide_eq_true c2
        rw [List.length_map] at this
        exact this
      have hi' : i.toNat < ns.length := by omega
      -- cell = source[0][source[1]]
      refine ⟨_, rfl, _, _, _, _, rfl, rfl, hL, rfl, _, rfl, _, _, _, _, rfl, rfl, hL, rfl, a, _, _, .int ns[i.toNat], rfl, rfl, SqL.of h2, at_of (j := i.toNat) (by omega) (by rw [List.getElem?_map, List.getElem?_eq_getElem hi']; rfl), ?_⟩
      -- source[1] = source[1] + 1
      refine ⟨_, rfl, _, _, _, _, rfl, rfl, hL, rfl, _, _, rfl, rfl, _, rfl, _, _, _, 1, rfl, rfl, h1, rfl, ?_⟩
      refine ⟨_, rfl, _, rfl, _, _, rfl, rfl, ⟨by decide, by decide, by decide⟩, _, _, rfl, rfl, _, rfl, ite2 (fun c4 => ?_) (fun c4 => ?_)⟩
      · refine ⟨_, rfl, _, rfl, _, _, rfl, rfl, ⟨by decide, by decide, by decide⟩, _, _, rfl, rfl, _, _, rfl, rfl, _, rfl, _, _, _, 2, rfl, rfl, upd_same, rfl, ?_⟩
        refine ⟨⟨_, _, rfl⟩, ?_, ?_⟩
        · refine ⟨ns, i + 1, _, e, t, upd_same, by rw [upd_ne as, upd_ne as]; exact h2, as, h4, by omega, by omega, ?_, h8, h9, h10, h11⟩
          exact and_nn (by split <;> omega) _
        · exact Ext.put.trans Ext.put
      · refine ⟨_, rfl, _, _, _, _, rfl, rfl, SqL.of upd_same, rfl, _, rfl, .inl ⟨_, rfl, _, _, rfl, rfl, (by show (0 : Int) < 2147483647; decide), _, _, rfl, rfl, _, rfl, _, _, _, _, rfl, rfl, SqL.of upd_same, rfl, _, _, rfl, ?_, ?_, ?_, ?_, fun v v0 v1 => ?_⟩⟩
        · have := Int.emod_nonneg ns[i.toNat] (by decide : (2147483647 : Int) ≠ 0); omega
        · have := Int.emod_lt_of_pos ns[i.toNat] (by decide : (0 : Int) < 2147483647); omega
        · omega
        · omega
        · refine ⟨_, rfl, _, _, _, 3, rfl, rfl, upd_same, rfl, ⟨_, _, rfl⟩, ?_, Ext.put.trans Ext.put⟩
          exact ⟨ns, i + 1, b, v, t, upd_same, by rw [upd_ne as, upd_ne as]; exact h2, as, h4, by omega, by omega, h7, v0, v1, h10, h11⟩
    · rintro σ' H' ⟨⟨v2, v3, rfl⟩, hS', hx⟩
      obtain ⟨ns, i, b, e, t, h1, h2, as, h4, h5, h6, h7, h8, h9, h10, h11⟩ := id hS'
      have hL : SqL K H' s [.ref a, .int i, .int b, .int e, .int t] := SqL.of h1
      refine ⟨_, rfl, _, _, _, _, rfl, rfl, hL, rfl, _, _, rfl, rfl, _, rfl, ite2 (fun c1 => ?_) (fun c1 => ?_)⟩
      · refine ⟨_, rfl, _, _, _, _, rfl, rfl, hL, rfl, .inl ⟨_, rfl, _, rfl, _, _, rfl, rfl, m0, ?_⟩⟩
        refine ⟨_, rfl, _, _, _, _, rfl, rfl, hL, rfl, .inl ⟨_, rfl, _, rfl, _, _, rfl, rfl, ⟨by omega, by omega⟩, _, rfl, _, _, _, 2, rfl, rfl, h1, rfl, ?_⟩⟩
        refine ⟨_, rfl, q _ _ (Int.emod_nonneg _ (by omega)) (Int.emod_lt_of_pos _ m0) (hx.trans Ext.put) ?_⟩
        refine ⟨ns, i, _, e, t, upd_same, by rw [upd_ne as]; exact h2, as, h4, h5, h6, ?_, h8, h9, h10, by omega⟩
        exact Int.fdiv_nonneg h7 (by omega)
      · refine ⟨_, rfl, _, _, _, _, rfl, rfl, hL, rfl, _, _, rfl, rfl, _, rfl, _, _, _, 4, rfl, rfl, h1, rfl, ?_⟩
        refine ⟨_, rfl, _, _, _, _, rfl, rfl, SqL.of upd_same, rfl, _, rfl, _, _, _, _, rfl, rfl, SqL.of upd_same, rfl, _, _, rfl, h8, by omega, by omega, by omega, fun v v0 v1 => ?_⟩
        refine ⟨_, _, rfl, rfl, ⟨by decide, by decide⟩, .inl ⟨_, rfl, _, rfl, _, _, rfl, rfl, m0, ?_⟩⟩
        refine q _ _ (Int.emod_nonneg _ (by omega)) (Int.emod_lt_of_pos _ m0) (hx.trans Ext.put) ?_
        exact ⟨ns, i, b, e, t + 1, upd_same, by rw [upd_ne as]; exact h2, as, h4, h5, h6, h7, h8, h9, by omega, by omega⟩
end
end Z
namespace Z
open PySem L2
section
variable {P : Program} {w : World} {K : PySem.W.Frag} {mg : Str → Option Value} {base : Heap}
theorem ok__law_is_int (D : Df K mg "_law_is_int" s__law_is_int ["value"]) (T : Tx mg)  : Cal P w K mg base "_law_is_int" ["value"] 1 (sp__law_is_int K) := by
  obtain ⟨f, fd, F, gf, bf⟩ := D
  refine ⟨f, fd, F.ok sc__law_is_int (fun vs H Q E h => ?_) (fun cdv A outer s H vs Q E hr h => ?_), gf, F.kp, bf⟩
  · obtain ⟨i, rfl, _⟩ := h; rfl
  · obtain ⟨i, rfl, q⟩ := h
    refine ⟨_, (pss_one (ps_ret (pe_and (pe_callB call_isi (by rfl) T.n_isinstance (by decide +kernel) (pa_cons (pv 0) (pa_cons (pe_bltn (v := .ty "int") (by rfl) T.n_int (by decide +kernel) rfl) pa_nil))) (pe_one (pe_not (pe_callB call_isi (by rfl) T.n_isinstance (by decide +kernel) (pa_cons (pv 0) (pa_cons (pe_bltn (v := .ty "bool") (by rfl) T.n_bool (by decide +kernel) rfl) pa_nil)))))))), ?_⟩
    refine ⟨_, rfl, _, _, _, _, true, rfl, .ty _, .base (.int i), kit_ty (by decide +kernel), _, rfl, ?_⟩
    refine iteT ⟨_, rfl, _, _, _, _, false, rfl, .ty _, .base (.int i), kit_ty (by decide +kernel), _, rfl, q⟩

theorem ok__law_same (D : Df K mg "_law_same" s__law_same ["actual", "due"]) (T : Tx mg) (C__law_is_int : Cal P w K mg base "_law_is_int" ["value"] 1 (sp__law_is_int K)) : ∀ n, Cal P w K mg base "_law_same" ["actual", "due"] (n + 1) (sp__law_same K n)
  | 0 => by
    obtain ⟨f, fd, F, gf, bf⟩ := D
    exact ⟨f, fd, ⟨fun vs H Q E h => by obtain ⟨_, _, _, _, _, _, h, _⟩ := h; exact h.elim, fun A outer s H args us vs Q E _ _ _ _ h => by obtain ⟨_, _, _, _, _, _, h, _⟩ := h; exact h.elim⟩, gf, F.kp, bf⟩
  | n + 1 => by
    obtain ⟨f__law_same, fd__law_same, G__law_same, g__law_same, k__law_same, b__law_same⟩ := ok__law_same D T C__law_is_int n
    obtain ⟨f__law_is_int, fd__law_is_int, G__law_is_int, g__law_is_int, k__law_is_int, b__law_is_int⟩ := C__law_is_int
    obtain ⟨f, fd, F, gf, bf⟩ := D
    refine ⟨f, fd, F.ok sc__law_same (fun vs H Q E h => ?_) (fun cdv A outer s H vs Q E hr h => ?_), gf, F.kp, bf⟩
    · obtain ⟨d, v, u, rfl, _⟩ := h; rfl
    · obtain ⟨d, v, u, rfl, hv, hu, hd, q⟩ := h
      refine ⟨_, (pss_cons (ps_if (pt_val (pe_callB call_isi (by rfl) T.n_isinstance (by decide +kernel) (pa_cons (pv 1) (pa_cons (pe_bltn (v := .ty "tuple") (by rfl) T.n_tuple (by decide +kernel) rfl) pa_nil))))
      (pss_cons (ps_if (PW.pt (pw_or (pt_not (pt_val (pe_callB call_isi (by rfl) T.n_isinstance (by decide +kernel) (pa_cons (pv 0) (pa_cons (pe_bltn (v := .ty "tuple") (by rfl) T.n_tuple (by decide +kernel) rfl) pa_nil))))) (pw_or1 (pt_cmpR op_ne (pe_callB call_len_seq (by rfl) T.n_len PySem.boot_len (pa_cons (pv 0) pa_nil)) (pe_callB call_len_seq (by rfl) T.n_len PySem.boot_len (pa_cons (pv 1) pa_nil)) (nomark _)))))
        (pss_one (ps_ret pe_bl))
        pss_nil)
        (pss_cons (ps_for PassesOwn.never rfl (pi_range1 (by rfl) T.n_range (pa_cons (pe_callB call_len_seq (by rfl) T.n_len PySem.boot_len (pa_cons (pv 1) pa_nil)) pa_nil)) (pg_name (i := 2) sc__law_same.nd rfl (Or.inl rfl))
        (pss_one (ps_if (pt_not (pt_val (pe_call G__law_same hr (by rfl) g__law_same k__law_same b__law_same .nil pass0 (pa_cons (pe_ix ix_tup (pv 0) (pv 2) (fun _ _ => rfl)) (pa_cons (pe_ix ix_tup (pv 1) (pv 2) (fun _ _ => rfl)) pa_nil)))))
          (pss_one (ps_ret pe_bl))
          pss_nil)))
        (pss_one (ps_ret pe_bl))))
      pss_nil)
      (pss_cons (ps_if (pt_cmpR op_isN (pv 1) pe_non (nomark _))
      (pss_one (ps_ret (pe_cmpR op_isN (pv 0) pe_non (nomark _))))
      pss_nil)
      (pss_cons (ps_if (pt_val (pe_callB call_isi (by rfl) T.n_isinstance (by decide +kernel) (pa_cons (pv 1) (pa_cons (pe_bltn (v := .ty "bool") (by rfl) T.n_bool (by decide +kernel) rfl) pa_nil))))
      (pss_one (ps_ret (pe_and (pe_callB call_isi (by rfl) T.n_isinstance (by decide +kernel) (pa_cons (pv 0) (pa_cons (pe_bltn (v := .ty "bool") (by rfl) T.n_bool (by decide +kernel) rfl) pa_nil))) (pe_one (pe_cmpR op_eq (pv 0) (pv 1) (nomark _))))))
      pss_nil)
      (pss_cons (ps_if (pt_val (pe_callB call_isi (by rfl) T.n_isinstance (by decide +kernel) (pa_cons (pv 1) (pa_cons (pe_bltn (v := .ty "int") (by rfl) T.n_int (by decide +kernel) rfl) pa_nil))))
      (pss_one (ps_ret (pe_and (pe_call G__law_is_int (hr.mono (by omega)) (by rfl) g__law_is_int k__law_is_int b__law_is_int .nil pass0 (pa_cons (pv 0) pa_nil)) (pe_one (pe_cmpR op_eq (pv 0) (pv 1) (nomark _))))))
      pss_nil)
      (pss_one (ps_ret (pe_and (pe_callB call_isi (by rfl) T.n_isinstance (by decide +kernel) (pa_cons (pv 0) (pa_cons (pe_bltn (v := .ty "str") (by rfl) T.n_str (by decide +kernel) rfl) pa_nil))) (pe_one (pe_cmpR op_eq (pv 0) (pv 1) (nomark _)))))))))), ?_⟩
      cases d with
      | non =>
        unfold DV at hv hu; subst hv hu
        refine ⟨_, rfl, _, _, _, _, false, rfl, .ty _, .base .non, kit_ty (by decide +kernel), _, rfl, iteF ?_⟩
        exact ⟨_, rfl, rfl, _, rfl, iteT ⟨_, rfl, rfl, q⟩⟩
      | bl b =>
        unfold DV at hv hu; subst hv hu
        refine ⟨_, rfl, _, _, _, _, false, rfl, .ty _, .base (.bl b), kit_ty (by decide +kernel), _, rfl, iteF ?_⟩
        refine ⟨_, rfl, rfl, _, rfl, iteF ?_⟩
        refine ⟨_, rfl, _, _, _, _, true, rfl, .ty _, .base (.bl b), kit_ty (by decide +kernel), _, rfl, iteT ?_⟩
        refine ⟨_, rfl, _, _, _, _, true, rfl, .ty _, .base (.bl b), kit_ty (by decide +kernel), _, rfl, iteT ?_⟩
        refine ⟨_, rfl, _, rfl, rfl, ?_⟩
        rw [decide_eq_true rfl]; exact q
      | int b =>
        unfold DV at hv hu; subst hv hu
        refine ⟨_, rfl, _, _, _, _, false, rfl, .ty _, .base (.int b), kit_ty (by decide +kernel), _, rfl, iteF ?_⟩
        refine ⟨_, rfl, rfl, _, rfl, iteF ?_⟩
        refine ⟨_, rfl, _, _, _, _, false, rfl, .ty _, .base (.int b), kit_ty (by decide +kernel), _, rfl, iteF ?_⟩
        refine ⟨_, rfl, _, _, _, _, true, rfl, .ty _, .base (.int b), kit_ty (by decide +kernel), _, rfl, iteT ?_⟩
        refine ⟨_, rfl, _, rfl, _, rfl, iteT ?_⟩
        refine ⟨_, rfl, _, rfl, rfl, ?_⟩
        rw [decide_eq_true rfl]; exact q
      | str b =>
        unfold DV at hv hu; subst hv hu
        refine ⟨_, rfl, _, _, _, _, false, rfl, .ty _, .base (.str b), kit_ty (by decide +kernel), _, rfl, iteF ?_⟩
        refine ⟨_, rfl, rfl, _, rfl, iteF ?_⟩
        refine ⟨_, rfl, _, _, _, _, false, rfl, .ty _, .base (.str b), kit_ty (by decide +kernel), _, rfl, iteF ?_⟩
        refine ⟨_, rfl, _, _, _, _, false, rfl, .ty _, .base (.str b), kit_ty (by decide +kernel), _, rfl, iteF ?_⟩
        refine ⟨_, rfl, _, _, _, _, true, rfl, .ty _, .base (.str b), kit_ty (by decide +kernel), _, rfl, iteT ?_⟩
        refine ⟨_, rfl, _, rfl, rfl, ?_⟩
        rw [decide_eq_true rfl]; exact q
      | tup ds =>
        unfold DV at hv hu
        obtain ⟨a, vs, rfl, ha, hvs⟩ := hv
        obtain ⟨b, us, rfl, hb, hus⟩ := hu
        have hl := hvs.len
        have hm := hus.len
        refine ⟨_, rfl, _, _, _, _, true, rfl, .ty _, TyX.ofT hb, kit_ty (by decide +kernel), _, rfl, iteT ?_⟩
        refine ⟨_, rfl, _, _, _, _, true, rfl, .ty _, TyX.ofT ha, kit_ty (by decide +kernel), _, rfl, iteF ?_⟩
        refine ⟨_, rfl, a, _, rfl, .inr ha, _, rfl, b, _, rfl, .inr hb, rfl, _, rfl, iteNS (by rw [hl, hm]) ?_⟩
        refine ⟨_, rfl, b, _, rfl, .inr hb, _, rfl, by omega, by have := hd.1; omega, ?_⟩
        refine for_range (lo := 0) (n := ((us.length : Int)).toNat) (fun i σ H' => ∃ (x : Option V), σ = [some (.ref a), some (.ref b), x] ∧ H' = H) ⟨none, rfl, rfl⟩ ?_ ?_
        · rintro i σ H' hi ⟨x, rfl, rfl⟩
          have hi' : i < us.length := by omega
          have hi2 : i < ds.length := by omega
          obtain ⟨v1, e1, q1⟩ := hvs.get (List.getElem?_eq_getElem hi2)
          obtain ⟨v2, e2, q2⟩ := hus.get (List.getElem?_eq_getElem hi2)
          refine ⟨_, rfl, _, rfl, a, _, _, v1, rfl, rfl, ha, at_of (j := i) (by omega) e1, _, rfl, _, rfl, b, _, _, v2, rfl, rfl, hb, at_of (j := i) (by omega) e2, ?_⟩
          refine ⟨ds[i], v1, v2, rfl, q1, q2, hd.2 _ (List.getElem_mem hi2), _, rfl, iteF ?_⟩
          exact ⟨_, rfl, rfl⟩
        · rintro σ H' ⟨x, rfl, rfl⟩
          exact q
end
end Z
namespace Z
open PySem L2 SX
section
variable {P : Program} {w : World} {K : PySem.W.Frag} {mg : Str → Option Value} {base : Heap}
theorem ok__law_pick (D : Df K mg "_law_pick" s__law_pick ["source", "row"]) (T : Tx mg) (C__law_draw : Cal P w K mg base "_law_draw" ["source", "many"] 2 sp__law_draw) : Cal P w K mg base "_law_pick" ["source", "row"] 3 (sp__law_pick K) := by
  obtain ⟨f__law_draw, fd__law_draw, G__law_draw, g__law_draw, k__law_draw, b__law_draw⟩ := C__law_draw
  obtain ⟨f, fd, F, gf, bf⟩ := D
  refine ⟨f, fd, F.ok sc__law_pick (fun vs H Q E h => ?_) (fun cdv A outer s H vs Q E hr h => ?_), gf, F.kp, bf⟩
  · rcases h with ⟨s, a, r, xs, c, rfl, _⟩ | ⟨s, a, x, c, rfl, _⟩ <;> rfl
  · refine ⟨_, (pss_one (ps_ret (pe_ix ix_seq (pv 1) (pe_call G__law_draw (hr.mono (by decide)) (by rfl) g__law_draw k__law_draw b__law_draw .nil pass0 (pa_cons (pv 0) (pa_cons (pe_callB call_len (by rfl) T.n_len PySem.boot_len (pa_cons (pv 1) pa_nil)) pa_nil))) (fun _ _ => rfl)))), ?_⟩
    rcases h with ⟨s, a, r, xs, c, rfl, hR, rs, ne, hl, hS, q⟩ | ⟨s, a, x, c, rfl, ne, hl, hS, q⟩
    · have n0 : 0 < xs.length := List.length_pos_iff.mpr ne
      refine ⟨_, rfl, _, rfl, _, rfl, _, _, rfl, .inl ⟨xs, hR, rfl⟩, s, a, (xs.length : Int), c, rfl, by omega, by omega, hS, fun v H' v0 v1 hE hS' => ?_⟩
      have hv : v.toNat < xs.length := by omega
      exact .inl ⟨r, xs, v, xs[v.toNat], rfl, rfl, hE.seqL rs hR, atI_pos v0 (List.getElem?_eq_getElem hv), q _ _ (List.getElem_mem hv) hE hS'⟩
    · have n0 : 0 < (tl x).length := List.length_pos_iff.mpr ne
      have hx := tl_len x
      refine ⟨_, rfl, _, rfl, _, rfl, _, x.length, rfl, ⟨by rw [hx]; exact Nat.le_trans hl (by decide), rfl⟩, s, a, (x.length : Int), c, rfl, by omega, by omega, hS, fun v H' v0 v1 hE hS' => ?_⟩
      have hv : v.toNat < (tl x).length := by omega
      exact .inr (.inr ⟨x, v, (tl x)[v.toNat], rfl, rfl, by rw [hx]; exact Nat.le_trans hl (by decide), atI_pos v0 (List.getElem?_eq_getElem hv), q _ _ (List.getElem_mem hv) hE hS'⟩)
theorem ok__law_once_in (D : Df K mg "_law_once_in" s__law_once_in ["source", "many"]) (T : Tx mg) (C__law_draw : Cal P w K mg base "_law_draw" ["source", "many"] 2 sp__law_draw) : Cal P w K mg base "_law_once_in" ["source", "many"] 3 sp__law_once_in := by
  obtain ⟨f__law_draw, fd__law_draw, G__law_draw, g__law_draw, k__law_draw, b__law_draw⟩ := C__law_draw
  obtain ⟨f, fd, F, gf, bf⟩ := D
  refine ⟨f, fd, F.ok sc__law_once_in (fun vs H Q E h => ?_) (fun cdv A outer s H vs Q E hr h => ?_), gf, F.kp, bf⟩
  · obtain ⟨s, a, m, c, rfl, _⟩ := h; rfl
  · obtain ⟨s, a, m, c, rfl, m0, m1, hS, q⟩ := h
    refine ⟨_, (pss_one (ps_ret (pe_cmpR op_eq (pe_call G__law_draw (hr.mono (by decide)) (by rfl) g__law_draw k__law_draw b__law_draw .nil pass0 (pa_cons (pv 0) (pa_cons (pv 1) pa_nil))) (pe_op op_fdiv (pv 1) pe_int) (nomark _)))), ?_⟩
    refine ⟨_, rfl, _, rfl, s, a, _, c, rfl, m0, m1, hS, fun v H' v0 v1 hE hS' => ?_⟩
    exact ⟨_, rfl, _, _, rfl, rfl, ⟨by decide, by decide⟩, rfl, q _ _ hE hS'⟩
end
end Z
namespace Z
open PySem L2 SX
section
variable {P : Program} {w : World} {K : PySem.W.Frag} {mg : Str → Option Value} {base : Heap}
theorem ok_mark_of (D : Df K mg "mark_of" s_mark_of ["rows"]) (T : Tx mg)  : Cal P w K mg base "mark_of" ["rows"] 1 (sp_mark_of K) := by
  obtain ⟨f, fd, F, gf, bf⟩ := D
  refine ⟨f, fd, F.ok sc_mark_of (fun vs H Q E h => ?_) (fun cdv A outer s H vs Q E hr h => ?_), gf, F.kp, bf⟩
  · obtain ⟨a, rs, rfl, _⟩ := h; rfl
  · obtain ⟨a, rs, rfl, hR, q⟩ := h
    refine ⟨_, (pss_cons (ps_set (i := 1) sc_mark_of.nd rfl (Or.inl rfl) pe_int)
      (pss_cons (ps_for PassesOwn.never rfl (pi_tup (pv 0)) (pg_name (i := 2) sc_mark_of.nd rfl (Or.inl rfl))
      (pss_cons (ps_for PassesOwn.never rfl (pi_str (pv 2)) (pg_name (i := 3) sc_mark_of.nd rfl (Or.inl rfl))
        (pss_one (ps_set (i := 1) sc_mark_of.nd rfl (Or.inl rfl) (pe_op op_mod (pe_op op_add (pe_op op_mul pe_int (pv 1)) (pe_callB call_ord (by rfl) T.n_ord (by decide +kernel) (pa_cons (pv 3) pa_nil))) pe_int))))
        (pss_one (ps_set (i := 1) sc_mark_of.nd rfl (Or.inl rfl) (pe_op op_mod (pe_op op_add (pe_op op_mul pe_int (pv 1)) pe_int) pe_int)))))
      (pss_one (ps_ret (pv 1))))), ?_⟩
    refine ⟨_, rfl, a, rfl, ⟨_, hR⟩, ?_⟩
    refine for_tup (K := K) (a := a) (xs := rs.map V.str) (fun i σ H' => ∃ (v2 v3 : Option V), σ = [some (.ref a), some (.int ((codes ((rs.take i).map tl)).foldl mst 7)), v2, v3] ∧ H' = H) ⟨_, _, rfl, rfl⟩ (fun i σ H' _ h => by obtain ⟨_, _, _, rfl⟩ := h; exact hR) ?_ ?_
    · rintro i x σ H' hi ⟨v2, v3, rfl, rfl⟩
      rw [List.getElem?_map] at hi
      obtain ⟨r, hr', rfl⟩ := Option.map_eq_some_iff.mp hi
      refine ⟨_, rfl, _, rfl, ?_⟩
      refine for_str (l := tl r) (fun j σ H2 => ∃ (v3 : Option V), σ = [some (.ref a), some (.int ((codes ((rs.take i).map tl) ++ (tl r).take j).foldl mst 7)), some (.str r), v3] ∧ H2 = H') ⟨_, by rw [List.take_zero, List.append_nil]; rfl, rfl⟩ ?_ ?_
      · rintro j c σ H2 hj ⟨v3, rfl, rfl⟩
        refine ⟨_, rfl, _, _, rfl, rfl, .inl ⟨by decide, by decide⟩, _, rfl, _, rfl, rfl, _, _, rfl, rfl, _, _, rfl, rfl, (by show (0 : Int) < _; decide), ?_⟩
        refine ⟨some (.str (S [c])), ?_, rfl⟩
        rw [fold_snoc hj]
        rfl
      · rintro σ H2 ⟨v3, rfl, rfl⟩
        refine ⟨_, rfl, _, _, rfl, rfl, .inl ⟨by decide, by decide⟩, _, _, rfl, rfl, _, _, rfl, rfl, (by show (0 : Int) < _; decide), ?_⟩
        refine ⟨some (.str r), v3, ?_, rfl⟩
        rw [fold_row hr']
        rfl
    · rintro σ H' ⟨v2, v3, rfl, rfl⟩
      refine ⟨_, rfl, ?_⟩
      rw [List.length_map, List.take_length]
      exact q

theorem ok__law_due (D : Df K mg "_law_due" s__law_due ["rows"]) (T : Tx mg)  : Cal P w K mg base "_law_due" ["rows"] 1 (sp__law_due K) := by
  obtain ⟨f, fd, F, gf, bf⟩ := D
  refine ⟨f, fd, F.ok sc__law_due (fun vs H Q E h => ?_) (fun cdv A outer s H vs Q E hr h => ?_), gf, F.kp, bf⟩
  · obtain ⟨a, rs, rfl, _⟩ := h; rfl
  · obtain ⟨a, rs, rfl, hR, q⟩ := h
    refine ⟨_, (pss_cons (ps_set (i := 1) sc__law_due.nd rfl (Or.inl rfl) pe_int)
      (pss_cons (ps_for PassesOwn.never rfl (pi_tup (pv 0)) (pg_name (i := 2) sc__law_due.nd rfl (Or.inl rfl))
      (pss_cons (ps_for PassesOwn.never rfl (pi_str (pv 2)) (pg_name (i := 3) sc__law_due.nd rfl (Or.inl rfl))
        (pss_one (ps_set (i := 1) sc__law_due.nd rfl (Or.inl rfl) (pe_op op_add (pe_op op_mul (pv 1) pe_int) (pe_callB call_ord (by rfl) T.n_ord (by decide +kernel) (pa_cons (pv 3) pa_nil))))))
        (pss_one (ps_set (i := 1) sc__law_due.nd rfl (Or.inl rfl) (pe_op op_add (pe_op op_mul (pv 1) pe_int) pe_int)))))
      (pss_one (ps_ret (pe_op op_mod (pe_callTy call_int1 (by rfl) T.n_int (by decide +kernel) (pa_cons (pv 1) pa_nil)) pe_int))))), ?_⟩
    refine ⟨_, rfl, a, rfl, ⟨_, hR⟩, ?_⟩
    refine for_tup (K := K) (a := a) (xs := rs.map V.str) (fun i σ H' => ∃ (v2 v3 : Option V), σ = [some (.ref a), some (.int ((codes ((rs.take i).map tl)).foldl bst 7)), v2, v3] ∧ H' = H) ⟨_, _, rfl, rfl⟩ (fun i σ H' _ h => by obtain ⟨_, _, _, rfl⟩ := h; exact hR) ?_ ?_
    · rintro i x σ H' hi ⟨v2, v3, rfl, rfl⟩
      rw [List.getElem?_map] at hi
      obtain ⟨r, hr', rfl⟩ := Option.map_eq_some_iff.mp hi
      refine ⟨_, rfl, _, rfl, ?_⟩
      refine for_str (l := tl r) (fun j σ H2 => ∃ (v3 : Option V), σ = [some (.ref a), some (.int ((codes ((rs.take i).map tl) ++ (tl r).take j).foldl bst 7)), some (.str r), v3] ∧ H2 = H') ⟨_, by rw [List.take_zero, List.append_nil]; rfl, rfl⟩ ?_ ?_
      · rintro j c σ H2 hj ⟨v3, rfl, rfl⟩
        refine ⟨_, rfl, _, _, rfl, rfl, .inr ⟨by decide, by decide⟩, _, rfl, _, rfl, rfl, _, _, rfl, rfl, ?_⟩
        refine ⟨some (.str (S [c])), ?_, rfl⟩
        rw [fold_snoc hj]
        rfl
      · rintro σ H2 ⟨v3, rfl, rfl⟩
        refine ⟨_, rfl, _, _, rfl, rfl, .inr ⟨by decide, by decide⟩, _, _, rfl, rfl, ?_⟩
        refine ⟨some (.str r), v3, ?_, rfl⟩
        rw [fold_row hr']
        rfl
    · rintro σ H' ⟨v2, v3, rfl, rfl⟩
      refine ⟨_, rfl, .inl ⟨_, rfl, _, _, rfl, rfl, (by show (0 : Int) < _; decide), ?_⟩⟩
      rw [List.length_map, List.take_length]
      rw [mark_big] at q
      exact q
end
end Z
namespace Z
open PySem L2 SX
section
variable {P : Program} {w : World} {K : PySem.W.Frag} {mg : Str → Option Value} {base : Heap}
theorem ok__law_signs (D : Df K mg "_law_signs" s__law_signs []) (T : Tx mg)  : Cal P w K mg base "_law_signs" [] 1 sp__law_signs := by
  obtain ⟨f, fd, F, gf, bf⟩ := D
  refine ⟨f, fd, F.ok sc__law_signs (fun vs H Q E h => ?_) (fun cdv A outer s H vs Q E hr h => ?_), gf, F.kp, bf⟩
  · obtain ⟨rfl, _⟩ := h; rfl
  · obtain ⟨rfl, q⟩ := h
    refine ⟨_, (pss_cons (ps_set (i := 0) sc__law_signs.nd rfl (Or.inl rfl) pe_str)
      (pss_one (ps_ret (pe_op op_add_str (pe_op op_add_str (pe_op op_add_str (pe_op op_add_str pe_str (pe_upper (pv 0))) pe_str) (pv 0)) pe_str)))), ?_⟩
    have eU : Txt.upper (Str.ofString "abcdefghijklmnopqrstuvwxyz") = Str.ofString "ABCDEFGHIJKLMNOPQRSTUVWXYZ" := by
      refine tl_ext ?_
      rw [tl_upper (Asc.by_ (by decide +kernel))]
      decide +kernel
    have l1 : ∀ n : Nat, n ≤ 1000 → n ≤ sizeLine := fun n h => Nat.le_trans h (by decide)
    refine ⟨_, rfl, ⟨_, rfl⟩, _, rfl, rfl, by decide +kernel, _, _, rfl, rfl, ?_, _, _, rfl, rfl, ?_, _, rfl, _, _, rfl, rfl, ?_, _, _, rfl, rfl, ?_, ?_⟩
    · rw [eU]; decide +kernel
    · rw [eU]; decide +kernel
    · rw [eU]; decide +kernel
    · rw [eU]; decide +kernel
    · rw [eU]; exact q _ (by decide +kernel)

theorem ok__law_with (D : Df K mg "_law_with" s__law_with ["rows", "place", "more"]) (T : Tx mg)  : Cal P w K mg base "_law_with" ["rows", "place", "more"] 1 (sp__law_with K) := by
  obtain ⟨f, fd, F, gf, bf⟩ := D
  refine ⟨f, fd, F.ok sc__law_with (fun vs H Q E h => ?_) (fun cdv A outer s H vs Q E hr h => ?_), gf, F.kp, bf⟩
  · obtain ⟨a, b, p, xs, ys, rfl, _⟩ := h; rfl
  · obtain ⟨a, b, p, xs, ys, rfl, hA, hB, p0, lx, ly, q⟩ := h
    refine ⟨_, (pss_one (ps_ret (pe_op (op_cat (K := K) rfl) (pe_op (op_cat (K := K) rfl) (pe_slice (sl_tupS (K := K) rfl) (pv 0) po_none (po_some (pv 1))) (pv 2)) (pe_slice (sl_tupS (K := K) rfl) (pv 0) (po_some (pe_op op_add (pv 1) pe_int)) po_none)))), ?_⟩
    refine ⟨_, rfl, _, rfl, p, rfl, a, xs, rfl, hA, fun q1 H1 x1 t1 => ?_⟩
    rw [cutV_to p0] at t1
    refine ⟨_, rfl, q1, b, _, ys, rfl, rfl, t1, x1.tup hB, ?_, fun q2 H2 x2 t2 => ?_⟩
    · rw [List.length_take]; exact Nat.le_trans (show _ ≤ 2000 by omega) (by decide)
    refine ⟨_, rfl, _, rfl, _, _, rfl, rfl, p + 1, rfl, a, xs, rfl, x2.tup (x1.tup hA), fun q3 H3 x3 t3 => ?_⟩
    rw [cutV_from (by omega), show (p + 1).toNat = p.toNat + 1 by omega] at t3
    refine ⟨q2, q3, _, _, rfl, rfl, x3.tup t2, t3, ?_, fun q4 H4 x4 t4 => ?_⟩
    · rw [List.length_append, List.length_take, List.length_drop]; exact Nat.le_trans (show _ ≤ 3000 by omega) (by decide)
    · exact q q4 H4 (x1.trans (x2.trans (x3.trans x4))) t4

theorem ok__law_unlike_right (D : Df K mg "_law_unlike_right" s__law_unlike_right ["rows", "changed"]) (T : Tx mg) (C__law_due : Cal P w K mg base "_law_due" ["rows"] 1 (sp__law_due K)) (C__law_same : Cal P w K mg base "_law_same" ["actual", "due"] 3 (sp__law_same K 2)) (C_mark_of : Cal P w K mg base "mark_of" ["rows"] 1 (sp_mark_of K)) : Cal P w K mg base "_law_unlike_right" ["rows", "changed"] 4 (sp__law_unlike_right K) := by
  obtain ⟨f__law_due, fd__law_due, G__law_due, g__law_due, k__law_due, b__law_due⟩ := C__law_due
  obtain ⟨f__law_same, fd__law_same, G__law_same, g__law_same, k__law_same, b__law_same⟩ := C__law_same
  obtain ⟨f_mark_of, fd_mark_of, G_mark_of, g_mark_of, k_mark_of, b_mark_of⟩ := C_mark_of
  obtain ⟨f, fd, F, gf, bf⟩ := D
  refine ⟨f, fd, F.ok sc__law_unlike_right (fun vs H Q E h => ?_) (fun cdv A outer s H vs Q E hr h => ?_), gf, F.kp, bf⟩
  · obtain ⟨a, b, xs, ys, rfl, _⟩ := h; rfl
  · obtain ⟨a, b, xs, ys, rfl, hA, hB, ne, q⟩ := h
    refine ⟨_, (pss_cons (ps_set (i := 2) sc__law_unlike_right.nd rfl (Or.inl rfl) (pe_call G_mark_of (hr.mono (by decide)) (by rfl) g_mark_of k_mark_of b_mark_of .nil pass0 (pa_cons (pv 1) pa_nil)))
      (pss_one (ps_ret (pe_and (pe_call G__law_same (hr.mono (by decide)) (by rfl) g__law_same k__law_same b__law_same .nil pass0 (pa_cons (pv 2) (pa_cons (pe_call G__law_due (hr.mono (by decide)) (by rfl) g__law_due k__law_due b__law_due .nil pass0 (pa_cons (pv 1) pa_nil)) pa_nil))) (pe_one (pe_cmpR op_ne (pv 2) (pe_call G_mark_of (hr.mono (by decide)) (by rfl) g_mark_of k_mark_of b_mark_of .nil pass0 (pa_cons (pv 0) pa_nil)) (nomark _))))))), ?_⟩
    refine ⟨_, rfl, b, ys, rfl, hB, ?_⟩
    refine ⟨_, rfl, _, rfl, b, ys, rfl, hB, ?_⟩
    refine ⟨.int (mark (ys.map tl)), _, _, rfl, by unfold DV; rfl, by unfold DV; rfl, True.intro, _, rfl, iteT ?_⟩
    refine ⟨_, rfl, _, rfl, a, xs, rfl, hA, rfl, ?_⟩
    rw [decide_eq_false (fun h => ne (V.int.inj h))]
    exact q

theorem ok__law_other (D : Df K mg "_law_other" s__law_other ["source", "sign"]) (T : Tx mg) (C__law_draw : Cal P w K mg base "_law_draw" ["source", "many"] 2 sp__law_draw) (C__law_signs : Cal P w K mg base "_law_signs" [] 1 sp__law_signs) : Cal P w K mg base "_law_other" ["source", "sign"] 3 sp__law_other := by
  obtain ⟨f__law_draw, fd__law_draw, G__law_draw, g__law_draw, k__law_draw, b__law_draw⟩ := C__law_draw
  obtain ⟨f__law_signs, fd__law_signs, G__law_signs, g__law_signs, k__law_signs, b__law_signs⟩ := C__law_signs
  obtain ⟨f, fd, F, gf, bf⟩ := D
  refine ⟨f, fd, F.ok sc__law_other (fun vs H Q E h => ?_) (fun cdv A outer s H vs Q E hr h => ?_), gf, F.kp, bf⟩
  · obtain ⟨s, a, d, c, rfl, _⟩ := h; rfl
  · obtain ⟨s, a, d, c, rfl, hd, hS, q⟩ := h
    refine ⟨_, (pss_cons (ps_set (i := 2) sc__law_other.nd rfl (Or.inl rfl) (pe_call0 G__law_signs (hr.mono (by decide)) (by rfl) g__law_signs k__law_signs b__law_signs .nil pass0))
      (pss_one (ps_ret (pe_item_str (pv 2) (pe_op op_mod (pe_callTy call_int1 (by rfl) T.n_int (by decide +kernel) (pa_cons (pe_op op_add (pe_op op_add (pe_bm PySem.F.plainAttrs_str PySem.F.slot_str_index PySem.F.type_str_index mt_sindex (pv 2) (pa_cons (pv 1) pa_nil)) pe_int) (pe_call G__law_draw (hr.mono (by decide)) (by rfl) g__law_draw k__law_draw b__law_draw .nil pass0 (pa_cons (pv 0) (pa_cons pe_int pa_nil)))) pa_nil)) pe_int) (fun _ _ => rfl))))), ?_⟩
    refine ⟨rfl, fun x hx => ?_⟩
    have ex : x = S sgn := by rw [← hx]
    subst ex
    obtain ⟨i, hi, e⟩ := List.getElem_of_mem hd
    have hi' : i < 94 := hi
    obtain ⟨d', e1, e2⟩ := sgn_occ i hi'
    have : d' = d := by rw [List.getElem?_eq_getElem hi, e] at e1; exact (Option.some.inj e1).symm
    subst this
    refine ⟨_, rfl, _, rfl, rfl, _, rfl, _, _, i, [], rfl, rfl, e2, _, _, rfl, rfl, _, rfl, s, a, _, c, rfl, by decide, by decide, hS, fun v H' v0 v1 hE hS' => ?_⟩
    have m0 := Int.emod_nonneg ((i : Int) + 1 + v) (by decide : (94 : Int) ≠ 0)
    have m1 := Int.emod_lt_of_pos ((i : Int) + 1 + v) (by decide : (0 : Int) < 94)
    obtain ⟨ch, g1, g2, g3⟩ := at_str (x := S sgn) m0 m1
    refine ⟨_, _, rfl, rfl, .inl ⟨_, rfl, _, _, rfl, rfl, (by show (0 : Int) < _; decide), _, _, ch, rfl, rfl, m0, Int.lt_of_lt_of_le m1 (by decide), m1, g1, ?_⟩⟩
    refine q ch H' g3 (fun hc => ?_) hE hS'
    subst hc
    have := nd_ix sgn_nodup g2 e1
    omega

theorem ok__law_drawn_row (D : Df K mg "_law_drawn_row" s__law_drawn_row ["source"]) (T : Tx mg) (C__law_draw : Cal P w K mg base "_law_draw" ["source", "many"] 2 sp__law_draw) (C__law_signs : Cal P w K mg base "_law_signs" [] 1 sp__law_signs) : Cal P w K mg base "_law_drawn_row" ["source"] 3 sp__law_drawn_row := by
  obtain ⟨f__law_draw, fd__law_draw, G__law_draw, g__law_draw, k__law_draw, b__law_draw⟩ := C__law_draw
  obtain ⟨f__law_signs, fd__law_signs, G__law_signs, g__law_signs, k__law_signs, b__law_signs⟩ := C__law_signs
  obtain ⟨f, fd, F, gf, bf⟩ := D
  refine ⟨f, fd, F.ok sc__law_drawn_row (fun vs H Q E h => ?_) (fun cdv A outer s H vs Q E hr h => ?_), gf, F.kp, bf⟩
  · obtain ⟨s, a, c, rfl, _⟩ := h; rfl
  · obtain ⟨s, a, c, rfl, hS, q⟩ := h
    refine ⟨_, (pss_cons (ps_set (i := 1) sc__law_drawn_row.nd rfl (Or.inr rfl) (pe_call0 G__law_signs (hr.mono (by decide)) (by rfl) g__law_signs k__law_signs b__law_signs .nil pass0))
      (pss_cons (ps_set (i := 2) sc__law_drawn_row.nd rfl (Or.inl rfl) (pe_call G__law_draw (hr.mono (by decide)) (by rfl) g__law_draw k__law_draw b__law_draw .nil pass0 (pa_cons (pv 0) (pa_cons pe_int pa_nil))))
      (pss_cons (ps_if (pt_cmpR op_eq (pv 2) pe_int (nomark _))
      (pss_one (ps_ret pe_str))
      pss_nil)
      (pss_cons (ps_if (pt_cmpR op_eq (pv 2) pe_int (nomark _))
      (pss_cons (ps_set (i := 3) sc__law_drawn_row.nd rfl (Or.inl rfl) (pe_join pe_str (pe_lc (own := [("k", 4)]) (g := gName 4) (tt := tYes) rfl sc__law_drawn_row.nd (pi_range1 (by rfl) T.n_range (pa_cons (pe_op op_add pe_int (pe_call G__law_draw (hr.mono (by decide)) (by rfl) g__law_draw k__law_draw b__law_draw .nil pass0 (pa_cons (pv 0) (pa_cons pe_int pa_nil)))) pa_nil)) (blkOk_by (own := [("k", 4)]) (N := N__law_drawn_row) (sc := defScope s__law_drawn_row) (by decide +kernel)) (fun _ _ _ _ _ => pg_name (i := 4) sc__law_drawn_row.nd rfl (Or.inl rfl)) (fun _ _ _ _ _ => pts_nil) (fun _ _ _ _ _ => (pe_item_str (pv 1) (pe_call G__law_draw (hr.mono (by decide)) (by rfl) g__law_draw k__law_draw b__law_draw .nil pass0 (pa_cons (pv 0) (pa_cons pe_int pa_nil))) (fun _ _ => rfl))))))
        (pss_one (ps_ret (pe_slice sl_str (pe_op op_mul_str (pv 3) pe_int) po_none (po_some (pe_op op_add pe_int (pe_call G__law_draw (hr.mono (by decide)) (by rfl) g__law_draw k__law_draw b__law_draw .nil pass0 (pa_cons (pv 0) (pa_cons pe_int pa_nil)))))))))
      pss_nil)
      (pss_one (ps_ret (pe_join pe_str (pe_lc (own := [("k", 4)]) (g := gName 4) (tt := tYes) rfl sc__law_drawn_row.nd (pi_range1 (by rfl) T.n_range (pa_cons (pe_call G__law_draw (hr.mono (by decide)) (by rfl) g__law_draw k__law_draw b__law_draw .nil pass0 (pa_cons (pv 0) (pa_cons pe_int pa_nil))) pa_nil)) (blkOk_by (own := [("k", 4)]) (N := N__law_drawn_row) (sc := defScope s__law_drawn_row) (by decide +kernel)) (fun _ _ _ _ _ => pg_name (i := 4) sc__law_drawn_row.nd rfl (Or.inl rfl)) (fun _ _ _ _ _ => pts_nil) (fun _ _ _ _ _ => (pe_item_str (pv 1) (pe_call G__law_draw (hr.mono (by decide)) (by rfl) g__law_draw k__law_draw b__law_draw .nil pass0 (pa_cons (pv 0) (pa_cons pe_int pa_nil))) (fun _ _ => rfl))))))))))), ?_⟩
    refine ⟨rfl, fun x hx => ?_⟩
    have ex : x = S sgn := by rw [← hx]
    subst ex
    refine ⟨_, rfl, s, a, _, c + 59, rfl, by decide, by decide, hS, fun v1 H1 v10 v11 x1 S1 => ?_⟩
    refine ⟨_, rfl, rfl, _, rfl, ite2 (fun _ => q _ H1 (fun _ h => by cases h) (by decide) x1 (S1.mono (by omega))) (fun _ => ?_)⟩
    refine ⟨_, rfl, rfl, _, rfl, ite2 (fun _ => ?_) (fun _ => ?_)⟩
    · refine ⟨⟨_, rfl⟩, _, rfl, s, a, _, c + 58, rfl, by decide, by decide, S1, fun v2 H2 v20 v21 x2 S2 => ?_⟩
      refine ⟨_, _, rfl, rfl, _, rfl, by omega, by omega, fun D hD => ?_⟩
      refine lc_strs (n := (1 + v2).toNat) (d := 1) (c := c + 50) (fun x => ∃ ch, tl x = [ch] ∧ ch ∈ sgn) hD (S2.mono (by omega)) (by omega) (fun _ => rfl) (fun i c' Hx R hi hE' hS' k => ?_) (fun xs H3 hx3 hl3 hA3 hE3 hS3 => ?_)
      · refine ⟨_, rfl, _, rfl, s, a, _, c', rfl, by decide, by decide, hS', fun v3 H3 v30 v31 x3 S3 => ?_⟩
        obtain ⟨ch, g1, _, g3⟩ := at_str (x := S sgn) v30 v31
        exact ⟨_, _, ch, rfl, rfl, v30, Int.lt_of_lt_of_le v31 (by decide), v31, g1, k _ H3 ⟨ch, rfl, g3⟩ x3 S3⟩
      · refine ⟨_, D, xs, rfl, rfl, .inl (SqL.of hx3), by rw [ones_room hA3]; omega, ?_⟩
        have hl : (tl (Txt.join (Str.ofString "") xs)).length = xs.length := by rw [ones_joinE hA3, heads_len]
        refine ⟨_, rfl, _, _, rfl, rfl, by decide, by decide, by rw [hl]; show xs.length * 40 ≤ _; omega, fun r hr' => ?_⟩
        refine ⟨_, rfl, s, a, _, c + 49, rfl, by decide, by decide, hS3, fun v4 H4 v40 v41 x4 S4 => ?_⟩
        refine ⟨_, _, rfl, rfl, _, rfl, _, rfl, ?_, ?_⟩
        · rw [tl_len, hr', rep_len, hl]; exact Nat.le_trans (show _ ≤ 40 * 5 by exact Nat.mul_le_mul_left _ (by omega)) (by decide)
        · refine q _ H4 ?_ ?_ (x1.trans (x2.trans (hE3.trans x4))) (S4.mono (by omega))
          · rw [cutS_to (by omega), hr', ones_joinE hA3]; exact ((ones_sg hA3).rep _).take _
          · rw [cutS_to (by omega), List.length_take]; omega
    · refine ⟨⟨_, rfl⟩, _, rfl, s, a, _, c + 58, rfl, by decide, by decide, S1, fun v2 H2 v20 v21 x2 S2 => ?_⟩
      refine ⟨_, rfl, by omega, by omega, fun D hD => ?_⟩
      refine lc_strs (n := v2.toNat) (d := 1) (c := c + 30) (fun x => ∃ ch, tl x = [ch] ∧ ch ∈ sgn) hD (S2.mono (by omega)) (by omega) (fun _ => rfl) (fun i c' Hx R hi hE' hS' k => ?_) (fun xs H3 hx3 hl3 hA3 hE3 hS3 => ?_)
      · refine ⟨_, rfl, _, rfl, s, a, _, c', rfl, by decide, by decide, hS', fun v3 H3 v30 v31 x3 S3 => ?_⟩
        obtain ⟨ch, g1, _, g3⟩ := at_str (x := S sgn) v30 v31
        exact ⟨_, _, ch, rfl, rfl, v30, Int.lt_of_lt_of_le v31 (by decide), v31, g1, k _ H3 ⟨ch, rfl, g3⟩ x3 S3⟩
      · refine ⟨_, D, xs, rfl, rfl, .inl (SqL.of hx3), by rw [ones_room hA3]; omega, ?_⟩
        have hl : (tl (Txt.join (Str.ofString "") xs)).length = xs.length := by rw [ones_joinE hA3, heads_len]
        refine q _ H3 ?_ (by rw [hl]; omega) (x1.trans (x2.trans hE3)) (hS3.mono (by omega))
        rw [ones_joinE hA3]; exact ones_sg hA3
end
end Z
namespace Z
open PySem L2 SX
section
variable {P : Program} {w : World} {K : PySem.W.Frag} {mg : Str → Option Value} {base : Heap}
theorem ok__law_changes_right (D : Df K mg "_law_changes_right" s__law_changes_right ["source", "rows", "place"]) (T : Tx mg) (C__law_draw : Cal P w K mg base "_law_draw" ["source", "many"] 2 sp__law_draw) (C__law_other : Cal P w K mg base "_law_other" ["source", "sign"] 3 sp__law_other) (C__law_pick : Cal P w K mg base "_law_pick" ["source", "row"] 3 (sp__law_pick K)) (C__law_unlike_right : Cal P w K mg base "_law_unlike_right" ["rows", "changed"] 4 (sp__law_unlike_right K)) (C__law_with : Cal P w K mg base "_law_with" ["rows", "place", "more"] 1 (sp__law_with K)) : Cal P w K mg base "_law_changes_right" ["source", "rows", "place"] 5 (sp__law_changes_right K) := by
  obtain ⟨f__law_draw, fd__law_draw, G__law_draw, g__law_draw, k__law_draw, b__law_draw⟩ := C__law_draw
  obtain ⟨f__law_other, fd__law_other, G__law_other, g__law_other, k__law_other, b__law_other⟩ := C__law_other
  obtain ⟨f__law_pick, fd__law_pick, G__law_pick, g__law_pick, k__law_pick, b__law_pick⟩ := C__law_pick
  obtain ⟨f__law_unlike_right, fd__law_unlike_right, G__law_unlike_right, g__law_unlike_right, k__law_unlike_right, b__law_unlike_right⟩ := C__law_unlike_right
  obtain ⟨f__law_with, fd__law_with, G__law_with, g__law_with, k__law_with, b__law_with⟩ := C__law_with
  obtain ⟨f, fd, F, gf, bf⟩ := D
  refine ⟨f, fd, F.ok sc__law_changes_right (fun vs H Q E h => ?_) (fun cdv A outer s₀ H vs Q E hr h => ?_), gf, F.kp, bf⟩
  · obtain ⟨s, a, r, p, xs, c, rfl, _⟩ := h; rfl
  · obtain ⟨s, a, r, p, xs, c, rfl, hR, p0, p1, xl, hX, hN, hS, q⟩ := h
    refine ⟨_, (pss_cons (ps_set (i := 3) sc__law_changes_right.nd rfl (Or.inr rfl) (pe_ix ix_tup (pv 1) (pv 2) (fun _ _ => rfl)))
      (pss_cons (ps_set (i := 4) sc__law_changes_right.nd rfl (Or.inl rfl) (pe_call G__law_draw (hr.mono (by decide)) (by rfl) g__law_draw k__law_draw b__law_draw .nil pass0 (pa_cons (pv 0) (pa_cons (pe_callB call_lenS (by rfl) T.n_len PySem.boot_len (pa_cons (pv 3) pa_nil)) pa_nil))))
      (pss_cons (ps_set (i := 5) sc__law_changes_right.nd rfl (Or.inl rfl) (pe_call G__law_with (hr.mono (by decide)) (by rfl) g__law_with k__law_with b__law_with .nil pass0 (pa_cons (pv 1) (pa_cons (pv 2) (pa_cons (pe_tup (pa_cons (pe_op op_add_str (pe_op op_add_str (pe_slice sl_str (pv 3) po_none (po_some (pv 4))) (pe_call G__law_other (hr.mono (by decide)) (by rfl) g__law_other k__law_other b__law_other .nil pass0 (pa_cons (pv 0) (pa_cons (pe_item_str (pv 3) (pv 4) (fun _ _ => rfl)) pa_nil)))) (pe_slice sl_str (pv 3) (po_some (pe_op op_add (pv 4) pe_int)) po_none)) pa_nil)) pa_nil)))))
      (pss_cons (ps_if (pt_not (pt_val (pe_call G__law_unlike_right (hr.mono (by decide)) (by rfl) g__law_unlike_right k__law_unlike_right b__law_unlike_right .nil pass0 (pa_cons (pv 1) (pa_cons (pv 5) pa_nil)))))
      (pss_one (ps_ret pe_bl))
      pss_nil)
      (pss_cons (ps_setLc (i := 6) (own := [("k", 7)]) (g := gName 7) rfl sc__law_changes_right.nd rfl rfl (sw_true rfl rfl rfl (by decide +kernel)) (pi_range2 (by rfl) T.n_range (pa_cons pe_int (pa_cons (pe_callB call_lenS (by rfl) T.n_len PySem.boot_len (pa_cons (pv 3) pa_nil)) pa_nil))) (blkOk_by (own := [("k", 7)]) (N := N__law_changes_right) (sc := defScope s__law_changes_right) (by decide +kernel)) (fun _ _ _ _ _ => pg_name (i := 7) sc__law_changes_right.nd rfl (Or.inl rfl)) (fun _ _ _ _ _ => pts_one (pt_cmpR op_ne (pe_item_str (pv 3) (pv 7) (fun _ _ => rfl)) (pe_item_str (pv 3) (pe_op op_sub (pv 7) pe_int) (fun _ _ => rfl)) (nomark _))) (fun _ _ _ _ _ => (pv 7)))
      (pss_cons (ps_if (pt_cmpR op_eq (pe_callB call_len_seq (by rfl) T.n_len PySem.boot_len (pa_cons (pv 6) pa_nil)) pe_int (nomark _))
      (pss_one (ps_ret pe_bl))
      pss_nil)
      (pss_cons (ps_set (i := 4) sc__law_changes_right.nd rfl (Or.inl rfl) (pe_call G__law_pick (hr.mono (by decide)) (by rfl) g__law_pick k__law_pick b__law_pick .nil pass0 (pa_cons (pv 0) (pa_cons (pv 6) pa_nil))))
      (pss_cons (ps_set (i := 5) sc__law_changes_right.nd rfl (Or.inl rfl) (pe_call G__law_with (hr.mono (by decide)) (by rfl) g__law_with k__law_with b__law_with .nil pass0 (pa_cons (pv 1) (pa_cons (pv 2) (pa_cons (pe_tup (pa_cons (pe_op op_add_str (pe_op op_add_str (pe_op op_add_str (pe_slice sl_str (pv 3) po_none (po_some (pe_op op_sub (pv 4) pe_int))) (pe_item_str (pv 3) (pv 4) (fun _ _ => rfl))) (pe_item_str (pv 3) (pe_op op_sub (pv 4) pe_int) (fun _ _ => rfl))) (pe_slice sl_str (pv 3) (po_some (pe_op op_add (pv 4) pe_int)) po_none)) pa_nil)) pa_nil)))))
      (pss_one (ps_ret (pe_call G__law_unlike_right (hr.mono (by decide)) (by rfl) g__law_unlike_right k__law_unlike_right b__law_unlike_right .nil pass0 (pa_cons (pv 1) (pa_cons (pv 5) pa_nil))))))))))))), ?_⟩
    obtain ⟨x, ex⟩ : ∃ x, xs[p.toNat]? = some x := ⟨_, List.getElem?_eq_getElem (show p.toNat < xs.length by omega)⟩
    have xm := List.mem_of_getElem? ex
    obtain ⟨xS, xL⟩ := hX x xm
    have xn : 0 < (tl x).length := List.length_pos_iff.mpr (hN x ex)
    have lx := tl_len x
    have small : ∀ n : Nat, n ≤ 10000 → n ≤ sizeLine := fun n h => Nat.le_trans h (by decide)
    have hcut := cut_at (l := xs.map tl) (i := p.toNat) (x := tl x) (by rw [List.getElem?_map, ex]; rfl)
    refine ⟨_, rfl, _, rfl, r, _, _, .str x, rfl, rfl, hR, atI_pos p0 (by rw [List.getElem?_map, ex]; rfl), ?_⟩
    refine ⟨_, rfl, _, rfl, x, rfl, small _ (by omega), s, a, (x.length : Int), c + 9, rfl, by omega, by omega, hS, fun at_ H1 t0 t1 x1 S1 => ?_⟩
    have hR1 : SqT K H1 r (xs.map V.str) := x1.seqT hS.lst.choose_spec hR
    obtain ⟨d, g1, g2, g3⟩ := at_str (x := x) t0 t1
    have cx := cut_at g2
    -- the changed row
    refine ⟨_, rfl, _, rfl, _, rfl, _, rfl, at_, rfl, x, rfl, small _ (by omega), ?_⟩
    refine ⟨_, rfl, _, rfl, _, rfl, x, at_, d, rfl, rfl, t0, Int.lt_of_lt_of_le t1 (by omega), t1, g1, ?_⟩
    refine ⟨s, a, d, c + 8, rfl, xS d g3, S1, fun e H2 he ne x2 S2 => ?_⟩
    have hR2 : SqT K H2 r (xs.map V.str) := x2.seqT S1.lst.choose_spec hR1
    refine ⟨_, _, rfl, rfl, small _ ?_, _, rfl, _, rfl, _, _, rfl, rfl, at_ + 1, rfl, x, rfl, small _ (by omega), _, _, rfl, rfl, small _ ?_, by show 1 ≤ sizeLine; decide, fun t ht => ?_⟩
    · rw [tl_len, cutS_to t0, List.length_take]; show min _ _ + 1 ≤ _; omega
    · rw [tl_len, tl_len, tl_app, cutS_to t0, cutS_from (by omega), List.length_append, List.length_take, List.length_drop]; show (min _ _ + 1) + _ ≤ _; omega
    · have er : tl (cutS x none (some at_) ++ S [e] ++ cutS x (some (at_ + 1)) none) = (tl x).take at_.toNat ++ e :: (tl x).drop (at_.toNat + 1) := by
        rw [tl_app, tl_app, cutS_to t0, cutS_from (by omega), show (at_ + 1).toNat = at_.toNat + 1 by omega, List.append_assoc]; rfl
      generalize hy : cutS x none (some at_) ++ S [e] ++ cutS x (some (at_ + 1)) none = y at ht er ⊢
      have S3 := S2.new (o := HO.tup [V.str y]) ht
      have hR3 := (same_new (o := HO.tup [V.str y]) ht).tup hR2
      refine ⟨r, t, p, _, [V.str y], rfl, hR3, SqT.of upd_same, p0, by rw [List.length_map]; omega, by show 1 ≤ 1000; decide, fun b H4 x4 t4 => ?_⟩
      have hR4 := x4.tup hR3
      have S4 := S3.ext x4
      refine ⟨_, rfl, _, rfl, r, b, xs, (xs.take p.toNat ++ [y] ++ xs.drop (p.toNat + 1)), rfl, hR4, ?_, ?_, _, rfl, iteF ?_⟩
      · rw [List.map_append, List.map_append, List.map_take, List.map_drop]; exact t4
      · rw [List.map_append, List.map_append, List.map_take, List.map_drop]
        have h1 := mark_one ((xs.map tl).take p.toNat) ((xs.map tl).drop (p.toNat + 1)) ((tl x).take at_.toNat) ((tl x).drop (at_.toNat + 1)) (sg_le he) (sg_le (xS d g3)) ne
        rw [← cx] at h1
        have h2 : xs.map tl = (xs.map tl).take p.toNat ++ [tl x] ++ (xs.map tl).drop (p.toNat + 1) := by rw [List.append_assoc]; exact hcut
        rw [← h2] at h1
        show mark (_ ++ [tl y] ++ _) ≠ _
        rw [er]; exact h1
      -- unlike neighbours
      have mul : ∀ H' : Hp, Ext s H H' → Src H' s a (c + 1) → Src H' s a c := fun H' _ h => h.mono (by omega)
      refine ⟨_, rfl, x, rfl, small _ (by omega), 1, (x.length : Int), rfl, ⟨by decide, by decide, by omega, by omega⟩, fun D hD => ?_⟩
      have E4 : Ext s H H4 := x1.trans (x2.trans ((Ext.new ht).trans (Ext.of x4)))
      refine lc_range (lo := 1) (n := ((x.length : Int) - 1).toNat) (fun i H' => ∃ ks : List Int, H' D = some (.lst (ks.map V.int)) ∧ ks.length ≤ i ∧ Same H4 H' ∧ ∀ k ∈ ks, 1 ≤ k ∧ k < (x.length : Int) ∧ ∃ u v, (tl x)[k.toNat]? = some u ∧ (tl x)[k.toNat - 1]? = some v ∧ u ≠ v) ?_ ?_ ?_
      · exact ⟨[], upd_same, Nat.le_refl _, same_new hD, fun _ h => by cases h⟩
      · rintro i H' hi ⟨ks, hk, hl, hM, hK⟩
        obtain ⟨u, u1, u2, u3⟩ := at_str (x := x) (i := 1 + (i : Int)) (by omega) (by omega)
        obtain ⟨v, v1, v2, v3⟩ := at_str (x := x) (i := 1 + (i : Int) - 1) (by omega) (by omega)
        refine ⟨rfl, _, rfl, _, rfl, x, _, u, rfl, rfl, by omega, by omega, by omega, u1, _, rfl, _, rfl, _, _, rfl, rfl, x, _, v, rfl, rfl, by omega, by omega, by omega, v1, rfl, _, rfl, ite2 (fun cc => ?_) (fun _ => ⟨ks, hk, by omega, hM, hK⟩)⟩
        refine ⟨_, rfl, _, hk, ?_, ks ++ [1 + (i : Int)], by rw [upd_same, List.map_append]; rfl, by rw [List.length_append]; show _ + 1 ≤ _; omega, fun b o hb => ?_, fun k hk' => ?_⟩
        · rw [List.length_map]; exact Nat.lt_of_le_of_lt (show ks.length ≤ 3000 by omega) (by decide)
        · rw [upd_ne (ne_of_none hb hD)]; exact hM _ _ hb
        · rcases List.mem_append.mp hk' with h | h
          · exact hK k h
          · rw [List.mem_singleton.mp h]
            refine ⟨by omega, by omega, u, v, u2, ?_, fun e => ?_⟩
            · rw [← v2]; congr 1; omega
            · subst e; simp at cc
      · rintro H5 ⟨ks, hk, hl, hM, hK⟩
        have S5 := S4.ext hM
        have hR5 := hM.tup hR4
        refine ⟨_, rfl, D, _, rfl, .inl (SqL.of hk), rfl, _, rfl, ite2 (fun _ => ?_) (fun cc => ?_)⟩
        · exact q H5 (E4.trans (Ext.of hM)) (S5.mono (by omega))
        have kn : ks ≠ [] := fun e => by subst e; exact cc (decide_eq_true rfl)
        refine ⟨_, rfl, _, rfl, .inl ⟨s, a, D, ks.map V.int, c + 1, rfl, SqL.of hk, S4.ne hD, fun e => kn (List.map_eq_nil_iff.mp e), by rw [List.length_map]; omega, S5.mono (by omega), fun kv H6 km x6 S6 => ?_⟩⟩
        obtain ⟨k, kk, rfl⟩ := List.mem_map.mp km
        obtain ⟨k0, k1, u, v, hu, hv, ne2⟩ := hK k kk
        have hR6 : SqT K H6 r (xs.map V.str) := x6.seqT S5.lst.choose_spec hR5
        have gu : x.cps[k.toNat]? = some u := by rw [← hu]; simp [tl]
        have gv : x.cps[(k - 1).toNat]? = some v := by rw [show (k - 1).toNat = k.toNat - 1 by omega, ← hv]; simp [tl]
        refine ⟨_, rfl, _, rfl, _, rfl, _, rfl, _, _, rfl, rfl, k - 1, rfl, x, rfl, small _ (by omega), ?_⟩
        refine ⟨_, rfl, _, rfl, x, k, u, rfl, rfl, by omega, by omega, by omega, gu, _, _, rfl, rfl, small _ ?_, ?_⟩
        · rw [tl_len, cutS_to (by omega), List.length_take]; show min _ _ + 1 ≤ _; omega
        refine ⟨_, rfl, _, rfl, _, _, rfl, rfl, x, k - 1, v, rfl, rfl, by omega, by omega, by omega, gv, _, _, rfl, rfl, small _ ?_, ?_⟩
        · rw [tl_len, tl_app, List.length_append, cutS_to (by omega), List.length_take]; show (min _ _ + 1) + 1 ≤ _; omega
        refine ⟨_, rfl, _, rfl, _, _, rfl, rfl, k + 1, rfl, x, rfl, small _ (by omega), _, _, rfl, rfl, small _ ?_, by show 1 ≤ sizeLine; decide, fun t7 ht7 => ?_⟩
        · rw [tl_len, tl_len, tl_app, tl_app, List.length_append, List.length_append, cutS_to (by omega), cutS_from (by omega), List.length_take, List.length_drop]; show ((min _ _ + 1) + 1) + _ ≤ _; omega
        have er2 : tl (cutS x none (some (k - 1)) ++ S [u] ++ S [v] ++ cutS x (some (k + 1)) none) = (tl x).take (k.toNat - 1) ++ u :: v :: (tl x).drop (k.toNat - 1 + 2) := by
          rw [tl_app, tl_app, tl_app, cutS_to (by omega), cutS_from (by omega), show (k + 1).toNat = k.toNat - 1 + 2 by omega, show (k - 1).toNat = k.toNat - 1 by omega, List.append_assoc, List.append_assoc]; rfl
        generalize hy2 : cutS x none (some (k - 1)) ++ S [u] ++ S [v] ++ cutS x (some (k + 1)) none = y2 at ht7 er2 ⊢
        have hR7 := (same_new (o := HO.tup [V.str y2]) ht7).tup hR6
        refine ⟨r, t7, p, _, [V.str y2], rfl, hR7, SqT.of upd_same, p0, by rw [List.length_map]; omega, by show 1 ≤ 1000; decide, fun b8 H8 x8 t8 => ?_⟩
        refine ⟨_, rfl, _, rfl, r, b8, xs, (xs.take p.toNat ++ [y2] ++ xs.drop (p.toNat + 1)), rfl, x8.tup hR7, ?_, ?_, ?_⟩
        · rw [List.map_append, List.map_append, List.map_take, List.map_drop]; exact t8
        · rw [List.map_append, List.map_append, List.map_take, List.map_drop]
          have c2 := cut_two (l := tl x) (i := k.toNat - 1) hv (by rw [show k.toNat - 1 + 1 = k.toNat by omega]; exact hu)
          have h1 := mark_two ((xs.map tl).take p.toNat) ((xs.map tl).drop (p.toNat + 1)) ((tl x).take (k.toNat - 1)) ((tl x).drop (k.toNat - 1 + 2)) (c := u) (d := v) (sg_le (xS u (List.mem_of_getElem? hu))) (sg_le (xS v (List.mem_of_getElem? hv))) ne2
          rw [← c2] at h1
          have h2 : xs.map tl = (xs.map tl).take p.toNat ++ [tl x] ++ (xs.map tl).drop (p.toNat + 1) := by rw [List.append_assoc]; exact hcut
          rw [← h2] at h1
          show mark (_ ++ [tl y2] ++ _) ≠ _
          rw [er2]; exact h1
        · exact q H8 (E4.trans ((Ext.of hM).trans (x6.trans ((Ext.new ht7).trans (Ext.of x8))))) (((S6.new ht7).ext x8).mono (by omega))

end
end Z
namespace Z
open PySem L2 SX
section
variable {P : Program} {w : World} {K : PySem.W.Frag} {mg : Str → Option Value} {base : Heap}
theorem ok__law_others (D : Df K mg "_law_others" s__law_others ["source", "rows", "place"]) (T : Tx mg) (C__law_draw : Cal P w K mg base "_law_draw" ["source", "many"] 2 sp__law_draw) (C__law_with : Cal P w K mg base "_law_with" ["rows", "place", "more"] 1 (sp__law_with K)) : Cal P w K mg base "_law_others" ["source", "rows", "place"] 5 (sp__law_others K) := by
  obtain ⟨f__law_draw, fd__law_draw, G__law_draw, g__law_draw, k__law_draw, b__law_draw⟩ := C__law_draw
  obtain ⟨f__law_with, fd__law_with, G__law_with, g__law_with, k__law_with, b__law_with⟩ := C__law_with
  obtain ⟨f, fd, F, gf, bf⟩ := D
  refine ⟨f, fd, F.ok sc__law_others (fun vs H Q E h => ?_) (fun cdv A outer s₀ H vs Q E hr h => ?_), gf, F.kp, bf⟩
  · obtain ⟨s, a, r, p, xs, c, rfl, _⟩ := h; rfl
  · obtain ⟨s, a, r, p, xs, c, rfl, hR, p0, p1, xl, hX, hS, q⟩ := h
    refine ⟨_, (pss_cons (ps_set (i := 3) sc__law_others.nd rfl (Or.inl rfl) (pe_ix ix_tup (pv 1) (pv 2) (fun _ _ => rfl)))
      (pss_cons (ps_set (i := 4) sc__law_others.nd rfl (Or.inl rfl) (pe_call G__law_draw (hr.mono (by decide)) (by rfl) g__law_draw k__law_draw b__law_draw .nil pass0 (pa_cons (pv 0) (pa_cons (pe_op op_add (pe_callB call_lenS (by rfl) T.n_len PySem.boot_len (pa_cons (pv 3) pa_nil)) pe_int) pa_nil))))
      (pss_cons (ps_set (i := 5) sc__law_others.nd rfl (Or.inl rfl) (pe_lst (pa_cons (pe_call G__law_with (hr.mono (by decide)) (by rfl) g__law_with k__law_with b__law_with .nil pass0 (pa_cons (pv 1) (pa_cons (pv 2) (pa_cons (pe_tup (pa_cons (pe_slice sl_str (pv 3) po_none (po_some (pv 4))) (pa_cons (pe_slice sl_str (pv 3) (po_some (pv 4)) po_none) pa_nil))) pa_nil)))) (pa_cons (pe_call G__law_with (hr.mono (by decide)) (by rfl) g__law_with k__law_with b__law_with .nil pass0 (pa_cons (pv 1) (pa_cons (pv 2) (pa_cons (pe_tup pa_nil) pa_nil)))) pa_nil))))
      (pss_cons (ps_expr (pe_bm PySem.F.plainAttrs_list PySem.F.slot_list_append PySem.F.type_list_append mt_append (pv 5) (pa_cons (pe_call G__law_with (hr.mono (by decide)) (by rfl) g__law_with k__law_with b__law_with .nil pass0 (pa_cons (pv 1) (pa_cons (pv 2) (pa_cons (pe_tup (pa_cons (pv 3) (pa_cons (pv 3) pa_nil))) pa_nil)))) pa_nil)))
      (C8.pss_cut (ps_if (pt_cmpR op_gt (pv 2) pe_int (nomark _))
      (pss_one (ps_expr (pe_bm PySem.F.plainAttrs_list PySem.F.slot_list_append PySem.F.type_list_append mt_append (pv 5) (pa_cons (pe_op (op_cat (K := K) rfl) (pe_op (op_cat (K := K) rfl) (pe_slice (sl_tupS (K := K) rfl) (pv 1) po_none (po_some (pe_op op_sub (pv 2) pe_int))) (pe_tup (pa_cons (pv 3) (pa_cons (pe_ix ix_tup (pv 1) (pe_op op_sub (pv 2) pe_int) (fun _ _ => rfl)) pa_nil)))) (pe_slice (sl_tupS (K := K) rfl) (pv 1) (po_some (pe_op op_add (pv 2) pe_int)) po_none)) pa_nil))))
      pss_nil)
      (pss_one (ps_ret (pv 5)))))))), ?_⟩
    obtain ⟨x, ex⟩ : ∃ x, xs[p.toNat]? = some x := ⟨_, List.getElem?_eq_getElem (show p.toNat < xs.length by omega)⟩
    have xL := hX x (List.mem_of_getElem? ex)
    have lx := tl_len x
    have small : ∀ n : Nat, n ≤ 10000 → n ≤ sizeLine := fun n h => Nat.le_trans h (by decide)
    have lm : (xs.map V.str).length ≤ 1000 := by rw [List.length_map]; omega
    have wEq : ∀ ys : List Str, ((xs.map V.str).take p.toNat ++ ys.map V.str ++ (xs.map V.str).drop (p.toNat + 1)) = (xs.take p.toNat ++ ys ++ xs.drop (p.toNat + 1)).map V.str := fun ys => by
      rw [List.map_append, List.map_append, List.map_take, List.map_drop]
    refine ⟨_, rfl, _, rfl, r, _, _, .str x, rfl, rfl, hR, atI_pos p0 (by rw [List.getElem?_map, ex]; rfl), ?_⟩
    refine ⟨_, rfl, _, rfl, x, rfl, small _ (by omega), _, _, rfl, rfl, s, a, (x.length : Int) + 1, c + 9, rfl, by omega, by omega, hS, fun at_ H1 t0 t1 x1 S1 => ?_⟩
    have hR1 : SqT K H1 r (xs.map V.str) := x1.seqT hS.lst.choose_spec hR
    refine ⟨_, rfl, _, rfl, _, rfl, _, rfl, at_, rfl, x, rfl, small _ (by omega), _, rfl, _, rfl, at_, rfl, x, rfl, small _ (by omega), by show 2 ≤ sizeLine; decide, fun t ht => ?_⟩
    have n1 := same_new (o := HO.tup [V.str (cutS x none (some at_)), V.str (cutS x (some at_) none)]) ht
    refine ⟨r, t, p, _, [cutS x none (some at_), cutS x (some at_) none].map V.str, rfl, n1.tup hR1, SqT.of upd_same, p0, lm, by show 2 ≤ 1000; decide, fun b1 H2 m1 t1' => ?_⟩
    rw [wEq] at t1'
    have e2 := n1.trans m1
    refine ⟨_, rfl, _, rfl, by show 0 ≤ sizeLine; decide, fun t2 ht2 => ?_⟩
    have n2 := same_new (o := HO.tup []) ht2
    refine ⟨r, t2, p, _, ([] : List Str).map V.str, rfl, (e2.trans n2).tup hR1, SqT.of upd_same, p0, lm, by show 0 ≤ 1000; decide, fun b2 H3 m2 t2' => ?_⟩
    rw [wEq] at t2'
    have e3 := n2.trans m2
    refine ⟨by show 2 ≤ sizeLine; decide, fun L hL => ?_⟩
    have S3 := S1.ext (e2.trans e3)
    have Ls : L ≠ s := S3.ne hL
    have La : L ≠ a := S3.nea hL
    have n3 := same_new (o := HO.lst [V.ref b1, V.ref b2]) hL
    refine ⟨_, rfl, .inl ⟨rfl, _, SqL.of upd_same⟩, _, rfl, _, rfl, _, rfl, _, rfl, by show 2 ≤ sizeLine; decide, fun t3 ht3 => ?_⟩
    have n4 := same_new (o := HO.tup [V.str x, V.str x]) ht3
    have hR4 := ((e2.trans e3).trans (n3.trans n4)).tup hR1
    refine ⟨r, t3, p, _, [x, x].map V.str, rfl, hR4, SqT.of upd_same, p0, lm, by show 2 ≤ 1000; decide, fun b3 H4 m4 t4' => ?_⟩
    rw [wEq] at t4'
    have e5 := n4.trans m4
    refine ⟨L, _, _, rfl, rfl, e5 _ _ upd_same, by show 2 < sizeLine; decide, ?_⟩
    -- what the list holds stays
    have keep : ∀ {H' : Hp} {o : HO}, (∀ (b : Addr) (u : HO), H3 b = some u → H' b = some u) → ∀ v ∈ [V.ref b1, V.ref b2], ∃ (t : Addr) (rs : List Str), v = .ref t ∧ SqT K H' t (rs.map V.str) := fun {H'} {_} hs v hv => by
      rcases List.mem_cons.mp hv with e | e
      · exact ⟨b1, _, e, Same.tup (fun b u h => hs _ _ (e3 _ _ h)) t1'⟩
      · exact ⟨b2, _, List.mem_singleton.mp e, Same.tup (fun b u h => hs _ _ h) t2'⟩
    have s34 : Same H3 (upd H4 L (.lst ([V.ref b1, V.ref b2] ++ [V.ref b3]))) := fun b u h => by
      rw [upd_ne (ne_of_none h hL)]; exact (n3.trans e5) _ _ h
    have S5 : Src (upd H4 L (.lst ([V.ref b1, V.ref b2] ++ [V.ref b3]))) s a (c + 9) := ((S3.ext n3).ext e5).put Ls La
    have E5 : Ext s H (upd H4 L (.lst ([V.ref b1, V.ref b2] ++ [V.ref b3]))) := x1.trans (Ext.of ((e2.trans e3).trans s34))
    have hR5 : SqT K (upd H4 L (.lst ([V.ref b1, V.ref b2] ++ [V.ref b3]))) r (xs.map V.str) := ((e2.trans e3).trans s34).tup hR1
    have t5 : SqT K (upd H4 L (.lst ([V.ref b1, V.ref b2] ++ [V.ref b3]))) b3 ((xs.take p.toNat ++ [x, x] ++ xs.drop (p.toNat + 1)).map V.str) := by
      have Lb : ∀ u, H4 L ≠ some (.tup u) := fun u e => by rw [e5 _ _ upd_same] at e; cases e
      rcases t4' with (h | ⟨o, h⟩) | h
      · exact .inl (.inl (by rw [upd_ne (fun e => Lb _ (by rw [← e]; exact h))]; exact h))
      · exact .inl (.inr ⟨o, by rw [upd_ne (fun e => by rw [e, e5 _ _ upd_same] at h; cases h)]; exact h⟩)
      · exact .inr h
    have all3 : ∀ v ∈ [V.ref b1, V.ref b2] ++ [V.ref b3], ∃ (t : Addr) (rs : List Str), v = .ref t ∧ SqT K (upd H4 L (.lst ([V.ref b1, V.ref b2] ++ [V.ref b3]))) t (rs.map V.str) := fun v hv => by
      rcases List.mem_append.mp hv with h | h
      · exact keep (o := HO.lst []) s34 v h
      · exact ⟨b3, _, List.mem_singleton.mp h, t5⟩
    generalize hH5 : upd H4 L (.lst ([V.ref b1, V.ref b2] ++ [V.ref b3])) = H5 at S5 E5 hR5 all3 ⊢
    have L5 : H5 L = some (.lst ([V.ref b1, V.ref b2] ++ [V.ref b3])) := by rw [← hH5]; exact upd_same
    refine ⟨fun σ' H' => (∃ v0 v1 v2 v3 v4, σ' = [v0, v1, v2, v3, v4, some (.ref L)]) ∧ ∃ vs, H' L = some (.lst vs) ∧ (∀ v ∈ vs, ∃ (t : Addr) (rs : List Str), v = .ref t ∧ SqT K H' t (rs.map V.str)) ∧ Ext s H H' ∧ Src H' s a c, ?_, ?_⟩
    · refine ⟨_, rfl, _, _, rfl, rfl, _, rfl, ite2 (fun cc => ?_) (fun _ => ⟨⟨_, _, _, _, _, rfl⟩, _, L5, all3, E5, S5.mono (by omega)⟩)⟩
      have cp : 0 < p := of_decide_eq_true cc
      refine ⟨_, rfl, .inl ⟨rfl, _, SqL.of L5⟩, _, rfl, _, rfl, _, _, rfl, rfl, p - 1, rfl, r, _, rfl, hR5, fun q1 H6 m6 t6 => ?_⟩
      rw [cutV_to (by omega), ← List.map_take] at t6
      obtain ⟨y, ey⟩ : ∃ y, xs[(p - 1).toNat]? = some y := ⟨_, List.getElem?_eq_getElem (show (p - 1).toNat < xs.length by omega)⟩
      refine ⟨_, rfl, _, rfl, _, rfl, _, _, rfl, rfl, r, _, _, .str y, rfl, rfl, m6.tup hR5, atI_pos (by omega) (by rw [List.getElem?_map, ey]; rfl), by show 2 ≤ sizeLine; decide, fun t7 ht7 => ?_⟩
      have n7 := same_new (o := HO.tup [V.str x, V.str y]) ht7
      refine ⟨q1, t7, _, [x, y].map V.str, rfl, rfl, n7.tup t6, SqT.of upd_same, ?_, fun q2 H8 m8 t8 => ?_⟩
      · rw [List.length_map, List.length_map, List.length_take]; exact small _ (show _ + 2 ≤ _ by omega)
      rw [← List.map_append] at t8
      have e8 := (m6.trans n7).trans m8
      refine ⟨_, rfl, _, rfl, _, _, rfl, rfl, p + 1, rfl, r, _, rfl, e8.tup hR5, fun q3 H9 m9 t9 => ?_⟩
      rw [cutV_from (by omega), ← List.map_drop] at t9
      refine ⟨q2, q3, _, _, rfl, rfl, m9.tup t8, t9, ?_, fun q4 H10 m10 t10 => ?_⟩
      · rw [List.length_map, List.length_map, List.length_append, List.length_take, List.length_drop]; exact small _ (show (_ + 2) + _ ≤ _ by omega)
      rw [← List.map_append] at t10
      have e10 := (e8.trans m9).trans m10
      refine ⟨L, _, _, rfl, rfl, e10 _ _ L5, by show 3 < sizeLine; decide, ?_⟩
      have L10 := e10 _ _ L5
      have tupL : ∀ (b : Addr) (us : List V), SqT K H10 b us → ∀ o, SqT K (upd H10 L (.lst o)) b us := fun b us h o => by
        rcases h with (h | ⟨ob, h⟩) | h
        · exact .inl (.inl (by rw [upd_ne (fun e => by rw [e, L10] at h; cases h)]; exact h))
        · exact .inl (.inr ⟨ob, by rw [upd_ne (fun e => by rw [e, L10] at h; cases h)]; exact h⟩)
        · exact .inr h
      refine ⟨⟨_, _, _, _, _, rfl⟩, _, upd_same, fun v hv => ?_, ?_, ((S5.ext e10).put Ls La).mono (by omega)⟩
      · rcases List.mem_append.mp hv with h | h
        · obtain ⟨t, rs, e, g⟩ := all3 v h
          exact ⟨t, rs, e, tupL _ _ (e10.tup g) _⟩
        · exact ⟨q4, _, List.mem_singleton.mp h, tupL _ _ t10 _⟩
      · intro b u hb hh
        have : b ≠ L := fun e => by
          have h1 := ((x1.trans (Ext.of (e2.trans e3))) _ _ hb hh)
          rw [e, hL] at h1; cases h1
        rw [upd_ne this]; exact e10 _ _ (E5 _ _ hb hh)
    · rintro σ' H' ⟨⟨v0, v1, v2, v3, v4, rfl⟩, vs, hL', hA', hE', hS'⟩
      exact ⟨_, rfl, q L vs H' hL' hA' Ls hE' hS'⟩

end
end Z
namespace Z
open PySem L2 SX
section
variable {P : Program} {w : World} {K : PySem.W.Frag} {mg : Str → Option Value} {base : Heap}
theorem ok_law {f : Addr} {fd : FuncData} (F : Fun K "law" "law" s_law f fd) (T : Tx mg) (C__law_changes_right : Cal P w K mg base "_law_changes_right" ["source", "rows", "place"] 5 (sp__law_changes_right K)) (C__law_draw : Cal P w K mg base "_law_draw" ["source", "many"] 2 sp__law_draw) (C__law_drawn_row : Cal P w K mg base "_law_drawn_row" ["source"] 3 sp__law_drawn_row) (C__law_due : Cal P w K mg base "_law_due" ["rows"] 1 (sp__law_due K)) (C__law_once_in : Cal P w K mg base "_law_once_in" ["source", "many"] 3 sp__law_once_in) (C__law_others : Cal P w K mg base "_law_others" ["source", "rows", "place"] 5 (sp__law_others K)) (C__law_pick : Cal P w K mg base "_law_pick" ["source", "row"] 3 (sp__law_pick K)) (C__law_same : Cal P w K mg base "_law_same" ["actual", "due"] 3 (sp__law_same K 2)) (C__law_source : Cal P w K mg base "_law_source" ["script"] 2 (sp__law_source K)) (C_mark_of : Cal P w K mg base "mark_of" ["rows"] 1 (sp_mark_of K)) : FnOk P w K mg base CX0 6 f fd ["script"] (sp_law K) := by
  obtain ⟨f__law_changes_right, fd__law_changes_right, G__law_changes_right, g__law_changes_right, k__law_changes_right, b__law_changes_right⟩ := C__law_changes_right
  obtain ⟨f__law_draw, fd__law_draw, G__law_draw, g__law_draw, k__law_draw, b__law_draw⟩ := C__law_draw
  obtain ⟨f__law_drawn_row, fd__law_drawn_row, G__law_drawn_row, g__law_drawn_row, k__law_drawn_row, b__law_drawn_row⟩ := C__law_drawn_row
  obtain ⟨f__law_due, fd__law_due, G__law_due, g__law_due, k__law_due, b__law_due⟩ := C__law_due
  obtain ⟨f__law_once_in, fd__law_once_in, G__law_once_in, g__law_once_in, k__law_once_in, b__law_once_in⟩ := C__law_once_in
  obtain ⟨f__law_others, fd__law_others, G__law_others, g__law_others, k__law_others, b__law_others⟩ := C__law_others
  obtain ⟨f__law_pick, fd__law_pick, G__law_pick, g__law_pick, k__law_pick, b__law_pick⟩ := C__law_pick
  obtain ⟨f__law_same, fd__law_same, G__law_same, g__law_same, k__law_same, b__law_same⟩ := C__law_same
  obtain ⟨f__law_source, fd__law_source, G__law_source, g__law_source, k__law_source, b__law_source⟩ := C__law_source
  obtain ⟨f_mark_of, fd_mark_of, G_mark_of, g_mark_of, k_mark_of, b_mark_of⟩ := C_mark_of
  refine F.ok sc_law (fun vs H Q E h => ?_) (fun cdv A outer s₀ H vs Q E hr h => ?_)
  · obtain ⟨a, ns, rfl, _⟩ := h; rfl
  · obtain ⟨a, ns, rfl, hA, hlen, q⟩ := h
    refine ⟨_, (pss_cons (ps_set (i := 1) sc_law.nd rfl (Or.inr rfl) (pe_call G__law_source (hr.mono (by decide)) (by rfl) g__law_source k__law_source b__law_source .nil pass0 (pa_cons (pv 0) pa_nil)))
      (pss_cons (ps_set (i := 2) sc_law.nd rfl (Or.inr rfl) (pe_callTy call_tuple_of (by rfl) T.n_tuple (by decide +kernel) (pa_cons (pe_lc (own := [("k", 6)]) (g := gName 6) (tt := tYes) rfl sc_law.nd (pi_range1 (by rfl) T.n_range (pa_cons (pe_call G__law_draw (hr.mono (by decide)) (by rfl) g__law_draw k__law_draw b__law_draw .nil pass0 (pa_cons (pv 1) (pa_cons pe_int pa_nil))) pa_nil)) (blkOk_by (own := [("k", 6)]) (N := N_law) (sc := defScope s_law) (by decide +kernel)) (fun _ _ _ _ _ => pg_name (i := 6) sc_law.nd rfl (Or.inl rfl)) (fun _ _ _ _ _ => pts_nil) (fun _ _ _ _ _ => (pe_call G__law_drawn_row (hr.mono (by decide)) (by rfl) g__law_drawn_row k__law_drawn_row b__law_drawn_row .nil pass0 (pa_cons (pv 1) pa_nil)))) pa_nil)))
      (C8.pss_cut (ps_if (pt_val (pe_call G__law_once_in (hr.mono (by decide)) (by rfl) g__law_once_in k__law_once_in b__law_once_in .nil pass0 (pa_cons (pv 1) (pa_cons pe_int pa_nil))))
      (pss_one (ps_set (i := 2) sc_law.nd rfl (Or.inr rfl) (pe_op (op_cat (K := K) rfl) (pv 2) (pe_tup (pa_cons (pe_slice sl_str (pe_op op_add_str (pe_call G__law_drawn_row (hr.mono (by decide)) (by rfl) g__law_drawn_row k__law_drawn_row b__law_drawn_row .nil pass0 (pa_cons (pv 1) pa_nil)) (pe_op op_mul_str (pe_call G__law_pick (hr.mono (by decide)) (by rfl) g__law_pick k__law_pick b__law_pick .nil pass0 (pa_cons (pv 1) (pa_cons (pe_lst (pa_cons pe_str (pa_cons pe_str (pa_cons pe_str pa_nil)))) pa_nil))) pe_int)) po_none (po_some pe_int)) pa_nil)))))
      pss_nil)
      (pss_cons (ps_set (i := 3) sc_law.nd rfl (Or.inl rfl) (pe_call G_mark_of (hr.mono (by decide)) (by rfl) g_mark_of k_mark_of b_mark_of .nil pass0 (pa_cons (pv 2) pa_nil)))
      (pss_cons (ps_if (PW.pt (pw_or (pt_not (pt_val (pe_call G__law_same (hr.mono (by decide)) (by rfl) g__law_same k__law_same b__law_same .nil pass0 (pa_cons (pv 3) (pa_cons (pe_call G__law_due (hr.mono (by decide)) (by rfl) g__law_due k__law_due b__law_due .nil pass0 (pa_cons (pv 2) pa_nil)) pa_nil))))) (pw_or1 (pt_not (pt_val (pe_call G__law_same (hr.mono (by decide)) (by rfl) g__law_same k__law_same b__law_same .nil pass0 (pa_cons (pe_call G_mark_of (hr.mono (by decide)) (by rfl) g_mark_of k_mark_of b_mark_of .nil pass0 (pa_cons (pe_tup pa_nil) pa_nil)) (pa_cons pe_int pa_nil))))))))
      (pss_one (ps_ret pe_bl))
      pss_nil)
      (pss_cons (ps_setLc (i := 4) (own := [("k", 6)]) (g := gName 6) rfl sc_law.nd rfl rfl (sw_true rfl rfl rfl (by decide +kernel)) (pi_range1 (by rfl) T.n_range (pa_cons (pe_callB call_len_seq (by rfl) T.n_len PySem.boot_len (pa_cons (pv 2) pa_nil)) pa_nil)) (blkOk_by (own := [("k", 6)]) (N := N_law) (sc := defScope s_law) (by decide +kernel)) (fun _ _ _ _ _ => pg_name (i := 6) sc_law.nd rfl (Or.inl rfl)) (fun _ _ _ _ _ => pts_one (pt_cmpR op_ne (pe_ix (ix_tupQ (K := K) rfl) (pv 2) (pv 6) (fun _ _ => rfl)) pe_str (nomark _))) (fun _ _ _ _ _ => (pv 6)))
      (C8.pss_cut (ps_if (PW.pt (pw_and (pt_cmpR op_gt (pe_callB call_len_seq (by rfl) T.n_len PySem.boot_len (pa_cons (pv 4) pa_nil)) pe_int (nomark _)) (pw_and1 (pt_not (pt_val (pe_call G__law_changes_right (hr.mono (by decide)) (by rfl) g__law_changes_right k__law_changes_right b__law_changes_right .nil pass0 (pa_cons (pv 1) (pa_cons (pv 2) (pa_cons (pe_call G__law_pick (hr.mono (by decide)) (by rfl) g__law_pick k__law_pick b__law_pick .nil pass0 (pa_cons (pv 1) (pa_cons (pv 4) pa_nil))) pa_nil)))))))))
      (pss_one (ps_ret pe_bl))
      pss_nil)
      (C8.pss_cut (ps_if (pt_cmpR op_gt (pe_callB call_len_seq (by rfl) T.n_len PySem.boot_len (pa_cons (pv 2) pa_nil)) pe_int (nomark _))
      (pss_one (ps_for PassesOwn.never rfl (pi_list (pe_call G__law_others (hr.mono (by decide)) (by rfl) g__law_others k__law_others b__law_others .nil pass0 (pa_cons (pv 1) (pa_cons (pv 2) (pa_cons (pe_call G__law_draw (hr.mono (by decide)) (by rfl) g__law_draw k__law_draw b__law_draw .nil pass0 (pa_cons (pv 1) (pa_cons (pe_callB call_len_seq (by rfl) T.n_len PySem.boot_len (pa_cons (pv 2) pa_nil)) pa_nil))) pa_nil))))) (pg_name (i := 5) sc_law.nd rfl (Or.inl rfl))
        (pss_one (ps_if (pt_not (pt_val (pe_call G__law_same (hr.mono (by decide)) (by rfl) g__law_same k__law_same b__law_same .nil pass0 (pa_cons (pe_call G_mark_of (hr.mono (by decide)) (by rfl) g_mark_of k_mark_of b_mark_of .nil pass0 (pa_cons (pv 5) pa_nil)) (pa_cons (pe_call G__law_due (hr.mono (by decide)) (by rfl) g__law_due k__law_due b__law_due .nil pass0 (pa_cons (pv 5) pa_nil)) pa_nil)))))
          (pss_one (ps_ret pe_bl))
          pss_nil))))
      pss_nil)
      (pss_one (ps_ret (pe_call G__law_same (hr.mono (by decide)) (by rfl) g__law_same k__law_same b__law_same .nil pass0 (pa_cons (pe_call G_mark_of (hr.mono (by decide)) (by rfl) g_mark_of k_mark_of b_mark_of .nil pass0 (pa_cons (pv 2) pa_nil)) (pa_cons (pv 3) pa_nil))))))))))))), ?_⟩
    refine ⟨_, rfl, a, ns, rfl, hA, hlen, fun s b H1 hs x1 S1 => ?_⟩
    -- the rows
    refine ⟨_, rfl, s, b, _, 200000, rfl, by decide, by decide, S1.mono (by decide), fun v1 H2 v10 v11 x2 S2 => ?_⟩
    refine ⟨_, rfl, by omega, by omega, fun D hD => ?_⟩
    refine lc_strs (n := v1.toNat) (d := 60) (c := 199000) (fun x => Sg (tl x) ∧ (tl x).length ≤ 200) hD (S2.mono (by omega)) (by omega) (fun _ => rfl) (fun i c' Hx R hi hE' hS' k => ?_) (fun xs H3 hx3 hl3 hA3 hE3 hS3 => ?_)
    · exact ⟨_, rfl, s, b, c', rfl, hS', fun x H' xs' xl' xE xS => k x H' ⟨xs', xl'⟩ xE xS⟩
    refine ⟨D, _, rfl, .inl ⟨SqL.of hx3, fun r hr' => ?_⟩⟩
    have S3 := hS3.new (o := HO.tup (xs.map V.str)) hr'
    -- now and then a long one
    refine ⟨fun σ' H' => ∃ (r : Addr) (xs : List Str), σ' = [some (.ref a), some (.ref s), some (.ref r), none, none, none, none] ∧ SqT K H' r (xs.map V.str) ∧ xs.length ≤ 8 ∧ (∀ x ∈ xs, Sg (tl x) ∧ (tl x).length ≤ 2000) ∧ Src H' s b 100000, ?_, ?_⟩
    · refine ⟨_, rfl, s, b, _, 198000, rfl, by decide, by decide, S3.mono (by decide), fun bb H4 x4 S4 => ?_⟩
      have hR4 : SqT K H4 r (xs.map V.str) := x4.seqT S3.lst.choose_spec (SqT.of upd_same)
      refine ⟨_, rfl, ite2 (fun _ => ?_) (fun _ => ⟨r, xs, rfl, hR4, by omega, fun x hx => ⟨(hA3 x hx).1, by have := (hA3 x hx).2; omega⟩, S4.mono (by decide)⟩)⟩
      refine ⟨_, rfl, _, rfl, s, b, 190000, rfl, S4.mono (by decide), fun x H5 xS xL x5 S5 => ?_⟩
      refine ⟨_, rfl, by show 3 ≤ sizeLine; decide, fun m hm => ?_⟩
      have S6 := S5.new (o := HO.lst ([Str.ofString "=", Str.ofString " x", Str.ofString "ab "].map V.str)) hm
      refine .inl ⟨s, b, m, [Str.ofString "=", Str.ofString " x", Str.ofString "ab "].map V.str, 180000, rfl, SqL.of upd_same, S5.ne hm, by simp, by decide, S6.mono (by decide), fun v H7 vm x7 S7 => ?_⟩
      obtain ⟨z, zm, rfl⟩ := List.mem_map.mp vm
      have zA : Sg (tl z) ∧ (tl z).length ≤ 3 := by
        have : ([Str.ofString "=", Str.ofString " x", Str.ofString "ab "]).all (fun z => (tl z).all (fun c => decide (c ∈ sgn)) && decide ((tl z).length ≤ 3)) = true := by decide +kernel
        have := List.all_eq_true.mp this z zm
        rw [Bool.and_eq_true] at this
        exact ⟨Sg.by_ this.1, of_decide_eq_true this.2⟩
      refine ⟨_, _, rfl, rfl, by decide, by decide, by show _ * 2000 ≤ _; omega, fun y hy => ?_⟩
      have yl : (tl y).length ≤ 6000 := by rw [hy, rep_len]; show 2000 * _ ≤ _; omega
      have lx := tl_len x
      have ly := tl_len y
      refine ⟨_, _, rfl, rfl, Nat.le_trans (show x.length + y.length ≤ 7000 by omega) (by decide), _, rfl, _, rfl, Nat.le_trans (show (x ++ y).length ≤ 7000 by rw [tl_len, tl_app, List.length_append]; omega) (by decide), by show 1 ≤ sizeLine; decide, fun t ht => ?_⟩
      have S8 := S7.new (o := HO.tup [V.str (cutS (x ++ y) none (some 2000))]) ht
      have hR8 : SqT K (upd H7 t (HO.tup [V.str (cutS (x ++ y) none (some 2000))])) r (xs.map V.str) := (same_new ht).tup (x7.seqT S6.lst.choose_spec ((same_new hm).tup (x5.seqT S4.lst.choose_spec hR4)))
      refine ⟨r, t, _, [cutS (x ++ y) none (some 2000)].map V.str, rfl, rfl, hR8, SqT.of upd_same, ?_, fun p H9 m9 t9 => ?_⟩
      · rw [List.length_map, List.length_map]; exact Nat.le_trans (show xs.length + 1 ≤ 1000 by omega) (by decide)
      rw [← List.map_append] at t9
      refine ⟨p, xs ++ [cutS (x ++ y) none (some 2000)], rfl, t9, by rw [List.length_append]; show _ + 1 ≤ _; omega, fun z hz => ?_, (S8.ext m9).mono (by decide)⟩
      rcases List.mem_append.mp hz with h | h
      · exact ⟨(hA3 z h).1, by have := (hA3 z h).2; omega⟩
      · rw [List.mem_singleton.mp h, cutS_to (by decide)]
        refine ⟨?_, by rw [List.length_take]; exact Nat.min_le_left _ _⟩
        rw [tl_app, hy]
        exact (xS.app (zA.1.rep _)).take _
    -- what is told of the rows
    rintro σ' H4 ⟨r, xs, rfl, hR, xl, hX, S4⟩
    refine ⟨_, rfl, r, xs, rfl, hR, ?_⟩
    have same1 : ∀ (m : Int) (n : Nat), DL 2 (.int m) := fun _ _ => True.intro
    refine ⟨_, rfl, _, rfl, r, xs, rfl, hR, ?_⟩
    refine ⟨.int (mark (xs.map tl)), _, _, rfl, by unfold DV; rfl, by unfold DV; rfl, True.intro, _, rfl, iteF ?_⟩
    refine ⟨by show 0 ≤ sizeLine; decide, fun t ht => ?_⟩
    refine ⟨t, [], rfl, SqT.of upd_same, ?_⟩
    refine ⟨.int 7, _, _, rfl, by unfold DV; rfl, by unfold DV; rfl, True.intro, _, rfl, iteF ?_⟩
    have n1 := same_new (o := HO.tup []) ht
    have S5 := S4.ext n1
    have hR5 := n1.tup hR
    -- full
    refine ⟨_, rfl, r, _, rfl, .inr hR5, _, rfl, by rw [List.length_map]; omega, by rw [List.length_map]; omega, fun D2 hD2 => ?_⟩
    refine lc_range (lo := 0) (n := (((xs.map V.str).length : Int)).toNat) (fun i H' => ∃ ks : List Int, H' D2 = some (.lst (ks.map V.int)) ∧ ks.length ≤ i ∧ Same (upd H4 t (HO.tup [])) H' ∧ ∀ k ∈ ks, 0 ≤ k ∧ k < (xs.length : Int) ∧ ∀ x, xs[k.toNat]? = some x → tl x ≠ []) ?_ ?_ ?_
    · exact ⟨[], upd_same, Nat.le_refl _, same_new hD2, fun _ h => by cases h⟩
    · rintro i H' hi ⟨ks, hk, hl, hM, hK⟩
      rw [List.length_map] at hi
      obtain ⟨x, ex⟩ : ∃ x, xs[i]? = some x := ⟨_, List.getElem?_eq_getElem (show i < xs.length by omega)⟩
      refine ⟨rfl, _, rfl, _, rfl, r, _, _, .str x, rfl, rfl, hM.tup hR5, atI_pos (by omega) (by rw [List.getElem?_map, show (0 + (i : Int)).toNat = i by omega, ex]; rfl), rfl, _, rfl, ite2 (fun cc => ?_) (fun _ => ⟨ks, hk, by omega, hM, hK⟩)⟩
      refine ⟨_, rfl, _, hk, ?_, ks ++ [0 + (i : Int)], by rw [upd_same, List.map_append]; rfl, by rw [List.length_append]; show _ + 1 ≤ _; omega, fun b o hb => ?_, fun k hk' => ?_⟩
      · rw [List.length_map]; exact Nat.lt_of_le_of_lt (show ks.length ≤ 3000 by omega) (by decide)
      · rw [upd_ne (ne_of_none hb hD2)]; exact hM _ _ hb
      · rcases List.mem_append.mp hk' with h | h
        · exact hK k h
        · rw [List.mem_singleton.mp h]
          refine ⟨by omega, by omega, fun y hy e => ?_⟩
          rw [show (0 + (i : Int)).toNat = i by omega, ex] at hy
          cases hy
          have : x = Str.ofString "" := tl_ext e
          subst this; simp at cc
    rintro H6 ⟨ks, hk, hl, hM, hK⟩
    have S6 := S5.ext hM
    have hR6 := hM.tup hR5
    refine ⟨fun σ' H' => (∃ v4 v5 v6 : Option V, σ' = [some (.ref a), some (.ref s), some (.ref r), some (.int (mark (xs.map tl))), v4, v5, v6]) ∧ SqT K H' r (xs.map V.str) ∧ Src H' s b 80000, ?_, ?_⟩
    · refine ⟨_, rfl, D2, _, rfl, .inl (SqL.of hk), _, _, rfl, rfl, _, rfl, ite2 (fun cc => ?_) (fun cc => iteF ⟨⟨_, _, _, rfl⟩, hR6, S6.mono (by decide)⟩)⟩
      have kn : ks ≠ [] := fun e => by subst e; simp at cc
      refine ⟨_, rfl, _, rfl, _, rfl, _, rfl, .inl ⟨s, b, D2, ks.map V.int, 90000, rfl, SqL.of hk, S5.ne hD2, fun e => kn (List.map_eq_nil_iff.mp e), by rw [List.length_map]; rw [List.length_map] at hl; omega, S6.mono (by decide), fun kv H7 km x7 S7 => ?_⟩⟩
      obtain ⟨k, kk, rfl⟩ := List.mem_map.mp km
      obtain ⟨k0, k1, k2⟩ := hK k kk
      have hR7 := x7.seqT S6.lst.choose_spec hR6
      refine ⟨s, b, r, k, xs, 80000, rfl, hR7, k0, k1, by omega, fun x hx => ⟨(hX x hx).1, by have := (hX x hx).2; omega⟩, k2, S7.mono (by decide), fun H8 x8 S8 => ?_⟩
      exact ⟨_, rfl, iteF ⟨⟨_, _, _, rfl⟩, x8.seqT S7.lst.choose_spec hR7, S8⟩⟩
    rintro σ7 H7 ⟨⟨v4, v5, v6, rfl⟩, hR7, S7⟩
    -- the other rows
    refine ⟨fun σ' H' => (∃ v4 v5 v6 : Option V, σ' = [some (.ref a), some (.ref s), some (.ref r), some (.int (mark (xs.map tl))), v4, v5, v6]) ∧ SqT K H' r (xs.map V.str), ?_, ?_⟩
    · refine ⟨_, rfl, r, _, rfl, .inr hR7, _, _, rfl, rfl, _, rfl, ite2 (fun cc => ?_) (fun _ => ⟨⟨_, _, _, rfl⟩, hR7⟩)⟩
      have xn : 0 < xs.length := by
        have := of_decide_eq_true cc
        rw [List.length_map] at this; omega
      refine ⟨_, rfl, _, rfl, _, rfl, _, rfl, r, _, rfl, .inr hR7, s, b, ((xs.map V.str).length : Int), 70000, rfl, by rw [List.length_map]; omega, by rw [List.length_map]; omega, S7.mono (by decide), fun p H8 p0 p1 x8 S8 => ?_⟩
      rw [List.length_map] at p1
      have hR8 := x8.seqT S7.lst.choose_spec hR7
      refine ⟨s, b, r, p, xs, 60000, rfl, hR8, p0, p1, by omega, fun x hx => by have := (hX x hx).2; omega, S8.mono (by decide), fun L vs H9 hL hV Ls x9 S9 => ?_⟩
      have hR9 := x9.seqT S8.lst.choose_spec hR8
      refine ⟨L, rfl, ⟨_, SqL.of hL⟩, ?_⟩
      refine for_list (K := K) (a := L) (xs := vs) (fun i σ H' => (∃ v4 v5 v6 : Option V, σ = [some (.ref a), some (.ref s), some (.ref r), some (.int (mark (xs.map tl))), v4, v5, v6]) ∧ H' = H9) ⟨⟨_, _, _, rfl⟩, rfl⟩ (fun i σ H' _ h => by obtain ⟨_, rfl⟩ := h; exact SqL.of hL) ?_ ?_
      · rintro i v σ H' hi ⟨⟨v4, v5, v6, rfl⟩, rfl⟩
        obtain ⟨t1, rs, rfl, hT⟩ := hV v (List.mem_of_getElem? hi)
        refine ⟨_, rfl, t1, rs, rfl, hT, ?_⟩
        refine ⟨_, rfl, t1, rs, rfl, hT, ?_⟩
        exact ⟨.int (mark (rs.map tl)), _, _, rfl, by unfold DV; rfl, by unfold DV; rfl, True.intro, _, rfl, iteF ⟨⟨_, _, _, rfl⟩, rfl⟩⟩
      · rintro σ H' ⟨⟨v4, v5, v6, rfl⟩, rfl⟩
        exact ⟨⟨_, _, _, rfl⟩, hR9⟩
    · rintro σ8 H8 ⟨⟨v4, v5, v6, rfl⟩, hR8⟩
      refine ⟨_, rfl, r, xs, rfl, hR8, ?_⟩
      exact ⟨_, rfl, .int (mark (xs.map tl)), _, _, rfl, by unfold DV; rfl, by unfold DV; rfl, True.intro, q _⟩

end
end Z
namespace Z
open PySem L2 SX
theorem all_mk {l : PySem.W.OpenLaw} {w : World} {K : PySem.W.Frag} {h : Heap} {mg : Str → Option Value} {fa : Addr} (X : K.In h) (G : h.Ns mainGlobals mg) (hfa : mg "law" = some (.ref fa))
    {f0 : Addr} {od0 an0 : Option Addr} {sl0 : Array (Option Value)} {oc0 kV0 dc0 pm0 cd0 ct0 : Value}
    {f1 : Addr} {od1 an1 : Option Addr} {sl1 : Array (Option Value)} {oc1 kV1 dc1 pm1 cd1 ct1 : Value}
    {f2 : Addr} {od2 an2 : Option Addr} {sl2 : Array (Option Value)} {oc2 kV2 dc2 pm2 cd2 ct2 : Value}
    {f3 : Addr} {od3 an3 : Option Addr} {sl3 : Array (Option Value)} {oc3 kV3 dc3 pm3 cd3 ct3 : Value}
    {f4 : Addr} {od4 an4 : Option Addr} {sl4 : Array (Option Value)} {oc4 kV4 dc4 pm4 cd4 ct4 : Value}
    {f5 : Addr} {od5 an5 : Option Addr} {sl5 : Array (Option Value)} {oc5 kV5 dc5 pm5 cd5 ct5 : Value}
    {f6 : Addr} {od6 an6 : Option Addr} {sl6 : Array (Option Value)} {oc6 kV6 dc6 pm6 cd6 ct6 : Value}
    {f7 : Addr} {od7 an7 : Option Addr} {sl7 : Array (Option Value)} {oc7 kV7 dc7 pm7 cd7 ct7 : Value}
    {f8 : Addr} {od8 an8 : Option Addr} {sl8 : Array (Option Value)} {oc8 kV8 dc8 pm8 cd8 ct8 : Value}
    {f9 : Addr} {od9 an9 : Option Addr} {sl9 : Array (Option Value)} {oc9 kV9 dc9 pm9 cd9 ct9 : Value}
    {f10 : Addr} {od10 an10 : Option Addr} {sl10 : Array (Option Value)} {oc10 kV10 dc10 pm10 cd10 ct10 : Value}
    {f11 : Addr} {od11 an11 : Option Addr} {sl11 : Array (Option Value)} {oc11 kV11 dc11 pm11 cd11 ct11 : Value}
    {f12 : Addr} {od12 an12 : Option Addr} {sl12 : Array (Option Value)} {oc12 kV12 dc12 pm12 cd12 ct12 : Value}
    {f13 : Addr} {od13 an13 : Option Addr} {sl13 : Array (Option Value)} {oc13 kV13 dc13 pm13 cd13 ct13 : Value}
    {f14 : Addr} {od14 an14 : Option Addr} {sl14 : Array (Option Value)} {oc14 kV14 dc14 pm14 cd14 ct14 : Value}
    {f15 : Addr} {od15 an15 : Option Addr} {sl15 : Array (Option Value)} {oc15 kV15 dc15 pm15 cd15 ct15 : Value}
    {f16 : Addr} {od16 an16 : Option Addr} {sl16 : Array (Option Value)} {oc16 kV16 dc16 pm16 cd16 ct16 : Value}
    (a0 : PySem.W.nsIn K mainGlobals "mark_of" = some (some (.ref f0))) (l0 : K.lookup f0 = some ⟨oc0, od0, .func (PySem.W.fnOf "mark_of" "mark_of" (defArgs s_mark_of) (defBody s_mark_of) (defScope s_mark_of) .none kV0 dc0 pm0 an0 cd0 ct0), sl0⟩) (c0 : PySem.W.codeIn K cd0 "mark_of" = true) (k0 : PySem.W.keepIn K (.ref f0) = true)
    (a1 : PySem.W.nsIn K mainGlobals "_law_mix" = some (some (.ref f1))) (l1 : K.lookup f1 = some ⟨oc1, od1, .func (PySem.W.fnOf "_law_mix" "_law_mix" (defArgs s__law_mix) (defBody s__law_mix) (defScope s__law_mix) .none kV1 dc1 pm1 an1 cd1 ct1), sl1⟩) (c1 : PySem.W.codeIn K cd1 "_law_mix" = true) (k1 : PySem.W.keepIn K (.ref f1) = true)
    (a2 : PySem.W.nsIn K mainGlobals "_law_source" = some (some (.ref f2))) (l2 : K.lookup f2 = some ⟨oc2, od2, .func (PySem.W.fnOf "_law_source" "_law_source" (defArgs s__law_source) (defBody s__law_source) (defScope s__law_source) .none kV2 dc2 pm2 an2 cd2 ct2), sl2⟩) (c2 : PySem.W.codeIn K cd2 "_law_source" = true) (k2 : PySem.W.keepIn K (.ref f2) = true)
    (a3 : PySem.W.nsIn K mainGlobals "_law_draw" = some (some (.ref f3))) (l3 : K.lookup f3 = some ⟨oc3, od3, .func (PySem.W.fnOf "_law_draw" "_law_draw" (defArgs s__law_draw) (defBody s__law_draw) (defScope s__law_draw) .none kV3 dc3 pm3 an3 cd3 ct3), sl3⟩) (c3 : PySem.W.codeIn K cd3 "_law_draw" = true) (k3 : PySem.W.keepIn K (.ref f3) = true)
    (a4 : PySem.W.nsIn K mainGlobals "_law_pick" = some (some (.ref f4))) (l4 : K.lookup f4 = some ⟨oc4, od4, .func (PySem.W.fnOf "_law_pick" "_law_pick" (defArgs s__law_pick) (defBody s__law_pick) (defScope s__law_pick) .none kV4 dc4 pm4 an4 cd4 ct4), sl4⟩) (c4 : PySem.W.codeIn K cd4 "_law_pick" = true) (k4 : PySem.W.keepIn K (.ref f4) = true)
    (a5 : PySem.W.nsIn K mainGlobals "_law_once_in" = some (some (.ref f5))) (l5 : K.lookup f5 = some ⟨oc5, od5, .func (PySem.W.fnOf "_law_once_in" "_law_once_in" (defArgs s__law_once_in) (defBody s__law_once_in) (defScope s__law_once_in) .none kV5 dc5 pm5 an5 cd5 ct5), sl5⟩) (c5 : PySem.W.codeIn K cd5 "_law_once_in" = true) (k5 : PySem.W.keepIn K (.ref f5) = true)
    (a6 : PySem.W.nsIn K mainGlobals "_law_is_int" = some (some (.ref f6))) (l6 : K.lookup f6 = some ⟨oc6, od6, .func (PySem.W.fnOf "_law_is_int" "_law_is_int" (defArgs s__law_is_int) (defBody s__law_is_int) (defScope s__law_is_int) .none kV6 dc6 pm6 an6 cd6 ct6), sl6⟩) (c6 : PySem.W.codeIn K cd6 "_law_is_int" = true) (k6 : PySem.W.keepIn K (.ref f6) = true)
    (a7 : PySem.W.nsIn K mainGlobals "_law_same" = some (some (.ref f7))) (l7 : K.lookup f7 = some ⟨oc7, od7, .func (PySem.W.fnOf "_law_same" "_law_same" (defArgs s__law_same) (defBody s__law_same) (defScope s__law_same) .none kV7 dc7 pm7 an7 cd7 ct7), sl7⟩) (c7 : PySem.W.codeIn K cd7 "_law_same" = true) (k7 : PySem.W.keepIn K (.ref f7) = true)
    (a8 : PySem.W.nsIn K mainGlobals "_law_signs" = some (some (.ref f8))) (l8 : K.lookup f8 = some ⟨oc8, od8, .func (PySem.W.fnOf "_law_signs" "_law_signs" (defArgs s__law_signs) (defBody s__law_signs) (defScope s__law_signs) .none kV8 dc8 pm8 an8 cd8 ct8), sl8⟩) (c8 : PySem.W.codeIn K cd8 "_law_signs" = true) (k8 : PySem.W.keepIn K (.ref f8) = true)
    (a9 : PySem.W.nsIn K mainGlobals "_law_due" = some (some (.ref f9))) (l9 : K.lookup f9 = some ⟨oc9, od9, .func (PySem.W.fnOf "_law_due" "_law_due" (defArgs s__law_due) (defBody s__law_due) (defScope s__law_due) .none kV9 dc9 pm9 an9 cd9 ct9), sl9⟩) (c9 : PySem.W.codeIn K cd9 "_law_due" = true) (k9 : PySem.W.keepIn K (.ref f9) = true)
    (a10 : PySem.W.nsIn K mainGlobals "_law_drawn_row" = some (some (.ref f10))) (l10 : K.lookup f10 = some ⟨oc10, od10, .func (PySem.W.fnOf "_law_drawn_row" "_law_drawn_row" (defArgs s__law_drawn_row) (defBody s__law_drawn_row) (defScope s__law_drawn_row) .none kV10 dc10 pm10 an10 cd10 ct10), sl10⟩) (c10 : PySem.W.codeIn K cd10 "_law_drawn_row" = true) (k10 : PySem.W.keepIn K (.ref f10) = true)
    (a11 : PySem.W.nsIn K mainGlobals "_law_with" = some (some (.ref f11))) (l11 : K.lookup f11 = some ⟨oc11, od11, .func (PySem.W.fnOf "_law_with" "_law_with" (defArgs s__law_with) (defBody s__law_with) (defScope s__law_with) .none kV11 dc11 pm11 an11 cd11 ct11), sl11⟩) (c11 : PySem.W.codeIn K cd11 "_law_with" = true) (k11 : PySem.W.keepIn K (.ref f11) = true)
    (a12 : PySem.W.nsIn K mainGlobals "_law_other" = some (some (.ref f12))) (l12 : K.lookup f12 = some ⟨oc12, od12, .func (PySem.W.fnOf "_law_other" "_law_other" (defArgs s__law_other) (defBody s__law_other) (defScope s__law_other) .none kV12 dc12 pm12 an12 cd12 ct12), sl12⟩) (c12 : PySem.W.codeIn K cd12 "_law_other" = true) (k12 : PySem.W.keepIn K (.ref f12) = true)
    (a13 : PySem.W.nsIn K mainGlobals "_law_unlike_right" = some (some (.ref f13))) (l13 : K.lookup f13 = some ⟨oc13, od13, .func (PySem.W.fnOf "_law_unlike_right" "_law_unlike_right" (defArgs s__law_unlike_right) (defBody s__law_unlike_right) (defScope s__law_unlike_right) .none kV13 dc13 pm13 an13 cd13 ct13), sl13⟩) (c13 : PySem.W.codeIn K cd13 "_law_unlike_right" = true) (k13 : PySem.W.keepIn K (.ref f13) = true)
    (a14 : PySem.W.nsIn K mainGlobals "_law_changes_right" = some (some (.ref f14))) (l14 : K.lookup f14 = some ⟨oc14, od14, .func (PySem.W.fnOf "_law_changes_right" "_law_changes_right" (defArgs s__law_changes_right) (defBody s__law_changes_right) (defScope s__law_changes_right) .none kV14 dc14 pm14 an14 cd14 ct14), sl14⟩) (c14 : PySem.W.codeIn K cd14 "_law_changes_right" = true) (k14 : PySem.W.keepIn K (.ref f14) = true)
    (a15 : PySem.W.nsIn K mainGlobals "_law_others" = some (some (.ref f15))) (l15 : K.lookup f15 = some ⟨oc15, od15, .func (PySem.W.fnOf "_law_others" "_law_others" (defArgs s__law_others) (defBody s__law_others) (defScope s__law_others) .none kV15 dc15 pm15 an15 cd15 ct15), sl15⟩) (c15 : PySem.W.codeIn K cd15 "_law_others" = true) (k15 : PySem.W.keepIn K (.ref f15) = true)
    (a16 : PySem.W.nsIn K mainGlobals "law" = some (some (.ref f16))) (l16 : K.lookup f16 = some ⟨oc16, od16, .func (PySem.W.fnOf "law" "law" (defArgs s_law) (defBody s_law) (defScope s_law) .none kV16 dc16 pm16 an16 cd16 ct16), sl16⟩) (c16 : PySem.W.codeIn K cd16 "law" = true) (k16 : PySem.W.keepIn K (.ref f16) = true)
    (z_abs : PySem.W.nsIn K mainGlobals "abs" = some none)
    (z_bool : PySem.W.nsIn K mainGlobals "bool" = some none)
    (z_int : PySem.W.nsIn K mainGlobals "int" = some none)
    (z_isinstance : PySem.W.nsIn K mainGlobals "isinstance" = some none)
    (z_len : PySem.W.nsIn K mainGlobals "len" = some none)
    (z_list : PySem.W.nsIn K mainGlobals "list" = some none)
    (z_ord : PySem.W.nsIn K mainGlobals "ord" = some none)
    (z_range : PySem.W.nsIn K mainGlobals "range" = some none)
    (z_str : PySem.W.nsIn K mainGlobals "str" = some none)
    (z_tuple : PySem.W.nsIn K mainGlobals "tuple" = some none) :
    ∃ fd : FuncData, (∀ (s : Shared) (v : Value), BindsTo s fd ⟨[v], []⟩ [("script", v)]) ∧ ∀ base : Heap, K.In base → base.Ns mainGlobals mg → FnOk l.prog w K mg base CX0 6 fa fd ["script"] (sp_law K) := by
  have e := hfa.symm.trans (PySem.W.mg_of X G a16)
  cases e
  have T : Tx mg := ⟨PySem.W.mg_none_of X G z_abs, PySem.W.mg_none_of X G z_bool, PySem.W.mg_none_of X G z_int, PySem.W.mg_none_of X G z_isinstance, PySem.W.mg_none_of X G z_len, PySem.W.mg_none_of X G z_list, PySem.W.mg_none_of X G z_ord, PySem.W.mg_none_of X G z_range, PySem.W.mg_none_of X G z_str, PySem.W.mg_none_of X G z_tuple⟩
  refine ⟨PySem.W.fnOf "law" "law" (defArgs s_law) (defBody s_law) (defScope s_law) .none kV16 dc16 pm16 an16 cd16 ct16, fun s v => .of_eq rfl, fun base _ _ => ?_⟩
  have D_mark_of : Df K mg "mark_of" s_mark_of ["rows"] := ⟨f0, _, fun_mk (st := s_mark_of) l0 c0 k0, PySem.W.mg_of X G a0, (fun_mk (st := s_mark_of) l0 c0 k0).binds (ps := ["rows"]) fun _ _ _ _ _ _ us hl => match us, hl with | [_], _ => rfl⟩
  have D__law_mix : Df K mg "_law_mix" s__law_mix ["seed", "turn"] := ⟨f1, _, fun_mk (st := s__law_mix) l1 c1 k1, PySem.W.mg_of X G a1, (fun_mk (st := s__law_mix) l1 c1 k1).binds (ps := ["seed", "turn"]) fun _ _ _ _ _ _ us hl => match us, hl with | [_, _], _ => rfl⟩
  have D__law_source : Df K mg "_law_source" s__law_source ["script"] := ⟨f2, _, fun_mk (st := s__law_source) l2 c2 k2, PySem.W.mg_of X G a2, (fun_mk (st := s__law_source) l2 c2 k2).binds (ps := ["script"]) fun _ _ _ _ _ _ us hl => match us, hl with | [_], _ => rfl⟩
  have D__law_draw : Df K mg "_law_draw" s__law_draw ["source", "many"] := ⟨f3, _, fun_mk (st := s__law_draw) l3 c3 k3, PySem.W.mg_of X G a3, (fun_mk (st := s__law_draw) l3 c3 k3).binds (ps := ["source", "many"]) fun _ _ _ _ _ _ us hl => match us, hl with | [_, _], _ => rfl⟩
  have D__law_pick : Df K mg "_law_pick" s__law_pick ["source", "row"] := ⟨f4, _, fun_mk (st := s__law_pick) l4 c4 k4, PySem.W.mg_of X G a4, (fun_mk (st := s__law_pick) l4 c4 k4).binds (ps := ["source", "row"]) fun _ _ _ _ _ _ us hl => match us, hl with | [_, _], _ => rfl⟩
  have D__law_once_in : Df K mg "_law_once_in" s__law_once_in ["source", "many"] := ⟨f5, _, fun_mk (st := s__law_once_in) l5 c5 k5, PySem.W.mg_of X G a5, (fun_mk (st := s__law_once_in) l5 c5 k5).binds (ps := ["source", "many"]) fun _ _ _ _ _ _ us hl => match us, hl with | [_, _], _ => rfl⟩
  have D__law_is_int : Df K mg "_law_is_int" s__law_is_int ["value"] := ⟨f6, _, fun_mk (st := s__law_is_int) l6 c6 k6, PySem.W.mg_of X G a6, (fun_mk (st := s__law_is_int) l6 c6 k6).binds (ps := ["value"]) fun _ _ _ _ _ _ us hl => match us, hl with | [_], _ => rfl⟩
  have D__law_same : Df K mg "_law_same" s__law_same ["actual", "due"] := ⟨f7, _, fun_mk (st := s__law_same) l7 c7 k7, PySem.W.mg_of X G a7, (fun_mk (st := s__law_same) l7 c7 k7).binds (ps := ["actual", "due"]) fun _ _ _ _ _ _ us hl => match us, hl with | [_, _], _ => rfl⟩
  have D__law_signs : Df K mg "_law_signs" s__law_signs [] := ⟨f8, _, fun_mk (st := s__law_signs) l8 c8 k8, PySem.W.mg_of X G a8, (fun_mk (st := s__law_signs) l8 c8 k8).binds (ps := []) fun _ _ _ _ _ _ us hl => match us, hl with | [], _ => rfl⟩
  have D__law_due : Df K mg "_law_due" s__law_due ["rows"] := ⟨f9, _, fun_mk (st := s__law_due) l9 c9 k9, PySem.W.mg_of X G a9, (fun_mk (st := s__law_due) l9 c9 k9).binds (ps := ["rows"]) fun _ _ _ _ _ _ us hl => match us, hl with | [_], _ => rfl⟩
  have D__law_drawn_row : Df K mg "_law_drawn_row" s__law_drawn_row ["source"] := ⟨f10, _, fun_mk (st := s__law_drawn_row) l10 c10 k10, PySem.W.mg_of X G a10, (fun_mk (st := s__law_drawn_row) l10 c10 k10).binds (ps := ["source"]) fun _ _ _ _ _ _ us hl => match us, hl with | [_], _ => rfl⟩
  have D__law_with : Df K mg "_law_with" s__law_with ["rows", "place", "more"] := ⟨f11, _, fun_mk (st := s__law_with) l11 c11 k11, PySem.W.mg_of X G a11, (fun_mk (st := s__law_with) l11 c11 k11).binds (ps := ["rows", "place", "more"]) fun _ _ _ _ _ _ us hl => match us, hl with | [_, _, _], _ => rfl⟩
  have D__law_other : Df K mg "_law_other" s__law_other ["source", "sign"] := ⟨f12, _, fun_mk (st := s__law_other) l12 c12 k12, PySem.W.mg_of X G a12, (fun_mk (st := s__law_other) l12 c12 k12).binds (ps := ["source", "sign"]) fun _ _ _ _ _ _ us hl => match us, hl with | [_, _], _ => rfl⟩
  have D__law_unlike_right : Df K mg "_law_unlike_right" s__law_unlike_right ["rows", "changed"] := ⟨f13, _, fun_mk (st := s__law_unlike_right) l13 c13 k13, PySem.W.mg_of X G a13, (fun_mk (st := s__law_unlike_right) l13 c13 k13).binds (ps := ["rows", "changed"]) fun _ _ _ _ _ _ us hl => match us, hl with | [_, _], _ => rfl⟩
  have D__law_changes_right : Df K mg "_law_changes_right" s__law_changes_right ["source", "rows", "place"] := ⟨f14, _, fun_mk (st := s__law_changes_right) l14 c14 k14, PySem.W.mg_of X G a14, (fun_mk (st := s__law_changes_right) l14 c14 k14).binds (ps := ["source", "rows", "place"]) fun _ _ _ _ _ _ us hl => match us, hl with | [_, _, _], _ => rfl⟩
  have D__law_others : Df K mg "_law_others" s__law_others ["source", "rows", "place"] := ⟨f15, _, fun_mk (st := s__law_others) l15 c15 k15, PySem.W.mg_of X G a15, (fun_mk (st := s__law_others) l15 c15 k15).binds (ps := ["source", "rows", "place"]) fun _ _ _ _ _ _ us hl => match us, hl with | [_, _, _], _ => rfl⟩
  have C__law_mix := ok__law_mix (P := l.prog) (w := w) (base := base) D__law_mix T 
  have C__law_draw := ok__law_draw (P := l.prog) (w := w) (base := base) D__law_draw T C__law_mix
  have C__law_signs := ok__law_signs (P := l.prog) (w := w) (base := base) D__law_signs T 
  have C__law_other := ok__law_other (P := l.prog) (w := w) (base := base) D__law_other T C__law_draw C__law_signs
  have C__law_pick := ok__law_pick (P := l.prog) (w := w) (base := base) D__law_pick T C__law_draw
  have C__law_due := ok__law_due (P := l.prog) (w := w) (base := base) D__law_due T 
  have C__law_is_int := ok__law_is_int (P := l.prog) (w := w) (base := base) D__law_is_int T 
  have C__law_same := ok__law_same (P := l.prog) (w := w) (base := base) D__law_same T C__law_is_int 2
  have C_mark_of := ok_mark_of (P := l.prog) (w := w) (base := base) D_mark_of T 
  have C__law_unlike_right := ok__law_unlike_right (P := l.prog) (w := w) (base := base) D__law_unlike_right T C__law_due C__law_same C_mark_of
  have C__law_with := ok__law_with (P := l.prog) (w := w) (base := base) D__law_with T 
  have C__law_changes_right := ok__law_changes_right (P := l.prog) (w := w) (base := base) D__law_changes_right T C__law_draw C__law_other C__law_pick C__law_unlike_right C__law_with
  have C__law_drawn_row := ok__law_drawn_row (P := l.prog) (w := w) (base := base) D__law_drawn_row T C__law_draw C__law_signs
  have C__law_once_in := ok__law_once_in (P := l.prog) (w := w) (base := base) D__law_once_in T C__law_draw
  have C__law_others := ok__law_others (P := l.prog) (w := w) (base := base) D__law_others T C__law_draw C__law_with
  have C__law_source := ok__law_source (P := l.prog) (w := w) (base := base) D__law_source T C__law_mix
  exact ok_law (fun_mk (st := s_law) l16 c16 k16) T C__law_changes_right C__law_draw C__law_drawn_row C__law_due C__law_once_in C__law_others C__law_pick C__law_same C__law_source C_mark_of
theorem walk {l : PySem.W.OpenLaw} {q : Program} {loose : List Str} {XP : (Str → Option Value) → Heap → Prop} {YP : World → Heap → Prop} {d : DefRec} {K : Params → PySem.W.Frag} (hn : l.most = some 63) (hdf : d.params.defaults = [])
    (hY : ∀ (w : World) (h : Heap), YP w h → (K w.params).In h)
    (F : ∀ (w : World) (mg : Str → Option Value) (fa : Addr) (h : Heap), (K w.params).In h → h.Ns mainGlobals mg → mg d.name = some (.ref fa) →
      ∃ fd : FuncData, (∀ (s : Shared) (u : Value), BindsTo s fd ⟨[u], []⟩ [("script", u)]) ∧ ∀ base : Heap, (K w.params).In base → base.Ns mainGlobals mg → FnOk l.prog w (K w.params) mg base CX0 6 fa fd ["script"] (sp_law (K w.params))) :
    PySem.W.WalkO q loose XP YP l.row.toRowW d [] (fun f vs => PySem.call f vs) :=
  L2.walk_of (n := 63) (k := 6) (x := "script") (CX := fun _ => CX0) (sp := fun w => sp_law (K w.params)) hn (by decide) hdf ⟨rfl, by decide, by decide⟩ hY F (fun _ _ a ns hl _ hS => ⟨a, ns, rfl, hS, hl, fun _ => rfl⟩) fun _ _ _ _ _ z => z
end Z
open PySem PySem.W PyProof.Rows in
set_option maxRecDepth 100000 in
set_option maxHeartbeats 0 in
theorem PySem.Challenge.cw_criermoot_k05_marks_holds : PySem.Challenge.rw_criermoot_k05_marks.Holds := by
  w_on; o_law; k_head; (case hw => w_witness2)
  k_fill
  refine Z.walk (l := PySem.Challenge.rw_criermoot_k05_marks) rfl rfl (fun w h Y => PySem.W.kIn_of Y) ?F
  case F =>
    intro w mg fa h KX G hmg
    refine' Z.all_mk KX G hmg ?a0 ?l0 ?c0 ?k0 ?a1 ?l1 ?c1 ?k1 ?a2 ?l2 ?c2 ?k2 ?a3 ?l3 ?c3 ?k3 ?a4 ?l4 ?c4 ?k4 ?a5 ?l5 ?c5 ?k5 ?a6 ?l6 ?c6 ?k6 ?a7 ?l7 ?c7 ?k7 ?a8 ?l8 ?c8 ?k8 ?a9 ?l9 ?c9 ?k9 ?a10 ?l10 ?c10 ?k10 ?a11 ?l11 ?c11 ?k11 ?a12 ?l12 ?c12 ?k12 ?a13 ?l13 ?c13 ?k13 ?a14 ?l14 ?c14 ?k14 ?a15 ?l15 ?c15 ?k15 ?a16 ?l16 ?c16 ?k16 ?z_abs ?z_bool ?z_int ?z_isinstance ?z_len ?z_list ?z_ord ?z_range ?z_str ?z_tuple
    (case a0 => k_is)
    (case l0 => k_is)
    (case c0 => k_is)
    (case k0 => k_is)
    (case a1 => k_is)
    (case l1 => k_is)
    (case c1 => k_is)
    (case k1 => k_is)
    (case a2 => k_is)
    (case l2 => k_is)
    (case c2 => k_is)
    (case k2 => k_is)
    (case a3 => k_is)
    (case l3 => k_is)
    (case c3 => k_is)
    (case k3 => k_is)
    (case a4 => k_is)
    (case l4 => k_is)
    (case c4 => k_is)
    (case k4 => k_is)
    (case a5 => k_is)
    (case l5 => k_is)
    (case c5 => k_is)
    (case k5 => k_is)
    (case a6 => k_is)
    (case l6 => k_is)
    (case c6 => k_is)
    (case k6 => k_is)
    (case a7 => k_is)
    (case l7 => k_is)
    (case c7 => k_is)
    (case k7 => k_is)
    (case a8 => k_is)
    (case l8 => k_is)
    (case c8 => k_is)
    (case k8 => k_is)
    (case a9 => k_is)
    (case l9 => k_is)
    (case c9 => k_is)
    (case k9 => k_is)
    (case a10 => k_is)
    (case l10 => k_is)
    (case c10 => k_is)
    (case k10 => k_is)
    (case a11 => k_is)
    (case l11 => k_is)
    (case c11 => k_is)
    (case k11 => k_is)
    (case a12 => k_is)
    (case l12 => k_is)
    (case c12 => k_is)
    (case k12 => k_is)
    (case a13 => k_is)
    (case l13 => k_is)
    (case c13 => k_is)
    (case k13 => k_is)
    (case a14 => k_is)
    (case l14 => k_is)
    (case c14 => k_is)
    (case k14 => k_is)
    (case a15 => k_is)
    (case l15 => k_is)
    (case c15 => k_is)
    (case k15 => k_is)
    (case a16 => k_is)
    (case l16 => k_is)
    (case c16 => k_is)
    (case k16 => k_is)
    (case z_abs => k_is)
    (case z_bool => k_is)
    (case z_int => k_is)
    (case z_isinstance => k_is)
    (case z_len => k_is)
    (case z_list => k_is)
    (case z_ord => k_is)
    (case z_range => k_is)
    (case z_str => k_is)
    (case z_tuple => k_is)
