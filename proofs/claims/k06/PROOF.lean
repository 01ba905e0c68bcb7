import PyProof.Rows.All
import Wide.All
import OpenK.AllK
import Wide.FinOn
import HandS.Base
import HandS.Call
import HandS.List
import HandS.Comp
import HandS.Ends
import HandS.Dict
import HandS.Iter
import HandS.Text
import HandS.Words
import HandS.WordsList
import HandS.Conv
import HandS.Codes
import HandS.IsInst
import HandS.Replace
import HandS.StrMore
import HandS.TupAny
import HandS.WideBits
import PySem.Challenge.RW_criermoot_k06_folds
set_option Elab.async false
set_option linter.all false
set_option maxRecDepth 100000
namespace Z
open PySem L2

/-! ### heaps -/
/-- all that was tracked is as it was, but for what stands at s -/
def Ext (s : Addr) (H H' : Hp) : Prop := ∀ b o, b ≠ s → H b = some o → H' b = some o
theorem Ext.refl (s : Addr) (H : Hp) : Ext s H H := fun _ _ _ h => h
theorem Ext.trans {s : Addr} {H H1 H2 : Hp} (a : Ext s H H1) (b : Ext s H1 H2) : Ext s H H2 := fun c o n h => b c o n (a c o n h)
theorem Ext.of {s : Addr} {H H' : Hp} (a : Same H H') : Ext s H H' := fun c o _ h => a c o h
theorem Ext.new {s p : Addr} {H : Hp} {o : HO} (n : H p = none) : Ext s H (upd H p o) := fun b u _ h => by
  rw [upd_ne (ne_of_none h n)]; exact h
theorem Ext.put {s : Addr} {H : Hp} {o : HO} : Ext s H (upd H s o) := fun b u n h => by
  rw [upd_ne n]; exact h
theorem same_new {p : Addr} {H : Hp} {o : HO} (n : H p = none) : Same H (upd H p o) := fun b u h => by
  rw [upd_ne (ne_of_none h n)]; exact h
theorem Ext.seqT {K : PySem.W.Frag} {s a : Addr} {H H' : Hp} {xs ys : List V} (x : Ext s H H') (hs : H s = some (.lst ys)) (h : SqT K H a xs) : SqT K H' a xs := by
  rcases h with (h | ⟨o, h⟩) | h
  · exact .inl (.inl (x _ _ (fun e => by rw [e, hs] at h; cases h) h))
  · exact .inl (.inr ⟨o, x _ _ (fun e => by rw [e, hs] at h; cases h) h⟩)
  · exact .inr h
theorem Ext.seqL {K : PySem.W.Frag} {s a : Addr} {H H' : Hp} {xs : List V} (x : Ext s H H') (n : a ≠ s) (h : SqL K H a xs) : SqL K H' a xs := by
  rcases h with (h | ⟨o, h⟩) | h
  · exact .inl (.inl (x _ _ n h))
  · exact .inl (.inr ⟨o, x _ _ n h⟩)
  · exact .inr h

theorem and_nn {x : Int} (hx : 0 ≤ x) (k : Nat) : 0 ≤ Builtin.bitAnd x (1 * 2 ^ k - 1) := by
  rw [Int.one_mul, Bits.bitAnd_mask k hx]
  exact Int.emod_nonneg _ (Int.ne_of_gt (Int.pow_pos (by decide)))
/-! ### the source of draws -/
def Src (H : Hp) (s a : Addr) (c : Nat) : Prop := ∃ (ns : List Int) (i b e t : Int),
  H s = some (.lst [.ref a, .int i, .int b, .int e, .int t]) ∧ H a = some (.lst (ns.map V.int)) ∧ a ≠ s ∧ ns.length ≤ 63 ∧ 0 ≤ i ∧ i ≤ 63 ∧ 0 ≤ b ∧ 0 ≤ e ∧ e < 2147483647 ∧ 0 ≤ t ∧ t + c < 4000000000000000000
theorem Src.lst {H : Hp} {s a : Addr} {c : Nat} (h : Src H s a c) : ∃ xs, H s = some (.lst xs) := by
  obtain ⟨_, _, _, _, _, h, _⟩ := h; exact ⟨_, h⟩
theorem Src.mono {H : Hp} {s a : Addr} {c d : Nat} (h : Src H s a c) (l : d ≤ c) : Src H s a d := by
  obtain ⟨ns, i, b, e, t, h1, h2, h3, h4, h5, h6, h7, h8, h9, h10, h11⟩ := h
  exact ⟨ns, i, b, e, t, h1, h2, h3, h4, h5, h6, h7, h8, h9, h10, by omega⟩
theorem Src.ext {H H' : Hp} {s a : Addr} {c : Nat} (h : Src H s a c) (x : Same H H') : Src H' s a c := by
  obtain ⟨ns, i, b, e, t, h1, h2, h3⟩ := h
  exact ⟨ns, i, b, e, t, x _ _ h1, x _ _ h2, h3⟩
theorem Src.new {H : Hp} {s a p : Addr} {o : HO} {c : Nat} (h : Src H s a c) (n : H p = none) : Src (upd H p o) s a c := h.ext (same_new n)
theorem Src.ne {H : Hp} {s a p : Addr} {c : Nat} (h : Src H s a c) (n : H p = none) : p ≠ s := by
  obtain ⟨xs, e⟩ := h.lst
  exact (ne_of_none e n).symm
theorem Src.nea {H : Hp} {s a p : Addr} {c : Nat} (h : Src H s a c) (n : H p = none) : p ≠ a := by
  obtain ⟨ns, i, b, e, t, h1, h2, h3⟩ := h
  exact (ne_of_none h2 n).symm
theorem Src.put {H : Hp} {s a p : Addr} {o : HO} {c : Nat} (h : Src H s a c) (n : p ≠ s) (m : p ≠ a) : Src (upd H p o) s a c := by
  obtain ⟨ns, i, b, e', t, h1, h2, h3⟩ := h
  exact ⟨ns, i, b, e', t, by rw [upd_ne n.symm]; exact h1, by rw [upd_ne m.symm]; exact h2, h3⟩

/-! ### defs and their callers -/
section
variable (P : Program) (w : World) (K : PySem.W.Frag) (mg : Str → Option Value) (base : Heap)
/-- a def as callers use it -/
def Cal (x : Str) (ps : List Str) (k : Nat) (sp : Sp) : Prop := ∃ (f : Addr) (fd : FuncData), FnOk P w K mg base CX0 k f fd ps sp ∧ mg x = some (.ref f) ∧ PySem.W.keepIn K (.ref f) = true ∧ Binds K fd ps []
/-- a def as the top has left it -/
def Df (x : Str) (st : Stmt) (ps : List Str) : Prop := ∃ (f : Addr) (fd : FuncData), Fun K x x st f fd ∧ mg x = some (.ref f) ∧ Binds K fd ps []
end
theorem Cal.mono {P : Program} {w : World} {K : PySem.W.Frag} {mg : Str → Option Value} {base : Heap} {x : Str} {ps : List Str} {j k : Nat} {sp : Sp} (C : Cal P w K mg base x ps j sp) (h : j ≤ k) : Cal P w K mg base x ps k sp := by
  obtain ⟨f, fd, G, g, kp, b⟩ := C
  exact ⟨f, fd, G.mono h, g, kp, b⟩

/-! ### the promises of the drawing defs -/
def sp__law_mix : Sp := fun vs H Q _ => ∃ (x y : Int), vs = [.int x, .int y] ∧ 0 ≤ x ∧ x < 9000000000000000000 ∧ 0 ≤ y ∧ y < 9000000000000000000 ∧ ∀ v : Int, 0 ≤ v → v < 2147483647 → Q (.int v) H
def sp__law_source (K : PySem.W.Frag) : Sp := fun vs H Q _ => ∃ (a : Addr) (ns : List Int), vs = [.ref a] ∧ SqL K H a (ns.map V.int) ∧ ns.length ≤ 63 ∧ ∀ (s b : Addr) (H' : Hp), H s = none → Same H H' → Src H' s b 3000000000000000000 → Q (.ref s) H'
def sp__law_draw : Sp := fun vs H Q _ => ∃ (s a : Addr) (m : Int) (c : Nat), vs = [.ref s, .int m] ∧ 0 < m ∧ m < 1073741824 ∧ Src H s a (c + 1) ∧ ∀ (v : Int) (H' : Hp), 0 ≤ v → v < m → Ext s H H' → Src H' s a c → Q (.int v) H'

/-! ### data -/
inductive D where
  | non | bl (b : Bool) | int (i : Int) | str (x : Str) | tup (xs : List D)
mutual
def DV (K : PySem.W.Frag) (H : Hp) : D → V → Prop
  | .non, v => v = .non
  | .bl b, v => v = .bl b
  | .int i, v => v = .int i
  | .str x, v => v = .str x
  | .tup ds, v => ∃ a vs, v = .ref a ∧ SqT K H a vs ∧ DVs K H ds vs
def DVs (K : PySem.W.Frag) (H : Hp) : List D → List V → Prop
  | [], vs => vs = []
  | d :: ds, vs => ∃ v r, vs = v :: r ∧ DV K H d v ∧ DVs K H ds r
end
mutual
theorem DV.ext {K : PySem.W.Frag} {H H' : Hp} (x : ∀ a xs, SqT K H a xs → SqT K H' a xs) : ∀ {d : D} {v : V}, DV K H d v → DV K H' d v
  | .non, _, h => by unfold DV at *; exact h
  | .bl _, _, h => by unfold DV at *; exact h
  | .int _, _, h => by unfold DV at *; exact h
  | .str _, _, h => by unfold DV at *; exact h
  | .tup ds, v, h => by
    unfold DV at *
    obtain ⟨a, vs, e, q, r⟩ := h
    exact ⟨a, vs, e, x _ _ q, DVs.ext x r⟩
theorem DVs.ext {K : PySem.W.Frag} {H H' : Hp} (x : ∀ a xs, SqT K H a xs → SqT K H' a xs) : ∀ {ds : List D} {vs : List V}, DVs K H ds vs → DVs K H' ds vs
  | [], _, h => by unfold DVs at *; exact h
  | d :: ds, vs, h => by
    unfold DVs at *
    obtain ⟨v, r, e, q, t⟩ := h
    exact ⟨v, r, e, DV.ext x q, DVs.ext x t⟩
end
theorem DVs.len {K : PySem.W.Frag} {H : Hp} : ∀ {ds : List D} {vs : List V}, DVs K H ds vs → vs.length = ds.length
  | [], _, h => by unfold DVs at h; subst h; rfl
  | d :: ds, vs, h => by
    unfold DVs at h
    obtain ⟨v, r, e, q, t⟩ := h
    rw [e, List.length_cons, List.length_cons, DVs.len t]
theorem DVs.get {K : PySem.W.Frag} {H : Hp} : ∀ {ds : List D} {vs : List V} {i : Nat} {d : D}, DVs K H ds vs → ds[i]? = some d → ∃ v, vs[i]? = some v ∧ DV K H d v
  | [], _, i, d, h, e => by simp at e
  | x :: ds, vs, i, d, h, e => by
    unfold DVs at h
    obtain ⟨v, r, e1, q, t⟩ := h
    subst e1
    cases i with
    | zero =>
      have : x = d := by simpa using e
      subst this
      exact ⟨v, rfl, q⟩
    | succ i => exact DVs.get (i := i) t (by simpa using e)
theorem DVs.strs {K : PySem.W.Frag} {H : Hp} : ∀ (xs : List Str), DVs K H (xs.map D.str) (xs.map V.str)
  | [] => by unfold DVs; rfl
  | x :: xs => by
    unfold DVs
    exact ⟨_, _, rfl, by unfold DV; rfl, DVs.strs xs⟩
theorem DVs.ints {K : PySem.W.Frag} {H : Hp} : ∀ (xs : List Int), DVs K H (xs.map D.int) (xs.map V.int)
  | [] => by unfold DVs; rfl
  | x :: xs => by
    unfold DVs
    exact ⟨_, _, rfl, by unfold DV; rfl, DVs.ints xs⟩
/-- tuples lie within fewer than n others -/
def DL : Nat → D → Prop
  | 0, _ => False
  | n + 1, .tup xs => xs.length ≤ 1000000 ∧ ∀ x ∈ xs, DL n x
  | _ + 1, _ => True
theorem TyX.ofT {K : PySem.W.Frag} {H : Hp} {a : Addr} {xs : List V} (h : SqT K H a xs) : TyX K H (.ref a) (.type "tuple") := by
  rcases h with (h | ⟨o, h⟩) | ⟨o, _, _, e, c, _⟩
  · exact .base (.tup h)
  · exact .fTuple h
  · exact .kTuple e c
def sp__law_is_int (K : PySem.W.Frag) : Sp := fun vs H Q _ => ∃ i : Int, vs = [.int i] ∧ Q (.bl true) H
/-- of two values with the same data it tells True -/
def sp__law_same (K : PySem.W.Frag) (n : Nat) : Sp := fun vs H Q _ => ∃ (d : D) (v u : V), vs = [v, u] ∧ DV K H d v ∧ DV K H d u ∧ DL n d ∧ Q (.bl true) H

/-! ### texts by their signs -/
open SX (S S_cat S_len S_inj)
theorem S_lst (l : List Nat) : (S l).cps.toList = l := rfl
theorem S_of (x : Str) : x = S x.cps.toList := (SX.S_tl x).symm
theorem S_app (a b : List Nat) : S a ++ S b = S (a ++ b) := S_cat a b
/-- a for over the signs of a text -/
theorem for_str {l : List Nat} {g : TG} {tb : TS} {D : Ends} {σ : St} {H : Hp} (Pv : Nat → St → Hp → Prop) (h0 : Pv 0 σ H)
    (hs : ∀ i c σ H, l[i]? = some c → Pv i σ H → g (.str (S [c])) σ H fun σ2 H2 => tb { D with nx := Pv (i + 1), ct := Pv (i + 1), bk := D.nx } σ2 H2) (hd : ∀ σ H, Pv l.length σ H → D.nx σ H) :
    ∃ W : Nat → Nat → St → Hp → Prop, (∃ m, W 0 m σ H) ∧ ∀ i m σ H, W i m σ H →
      ((Its (S l)).stop i H ∧ D.nx σ H) ∨ ((Its (S l)).go i H ∧ ∃ N : St → Hp → Prop, (∀ σ' H', N σ' H' → ∃ m', m' < m ∧ W (i + 1) m' σ' H') ∧ ∀ x H', (Its (S l)).yld i H x H' → g x σ H' fun σ2 H2 => tb { D with nx := N, ct := N, bk := D.nx } σ2 H2) := by
  refine ⟨fun i m σ H => m = l.length - i ∧ i ≤ l.length ∧ Pv i σ H, ⟨l.length, by simp, Nat.zero_le _, h0⟩, ?_⟩
  rintro i m σ H ⟨rfl, hi, p⟩
  by_cases hlt : i < l.length
  · refine .inr ⟨by show i < l.toArray.size; simpa using hlt, Pv (i + 1), fun σ' H' p' => ⟨l.length - (i + 1), by omega, rfl, hlt, p'⟩, fun x H' y => ?_⟩
    obtain ⟨e, c, hc, y⟩ := y
    subst e y
    exact hs i c σ _ (by simpa using hc) p
  · have e : i = l.length := by omega
    subst e
    exact .inl ⟨by show l.toArray.size ≤ l.length; simp, hd σ H p⟩
/-- a comprehension over the signs of a text -/
theorem lc_str {l : List Nat} {g : TG} {tt : TT} {te : TE} {vs : List Nat} {σ : St} {H1 : Hp} {D : Addr} {Qd : Hp → Prop} (Pv : Nat → Hp → Prop) (h0 : Pv 0 (upd H1 D (.lst [])))
    (hs : ∀ i c H, l[i]? = some c → Pv i H → g (.str (S [c])) (wipe σ vs) H fun σ2 H2 => wipe σ2 vs = wipe σ vs ∧ tt σ2 H2 fun b H3 =>
      if b = true then te σ2 H3 fun y H4 => ∃ acc, H4 D = some (.lst acc) ∧ acc.length < sizeLine ∧ Pv (i + 1) (upd H4 D (.lst (acc ++ [y]))) else Pv (i + 1) H3) (hd : ∀ H, Pv l.length H → Qd H) :
    ∃ W : Nat → Nat → Hp → Prop, (∃ m, W 0 m (upd H1 D (.lst []))) ∧ ∀ i m H, W i m H →
      ((Its (S l)).stop i H ∧ Qd H) ∨ ((Its (S l)).go i H ∧ ∃ Nx : Hp → Prop, (∀ H', Nx H' → ∃ m', m' < m ∧ W (i + 1) m' H') ∧ ∀ x H', (Its (S l)).yld i H x H' → g x (wipe σ vs) H' fun σ2 H2 => wipe σ2 vs = wipe σ vs ∧ tt σ2 H2 fun b H3 =>
        if b = true then te σ2 H3 fun y H4 => ∃ acc, H4 D = some (.lst acc) ∧ acc.length < sizeLine ∧ Nx (upd H4 D (.lst (acc ++ [y]))) else Nx H3) := by
  refine ⟨fun i m H => m = l.length - i ∧ i ≤ l.length ∧ Pv i H, ⟨l.length, by simp, Nat.zero_le _, h0⟩, ?_⟩
  rintro i m H ⟨rfl, hi, p⟩
  by_cases hlt : i < l.length
  · refine .inr ⟨by show i < l.toArray.size; simpa using hlt, Pv (i + 1), fun H' p' => ⟨l.length - (i + 1), by omega, rfl, hlt, p'⟩, fun x H' y => ?_⟩
    obtain ⟨e, c, hc, y⟩ := y
    subst e y
    exact hs i c _ (by simpa using hc) p
  · have e : i = l.length := by omega
    subst e
    exact .inl ⟨by show l.toArray.size ≤ l.length; simp, hd H p⟩
/-- signs of rows -/
def Asc (l : List Nat) : Prop := ∀ x ∈ l, 32 ≤ x ∧ x ≤ 126
theorem Asc.nil : Asc [] := fun _ h => nomatch h
theorem Asc.app {a b : List Nat} (x : Asc a) (y : Asc b) : Asc (a ++ b) := fun c h => (List.mem_append.mp h).elim (x c) (y c)
theorem Asc.by_ {l : List Nat} (h : l.all (fun x => decide (32 ≤ x) && decide (x ≤ 126)) = true) : Asc l := fun x m => by
  have := List.all_eq_true.mp h x m
  simp at this
  exact this
theorem Asc.all128 {l : List Nat} (h : Asc l) : l.all (· < 128) = true := List.all_eq_true.mpr fun x m => decide_eq_true (by have := h x m; omega)
theorem joinNil : ∀ ls : List (List Nat), TL.joinL [] ls = ls.flatten
  | [] => rfl
  | [x] => by simp [TL.joinL]
  | x :: y :: r => by
    have := joinNil (y :: r)
    simp only [TL.joinL] at *
    rw [List.flatten_cons, ← this]
    simp [TL.joinL]
theorem join_nil (ls : List (List Nat)) : Txt.join (S []) (ls.map S) = S ls.flatten := by
  rw [SX.join_S, joinNil]

/-! ### texts, further -/
abbrev tl (x : Str) : List Nat := x.cps.toList
theorem tl_S (l : List Nat) : tl (S l) = l := rfl
theorem S_tl (x : Str) : S (tl x) = x := rfl
theorem tl_app (x y : Str) : tl (x ++ y) = tl x ++ tl y := TL.tl_append x y
theorem tl_len (x : Str) : x.length = (tl x).length := by show x.cps.size = x.cps.toList.length; simp
theorem tl_ext {x y : Str} (h : tl x = tl y) : x = y := TL.ext_tl h
theorem at_str {x : Str} {i : Int} (h0 : 0 ≤ i) (h1 : i < (x.length : Int)) : ∃ c, x.cps[i.toNat]? = some c ∧ (tl x)[i.toNat]? = some c ∧ c ∈ tl x := by
  have h : i.toNat < (tl x).length := by rw [← tl_len]; omega
  refine ⟨(tl x)[i.toNat], ?_, List.getElem?_eq_getElem h, List.getElem_mem h⟩
  have := List.getElem?_eq_getElem h
  rw [← this]; simp [tl]
/-- small letters and digits -/
def Low (l : List Nat) : Prop := ∀ x ∈ l, (97 ≤ x ∧ x ≤ 122) ∨ (48 ≤ x ∧ x ≤ 57)
theorem Low.nil : Low [] := fun _ h => nomatch h
theorem Low.app {a b : List Nat} (x : Low a) (y : Low b) : Low (a ++ b) := fun c h => (List.mem_append.mp h).elim (x c) (y c)
theorem Low.asc {a : List Nat} (x : Low a) : Asc a := fun c h => by have := x c h; omega
theorem low_num (n : Nat) : Low (TL.numL n) := fun c h => .inr (by have := TL.numL_digits n c h; omega)
theorem num_len : ∀ n : Nat, (TL.numL n).length ≤ n + 1 := fun n => by
  induction n using Nat.strongRecOn with
  | ind n ih =>
    by_cases h : n < 10
    · rw [TL.numL_lt h]; simp
    · rw [TL.numL_step (by omega), List.length_append]
      have := ih (n / 10) (by omega)
      simp; omega
/-- a name: a letter, then letters and digits -/
def Nm (l : List Nat) : Prop := (∃ c r, l = c :: r ∧ 97 ≤ c ∧ c ≤ 122) ∧ Low l
theorem Nm.app {a b : List Nat} (x : Nm a) (y : Low b) : Nm (a ++ b) := by
  obtain ⟨⟨c, r, e, h⟩, l⟩ := x
  exact ⟨⟨c, r ++ b, by rw [e]; rfl, h⟩, l.app y⟩
theorem flat_strs (xs : List Str) : (xs.map V.str).all flatV = true := List.all_eq_true.mpr fun x h => by
  obtain ⟨y, _, rfl⟩ := List.mem_map.mp h; rfl
theorem inV_strs (x : Str) (xs : List Str) : inV (V.str x) (xs.map V.str) = decide (x ∈ xs) := by
  unfold inV
  induction xs with
  | nil => rfl
  | cons y ys ih =>
    rw [List.map_cons, List.any_cons, ih]
    by_cases e : x = y
    · subst e; simp [eqV]
    · have : ¬ y = x := fun h => e h.symm
      simp [eqV, e, this]
def sp__law_new_name (K : PySem.W.Frag) : Sp := fun vs H Q _ => ∃ (s a u : Addr) (us : List Str) (c : Nat), vs = [.ref s, .ref u] ∧ SqL K H u (us.map V.str) ∧ u ≠ s ∧ us.length ≤ 60 ∧ Src H s a (c + 8) ∧
  ∀ (x : Str) (H' : Hp), Nm (tl x) → (tl x).length ≤ 70 → Ext s H H' → Src H' s a c → Q (.str x) H'
def sp__law_names (K : PySem.W.Frag) : Sp := fun vs H Q _ => ∃ (s a : Addr) (m c : Nat), vs = [.ref s, .int m] ∧ m ≤ 60 ∧ Src H s a (c + 8 * m) ∧
  ∀ (u : Addr) (us : List Str) (H' : Hp), H u = none → H' u = some (.lst (us.map V.str)) → us.length = m → (∀ x ∈ us, Nm (tl x) ∧ (tl x).length ≤ 70) → Ext s H H' → Src H' s a c → Q (.ref u) H'
def sp__law_row : Sp := fun vs H Q _ => ∃ (s a : Addr) (m : Int) (c : Nat), vs = [.ref s, .int m] ∧ 0 ≤ m ∧ m ≤ 1000 ∧ Src H s a (c + m.toNat) ∧
  ∀ (x : Str) (H' : Hp), Asc (tl x) → (tl x).length = m.toNat → Ext s H H' → Src H' s a c → Q (.str x) H'

/-! ### rules that name the written part themselves (for the blocks of comprehensions) -/
section
variable {X : Cx} {K : PySem.W.Frag}
/-- len of a text -/
theorem call_lenS : CallR X (.builtin "len") (fun xs H Q => ∃ x : Str, xs = [.str x] ∧ x.length ≤ sizeLine ∧ Q (.int x.length) H) := by
  intro pins s σ H xs us Q I r h
  obtain ⟨x, e, hl, q⟩ := h
  exact call_len pins s σ H xs us Q I r ⟨.str x, x.length, e, ⟨hl, rfl⟩, q⟩
theorem call_lenQ (h : X.K = K) : CallR X (.builtin "len") (fun xs H Q => ∃ p ys, xs = [.ref p] ∧ (SqL K H p ys ∨ SqT K H p ys) ∧ Q (.int ys.length) H) := by
  subst h; exact call_len_seq
theorem ix_listQ (h : X.K = K) : IxR X (rIxL K) := by subst h; exact ix_list
theorem ix_tupQ (h : X.K = K) : IxR X (rIxT K) := by subst h; exact ix_tup
theorem in_seqQ (h : X.K = K) : OpR X (compareOp .In) (rIn K false) := by subst h; exact op_in_seq
theorem notIn_seqQ (h : X.K = K) : OpR X (compareOp .NotIn) (rIn K true) := by subst h; exact op_notIn_seq
theorem isiQ (h : X.K = K) : CallR X (.builtin "isinstance") (rIsi K) := by subst h; exact call_isi
end

/-- texts of one sign each -/
def Ones (p : Nat → Prop) (xs : List Str) : Prop := ∀ x ∈ xs, ∃ c, tl x = [c] ∧ p c
theorem Ones.tail {p : Nat → Prop} {x : Str} {xs : List Str} (h : Ones p (x :: xs)) : Ones p xs := fun y m => h y (List.mem_cons_of_mem _ m)
theorem ones_len {p : Nat → Prop} : ∀ {xs : List Str}, (∀ x ∈ xs, ∃ c, tl x = [c] ∧ p c) → (xs.map (·.length)).sum = xs.length
  | [], _ => rfl
  | x :: xs, h => by
    obtain ⟨c, e, _⟩ := h x List.mem_cons_self
    have : x.length = 1 := by rw [tl_len, e]; rfl
    rw [List.map_cons, List.sum_cons, ones_len (Ones.tail h), List.length_cons, this]
    omega
/-- their only signs -/
def heads (xs : List Str) : List Nat := xs.map fun x => (tl x).headD 0
theorem tl_join0 (xs : List Str) : tl (Txt.join (S []) xs) = (xs.map tl).flatten := by
  have e : xs = (xs.map tl).map S := by rw [List.map_map]; exact (List.map_id _).symm
  have h := join_nil (xs.map tl)
  rw [← e] at h
  show tl (Txt.join (S []) xs) = _
  rw [h]
theorem ones_join {p : Nat → Prop} {xs : List Str} (h : ∀ x ∈ xs, ∃ c, tl x = [c] ∧ p c) : tl (Txt.join (S []) xs) = heads xs := by
  rw [tl_join0]
  induction xs with
  | nil => rfl
  | cons x xs ih =>
    obtain ⟨c, e, _⟩ := h x List.mem_cons_self
    rw [List.map_cons, List.flatten_cons, ih (Ones.tail h), e]
    show c :: heads xs = (tl x).headD 0 :: heads xs
    rw [e]; rfl
theorem ones_all {p : Nat → Prop} {xs : List Str} (h : ∀ x ∈ xs, ∃ c, tl x = [c] ∧ p c) : ∀ c ∈ heads xs, p c := fun c m => by
  obtain ⟨x, hx, e⟩ := List.mem_map.mp m
  obtain ⟨d, e2, hd⟩ := h x hx
  rw [e2] at e
  have : d = c := e
  rw [← this]; exact hd
theorem str0 : Str.ofString "" = S [] := rfl
theorem ones_room {p : Nat → Prop} {xs : List Str} (h : ∀ x ∈ xs, ∃ c, tl x = [c] ∧ p c) : (xs.map (·.length)).sum + xs.length * (Str.ofString "").length = xs.length := by
  rw [ones_len h]; show xs.length + xs.length * 0 = xs.length; omega
theorem ones_joinE {p : Nat → Prop} {xs : List Str} (h : ∀ x ∈ xs, ∃ c, tl x = [c] ∧ p c) : tl (Txt.join (Str.ofString "") xs) = heads xs := ones_join h
theorem ones_asc {xs : List Str} (h : ∀ x ∈ xs, ∃ c, tl x = [c] ∧ 32 ≤ c ∧ c ≤ 126) : Asc (heads xs) := fun c m => ones_all (p := fun c => 32 ≤ c ∧ c ≤ 126) h c m
theorem heads_len (xs : List Str) : (heads xs).length = xs.length := List.length_map _

theorem alpha_mem {c : Nat} (h : c ∈ tl (Str.ofString "abcdefghijklmnopqrstuvwxyz")) : 97 ≤ c ∧ c ≤ 122 := by
  have : (tl (Str.ofString "abcdefghijklmnopqrstuvwxyz")).all (fun c => decide (97 ≤ c) && decide (c ≤ 122)) = true := by decide +kernel
  have := List.all_eq_true.mp this c h
  simp at this; exact this
theorem low_mem {c : Nat} (h : c ∈ tl (Str.ofString "abcdefghijklmnopqrstuvwxyz" ++ Str.ofString "0123456789")) : (97 ≤ c ∧ c ≤ 122) ∨ (48 ≤ c ∧ c ≤ 57) := by
  rw [tl_app] at h
  have : (tl (Str.ofString "abcdefghijklmnopqrstuvwxyz") ++ tl (Str.ofString "0123456789")).all (fun c => (decide (97 ≤ c) && decide (c ≤ 122)) || (decide (48 ≤ c) && decide (c ≤ 57))) = true := by decide +kernel
  have := List.all_eq_true.mp this c h
  simp at this; exact this

theorem log_small {i : Nat} (h : i ≤ 1000000) : (Int.natAbs (0 + (i : Int))).log2 < 1920 := by
  rw [Int.zero_add, Int.natAbs_natCast]
  by_cases e : i = 0
  · subst e; decide
  · rw [Nat.log2_lt e]
    exact Nat.lt_of_le_of_lt h (Nat.lt_of_lt_of_le (by decide : 1000000 < 2 ^ 20) (Nat.pow_le_pow_right (by decide) (by decide)))

theorem fold_take {α β : Type} {f : β → α → β} {a : β} {l : List α} {i : Nat} {c : α} (h : l[i]? = some c) : (l.take (i + 1)).foldl f a = f ((l.take i).foldl f a) c := by
  rw [List.take_add_one, h, List.foldl_append]
  rfl
theorem fold_all {α β : Type} {f : β → α → β} {a : β} {l : List α} : (l.take l.length).foldl f a = l.foldl f a := by rw [List.take_length]
theorem in_abc {c : Nat} : decide (c ∈ (Str.ofString "abcdefghijklmnopqrstuvwxyz").cps.toList) = (decide (97 ≤ c) && decide (c ≤ 122)) := by
  have e : (Str.ofString "abcdefghijklmnopqrstuvwxyz").cps.toList = List.range' 97 26 := by decide +kernel
  rw [e, Bool.eq_iff_iff, decide_eq_true_iff, List.mem_range'_1]
  simp only [Bool.and_eq_true, decide_eq_true_eq]
  omega
theorem in_ABC {c : Nat} : decide (c ∈ (Str.ofString "ABCDEFGHIJKLMNOPQRSTUVWXYZ").cps.toList) = (decide (65 ≤ c) && decide (c ≤ 90)) := by
  have e : (Str.ofString "ABCDEFGHIJKLMNOPQRSTUVWXYZ").cps.toList = List.range' 65 26 := by decide +kernel
  rw [e, Bool.eq_iff_iff, decide_eq_true_iff, List.mem_range'_1]
  simp only [Bool.and_eq_true, decide_eq_true_eq]
  omega
theorem in_012 {c : Nat} : decide (c ∈ (Str.ofString "0123456789").cps.toList) = (decide (48 ≤ c) && decide (c ≤ 57)) := by
  have e : (Str.ofString "0123456789").cps.toList = List.range' 48 10 := by decide +kernel
  rw [e, Bool.eq_iff_iff, decide_eq_true_iff, List.mem_range'_1]
  simp only [Bool.and_eq_true, decide_eq_true_eq]
  omega
theorem in_abc012 {c : Nat} : decide (c ∈ (Str.ofString "abcdefghijklmnopqrstuvwxyz0123456789").cps.toList) = ((decide (97 ≤ c) && decide (c ≤ 122)) || (decide (48 ≤ c) && decide (c ≤ 57))) := by
  have e : (Str.ofString "abcdefghijklmnopqrstuvwxyz0123456789").cps.toList = List.range' 97 26 ++ List.range' 48 10 := by decide +kernel
  rw [e, Bool.eq_iff_iff, decide_eq_true_iff, List.mem_append, List.mem_range'_1, List.mem_range'_1]
  simp only [Bool.and_eq_true, Bool.or_eq_true, decide_eq_true_eq]
  omega
/-- literal texts -/
theorem tl_mapS (ws : List Str) : (ws.map tl).map S = ws := by rw [List.map_map]; exact List.map_id _

theorem strs_at (zs : List Str) {v : Int} (h0 : 0 ≤ v) (h1 : v < (zs.length : Int)) : ∃ z, z ∈ zs ∧ atI (zs.map V.str) v = some (.str z) := by
  have h : v.toNat < zs.length := by omega
  exact ⟨zs[v.toNat], List.getElem_mem h, at_of (j := v.toNat) (by omega) (by rw [List.getElem?_map, List.getElem?_eq_getElem h]; rfl)⟩
theorem tl_upper {x : Str} (h : Asc (tl x)) : tl (Txt.upper x) = (tl x).map PyProof.Rows.up1 := congrArg tl (SX.upper_S (a := tl x) h.all128)
theorem asc_upper {x : Str} (h : Asc (tl x)) : Asc (tl (Txt.upper x)) := by
  rw [tl_upper h]
  intro c hc
  obtain ⟨d, hd, e⟩ := List.mem_map.mp hc
  have := h d hd
  unfold PyProof.Rows.up1 at e
  split at e <;> omega
theorem len_upper {x : Str} (h : Asc (tl x)) : (tl (Txt.upper x)).length = (tl x).length := by rw [tl_upper h, List.length_map]
theorem DL.strs {n : Nat} (xs : List Str) (h : xs.length ≤ 1000000) : DL (n + 2) (.tup (xs.map D.str)) := ⟨by rw [List.length_map]; exact h, fun d m => by obtain ⟨x, _, rfl⟩ := List.mem_map.mp m; exact True.intro⟩
theorem DV.strs {K : PySem.W.Frag} {H : Hp} {p : Addr} {xs : List Str} (h : H p = some (.tup (xs.map V.str))) : DV K H (.tup (xs.map D.str)) (.ref p) := by
  unfold DV
  exact ⟨p, _, rfl, SqT.of h, DVs.strs xs⟩
def sp_law (K : PySem.W.Frag) : Sp := fun vs H Q _ => ∃ (a : Addr) (ns : List Int), vs = [.ref a] ∧ SqL K H a (ns.map V.int) ∧ ns.length ≤ 63 ∧ ∀ H', Q (.bl true) H'
end Z
namespace Z
open PySem L2 SX
/-! ### cuts -/
theorem sIx_pos {n d : Nat} {i : Int} (h : 0 ≤ i) : HT.sIx n d (some i) = min i.toNat n := by
  obtain ⟨k, rfl⟩ := Int.eq_ofNat_of_zero_le h
  rw [HT.sIx_nat]; rfl
theorem cutS_to {z : Str} {i : Int} (h : 0 ≤ i) : tl (cutS z none (some i)) = (tl z).take i.toNat := by
  show ((tl z).drop 0).take (HT.sIx z.length z.length (some i) - 0) = _
  rw [sIx_pos h, List.drop_zero, Nat.sub_zero, tl_len]
  by_cases e : i.toNat ≤ (tl z).length
  · rw [Nat.min_eq_left e]
  · rw [Nat.min_eq_right (by omega), List.take_length, List.take_of_length_le (by omega)]
theorem cutS_from {z : Str} {i : Int} (h : 0 ≤ i) : tl (cutS z (some i) none) = (tl z).drop i.toNat := by
  show ((tl z).drop (HT.sIx z.length 0 (some i))).take (z.length - HT.sIx z.length 0 (some i)) = _
  rw [sIx_pos h, tl_len]
  by_cases e : i.toNat ≤ (tl z).length
  · rw [Nat.min_eq_left e, List.take_of_length_le (by rw [List.length_drop]; omega)]
  · rw [Nat.min_eq_right (by omega), List.drop_of_length_le (l := tl z) (i := i.toNat) (by omega), List.drop_of_length_le (Nat.le_refl _), List.take_nil]
theorem cutS_mid {z : Str} {i j : Int} (h : 0 ≤ i) (h2 : 0 ≤ j) : tl (cutS z (some i) (some j)) = ((tl z).drop i.toNat).take (j.toNat - i.toNat) := by
  show ((tl z).drop (HT.sIx z.length 0 (some i))).take (HT.sIx z.length z.length (some j) - HT.sIx z.length 0 (some i)) = _
  rw [sIx_pos h, sIx_pos h2, tl_len]
  by_cases e : i.toNat ≤ (tl z).length
  · rw [Nat.min_eq_left e]
    by_cases f : j.toNat ≤ (tl z).length
    · rw [Nat.min_eq_left f]
    · rw [Nat.min_eq_right (by omega), List.take_of_length_le (by rw [List.length_drop]; omega), List.take_of_length_le (by rw [List.length_drop]; omega)]
  · rw [Nat.min_eq_right (a := i.toNat) (by omega), List.drop_of_length_le (Nat.le_refl _), List.drop_of_length_le (l := tl z) (i := i.toNat) (by omega)]; simp
theorem cutV_to {xs : List V} {i : Int} (h : 0 ≤ i) : cutV xs none (some i) = xs.take i.toNat := by
  show ((xs.drop 0).take (HT.sIx xs.length xs.length (some i) - 0)) = _
  rw [sIx_pos h, List.drop_zero, Nat.sub_zero]
  by_cases e : i.toNat ≤ xs.length
  · rw [Nat.min_eq_left e]
  · rw [Nat.min_eq_right (by omega), List.take_length, List.take_of_length_le (by omega)]
theorem cutV_from {xs : List V} {i : Int} (h : 0 ≤ i) : cutV xs (some i) none = xs.drop i.toNat := by
  show ((xs.drop (HT.sIx xs.length 0 (some i))).take (xs.length - HT.sIx xs.length 0 (some i))) = _
  rw [sIx_pos h]
  by_cases e : i.toNat ≤ xs.length
  · rw [Nat.min_eq_left e, List.take_of_length_le (by rw [List.length_drop]; omega)]
  · rw [Nat.min_eq_right (by omega), List.drop_of_length_le (l := xs) (i := i.toNat) (by omega), List.drop_of_length_le (Nat.le_refl _), List.take_nil]
/-- the text k times -/
def rep (k : Nat) (l : List Nat) : List Nat := (List.replicate k l).flatten
theorem rep_fold (x : Array Nat) : ∀ (k : Nat) (a : Array Nat), ((List.replicate k x).foldl (· ++ ·) a).toList = a.toList ++ rep k x.toList
  | 0, a => by simp [rep]
  | k + 1, a => by
    rw [List.replicate_succ, List.foldl_cons, rep_fold x k]
    simp [rep, List.replicate_succ]
theorem rep_len (k : Nat) (l : List Nat) : (rep k l).length = k * l.length := by
  induction k with
  | zero => simp [rep]
  | succ k ih => unfold rep at *; rw [List.replicate_succ, List.flatten_cons, List.length_append, ih, Nat.succ_mul]; omega
theorem rep_mem {k : Nat} {l : List Nat} {c : Nat} (h : c ∈ rep k l) : c ∈ l := by
  obtain ⟨x, hx, hc⟩ := List.mem_flatten.mp h
  rw [(List.mem_replicate.mp hx).2] at hc; exact hc
section
variable {X : Cx}
/-- s * k -/
theorem op_mul_str : OpR X (binaryOp .Mult) (fun x y H Q => ∃ (z : Str) (k : Int), x = .str z ∧ y = .int k ∧ k ≤ 100000 ∧ (-100000 ≤ k) ∧ (tl z).length * k.toNat ≤ 10000000 ∧ ∀ r : Str, tl r = rep k.toNat (tl z) → Q (.str r) H) := by
  intro pins s σ H x y v u Q I rx ry h
  obtain ⟨z, k, rfl, rfl, h1, h0, hz, q⟩ := h
  obtain ⟨t, rfl⟩ := rx
  obtain ⟨t', rfl⟩ := ry
  have hz' : z.length * k.toNat ≤ 10000000 := by rw [tl_len]; exact hz
  have small := PyProof.Rows.short24 (n := z.length * k.toNat) (Nat.le_trans hz' (by decide))
  refine P.mul_str ?_ (fun a b => ?_) (fun _ _ => small) ?_
  · rw [decide_eq_false (by omega), decide_eq_false (by omega)]; rfl
  · have hk : 1 ≤ k := by omega
    have hm : (z.length : Int) * k ≤ 10000000 := by
      have : ((z.length * k.toNat : Nat) : Int) ≤ 10000000 := by omega
      rw [Int.natCast_mul, Int.toNat_of_nonneg (by omega)] at this; exact this
    have hle : (z.length : Int) ≤ (2 ^ 63 - 1) / k := by
      rw [Int.le_ediv_iff_mul_le (by omega)]
      exact Int.le_trans hm (by decide)
    omega
  · by_cases hk : k < 1
    · rw [if_pos hk]
      refine ⟨by decide, ?_⟩
      exact ⟨.str Str.empty, H, I.tok _, ⟨_, rfl⟩, q _ (by rw [show k.toNat = 0 by omega]; rfl)⟩
    · rw [if_neg hk]
      by_cases hb : (k == 1 || z.length == 0) = true
      · rw [if_pos hb]
        refine ⟨.str z, H, I, ⟨_, rfl⟩, q _ ?_⟩
        rw [Bool.or_eq_true] at hb
        rcases hb with e | e
        · have : k = 1 := by simpa using e
          subst this; simp [rep]
        · have e : z.length = 0 := by simpa using e
          rw [tl_len] at e
          have : tl z = [] := List.length_eq_zero_iff.mp e
          rw [this]
          exact (List.length_eq_zero_iff.mp (by rw [rep_len]; rfl)).symm
      · rw [if_neg hb]
        have hr : tl (⟨(List.replicate k.toNat z.cps).foldl (· ++ ·) #[]⟩ : Str) = rep k.toNat (tl z) := by
          show ((List.replicate k.toNat z.cps).foldl (· ++ ·) #[]).toList = _
          rw [rep_fold]; simp [tl]
        refine ⟨?_, ?_⟩
        · rw [tl_len, hr, rep_len, Nat.mul_comm]
          exact Nat.le_trans hz (by decide)
        · exact ⟨.str _, H, I.tok _, ⟨_, rfl⟩, q _ hr⟩
end
section
variable {X : Cx} {K : PySem.W.Frag}
/-- t + u, of tuples -/
theorem op_cat (hK : X.K = K) : OpR X (binaryOp .Add) (fun x y H Q => ∃ a b xs ys, x = .ref a ∧ y = .ref b ∧ SqT K H a xs ∧ SqT K H b ys ∧ xs.length + ys.length ≤ sizeLine ∧
    ∀ p H', Same H H' → SqT K H' p (xs ++ ys) → Q (.ref p) H') := by
  subst hK
  intro pins s σ H x y v u Q I rx ry h
  obtain ⟨a, b, xs, ys, e1, e2, ha, hb, hz, q⟩ := h
  refine op_catA pins s σ H x y v u Q I rx ry ⟨a, b, xs, ys, e1, e2, ha, hb, hz, fun e => ?_, fun _ e => ?_, fun _ _ p hp => q p _ (same_new hp) (SqT.of upd_same)⟩
  · subst e; exact q b H (Same.refl _) hb
  · subst e; exact q a H (Same.refl _) (by rw [List.append_nil]; exact ha)
/-- t[lo:hi] of a tuple -/
theorem sl_tupS (hK : X.K = K) : SlR X (fun x lo hi H Q => ∃ a xs, x = .ref a ∧ SqT K H a xs ∧ ∀ p H', Same H H' → SqT K H' p (cutV xs lo hi) → Q (.ref p) H') := by
  subst hK
  intro pins s σ H x v vl vu lo hi sl Q I rx hs pl pu h
  obtain ⟨a, xs, e, hx, q⟩ := h
  refine sl_tupA pins s σ H x v vl vu lo hi sl Q I rx hs pl pu ⟨a, xs, e, hx, fun hw => q a H (Same.refl _) ?_, fun _ p hp => q p _ (same_new hp) (SqT.of upd_same)⟩
  have : cutV xs lo hi = xs := by
    show (xs.drop (HT.sIx xs.length 0 lo)).take (HT.sIx xs.length xs.length hi - HT.sIx xs.length 0 lo) = xs
    rw [hw.1, hw.2, List.drop_zero, Nat.sub_zero, List.take_length]
  rw [this]; exact hx
end
theorem _root_.L2.Same.tup {K : PySem.W.Frag} {H H' : Hp} {a : Addr} {xs : List V} (e : Same H H') (h : SqT K H a xs) : SqT K H' a xs := by
  rcases h with (h | ⟨o, h⟩) | h
  · exact .inl (.inl (e _ _ h))
  · exact .inl (.inr ⟨o, e _ _ h⟩)
  · exact .inr h

/-- a comprehension over a range that makes texts by draws (at most d of them for each) -/
theorem lc_strs {j n d : Nat} {te : TE} {vs : List Nat} {σ : St} {H : Hp} {D s a : Addr} {c : Nat} {Qd : Hp → Prop} (p : Str → Prop) (hD : H D = none) (hS : Src H s a (c + n * d)) (hn : n ≤ 100000)
    (hw : ∀ i : Nat, wipe ((wipe σ vs).set j (some (.int (0 + (i : Int))))) vs = wipe σ vs)
    (hs : ∀ (i c' : Nat) (H1 : Hp) (R : VK), i < n → Ext s H H1 → Src H1 s a (c' + d) → (∀ (x : Str) (H2 : Hp), p x → Ext s H1 H2 → Src H2 s a c' → R (.str x) H2) → te ((wipe σ vs).set j (some (.int (0 + (i : Int))))) H1 R)
    (hd : ∀ (xs : List Str) (H' : Hp), H' D = some (.lst (xs.map V.str)) → xs.length = n → (∀ x ∈ xs, p x) → Ext s H H' → Src H' s a c → Qd H') :
    ∃ W : Nat → Nat → Hp → Prop, (∃ m, W 0 m (upd H D (.lst []))) ∧ ∀ i m H, W i m H →
      ((Itr 0 n).stop i H ∧ Qd H) ∨ ((Itr 0 n).go i H ∧ ∃ Nx : Hp → Prop, (∀ H', Nx H' → ∃ m', m' < m ∧ W (i + 1) m' H') ∧ ∀ x H', (Itr 0 n).yld i H x H' → gName j x (wipe σ vs) H' fun σ2 H2 => wipe σ2 vs = wipe σ vs ∧ tYes σ2 H2 fun b H3 =>
        if b = true then te σ2 H3 fun y H4 => ∃ acc, H4 D = some (.lst acc) ∧ acc.length < sizeLine ∧ Nx (upd H4 D (.lst (acc ++ [y]))) else Nx H3) := by
  have Ds : D ≠ s := hS.ne hD
  have Da : D ≠ a := hS.nea hD
  refine lc_range (lo := 0) (n := n) (fun i H' => ∃ xs : List Str, H' D = some (.lst (xs.map V.str)) ∧ xs.length = i ∧ (∀ x ∈ xs, p x) ∧ Ext s H H' ∧ Src H' s a (c + (n - i) * d)) ?_ ?_ ?_
  · exact ⟨[], upd_same, rfl, (fun _ h => by cases h), Ext.new hD, (hS.new hD).mono (by simp)⟩
  · rintro i H' hi ⟨xs, hx, hl, hA, hE, hS'⟩
    refine ⟨hw i, ?_⟩
    show te _ H' _
    have e : c + (n - i) * d = c + (n - (i + 1)) * d + d := by
      rw [show n - i = n - (i + 1) + 1 by omega, Nat.succ_mul]; omega
    refine hs i (c + (n - (i + 1)) * d) H' _ hi hE (by rw [← e]; exact hS') (fun x H2 hp hE2 hS2 => ?_)
    refine ⟨xs.map V.str, hE2 _ _ Ds hx, ?_, xs ++ [x], by rw [upd_same, List.map_append]; rfl, by rw [List.length_append]; simp [hl], fun y hy => ?_, ?_, hS2.put Ds Da⟩
    · rw [List.length_map]; exact Nat.lt_of_lt_of_le (show xs.length < 100000 by omega) (by decide)
    · rcases List.mem_append.mp hy with h | h
      · exact hA y h
      · rw [List.mem_singleton.mp h]; exact hp
    · intro b o hb hH
      rw [upd_ne (ne_of_none hH hD)]; exact hE2 _ _ hb (hE _ _ hb hH)
  · rintro H' ⟨xs, hx, hl, hA, hE, hS'⟩
    exact hd xs H' hx hl hA hE (hS'.mono (by omega))
theorem atI_pos {α : Type} {xs : List α} {v : Int} {x : α} (h0 : 0 ≤ v) (h : xs[v.toNat]? = some x) : atI xs v = some x := by
  have e : v = (v.toNat : Int) := by omega
  rw [e]; exact atI_nat h
/-- any item of a list of texts -/
def sp__law_pick (K : PySem.W.Frag) : Sp := fun vs H Q _ =>
  (∃ (s a r : Addr) (xs : List V) (c : Nat), vs = [.ref s, .ref r] ∧ SqL K H r xs ∧ r ≠ s ∧ xs ≠ [] ∧ xs.length ≤ 100000 ∧ Src H s a (c + 1) ∧ ∀ (v : V) (H' : Hp), v ∈ xs → Ext s H H' → Src H' s a c → Q v H') ∨
  (∃ (s a : Addr) (x : Str) (c : Nat), vs = [.ref s, .str x] ∧ tl x ≠ [] ∧ (tl x).length ≤ 100000 ∧ Src H s a (c + 1) ∧ ∀ (ch : Nat) (H' : Hp), ch ∈ tl x → Ext s H H' → Src H' s a c → Q (.str (S [ch])) H')
def sp__law_once_in : Sp := fun vs H Q _ => ∃ (s a : Addr) (m : Int) (c : Nat), vs = [.ref s, .int m] ∧ 0 < m ∧ m < 1073741824 ∧ Src H s a (c + 1) ∧ ∀ (b : Bool) (H' : Hp), Ext s H H' → Src H' s a c → Q (.bl b) H'
end Z
namespace Z
open PySem L2 SX
open PySem.Builtin.Str (occurrences lastOccurrence subAt)
theorem at_one {x : Str} {c hi k : Nat} (h : hi ≤ (tl x).length) : StrLaws.At x (S [c]) hi k ↔ k < hi ∧ (tl x)[k]? = some c := by
  have e := StrLaws.subAt_one x c k
  have l1 : (S [c]).length = 1 := rfl
  unfold StrLaws.At
  constructor
  · rintro ⟨h1, h2⟩
    rw [l1] at h1
    refine ⟨by omega, e.mp ⟨?_, h2⟩⟩
    show k + 1 ≤ x.length
    rw [tl_len]; omega
  · rintro ⟨h1, h2⟩
    have h3 := e.mpr h2
    exact ⟨by rw [l1]; omega, h3.2⟩
theorem find_from (x : Str) (c : Nat) {i : Int} (h : 0 ≤ i) :
    (Txt.find3 x (S [c]) i = -1 ∧ ∀ k : Nat, i ≤ (k : Int) → (tl x)[k]? ≠ some c) ∨ ∃ k : Nat, Txt.find3 x (S [c]) i = (k : Int) ∧ i ≤ (k : Int) ∧ (tl x)[k]? = some c ∧ ∀ j : Nat, i ≤ (j : Int) → j < k → (tl x)[j]? ≠ some c := by
  obtain ⟨n, rfl⟩ := Int.eq_ofNat_of_zero_le h
  have hf : fromIndex x.length (n : Int) = n := by
    unfold fromIndex
    rw [if_neg (by omega), Int.max_eq_right (by omega)]; rfl
  unfold Txt.find3
  rw [hf, StrLaws.occ_eq]
  have hx : x.length = (tl x).length := tl_len x
  rcases StrLaws.occ_first x (S [c]) x.length 1 (Nat.le_refl _) (List.range' n (x.length + 1 - n)) n (fun i hi => (List.mem_range'_1.mp hi).1) with ⟨h0, hn⟩ | ⟨pre, a, post, e, h0, ha, hn⟩
  · refine .inl ⟨by rw [h0], fun k hk hc => ?_⟩
    have hlt := (List.getElem?_eq_some_iff.mp hc).1
    exact hn k (List.mem_range'_1.mpr ⟨by omega, by omega⟩) ((at_one (by omega)).mpr ⟨by omega, hc⟩)
  · have h1 := (at_one (by omega)).mp ha
    have hm : a ∈ List.range' n (x.length + 1 - n) := by rw [e]; simp
    refine .inr ⟨a, ?_, by have := (List.mem_range'_1.mp hm).1; omega, h1.2, fun j hj hl hc => ?_⟩
    · cases hq : (forIn (List.range' n (x.length + 1 - n)) ((#[] : Array Nat), n) (StrLaws.occBody x (S [c]) x.length 1)).run.fst.toList with
      | nil =>
        have : (forIn (List.range' n (x.length + 1 - n)) ((#[] : Array Nat), n) (StrLaws.occBody x (S [c]) x.length 1)).run.fst = #[] := Array.toList_eq_nil_iff.mp hq
        rw [this] at h0; simp at h0
      | cons b r =>
        have hb : (forIn (List.range' n (x.length + 1 - n)) ((#[] : Array Nat), n) (StrLaws.occBody x (S [c]) x.length 1)).run.fst[0]? = some b := by
          rw [← Array.getElem?_toList, hq]; rfl
        rw [hb] at h0
        cases h0; rfl
    · have hjm : j ∈ pre := by
        have hlt := (List.getElem?_eq_some_iff.mp hc).1
        have hjr : j ∈ List.range' n (x.length + 1 - n) := List.mem_range'_1.mpr ⟨by omega, by omega⟩
        have hp : (pre ++ a :: post).Pairwise (· < ·) := by rw [← e]; exact List.pairwise_lt_range'
        rw [e] at hjr
        rcases List.mem_append.mp hjr with q | q
        · exact q
        · rcases List.mem_cons.mp q with q | q
          · omega
          · have := (List.pairwise_cons.mp (List.pairwise_append.mp hp).2.1).1 j q
            omega
      exact hn j hjm ((at_one (by omega)).mpr ⟨by have := (List.getElem?_eq_some_iff.mp hc).1; omega, hc⟩)
theorem rfind_in (x : Str) (c : Nat) {i m : Int} (h : 0 ≤ i) (hm : 0 ≤ m) :
    (Txt.rfindIn x (S [c]) i m = -1 ∧ ∀ k : Nat, i ≤ (k : Int) → (k : Int) < m → (tl x)[k]? ≠ some c) ∨ ∃ k : Nat, Txt.rfindIn x (S [c]) i m = (k : Int) ∧ i ≤ (k : Int) ∧ (k : Int) < m ∧ (tl x)[k]? = some c ∧ ∀ j : Nat, k < j → (j : Int) < m → (tl x)[j]? ≠ some c := by
  obtain ⟨n, rfl⟩ := Int.eq_ofNat_of_zero_le h
  obtain ⟨e, rfl⟩ := Int.eq_ofNat_of_zero_le hm
  have hf : fromIndex x.length (n : Int) = n := by
    unfold fromIndex
    rw [if_neg (by omega), Int.max_eq_right (by omega)]; rfl
  have ht : toIndexW x.length (e : Int) = min e x.length := by
    unfold toIndexW
    rw [if_neg (by omega), Int.max_eq_right (by omega)]; rfl
  have hx : x.length = (tl x).length := tl_len x
  unfold Txt.rfindIn
  rw [hf, ht, StrLaws.last_eq]
  have key := StrLaws.last_run x (S [c]) (min e x.length) (List.range' n (min e x.length + 1 - n)) [] none (fun _ h => nomatch h) (fun _ h => nomatch h) List.pairwise_lt_range'
  rw [List.nil_append] at key
  cases hq : (forIn (List.range' n (min e x.length + 1 - n)) none (StrLaws.lastBody x (S [c]) (min e x.length))).run with
  | none =>
    rw [hq] at key
    refine .inl ⟨rfl, fun k hk hk2 hc => ?_⟩
    have hlt := (List.getElem?_eq_some_iff.mp hc).1
    exact key k (List.mem_range'_1.mpr ⟨by omega, by omega⟩) ((at_one (by omega)).mpr ⟨by omega, hc⟩)
  | some a =>
    rw [hq] at key
    obtain ⟨ha, hl⟩ := key
    have h1 := (at_one (by omega)).mp ha
    have hr : n ≤ a := by
      -- the last place is one of those that were looked at
      have : ∀ (l : List Nat) (st : Option Nat) (b : Nat), (forIn l st (StrLaws.lastBody x (S [c]) (min e x.length))).run = some b → st = some b ∨ b ∈ l := by
        intro l
        induction l with
        | nil => intro st b hb; exact .inl hb
        | cons d l ih =>
          intro st b hb
          rw [List.forIn_cons] at hb
          unfold StrLaws.lastBody at hb
          split at hb
          · rcases ih _ _ hb with q | q
            · exact .inr (by cases q; exact List.mem_cons_self)
            · exact .inr (List.mem_cons_of_mem _ q)
          · rcases ih _ _ hb with q | q
            · exact .inl q
            · exact .inr (List.mem_cons_of_mem _ q)
      rcases this _ _ _ hq with q | q
      · cases q
      · exact (List.mem_range'_1.mp q).1
    refine .inr ⟨a, rfl, by omega, by omega, h1.2, fun j hj hj2 hc => ?_⟩
    have hlt := (List.getElem?_eq_some_iff.mp hc).1
    exact hl j (List.mem_range'_1.mpr ⟨by omega, by omega⟩) hj ((at_one (by omega)).mpr ⟨by omega, hc⟩)

theorem tl_inj : ∀ {a b : List Str}, a.map tl = b.map tl → a = b
  | [], [], _ => rfl
  | [], _ :: _, h => by cases h
  | _ :: _, [], h => by cases h
  | x :: a, y :: b, h => by
    rw [List.map_cons, List.map_cons] at h
    obtain ⟨h1, h2⟩ := List.cons.inj h
    rw [tl_ext h1, tl_inj h2]
theorem DV.strsT {K : PySem.W.Frag} {H : Hp} {p : Addr} {xs : List Str} (h : SqT K H p (xs.map V.str)) : DV K H (.tup (xs.map D.str)) (.ref p) := by
  unfold DV
  exact ⟨p, _, rfl, h, DVs.strs xs⟩
end Z
namespace Z
open PySem L2 SX
/-- the signs of rows -/
def sgn : List Nat := (List.range' 32 5) ++ (List.range' 38 89)
theorem sgn_occ : ∀ i < 94, ∃ d, sgn[i]? = some d ∧ Builtin.Str.occurrences (S sgn) (S [d]) 0 (S sgn).length 1 = [i] := by decide +kernel
theorem sgn_nodup : sgn.Nodup := by decide +kernel
def Sg (l : List Nat) : Prop := ∀ c ∈ l, c ∈ sgn
theorem sg_le {c : Nat} (h : c ∈ sgn) : c ≤ 127 := by
  have : sgn.all (fun c => decide (c ≤ 127)) = true := by decide +kernel
  simpa using List.all_eq_true.mp this c h
theorem Sg.app {a b : List Nat} (x : Sg a) (y : Sg b) : Sg (a ++ b) := fun c h => (List.mem_append.mp h).elim (x c) (y c)
theorem Sg.take {a : List Nat} (x : Sg a) (k : Nat) : Sg (a.take k) := fun c h => x c (List.mem_of_mem_take h)
theorem Sg.rep {a : List Nat} (x : Sg a) (k : Nat) : Sg (rep k a) := fun c h => x c (rep_mem h)
theorem Sg.by_ {l : List Nat} (h : l.all (fun c => decide (c ∈ sgn)) = true) : Sg l := fun c m => of_decide_eq_true (List.all_eq_true.mp h c m)
theorem ones_sg {xs : List Str} (h : ∀ x ∈ xs, ∃ c, tl x = [c] ∧ c ∈ sgn) : Sg (heads xs) := fun c m => ones_all (p := fun c => c ∈ sgn) h c m
def sp__law_signs : Sp := fun vs H Q _ => vs = [] ∧ ∀ x : Str, tl x = sgn → Q (.str x) H
end Z
namespace Z
open PySem L2 SX
def top (i : Nat) : Stmt := PySem.Challenge.pw_criermoot_k06_folds.main.body.getD i (.Pass ⟨0, 0, 0, 0⟩)
abbrev s_fold_place : Stmt := top 1
abbrev N_fold_place : List Str := ["text", "width", "place"]
theorem sc_fold_place : FnScope ["text", "width", "place"] ["text", "width"] (defScope s_fold_place) := ⟨rfl, rfl, rfl, by decide +kernel, rfl, by decide +kernel, by decide +kernel⟩
abbrev s_fold : Stmt := top 2
abbrev N_fold : List Str := ["text", "width", "rows", "place"]
theorem sc_fold : FnScope ["text", "width", "rows", "place"] ["text", "width"] (defScope s_fold) := ⟨rfl, rfl, rfl, by decide +kernel, rfl, by decide +kernel, by decide +kernel⟩
abbrev s_unfold : Stmt := top 3
abbrev N_unfold : List Str := ["rows"]
theorem sc_unfold : FnScope ["rows"] ["rows"] (defScope s_unfold) := ⟨rfl, rfl, rfl, by decide +kernel, rfl, by decide +kernel, by decide +kernel⟩
abbrev s__law_mix : Stmt := top 5
abbrev N__law_mix : List Str := ["seed", "turn", "number"]
theorem sc__law_mix : FnScope ["seed", "turn", "number"] ["seed", "turn"] (defScope s__law_mix) := ⟨rfl, rfl, rfl, by decide +kernel, rfl, by decide +kernel, by decide +kernel⟩
abbrev s__law_source : Stmt := top 6
abbrev N__law_source : List Str := ["script", "seed", "k"]
theorem sc__law_source : FnScope ["script", "seed", "k"] ["script"] (defScope s__law_source) := ⟨rfl, rfl, rfl, by decide +kernel, rfl, by decide +kernel, by decide +kernel⟩
abbrev s__law_draw : Stmt := top 7
abbrev N__law_draw : List Str := ["source", "many", "cell", "value"]
theorem sc__law_draw : FnScope ["source", "many", "cell", "value"] ["source", "many"] (defScope s__law_draw) := ⟨rfl, rfl, rfl, by decide +kernel, rfl, by decide +kernel, by decide +kernel⟩
abbrev s__law_pick : Stmt := top 8
abbrev N__law_pick : List Str := ["source", "row"]
theorem sc__law_pick : FnScope ["source", "row"] ["source", "row"] (defScope s__law_pick) := ⟨rfl, rfl, rfl, by decide +kernel, rfl, by decide +kernel, by decide +kernel⟩
abbrev s__law_once_in : Stmt := top 9
abbrev N__law_once_in : List Str := ["source", "many"]
theorem sc__law_once_in : FnScope ["source", "many"] ["source", "many"] (defScope s__law_once_in) := ⟨rfl, rfl, rfl, by decide +kernel, rfl, by decide +kernel, by decide +kernel⟩
abbrev s__law_is_int : Stmt := top 10
abbrev N__law_is_int : List Str := ["value"]
theorem sc__law_is_int : FnScope ["value"] ["value"] (defScope s__law_is_int) := ⟨rfl, rfl, rfl, by decide +kernel, rfl, by decide +kernel, by decide +kernel⟩
abbrev s__law_same : Stmt := top 11
abbrev N__law_same : List Str := ["actual", "due", "k"]
theorem sc__law_same : FnScope ["actual", "due", "k"] ["actual", "due"] (defScope s__law_same) := ⟨rfl, rfl, rfl, by decide +kernel, rfl, by decide +kernel, by decide +kernel⟩
abbrev s__law_signs : Stmt := top 12
abbrev N__law_signs : List Str := ["letters"]
theorem sc__law_signs : FnScope ["letters"] [] (defScope s__law_signs) := ⟨rfl, rfl, rfl, by decide +kernel, rfl, by decide +kernel, by decide +kernel⟩
abbrev s__law_width : Stmt := top 13
abbrev N__law_width : List Str := ["source"]
theorem sc__law_width : FnScope ["source"] ["source"] (defScope s__law_width) := ⟨rfl, rfl, rfl, by decide +kernel, rfl, by decide +kernel, by decide +kernel⟩
abbrev s__law_due : Stmt := top 14
abbrev N__law_due : List Str := ["text", "width", "rows", "turn", "blanks", "near", "place", "k"]
theorem sc__law_due : FnScope ["text", "width", "rows", "turn", "blanks", "near", "place", "k"] ["text", "width"] (defScope s__law_due) := ⟨rfl, rfl, rfl, by decide +kernel, rfl, by decide +kernel, by decide +kernel⟩
abbrev s__law_drawn_word : Stmt := top 15
abbrev N__law_drawn_word : List Str := ["source", "most", "signs", "k"]
theorem sc__law_drawn_word : FnScope ["source", "most", "signs", "k"] ["source", "most"] (defScope s__law_drawn_word) := ⟨rfl, rfl, rfl, by decide +kernel, rfl, by decide +kernel, by decide +kernel⟩
abbrev s__law_drawn_text : Stmt := top 16
abbrev N__law_drawn_text : List Str := ["source", "width", "way", "ahead", "text", "k"]
theorem sc__law_drawn_text : FnScope ["source", "width", "way", "ahead", "text", "k"] ["source", "width"] (defScope s__law_drawn_text) := ⟨rfl, rfl, rfl, by decide +kernel, rfl, by decide +kernel, by decide +kernel⟩
abbrev s__law_cut : Stmt := top 17
abbrev N__law_cut : List Str := ["source", "text", "rows", "start", "k"]
theorem sc__law_cut : FnScope ["source", "text", "rows", "start", "k"] ["source", "text"] (defScope s__law_cut) := ⟨rfl, rfl, rfl, by decide +kernel, rfl, by decide +kernel, by decide +kernel⟩
abbrev s__law_rows_right : Stmt := top 18
abbrev N__law_rows_right : List Str := ["rows", "text", "width", "k"]
theorem sc__law_rows_right : FnScope ["rows", "text", "width", "k"] ["rows", "text", "width"] (defScope s__law_rows_right) := ⟨rfl, rfl, rfl, by decide +kernel, rfl, by decide +kernel, by decide +kernel⟩
abbrev s_law : Stmt := top 19
abbrev N_law : List Str := ["script", "source", "turn", "width", "text", "due", "rows", "cut", "other"]
theorem sc_law : FnScope ["script", "source", "turn", "width", "text", "due", "rows", "cut", "other"] ["script"] (defScope s_law) := ⟨rfl, rfl, rfl, by decide +kernel, rfl, by decide +kernel, by decide +kernel⟩
structure Tx (mg : Str → Option Value) : Prop where
  n_abs : mg "abs" = none
  n_bool : mg "bool" = none
  n_int : mg "int" = none
  n_isinstance : mg "isinstance" = none
  n_len : mg "len" = none
  n_list : mg "list" = none
  n_min : mg "min" = none
  n_range : mg "range" = none
  n_str : mg "str" = none
  n_tuple : mg "tuple" = none
end Z
namespace Z
open PySem L2 SX
/-- the place at which a row is folded -/
def isPl (w : Nat) (l : List Nat) (k : Nat) : Prop := 1 ≤ k ∧ l[k]? = some 32 ∧ ((k ≤ w ∧ ∀ j, k < j → j ≤ w → l[j]? ≠ some 32) ∨ (w < k ∧ ∀ j, 1 ≤ j → j < k → l[j]? ≠ some 32))
theorem isPl.one {w : Nat} {l : List Nat} {a b : Nat} (x : isPl w l a) (y : isPl w l b) : a = b := by
  obtain ⟨a1, a2, a3⟩ := x
  obtain ⟨b1, b2, b3⟩ := y
  rcases a3 with ⟨a3, a4⟩ | ⟨a3, a4⟩ <;> rcases b3 with ⟨b3, b4⟩ | ⟨b3, b4⟩
  · rcases Nat.lt_trichotomy a b with h | h | h
    · exact absurd b2 (a4 b h b3)
    · exact h
    · exact absurd a2 (b4 a h a3)
  · exact absurd a2 (b4 a a1 (by omega))
  · exact absurd b2 (a4 b b1 (by omega))
  · rcases Nat.lt_trichotomy a b with h | h | h
    · exact absurd a2 (b4 a a1 h)
    · exact h
    · exact absurd b2 (a4 b b1 h)
def stops (w : Nat) (l : List Nat) : Prop := l.length ≤ w ∨ ∀ j, 1 ≤ j → l[j]? ≠ some 32
inductive Fo (w : Nat) : List Nat → List (List Nat) → Prop
  | stop {l} (h : stops w l) : Fo w l [l]
  | cut {l k rs} (h : w < l.length) (p : isPl w l k) (r : Fo w (l.drop k) rs) : Fo w l (l.take k :: rs)
theorem isPl.go {w : Nat} {l : List Nat} {k : Nat} (h : w < l.length) (x : isPl w l k) : ¬ stops w l := fun s => s.elim (fun q => by omega) (fun q => q k x.1 x.2.1)
theorem Fo.det {w : Nat} {l : List Nat} {a : List (List Nat)} (x : Fo w l a) : ∀ {b}, Fo w l b → a = b := by
  induction x with
  | stop h =>
    intro b y
    cases y with
    | stop _ => rfl
    | cut h2 p _ => exact absurd h (p.go h2)
  | cut h p r ih =>
    intro b y
    cases y with
    | stop h2 => exact absurd h2 (p.go h)
    | cut h2 p2 r2 =>
      have e := p.one p2
      subst e
      rw [ih r2]
theorem Fo.flat {w : Nat} {l : List Nat} {a : List (List Nat)} (x : Fo w l a) : a.flatten = l := by
  induction x with
  | stop h => simp
  | cut h p r ih => rw [List.flatten_cons, ih, List.take_append_drop]
theorem Fo.ne {w : Nat} {l : List Nat} {a : List (List Nat)} (x : Fo w l a) : a ≠ [] := by cases x <;> simp
theorem Fo.len {w : Nat} {l : List Nat} {a : List (List Nat)} (x : Fo w l a) : a.length ≤ l.length + 1 := by
  induction x with
  | stop h => simp
  | cut h p r ih =>
    rw [List.length_drop] at ih
    rw [List.length_cons]
    have := p.1
    have := (List.getElem?_eq_some_iff.mp p.2.1).1
    omega
theorem Fo.wide {w : Nat} {l : List Nat} {a : List (List Nat)} (x : Fo w l a) : ∀ r ∈ a, r.length ≤ w ∨ ∀ j, 1 ≤ j → r[j]? ≠ some 32 := by
  induction x with
  | stop h => intro r hr; rw [List.mem_singleton.mp hr]; exact h
  | cut h p r ih =>
    intro y hy
    rcases List.mem_cons.mp hy with e | e
    · subst e
      rcases p.2.2 with ⟨q, _⟩ | ⟨q, q2⟩
      · exact .inl (by rw [List.length_take]; omega)
      · refine .inr fun j hj hc => ?_
        rw [List.getElem?_take] at hc
        split at hc
        · exact q2 j hj (by omega) hc
        · cases hc
    · exact ih y e
/-- the first row of a folded row begins as it does -/
theorem Fo.first {w : Nat} {l : List Nat} {a : List (List Nat)} (x : Fo w l a) (h : l[0]? = some 32) : ∃ r t, a = r :: t ∧ r[0]? = some 32 := by
  cases x with
  | stop _ => exact ⟨_, _, rfl, h⟩
  | cut h2 p r =>
    refine ⟨_, _, rfl, ?_⟩
    rw [List.getElem?_take, if_pos (by have := p.1; omega)]; exact h
theorem Fo.begins {w : Nat} {l : List Nat} {a : List (List Nat)} (x : Fo w l a) : ∀ k r, 1 ≤ k → a[k]? = some r → r[0]? = some 32 := by
  induction x with
  | stop h => intro k r hk hr; rw [List.getElem?_eq_none (by simp; omega)] at hr; cases hr
  | cut h p r ih =>
    intro k y hk hy
    obtain ⟨k, rfl⟩ : ∃ j, k = j + 1 := ⟨k - 1, by omega⟩
    rw [List.getElem?_cons_succ] at hy
    by_cases e : k = 0
    · subst e
      obtain ⟨r0, t, e1, e2⟩ := r.first (by rw [List.getElem?_drop]; exact p.2.1)
      rw [e1] at hy
      cases hy; exact e2
    · exact ih k y (by omega) hy
/-- all blanks from the place 1 on, as the law looks for them -/
def blk (l : List Nat) (n : Nat) : List Nat := (List.range' 1 n).filter fun k => l[k]? == some 32
theorem blk_succ (l : List Nat) (n : Nat) : blk l (n + 1) = blk l n ++ (if l[1 + n]? = some 32 then [1 + n] else []) := by
  unfold blk
  rw [List.range'_concat, List.filter_append]
  congr 1
  rw [Nat.one_mul]
  by_cases h : l[1 + n]? = some 32
  · rw [if_pos h]; simp [h]
  · rw [if_neg h]; simp [h]
theorem blk_sorted (l : List Nat) (n : Nat) : (blk l n).Pairwise (· < ·) := List.Pairwise.filter _ List.pairwise_lt_range'
theorem blk_mem {l : List Nat} {k : Nat} : k ∈ blk l (l.length - 1) ↔ 1 ≤ k ∧ l[k]? = some 32 := by
  unfold blk
  rw [List.mem_filter, List.mem_range'_1]
  constructor
  · rintro ⟨h, e⟩; exact ⟨h.1, by simpa using e⟩
  · rintro ⟨h, e⟩
    have := (List.getElem?_eq_some_iff.mp e).1
    exact ⟨⟨h, by omega⟩, by simpa using e⟩
theorem pl_first {w : Nat} {l : List Nat} {b : Nat} {r : List Nat} (e : blk l (l.length - 1) = b :: r) (h : ∀ k ∈ blk l (l.length - 1), ¬ k ≤ w) : isPl w l b := by
  have hb := blk_mem.mp (show b ∈ blk l (l.length - 1) by rw [e]; simp)
  have hs := blk_sorted l (l.length - 1)
  rw [e] at hs
  refine ⟨hb.1, hb.2, .inr ⟨by have := h b (by rw [e]; simp); omega, fun j hj hlt hc => ?_⟩⟩
  have hm : j ∈ blk l (l.length - 1) := blk_mem.mpr ⟨hj, hc⟩
  rw [e] at hm
  rcases List.mem_cons.mp hm with q | q
  · omega
  · have := (List.pairwise_cons.mp hs).1 j q; omega
theorem pl_last {w : Nat} {l : List Nat} {g : Nat} {r : List Nat} (e : (blk l (l.length - 1)).filter (fun k => decide (k ≤ w)) = r ++ [g]) : isPl w l g := by
  have hs : ((blk l (l.length - 1)).filter (fun k => decide (k ≤ w))).Pairwise (· < ·) := List.Pairwise.filter _ (blk_sorted _ _)
  have hg : g ∈ (blk l (l.length - 1)).filter (fun k => decide (k ≤ w)) := by rw [e]; simp
  obtain ⟨h1, h2⟩ := List.mem_filter.mp hg
  have hb := blk_mem.mp h1
  refine ⟨hb.1, hb.2, .inl ⟨of_decide_eq_true h2, fun j hj hlt hc => ?_⟩⟩
  have hm : j ∈ (blk l (l.length - 1)).filter (fun k => decide (k ≤ w)) := List.mem_filter.mpr ⟨blk_mem.mpr ⟨by omega, hc⟩, decide_eq_true hlt⟩
  rw [e] at hm hs
  rcases List.mem_append.mp hm with q | q
  · have := (List.pairwise_append.mp hs).2.2 j q g (by simp); omega
  · rw [List.mem_singleton.mp q] at hj; omega
theorem len_flat : ∀ {a : List (List Nat)} {r : List Nat}, r ∈ a → r.length ≤ a.flatten.length
  | x :: a, r, h => by
    rw [List.flatten_cons, List.length_append]
    rcases List.mem_cons.mp h with e | e
    · subst e; omega
    · have := len_flat e; omega
def sp_fold_place : Sp := fun vs H Q _ => ∃ (x : Str) (w : Nat), vs = [.str x, .int (w : Int)] ∧ (∀ _ : (∀ j, 1 ≤ j → (tl x)[j]? ≠ some 32), Q (.int (-1)) H) ∧ ∀ k : Nat, isPl w (tl x) k → Q (.int (k : Int)) H
def sp_fold : Sp := fun vs H Q _ => ∃ (x : Str) (w : Nat), vs = [.str x, .int (w : Int)] ∧ (tl x).length ≤ 10000 ∧ ∀ (p : Addr) (rs : List Str) (H' : Hp), Same H H' → H' p = some (.tup (rs.map V.str)) → Fo w (tl x) (rs.map tl) → Q (.ref p) H'
def sp__law_due : Sp := sp_fold
def sp_unfold (K : PySem.W.Frag) : Sp := fun vs H Q _ => ∃ (a : Addr) (rs : List Str), vs = [.ref a] ∧ SqT K H a (rs.map V.str) ∧ (rs.map tl).flatten.length ≤ 10000 ∧ ∀ y : Str, tl y = (rs.map tl).flatten → Q (.str y) H
def sp__law_rows_right (K : PySem.W.Frag) : Sp := fun vs H Q _ => ∃ (a : Addr) (rs : List Str) (x : Str) (w : Nat), vs = [.ref a, .str x, .int (w : Int)] ∧ SqT K H a (rs.map V.str) ∧ (tl x).length ≤ 10000 ∧ Fo w (tl x) (rs.map tl) ∧ Q (.bl true) H
def sp__law_width : Sp := fun vs H Q _ => ∃ (s a : Addr) (c : Nat), vs = [.ref s] ∧ Src H s a (c + 2) ∧ ∀ (w : Nat) (H' : Hp), 20 ≤ w → w ≤ 78 → Ext s H H' → Src H' s a c → Q (.int (w : Int)) H'
def sp__law_drawn_word : Sp := fun vs H Q _ => ∃ (s a : Addr) (m : Int) (c : Nat), vs = [.ref s, .int m] ∧ 0 < m ∧ m ≤ 100 ∧ Src H s a (c + 20) ∧ ∀ (x : Str) (H' : Hp), (tl x).length ≤ 100 → Ext s H H' → Src H' s a c → Q (.str x) H'
def sp__law_drawn_text : Sp := fun vs H Q _ => ∃ (s a : Addr) (w : Nat) (c : Nat), vs = [.ref s, .int (w : Int)] ∧ 20 ≤ w ∧ w ≤ 78 ∧ Src H s a (c + 1000) ∧ ∀ (x : Str) (H' : Hp), (tl x).length ≤ 4000 → Ext s H H' → Src H' s a c → Q (.str x) H'
def sp__law_cut : Sp := fun vs H Q _ => ∃ (s a : Addr) (x : Str) (c : Nat), vs = [.ref s, .str x] ∧ (tl x).length ≤ 200 ∧ Src H s a (c + 300) ∧ ∀ (p : Addr) (rs : List Str) (H' : Hp), Ext s H H' → Src H' s a c → H' p = some (.tup (rs.map V.str)) → (rs.map tl).flatten = tl x → Q (.ref p) H'
end Z
namespace Z
open PySem L2
section
variable {P : Program} {w : World} {K : PySem.W.Frag} {mg : Str → Option Value} {base : Heap}
theorem ok__law_mix (D : Df K mg "_law_mix" s__law_mix ["seed", "turn"]) (T : Tx mg) : Cal P w K mg base "_law_mix" ["seed", "turn"] 1 sp__law_mix := by
  obtain ⟨f, fd, F, gf, bf⟩ := D
  refine ⟨f, fd, F.ok sc__law_mix (fun vs H Q E h => ?_) (fun cdv A outer s H vs Q E hr h => ?_), gf, F.kp, bf⟩
  · obtain ⟨x, y, rfl, _⟩ := h; rfl
  · obtain ⟨x, y, rfl, x0, x1, y0, y1, q⟩ := h
    refine ⟨_, (pss_cons (ps_set (i := 2) sc__law_mix.nd rfl (Or.inl rfl) (pe_op op_mod (pe_callTy call_int1 (by rfl) T.n_int (by decide +kernel) (pa_cons (pe_op op_add (pe_op op_add (pe_op op_mul (pv 0) pe_int) (pe_op op_mul (pv 1) pe_int)) pe_int) pa_nil)) pe_int))
      (pss_cons (ps_set (i := 2) sc__law_mix.nd rfl (Or.inl rfl) (pe_op op_mod (pe_callTy call_int1 (by rfl) T.n_int (by decide +kernel) (pa_cons (pe_op op_add (pe_op op_add (pe_op op_mul (pv 2) (pv 2)) (pe_op op_mul (pv 1) pe_int)) pe_int) pa_nil)) pe_int))
      (pss_cons (ps_set (i := 2) sc__law_mix.nd rfl (Or.inl rfl) (pe_op op_mod (pe_callTy call_int1 (by rfl) T.n_int (by decide +kernel) (pa_cons (pe_op op_add (pe_op op_add (pe_op op_mul (pv 2) pe_int) (pe_op op_mul (pe_op op_mul (pv 1) (pv 1)) pe_int)) pe_int) pa_nil)) pe_int))
      (pss_one (ps_ret (pv 2)))))), ?_⟩

    refine ⟨_, rfl, _, _, rfl, rfl, .inr (by decide), _, rfl, _, _, rfl, rfl, .inr (by decide), _, _, rfl, rfl, _, _, rfl, rfl, .inl ⟨_, rfl, _, _, rfl, rfl, (by show (0 : Int) < _; decide), ?_⟩⟩
    refine ⟨_, rfl, _, rfl, _, _, rfl, rfl, .inl ⟨by omega, by omega⟩, _, rfl, _, _, rfl, rfl, .inr (by decide), _, _, rfl, rfl, _, _, rfl, rfl, .inl ⟨_, rfl, _, _, rfl, rfl, (by show (0 : Int) < _; decide), ?_⟩⟩
    refine ⟨_, rfl, _, _, rfl, rfl, .inr (by decide), _, rfl, _, rfl, _, _, rfl, rfl, .inl ⟨by omega, by omega⟩, _, _, rfl, rfl, .inr (by decide), _, _, rfl, rfl, _, _, rfl, rfl, .inl ⟨_, rfl, _, _, rfl, rfl, (by show (0 : Int) < _; decide), ?_⟩⟩
    exact ⟨_, rfl, q _ (Int.emod_nonneg _ (by decide)) (by omega)⟩
end
end Z
namespace Z
open PySem L2
section
variable {P : Program} {w : World} {K : PySem.W.Frag} {mg : Str → Option Value} {base : Heap}
theorem ok__law_source (D : Df K mg "_law_source" s__law_source ["script"]) (T : Tx mg) (C__law_mix : Cal P w K mg base "_law_mix" ["seed", "turn"] 1 sp__law_mix) : Cal P w K mg base "_law_source" ["script"] 2 (sp__law_source K) := by
  obtain ⟨f__law_mix, fd__law_mix, G__law_mix, g__law_mix, k__law_mix, b__law_mix⟩ := C__law_mix
  obtain ⟨f, fd, F, gf, bf⟩ := D
  refine ⟨f, fd, F.ok sc__law_source (fun vs H Q E h => ?_) (fun cdv A outer s H vs Q E hr h => ?_), gf, F.kp, bf⟩
  · obtain ⟨a, ns, rfl, _⟩ := h; rfl
  · obtain ⟨a, ns, rfl, hS, hlen, q⟩ := h
    refine ⟨_, (pss_cons (ps_set (i := 1) sc__law_source.nd rfl (Or.inl rfl) pe_int)
      (pss_cons (ps_for PassesOwn.never rfl (pi_range1 (by rfl) T.n_range (pa_cons (pe_callB call_len_seq (by rfl) T.n_len PySem.boot_len (pa_cons (pv 0) pa_nil)) pa_nil)) (pg_name (i := 2) sc__law_source.nd rfl (Or.inl rfl))
      (pss_one (ps_set (i := 1) sc__law_source.nd rfl (Or.inl rfl) (pe_call G__law_mix (hr.mono (by decide)) (by rfl) g__law_mix k__law_mix b__law_mix .nil pass0 (pa_cons (pe_op op_add (pv 1) (pe_op op_mod (pe_callTy call_int1 (by rfl) T.n_int (by decide +kernel) (pa_cons (pe_ix ix_list (pv 0) (pv 2) (fun _ _ => rfl)) pa_nil)) pe_int)) (pa_cons (pv 2) pa_nil))))))
      (pss_one (ps_ret (pe_lst (pa_cons (pe_callTy call_list_of (by rfl) T.n_list (by decide +kernel) (pa_cons (pv 0) pa_nil)) (pa_cons pe_int (pa_cons pe_int (pa_cons (pv 1) (pa_cons pe_int pa_nil)))))))))), ?_⟩
    refine ⟨_, rfl, a, _, rfl, .inl hS, _, rfl, by rw [List.length_map]; omega, by rw [List.length_map]; omega, ?_⟩
    refine for_range (lo := 0) (n := (((ns.map V.int).length : Int)).toNat) (fun i σ H' => ∃ (e : Int) (v : Option V), σ = [some (.ref a), some (.int e), v] ∧ H' = H ∧ 0 ≤ e ∧ e < 2147483647) ⟨17, none, rfl, rfl, by decide, by decide⟩ ?_ ?_
    · rintro i σ H' hi ⟨e, v, rfl, rfl, e0, e1⟩
      rw [List.length_map] at hi
      have hi' : i < ns.length := by omega
      refine ⟨_, rfl, _, rfl, _, rfl, a, _, _, .int ns[i], rfl, rfl, hS, ?_, .inl ⟨_, rfl, _, _, rfl, rfl, (by show (0 : Int) < _; decide), _, _, rfl, rfl, _, rfl, ?_⟩⟩
      · rw [Int.zero_add]
        exact atI_nat (by rw [List.getElem?_map, List.getElem?_eq_getElem hi']; rfl)
      · refine ⟨_, _, rfl, ?_, ?_, ?_, ?_, fun v v0 v1 => ?_⟩
        · have := Int.emod_nonneg ns[i] (by decide : (2147483647 : Int) ≠ 0); omega
        · have := Int.emod_lt_of_pos ns[i] (by decide : (0 : Int) < 2147483647); omega
        · omega
        · omega
        · exact ⟨v, _, rfl, rfl, v0, v1⟩
    · rintro σ H' ⟨e, v, rfl, rfl, e0, e1⟩
      refine ⟨_, rfl, a, _, rfl, .inl hS, fun l hl => ?_⟩
      refine ⟨_, rfl, by show 5 ≤ sizeLine; decide, fun s hs => ?_⟩
      have hsl : s ≠ l := fun z => by rw [z, upd_same] at hs; cases hs
      have hs0 : H' s = none := by rw [upd_ne hsl] at hs; exact hs
      refine q s l _ hs0 ((same_new hl).trans (same_new hs)) ⟨ns, 0, 0, e, 0, upd_same, by rw [upd_ne hsl.symm, upd_same], hsl.symm, hlen, by decide, by decide, by decide, e0, e1, by decide, by decide⟩
end
end Z
namespace Z
open PySem L2
section
variable {P : Program} {w : World} {K : PySem.W.Frag} {mg : Str → Option Value} {base : Heap}
theorem ok__law_draw (D : Df K mg "_law_draw" s__law_draw ["source", "many"]) (T : Tx mg) (C__law_mix : Cal P w K mg base "_law_mix" ["seed", "turn"] 1 sp__law_mix) : Cal P w K mg base "_law_draw" ["source", "many"] 2 sp__law_draw := by
  obtain ⟨f__law_mix, fd__law_mix, G__law_mix, g__law_mix, k__law_mix, b__law_mix⟩ := C__law_mix
  obtain ⟨f, fd, F, gf, bf⟩ := D
  refine ⟨f, fd, F.ok sc__law_draw (fun vs H Q E h => ?_) (fun cdv A outer s H vs Q E hr h => ?_), gf, F.kp, bf⟩
  · obtain ⟨s, a, m, c, rfl, _⟩ := h; rfl
  · obtain ⟨s, a, m, c, rfl, m0, m1, hS, q⟩ := h
    refine ⟨_, (C8.pss_cut (ps_if (PW.pt (pw_and (pt_cmpR op_eq (pe_ix ix_list (pv 0) pe_int (fun _ _ => rfl)) pe_int (nomark _)) (pw_and (pt_cmpR op_lt (pe_ix ix_list (pv 0) pe_int (fun _ _ => rfl)) (pe_callB call_len_seq (by rfl) T.n_len PySem.boot_len (pa_cons (pe_ix ix_list (pv 0) pe_int (fun _ _ => rfl)) pa_nil)) (nomark _)) (pw_and1 (pt_cmpR op_eq (pe_op op_mod (pe_callTy call_int1 (by rfl) T.n_int (by decide +kernel) (pa_cons (pe_ix ix_list (pv 0) pe_int (fun _ _ => rfl)) pa_nil)) pe_int) pe_int (nomark _))))))
      (pss_cons (ps_set (i := 2) sc__law_draw.nd rfl (Or.inl rfl) (pe_ix ix_list (pe_ix ix_list (pv 0) pe_int (fun _ _ => rfl)) (pe_ix ix_list (pv 0) pe_int (fun _ _ => rfl)) (fun _ _ => rfl)))
        (pss_cons (ps_asg (pe_op op_add (pe_ix ix_list (pv 0) pe_int (fun _ _ => rfl)) pe_int) (pg_sub (pv 0) pe_int set_list))
        (pss_one (ps_if (pt_cmpR op_ge (pe_callB call_abs (by rfl) T.n_abs (by decide +kernel) (pa_cons (pv 2) pa_nil)) (pe_op op_pow pe_int pe_int) (nomark _))
        (pss_one (ps_asg (pe_op op_and (pe_callB call_abs (by rfl) T.n_abs (by decide +kernel) (pa_cons (pv 2) pa_nil)) (pe_op op_sub (pe_op op_shl pe_int pe_int) pe_int)) (pg_sub (pv 0) pe_int set_list)))
        (pss_one (ps_asg (pe_call G__law_mix (hr.mono (by decide)) (by rfl) g__law_mix k__law_mix b__law_mix .nil pass0 (pa_cons (pe_op op_add (pe_ix ix_list (pv 0) pe_int (fun _ _ => rfl)) (pe_op op_mod (pe_callTy call_int1 (by rfl) T.n_int (by decide +kernel) (pa_cons (pv 2) pa_nil)) pe_int)) (pa_cons (pe_ix ix_list (pv 0) pe_int (fun _ _ => rfl)) pa_nil))) (pg_sub (pv 0) pe_int set_list)))))))
      pss_nil)
      (pss_cons (ps_if (pt_cmpR op_gt (pe_ix ix_list (pv 0) pe_int (fun _ _ => rfl)) pe_int (nomark _))
      (pss_cons (ps_set (i := 3) sc__law_draw.nd rfl (Or.inl rfl) (pe_op op_mod (pe_callTy call_int1 (by rfl) T.n_int (by decide +kernel) (pa_cons (pe_ix ix_list (pv 0) pe_int (fun _ _ => rfl)) pa_nil)) (pv 1)))
        (pss_cons (ps_asg (pe_op op_fdivN (pe_callTy call_int1 (by rfl) T.n_int (by decide +kernel) (pa_cons (pe_ix ix_list (pv 0) pe_int (fun _ _ => rfl)) pa_nil)) (pv 1)) (pg_sub (pv 0) pe_int set_list))
        (pss_one (ps_ret (pv 3)))))
      pss_nil)
      (pss_cons (ps_asg (pe_op op_add (pe_ix ix_list (pv 0) pe_int (fun _ _ => rfl)) pe_int) (pg_sub (pv 0) pe_int set_list))
      (pss_one (ps_ret (pe_op op_mod (pe_callTy call_int1 (by rfl) T.n_int (by decide +kernel) (pa_cons (pe_op op_fdiv (pe_call G__law_mix (hr.mono (by decide)) (by rfl) g__law_mix k__law_mix b__law_mix .nil pass0 (pa_cons (pe_ix ix_list (pv 0) pe_int (fun _ _ => rfl)) (pa_cons (pe_ix ix_list (pv 0) pe_int (fun _ _ => rfl)) pa_nil))) pe_int) pa_nil)) (pv 1))))))), ?_⟩
    refine ⟨fun σ' H' => (∃ v2 v3, σ' = [some (.ref s), some (.int m), v2, v3]) ∧ Src H' s a (c + 1) ∧ Ext s H H', ?_, ?_⟩
    · obtain ⟨ns, i, b, e, t, h1, h2, as, h4, h5, h6, h7, h8, h9, h10, h11⟩ := id hS
      have hL : SqL K H s [.ref a, .int i, .int b, .int e, .int t] := SqL.of h1
      refine ⟨_, rfl, _, _, _, _, rfl, rfl, hL, rfl, rfl, _, rfl, ite2 (fun c1 => ?_) (fun c1 => iteF ⟨⟨_, _, rfl⟩, hS, Ext.refl _ _⟩)⟩
      refine ⟨_, rfl, _, _, _, _, rfl, rfl, hL, rfl, _, rfl, _, _, _, _, rfl, rfl, hL, rfl, a, _, rfl, .inl (SqL.of h2), _, _, rfl, rfl, _, rfl, ite2 (fun c2 => ?_) (fun c2 => iteF ⟨⟨_, _, rfl⟩, hS, Ext.refl _ _⟩)⟩
      refine ⟨_, rfl, _, _, _, _, rfl, rfl, hL, rfl, .inl ⟨_, rfl, _, _, rfl, rfl, (by show (0 : Int) < 6; decide), rfl, _, rfl, ite2 (fun c3 => ?_) (fun c3 => ⟨⟨_, _, rfl⟩, hS, Ext.refl _ _⟩)⟩⟩
      have hi : i < ns.length := by
        have := of_decide_eq_true c2
        rw [List.length_map] at this
        exact this
      have hi' : i.toNat < ns.length := by omega
      -- cell = source[0][source[1]]
      refine ⟨_, rfl, _, _, _, _, rfl, rfl, hL, rfl, _, rfl, _, _, _, _, rfl, rfl, hL, rfl, a, _, _, .int ns[i.toNat], rfl, rfl, SqL.of h2, at_of (j := i.toNat) (by omega) (by rw [List.getElem?_map, List.getElem?_eq_getElem hi']; rfl), ?_⟩
      -- source[1] = source[1] + 1
      refine ⟨_, rfl, _, _, _, _, rfl, rfl, hL, rfl, _, _, rfl, rfl, _, rfl, _, _, _, 1, rfl, rfl, h1, rfl, ?_⟩
      refine ⟨_, rfl, _, rfl, _, _, rfl, rfl, ⟨by decide, by decide, by decide⟩, _, _, rfl, rfl, _, rfl, ite2 (fun c4 => ?_) (fun c4 => ?_)⟩
      · refine ⟨_, rfl, _, rfl, _, _, rfl, rfl, ⟨by decide, by decide, by decide⟩, _, _, rfl, rfl, _, _, rfl, rfl, _, rfl, _, _, _, 2, rfl, rfl, upd_same, rfl, ?_⟩
        refine ⟨⟨_, _, rfl⟩, ?_, ?_⟩
        · refine ⟨ns, i + 1, _, e, t, upd_same, by rw [upd_ne as, upd_ne as]; exact h2, as, h4, by omega, by omega, ?_, h8, h9, h10, h11⟩
          exact and_nn (by split <;> omega) _
        · exact Ext.put.trans Ext.put
      · refine ⟨_, rfl, _, _, _, _, rfl, rfl, SqL.of upd_same, rfl, _, rfl, .inl ⟨_, rfl, _, _, rfl, rfl, (by show (0 : Int) < 2147483647; decide), _, _, rfl, rfl, _, rfl, _, _, _, _, rfl, rfl, SqL.of upd_same, rfl, _, _, rfl, ?_, ?_, ?_, ?_, fun v v0 v1 => ?_⟩⟩
        · have := Int.emod_nonneg ns[i.toNat] (by decide : (2147483647 : Int) ≠ 0); omega
        · have := Int.emod_lt_of_pos ns[i.toNat] (by decide : (0 : Int) < 2147483647); omega
        · omega
        · omega
        · refine ⟨_, rfl, _, _, _, 3, rfl, rfl, upd_same, rfl, ⟨_, _, rfl⟩, ?_, Ext.put.trans Ext.put⟩
          exact ⟨ns, i + 1, b, v, t, upd_same, by rw [upd_ne as, upd_ne as]; exact h2, as, h4, by omega, by omega, h7, v0, v1, h10, h11⟩
    · rintro σ' H' ⟨⟨v2, v3, rfl⟩, hS', hx⟩
      obtain ⟨ns, i, b, e, t, h1, h2, as, h4, h5, h6, h7, h8, h9, h10, h11⟩ := id hS'
      have hL : SqL K H' s [.ref a, .int i, .int b, .int e, .int t] := SqL.of h1
      refine ⟨_, rfl, _, _, _, _, rfl, rfl, hL, rfl, _, _, rfl, rfl, _, rfl, ite2 (fun c1 => ?_) (fun c1 => ?_)⟩
      · refine ⟨_, rfl, _, _, _, _, rfl, rfl, hL, rfl, .inl ⟨_, rfl, _, rfl, _, _, rfl, rfl, m0, ?_⟩⟩
        refine ⟨_, rfl, _, _, _, _, rfl, rfl, hL, rfl, .inl ⟨_, rfl, _, rfl, _, _, rfl, rfl, ⟨by omega, by omega⟩, _, rfl, _, _, _, 2, rfl, rfl, h1, rfl, ?_⟩⟩
        refine ⟨_, rfl, q _ _ (Int.emod_nonneg _ (by omega)) (Int.emod_lt_of_pos _ m0) (hx.trans Ext.put) ?_⟩
        refine ⟨ns, i, _, e, t, upd_same, by rw [upd_ne as]; exact h2, as, h4, h5, h6, ?_, h8, h9, h10, by omega⟩
        exact Int.fdiv_nonneg h7 (by omega)
      · refine ⟨_, rfl, _, _, _, _, rfl, rfl, hL, rfl, _, _, rfl, rfl, _, rfl, _, _, _, 4, rfl, rfl, h1, rfl, ?_⟩
        refine ⟨_, rfl, _, _, _, _, rfl, rfl, SqL.of upd_same, rfl, _, rfl, _, _, _, _, rfl, rfl, SqL.of upd_same, rfl, _, _, rfl, h8, by omega, by omega, by omega, fun v v0 v1 => ?_⟩
        refine ⟨_, _, rfl, rfl, ⟨by decide, by decide⟩, .inl ⟨_, rfl, _, rfl, _, _, rfl, rfl, m0, ?_⟩⟩
        refine q _ _ (Int.emod_nonneg _ (by omega)) (Int.emod_lt_of_pos _ m0) (hx.trans Ext.put) ?_
        exact ⟨ns, i, b, e, t + 1, upd_same, by rw [upd_ne as]; exact h2, as, h4, h5, h6, h7, h8, h9, by omega, by omega⟩
end
end Z
namespace Z
open PySem L2
section
variable {P : Program} {w : World} {K : PySem.W.Frag} {mg : Str → Option Value} {base : Heap}
theorem ok__law_is_int (D : Df K mg "_law_is_int" s__law_is_int ["value"]) (T : Tx mg)  : Cal P w K mg base "_law_is_int" ["value"] 1 (sp__law_is_int K) := by
  obtain ⟨f, fd, F, gf, bf⟩ := D
  refine ⟨f, fd, F.ok sc__law_is_int (fun vs H Q E h => ?_) (fun cdv A outer s H vs Q E hr h => ?_), gf, F.kp, bf⟩
  · obtain ⟨i, rfl, _⟩ := h; rfl
  · obtain ⟨i, rfl, q⟩ := h
    refine ⟨_, (pss_one (ps_ret (pe_and (pe_callB call_isi (by rfl) T.n_isinstance (by decide +kernel) (pa_cons (pv 0) (pa_cons (pe_bltn (v := .ty "int") (by rfl) T.n_int (by decide +kernel) rfl) pa_nil))) (pe_one (pe_not (pe_callB call_isi (by rfl) T.n_isinstance (by decide +kernel) (pa_cons (pv 0) (pa_cons (pe_bltn (v := .ty "bool") (by rfl) T.n_bool (by decide +kernel) rfl) pa_nil)))))))), ?_⟩
    refine ⟨_, rfl, _, _, _, _, true, rfl, .ty _, .base (.int i), kit_ty (by decide +kernel), _, rfl, ?_⟩
    refine iteT ⟨_, rfl, _, _, _, _, false, rfl, .ty _, .base (.int i), kit_ty (by decide +kernel), _, rfl, q⟩

theorem ok__law_same (D : Df K mg "_law_same" s__law_same ["actual", "due"]) (T : Tx mg) (C__law_is_int : Cal P w K mg base "_law_is_int" ["value"] 1 (sp__law_is_int K)) : ∀ n, Cal P w K mg base "_law_same" ["actual", "due"] (n + 1) (sp__law_same K n)
  | 0 => by
    obtain ⟨f, fd, F, gf, bf⟩ := D
    exact ⟨f, fd, ⟨fun vs H Q E h => by obtain ⟨_, _, _, _, _, _, h, _⟩ := h; exact h.elim, fun A outer s H args us vs Q E _ _ _ _ h => by obtain ⟨_, _, _, _, _, _, h, _⟩ := h; exact h.elim⟩, gf, F.kp, bf⟩
  | n + 1 => by
    obtain ⟨f__law_same, fd__law_same, G__law_same, g__law_same, k__law_same, b__law_same⟩ := ok__law_same D T C__law_is_int n
    obtain ⟨f__law_is_int, fd__law_is_int, G__law_is_int, g__law_is_int, k__law_is_int, b__law_is_int⟩ := C__law_is_int
    obtain ⟨f, fd, F, gf, bf⟩ := D
    refine ⟨f, fd, F.ok sc__law_same (fun vs H Q E h => ?_) (fun cdv A outer s H vs Q E hr h => ?_), gf, F.kp, bf⟩
    · obtain ⟨d, v, u, rfl, _⟩ := h; rfl
    · obtain ⟨d, v, u, rfl, hv, hu, hd, q⟩ := h
      refine ⟨_, (pss_cons (ps_if (pt_val (pe_callB call_isi (by rfl) T.n_isinstance (by decide +kernel) (pa_cons (pv 1) (pa_cons (pe_bltn (v := .ty "tuple") (by rfl) T.n_tuple (by decide +kernel) rfl) pa_nil))))
      (pss_cons (ps_if (PW.pt (pw_or (pt_not (pt_val (pe_callB call_isi (by rfl) T.n_isinstance (by decide +kernel) (pa_cons (pv 0) (pa_cons (pe_bltn (v := .ty "tuple") (by rfl) T.n_tuple (by decide +kernel) rfl) pa_nil))))) (pw_or1 (pt_cmpR op_ne (pe_callB call_len_seq (by rfl) T.n_len PySem.boot_len (pa_cons (pv 0) pa_nil)) (pe_callB call_len_seq (by rfl) T.n_len PySem.boot_len (pa_cons (pv 1) pa_nil)) (nomark _)))))
        (pss_one (ps_ret pe_bl))
        pss_nil)
        (pss_cons (ps_for PassesOwn.never rfl (pi_range1 (by rfl) T.n_range (pa_cons (pe_callB call_len_seq (by rfl) T.n_len PySem.boot_len (pa_cons (pv 1) pa_nil)) pa_nil)) (pg_name (i := 2) sc__law_same.nd rfl (Or.inl rfl))
        (pss_one (ps_if (pt_not (pt_val (pe_call G__law_same hr (by rfl) g__law_same k__law_same b__law_same .nil pass0 (pa_cons (pe_ix ix_tup (pv 0) (pv 2) (fun _ _ => rfl)) (pa_cons (pe_ix ix_tup (pv 1) (pv 2) (fun _ _ => rfl)) pa_nil)))))
          (pss_one (ps_ret pe_bl))
          pss_nil)))
        (pss_one (ps_ret pe_bl))))
      pss_nil)
      (pss_cons (ps_if (pt_cmpR op_isN (pv 1) pe_non (nomark _))
      (pss_one (ps_ret (pe_cmpR op_isN (pv 0) pe_non (nomark _))))
      pss_nil)
      (pss_cons (ps_if (pt_val (pe_callB call_isi (by rfl) T.n_isinstance (by decide +kernel) (pa_cons (pv 1) (pa_cons (pe_bltn (v := .ty "bool") (by rfl) T.n_bool (by decide +kernel) rfl) pa_nil))))
      (pss_one (ps_ret (pe_and (pe_callB call_isi (by rfl) T.n_isinstance (by decide +kernel) (pa_cons (pv 0) (pa_cons (pe_bltn (v := .ty "bool") (by rfl) T.n_bool (by decide +kernel) rfl) pa_nil))) (pe_one (pe_cmpR op_eq (pv 0) (pv 1) (nomark _))))))
      pss_nil)
      (pss_cons (ps_if (pt_val (pe_callB call_isi (by rfl) T.n_isinstance (by decide +kernel) (pa_cons (pv 1) (pa_cons (pe_bltn (v := .ty "int") (by rfl) T.n_int (by decide +kernel) rfl) pa_nil))))
      (pss_one (ps_ret (pe_and (pe_call G__law_is_int (hr.mono (by omega)) (by rfl) g__law_is_int k__law_is_int b__law_is_int .nil pass0 (pa_cons (pv 0) pa_nil)) (pe_one (pe_cmpR op_eq (pv 0) (pv 1) (nomark _))))))
      pss_nil)
      (pss_one (ps_ret (pe_and (pe_callB call_isi (by rfl) T.n_isinstance (by decide +kernel) (pa_cons (pv 0) (pa_cons (pe_bltn (v := .ty "str") (by rfl) T.n_str (by decide +kernel) rfl) pa_nil))) (pe_one (pe_cmpR op_eq (pv 0) (pv 1) (nomark _)))))))))), ?_⟩
      cases d with
      | non =>
        unfold DV at hv hu; subst hv hu
        refine ⟨_, rfl, _, _, _, _, false, rfl, .ty _, .base .non, kit_ty (by decide +kernel), _, rfl, iteF ?_⟩
        exact ⟨_, rfl, rfl, _, rfl, iteT ⟨_, rfl, rfl, q⟩⟩
      | bl b =>
        unfold DV at hv hu; subst hv hu
        refine ⟨_, rfl, _, _, _, _, false, rfl, .ty _, .base (.bl b), kit_ty (by decide +kernel), _, rfl, iteF ?_⟩
        refine ⟨_, rfl, rfl, _, rfl, iteF ?_⟩
        refine ⟨_, rfl, _, _, _, _, true, rfl, .ty _, .base (.bl b), kit_ty (by decide +kernel), _, rfl, iteT ?_⟩
        refine ⟨_, rfl, _, _, _, _, true, rfl, .ty _, .base (.bl b), kit_ty (by decide +kernel), _, rfl, iteT ?_⟩
        refine ⟨_, rfl, _, rfl, rfl, ?_⟩
        rw [decide_eq_true rfl]; exact q
      | int b =>
        unfold DV at hv hu; subst hv hu
        refine ⟨_, rfl, _, _, _, _, false, rfl, .ty _, .base (.int b), kit_ty (by decide +kernel), _, rfl, iteF ?_⟩
        refine ⟨_, rfl, rfl, _, rfl, iteF ?_⟩
        refine ⟨_, rfl, _, _, _, _, false, rfl, .ty _, .base (.int b), kit_ty (by decide +kernel), _, rfl, iteF ?_⟩
        refine ⟨_, rfl, _, _, _, _, true, rfl, .ty _, .base (.int b), kit_ty (by decide +kernel), _, rfl, iteT ?_⟩
        refine ⟨_, rfl, _, rfl, _, rfl, iteT ?_⟩
        refine ⟨_, rfl, _, rfl, rfl, ?_⟩
        rw [decide_eq_true rfl]; exact q
      | str b =>
        unfold DV at hv hu; subst hv hu
        refine ⟨_, rfl, _, _, _, _, false, rfl, .ty _, .base (.str b), kit_ty (by decide +kernel), _, rfl, iteF ?_⟩
        refine ⟨_, rfl, rfl, _, rfl, iteF ?_⟩
        refine ⟨_, rfl, _, _, _, _, false, rfl, .ty _, .base (.str b), kit_ty (by decide +kernel), _, rfl, iteF ?_⟩
        refine ⟨_, rfl, _, _, _, _, false, rfl, .ty _, .base (.str b), kit_ty (by decide +kernel), _, rfl, iteF ?_⟩
        refine ⟨_, rfl, _, _, _, _, true, rfl, .ty _, .base (.str b), kit_ty (by decide +kernel), _, rfl, iteT ?_⟩
        refine ⟨_, rfl, _, rfl, rfl, ?_⟩
        rw [decide_eq_true rfl]; exact q
      | tup ds =>
        unfold DV at hv hu
        obtain ⟨a, vs, rfl, ha, hvs⟩ := hv
        obtain ⟨b, us, rfl, hb, hus⟩ := hu
        have hl := hvs.len
        have hm := hus.len
        refine ⟨_, rfl, _, _, _, _, true, rfl, .ty _, TyX.ofT hb, kit_ty (by decide +kernel), _, rfl, iteT ?_⟩
        refine ⟨_, rfl, _, _, _, _, true, rfl, .ty _, TyX.ofT ha, kit_ty (by decide +kernel), _, rfl, iteF ?_⟩
        refine ⟨_, rfl, a, _, rfl, .inr ha, _, rfl, b, _, rfl, .inr hb, rfl, _, rfl, iteNS (by rw [hl, hm]) ?_⟩
        refine ⟨_, rfl, b, _, rfl, .inr hb, _, rfl, by omega, by have := hd.1; omega, ?_⟩
        refine for_range (lo := 0) (n := ((us.length : Int)).toNat) (fun i σ H' => ∃ (x : Option V), σ = [some (.ref a), some (.ref b), x] ∧ H' = H) ⟨none, rfl, rfl⟩ ?_ ?_
        · rintro i σ H' hi ⟨x, rfl, rfl⟩
          have hi' : i < us.length := by omega
          have hi2 : i < ds.length := by omega
          obtain ⟨v1, e1, q1⟩ := hvs.get (List.getElem?_eq_getElem hi2)
          obtain ⟨v2, e2, q2⟩ := hus.get (List.getElem?_eq_getElem hi2)
          refine ⟨_, rfl, _, rfl, a, _, _, v1, rfl, rfl, ha, at_of (j := i) (by omega) e1, _, rfl, _, rfl, b, _, _, v2, rfl, rfl, hb, at_of (j := i) (by omega) e2, ?_⟩
          refine ⟨ds[i], v1, v2, rfl, q1, q2, hd.2 _ (List.getElem_mem hi2), _, rfl, iteF ?_⟩
          exact ⟨_, rfl, rfl⟩
        · rintro σ H' ⟨x, rfl, rfl⟩
          exact q
end
end Z
namespace Z
open PySem L2 SX
section
variable {P : Program} {w : World} {K : PySem.W.Frag} {mg : Str → Option Value} {base : Heap}
theorem ok__law_pick (D : Df K mg "_law_pick" s__law_pick ["source", "row"]) (T : Tx mg) (C__law_draw : Cal P w K mg base "_law_draw" ["source", "many"] 2 sp__law_draw) : Cal P w K mg base "_law_pick" ["source", "row"] 3 (sp__law_pick K) := by
  obtain ⟨f__law_draw, fd__law_draw, G__law_draw, g__law_draw, k__law_draw, b__law_draw⟩ := C__law_draw
  obtain ⟨f, fd, F, gf, bf⟩ := D
  refine ⟨f, fd, F.ok sc__law_pick (fun vs H Q E h => ?_) (fun cdv A outer s H vs Q E hr h => ?_), gf, F.kp, bf⟩
  · rcases h with ⟨s, a, r, xs, c, rfl, _⟩ | ⟨s, a, x, c, rfl, _⟩ <;> rfl
  · refine ⟨_, (pss_one (ps_ret (pe_ix ix_seq (pv 1) (pe_call G__law_draw (hr.mono (by decide)) (by rfl) g__law_draw k__law_draw b__law_draw .nil pass0 (pa_cons (pv 0) (pa_cons (pe_callB call_len (by rfl) T.n_len PySem.boot_len (pa_cons (pv 1) pa_nil)) pa_nil))) (fun _ _ => rfl)))), ?_⟩
    rcases h with ⟨s, a, r, xs, c, rfl, hR, rs, ne, hl, hS, q⟩ | ⟨s, a, x, c, rfl, ne, hl, hS, q⟩
    · have n0 : 0 < xs.length := List.length_pos_iff.mpr ne
      refine ⟨_, rfl, _, rfl, _, rfl, _, _, rfl, .inl ⟨xs, hR, rfl⟩, s, a, (xs.length : Int), c, rfl, by omega, by omega, hS, fun v H' v0 v1 hE hS' => ?_⟩
      have hv : v.toNat < xs.length := by omega
      exact .inl ⟨r, xs, v, xs[v.toNat], rfl, rfl, hE.seqL rs hR, atI_pos v0 (List.getElem?_eq_getElem hv), q _ _ (List.getElem_mem hv) hE hS'⟩
    · have n0 : 0 < (tl x).length := List.length_pos_iff.mpr ne
      have hx := tl_len x
      refine ⟨_, rfl, _, rfl, _, rfl, _, x.length, rfl, ⟨by rw [hx]; exact Nat.le_trans hl (by decide), rfl⟩, s, a, (x.length : Int), c, rfl, by omega, by omega, hS, fun v H' v0 v1 hE hS' => ?_⟩
      have hv : v.toNat < (tl x).length := by omega
      exact .inr (.inr ⟨x, v, (tl x)[v.toNat], rfl, rfl, by rw [hx]; exact Nat.le_trans hl (by decide), atI_pos v0 (List.getElem?_eq_getElem hv), q _ _ (List.getElem_mem hv) hE hS'⟩)
theorem ok__law_once_in (D : Df K mg "_law_once_in" s__law_once_in ["source", "many"]) (T : Tx mg) (C__law_draw : Cal P w K mg base "_law_draw" ["source", "many"] 2 sp__law_draw) : Cal P w K mg base "_law_once_in" ["source", "many"] 3 sp__law_once_in := by
  obtain ⟨f__law_draw, fd__law_draw, G__law_draw, g__law_draw, k__law_draw, b__law_draw⟩ := C__law_draw
  obtain ⟨f, fd, F, gf, bf⟩ := D
  refine ⟨f, fd, F.ok sc__law_once_in (fun vs H Q E h => ?_) (fun cdv A outer s H vs Q E hr h => ?_), gf, F.kp, bf⟩
  · obtain ⟨s, a, m, c, rfl, _⟩ := h; rfl
  · obtain ⟨s, a, m, c, rfl, m0, m1, hS, q⟩ := h
    refine ⟨_, (pss_one (ps_ret (pe_cmpR op_eq (pe_call G__law_draw (hr.mono (by decide)) (by rfl) g__law_draw k__law_draw b__law_draw .nil pass0 (pa_cons (pv 0) (pa_cons (pv 1) pa_nil))) (pe_op op_fdiv (pv 1) pe_int) (nomark _)))), ?_⟩
    refine ⟨_, rfl, _, rfl, s, a, _, c, rfl, m0, m1, hS, fun v H' v0 v1 hE hS' => ?_⟩
    exact ⟨_, rfl, _, _, rfl, rfl, ⟨by decide, by decide⟩, rfl, q _ _ hE hS'⟩
end
end Z
namespace Z
open PySem L2 SX
section
variable {P : Program} {w : World} {K : PySem.W.Frag} {mg : Str → Option Value} {base : Heap}
theorem ok__law_signs (D : Df K mg "_law_signs" s__law_signs []) (T : Tx mg)  : Cal P w K mg base "_law_signs" [] 1 sp__law_signs := by
  obtain ⟨f, fd, F, gf, bf⟩ := D
  refine ⟨f, fd, F.ok sc__law_signs (fun vs H Q E h => ?_) (fun cdv A outer s H vs Q E hr h => ?_), gf, F.kp, bf⟩
  · obtain ⟨rfl, _⟩ := h; rfl
  · obtain ⟨rfl, q⟩ := h
    refine ⟨_, (pss_cons (ps_set (i := 0) sc__law_signs.nd rfl (Or.inl rfl) pe_str)
      (pss_one (ps_ret (pe_op op_add_str (pe_op op_add_str (pe_op op_add_str (pe_op op_add_str pe_str (pe_upper (pv 0))) pe_str) (pv 0)) pe_str)))), ?_⟩
    have eU : Txt.upper (Str.ofString "abcdefghijklmnopqrstuvwxyz") = Str.ofString "ABCDEFGHIJKLMNOPQRSTUVWXYZ" := by
      refine tl_ext ?_
      rw [tl_upper (Asc.by_ (by decide +kernel))]
      decide +kernel
    have l1 : ∀ n : Nat, n ≤ 1000 → n ≤ sizeLine := fun n h => Nat.le_trans h (by decide)
    refine ⟨_, rfl, ⟨_, rfl⟩, _, rfl, rfl, by decide +kernel, _, _, rfl, rfl, ?_, _, _, rfl, rfl, ?_, _, rfl, _, _, rfl, rfl, ?_, _, _, rfl, rfl, ?_, ?_⟩
    · rw [eU]; decide +kernel
    · rw [eU]; decide +kernel
    · rw [eU]; decide +kernel
    · rw [eU]; decide +kernel
    · rw [eU]; exact q _ (by decide +kernel)

end
end Z
namespace Z
open PySem L2 SX
section
variable {P : Program} {w : World} {K : PySem.W.Frag} {mg : Str → Option Value} {base : Heap}
theorem ok_fold_place (D : Df K mg "fold_place" s_fold_place ["text", "width"]) (T : Tx mg)  : Cal P w K mg base "fold_place" ["text", "width"] 1 sp_fold_place := by
  obtain ⟨f, fd, F, gf, bf⟩ := D
  refine ⟨f, fd, F.ok sc_fold_place (fun vs H Q E h => ?_) (fun cdv A outer s₀ H vs Q E hr h => ?_), gf, F.kp, bf⟩
  · obtain ⟨x, w, rfl, _⟩ := h; rfl
  · obtain ⟨x, w, rfl, q0, q1⟩ := h
    refine ⟨_, (pss_cons (ps_set (i := 2) sc_fold_place.nd rfl (Or.inl rfl) (pe_bm PySem.F.plainAttrs_str PySem.F.slot_str_rfind PySem.F.type_str_rfind mt_rfind4 (pv 0) (pa_cons pe_str (pa_cons pe_int (pa_cons (pe_op op_add (pv 1) pe_int) pa_nil)))))
      (C8.pss_cut (ps_if (pt_cmpR op_eq (pv 2) (pe_un un_neg pe_int) (nomark _))
      (pss_one (ps_set (i := 2) sc_fold_place.nd rfl (Or.inl rfl) (pe_bm PySem.F.plainAttrs_str PySem.F.slot_str_find PySem.F.type_str_find mt_find3 (pv 0) (pa_cons pe_str (pa_cons (pe_op op_add (pv 1) pe_int) pa_nil)))))
      pss_nil)
      (pss_one (ps_ret (pv 2))))), ?_⟩
    have hr0 : Str.ofString " " = S [32] := rfl
    refine ⟨_, rfl, rfl, _, rfl, _, _, rfl, rfl, x, Str.ofString " ", 1, (w : Int) + 1, rfl, rfl, ?_⟩
    rcases rfind_in x 32 (i := 1) (m := (w : Int) + 1) (by decide) (by omega) with ⟨e, hn⟩ | ⟨k, e, k1, k2, hk, hn⟩
    · rw [hr0, e]
      refine ⟨fun σ' H' => ∃ v : Int, σ' = [some (.str x), some (.int (w : Int)), some (.int v)] ∧ H' = H ∧ ((v = -1 ∧ (∀ j, 1 ≤ j → (tl x)[j]? ≠ some 32)) ∨ ∃ k : Nat, v = k ∧ isPl w (tl x) k), ?_, ?_⟩
      · refine ⟨_, rfl, 1, rfl, rfl, _, rfl, iteT ?_⟩
        refine ⟨_, rfl, rfl, _, rfl, _, _, rfl, rfl, x, Str.ofString " ", (w : Int) + 1, rfl, rfl, ?_⟩
        rw [hr0]
        rcases find_from x 32 (i := (w : Int) + 1) (by omega) with ⟨e2, hn2⟩ | ⟨k, e2, k1, hk, hn2⟩
        · rw [e2]
          refine ⟨-1, rfl, rfl, .inl ⟨rfl, fun j hj hc => ?_⟩⟩
          by_cases hjw : j ≤ w
          · exact hn j (by omega) (by omega) hc
          · exact hn2 j (by omega) hc
        · rw [e2]
          refine ⟨_, rfl, rfl, .inr ⟨k, rfl, by omega, hk, .inr ⟨by omega, fun j hj hlt hc => ?_⟩⟩⟩
          by_cases hjw : j ≤ w
          · exact hn j (by omega) (by omega) hc
          · exact hn2 j (by omega) hlt hc
      · rintro σ' H' ⟨v, rfl, rfl, ⟨rfl, hv⟩ | ⟨k, rfl, hv⟩⟩
        · exact ⟨_, rfl, q0 hv⟩
        · exact ⟨_, rfl, q1 k hv⟩
    · rw [hr0, e]
      refine ⟨fun σ' H' => σ' = [some (.str x), some (.int (w : Int)), some (.int (k : Int))] ∧ H' = H, ?_, ?_⟩
      · refine ⟨_, rfl, 1, rfl, rfl, _, rfl, ?_⟩
        rw [decide_eq_false (fun h => by have := V.int.inj h; omega)]
        exact iteF ⟨rfl, rfl⟩
      · rintro σ' H' ⟨rfl, rfl⟩
        exact ⟨_, rfl, q1 k ⟨by omega, hk, .inl ⟨by omega, fun j hj hjw => hn j hj (by omega)⟩⟩⟩
end
section
variable {P : Program} {w : World} {K : PySem.W.Frag} {mg : Str → Option Value} {base : Heap}
theorem ok_fold (D : Df K mg "fold" s_fold ["text", "width"]) (T : Tx mg) (C_fold_place : Cal P w K mg base "fold_place" ["text", "width"] 1 sp_fold_place) : Cal P w K mg base "fold" ["text", "width"] 2 sp_fold := by
  obtain ⟨f_fold_place, fd_fold_place, G_fold_place, g_fold_place, k_fold_place, b_fold_place⟩ := C_fold_place
  obtain ⟨f, fd, F, gf, bf⟩ := D
  refine ⟨f, fd, F.ok sc_fold (fun vs H Q E h => ?_) (fun cdv A outer s₀ H vs Q E hr h => ?_), gf, F.kp, bf⟩
  · obtain ⟨x, w, rfl, _⟩ := h; rfl
  · obtain ⟨x, w, rfl, xl, q⟩ := h
    refine ⟨_, (pss_cons (ps_set (i := 2) sc_fold.nd rfl (Or.inl rfl) (pe_lst pa_nil))
      (C8.pss_cut (ps_while PassesOwn.never (pt_cmpR op_gt (pe_callB call_lenS (by rfl) T.n_len PySem.boot_len (pa_cons (pv 0) pa_nil)) (pv 1) (nomark _))
      (pss_cons (ps_set (i := 3) sc_fold.nd rfl (Or.inl rfl) (pe_call G_fold_place (hr.mono (by decide)) (by rfl) g_fold_place k_fold_place b_fold_place .nil pass0 (pa_cons (pv 0) (pa_cons (pv 1) pa_nil))))
        (pss_cons (ps_if (pt_cmpR op_eq (pv 3) (pe_un un_neg pe_int) (nomark _))
        (pss_one ps_break)
        pss_nil)
        (pss_cons (ps_expr (pe_bm PySem.F.plainAttrs_list PySem.F.slot_list_append PySem.F.type_list_append mt_append (pv 2) (pa_cons (pe_slice sl_str (pv 0) po_none (po_some (pv 3))) pa_nil)))
        (pss_one (ps_set (i := 0) sc_fold.nd rfl (Or.inl rfl) (pe_slice sl_str (pv 0) (po_some (pv 3)) po_none)))))))
      (pss_cons (ps_expr (pe_bm PySem.F.plainAttrs_list PySem.F.slot_list_append PySem.F.type_list_append mt_append (pv 2) (pa_cons (pv 0) pa_nil)))
      (pss_one (ps_ret (pe_callTy call_tuple_of (by rfl) T.n_tuple (by decide +kernel) (pa_cons (pv 2) pa_nil))))))), ?_⟩
    refine ⟨Nat.zero_le _, fun L hL => ?_⟩
    have small : ∀ n : Nat, n ≤ 20000 → n < sizeLine := fun n h => Nat.lt_of_le_of_lt h (by decide)
    refine ⟨fun σ' H' => ∃ (R : List Str) (t : Str) (v : Option V), σ' = [some (.str t), some (.int (w : Int)), some (.ref L), v] ∧ H' L = some (.lst (R.map V.str)) ∧ Same H H' ∧ R.length + (tl t).length ≤ (tl x).length ∧ Fo w (tl x) (R.map tl ++ [tl t]), ?_, ?_⟩
    · refine ⟨fun m σ' H' => ∃ (R : List Str) (t : Str) (v : Option V), σ' = [some (.str t), some (.int (w : Int)), some (.ref L), v] ∧ H' L = some (.lst (R.map V.str)) ∧ Same H H' ∧ R.length + (tl t).length ≤ (tl x).length ∧ (∀ rs, Fo w (tl t) rs → Fo w (tl x) (R.map tl ++ rs)) ∧ m = (tl t).length, ⟨_, [], x, none, rfl, upd_same, same_new hL, by simp, fun rs h => h, rfl⟩, ?_⟩
      rintro m σ' H' ⟨R, t, v, rfl, hR, hS, hl, hF, rfl⟩
      have lt := tl_len t
      refine ⟨_, rfl, t, rfl, Nat.le_of_lt (small _ (by omega)), _, rfl, _, _, rfl, rfl, _, rfl, ite2 (fun cc => ?_) (fun cc => ?_)⟩
      · have cw : w < (tl t).length := by have := of_decide_eq_true cc; omega
        refine ⟨fun σ2 H2 => ∃ m', m' < (tl t).length ∧ ∃ (R : List Str) (t : Str) (v : Option V), σ2 = [some (.str t), some (.int (w : Int)), some (.ref L), v] ∧ H2 L = some (.lst (R.map V.str)) ∧ Same H H2 ∧ R.length + (tl t).length ≤ (tl x).length ∧ (∀ rs, Fo w (tl t) rs → Fo w (tl x) (R.map tl ++ rs)) ∧ m' = (tl t).length, fun σ2 H2 h => h, ?_⟩
        refine ⟨_, rfl, _, rfl, t, w, rfl, fun hn => ?_, fun k hk => ?_⟩
        · exact ⟨_, rfl, 1, rfl, rfl, _, rfl, iteT ⟨R, t, _, rfl, hR, hS, hl, hF _ (.stop (.inr hn))⟩⟩
        · have k1 := hk.1
          have k2 := (List.getElem?_eq_some_iff.mp hk.2.1).1
          refine ⟨_, rfl, 1, rfl, rfl, _, rfl, ?_⟩
          rw [decide_eq_false (fun h => by have := V.int.inj h; omega)]
          refine iteF ⟨_, rfl, .inl ⟨rfl, _, SqL.of hR⟩, _, rfl, _, rfl, (k : Int), rfl, t, rfl, Nat.le_of_lt (small _ (by omega)), L, _, _, rfl, rfl, hR, ?_, ?_⟩
          · rw [List.length_map]; exact small _ (by omega)
          refine ⟨_, rfl, _, rfl, (k : Int), rfl, t, rfl, Nat.le_of_lt (small _ (by omega)), ?_⟩
          have e1 : tl (cutS t none (some (k : Int))) = (tl t).take k := cutS_to (by omega)
          have e2 : tl (cutS t (some (k : Int)) none) = (tl t).drop k := cutS_from (by omega)
          refine ⟨_, ?_, R ++ [cutS t none (some (k : Int))], cutS t (some (k : Int)) none, _, rfl, by rw [upd_same, List.map_append]; rfl, fun b o hb => ?_, ?_, fun rs hrs => ?_, rfl⟩
          · rw [e2, List.length_drop]; omega
          · rw [upd_ne (ne_of_none hb hL)]; exact hS _ _ hb
          · rw [e2, List.length_drop, List.length_append]; show _ + 1 + _ ≤ _; omega
          · rw [e2] at hrs
            have := hF _ (.cut cw hk hrs)
            rw [List.map_append, List.append_assoc]
            show Fo w (tl x) (R.map tl ++ (tl (cutS t none (some (k : Int))) :: rs))
            rw [e1]; exact this
      · exact ⟨R, t, v, rfl, hR, hS, hl, hF _ (.stop (.inl (by simp at cc; omega)))⟩
    · rintro σ' H' ⟨R, t, v, rfl, hR, hS, hl, hF⟩
      refine ⟨_, rfl, .inl ⟨rfl, _, SqL.of hR⟩, _, rfl, L, _, _, rfl, rfl, hR, ?_, ?_⟩
      · rw [List.length_map]; exact small _ (by omega)
      refine ⟨_, rfl, L, _, rfl, .inl ⟨SqL.of upd_same, fun p hp => ?_⟩⟩
      refine q p (R ++ [t]) _ (fun b o hb => ?_) (by rw [upd_same, List.map_append]; rfl) (by rw [List.map_append]; exact hF)
      have nb := ne_of_none hb hL
      have h1 : upd H' L (HO.lst (R.map V.str ++ [V.str t])) b = some o := by rw [upd_ne nb]; exact hS _ _ hb
      rw [upd_ne (ne_of_none h1 hp)]; exact h1
end
section
variable {P : Program} {w : World} {K : PySem.W.Frag} {mg : Str → Option Value} {base : Heap}
theorem ok_unfold (D : Df K mg "unfold" s_unfold ["rows"]) (T : Tx mg)  : Cal P w K mg base "unfold" ["rows"] 1 (sp_unfold K) := by
  obtain ⟨f, fd, F, gf, bf⟩ := D
  refine ⟨f, fd, F.ok sc_unfold (fun vs H Q E h => ?_) (fun cdv A outer s₀ H vs Q E hr h => ?_), gf, F.kp, bf⟩
  · obtain ⟨a, rs, rfl, _⟩ := h; rfl
  · obtain ⟨a, rs, rfl, hR, hl, q⟩ := h
    refine ⟨_, (pss_one (ps_ret (pe_join pe_str (pv 0)))), ?_⟩
    have hsum : (rs.map (·.length)).sum = (rs.map tl).flatten.length := by
      rw [List.length_flatten, List.map_map]
      congr 1 <;> exact List.map_congr_left fun z _ => tl_len z
    refine ⟨⟨_, rfl⟩, _, rfl, _, a, rs, rfl, rfl, .inr hR, ?_, ?_⟩
    · rw [hsum]; show _ + rs.length * 0 ≤ _; omega
    · exact q _ (tl_join0 rs)
end

end Z
namespace Z
open PySem L2 SX
section
variable {P : Program} {w : World} {K : PySem.W.Frag} {mg : Str → Option Value} {base : Heap}
theorem ok__law_width (D : Df K mg "_law_width" s__law_width ["source"]) (T : Tx mg) (C__law_draw : Cal P w K mg base "_law_draw" ["source", "many"] 2 sp__law_draw) (C__law_pick : Cal P w K mg base "_law_pick" ["source", "row"] 3 (sp__law_pick K)) : Cal P w K mg base "_law_width" ["source"] 4 sp__law_width := by
  obtain ⟨f__law_draw, fd__law_draw, G__law_draw, g__law_draw, k__law_draw, b__law_draw⟩ := C__law_draw
  obtain ⟨f__law_pick, fd__law_pick, G__law_pick, g__law_pick, k__law_pick, b__law_pick⟩ := C__law_pick
  obtain ⟨f, fd, F, gf, bf⟩ := D
  refine ⟨f, fd, F.ok sc__law_width (fun vs H Q E h => ?_) (fun cdv A outer s₀ H vs Q E hr h => ?_), gf, F.kp, bf⟩
  · obtain ⟨s, a, c, rfl, _⟩ := h; rfl
  · obtain ⟨s, a, c, rfl, hS, q⟩ := h
    refine ⟨_, (pss_one (ps_ret (pe_call G__law_pick (hr.mono (by decide)) (by rfl) g__law_pick k__law_pick b__law_pick .nil pass0 (pa_cons (pv 0) (pa_cons (pe_lst (pa_cons pe_int (pa_cons pe_int (pa_cons pe_int (pa_cons pe_int (pa_cons pe_int (pa_cons pe_int (pa_cons pe_int (pa_cons (pe_op op_add pe_int (pe_call G__law_draw (hr.mono (by decide)) (by rfl) g__law_draw k__law_draw b__law_draw .nil pass0 (pa_cons (pv 0) (pa_cons pe_int pa_nil)))) pa_nil))))))))) pa_nil))))), ?_⟩
    refine ⟨_, rfl, _, rfl, s, a, _, c + 1, rfl, by decide, by decide, hS, fun v H1 v0 v1 x1 S1 => ?_⟩
    refine ⟨_, _, rfl, rfl, by show 8 ≤ sizeLine; decide, fun m hm => ?_⟩
    have S2 := S1.new (o := HO.lst ([20, 21, 22, 23, 60, 77, 78, 20 + v].map V.int)) hm
    refine .inl ⟨s, a, m, [20, 21, 22, 23, 60, 77, 78, 20 + v].map V.int, c, rfl, SqL.of upd_same, S1.ne hm, by simp, by show 8 ≤ 100000; decide, S2, fun u H3 um x3 S3 => ?_⟩
    obtain ⟨n, nm, rfl⟩ := List.mem_map.mp um
    have hn : 20 ≤ n ∧ n ≤ 78 := by
      simp only [List.mem_cons, List.not_mem_nil, or_false] at nm
      omega
    obtain ⟨k, rfl⟩ := Int.eq_ofNat_of_zero_le (show 0 ≤ n by omega)
    exact q k H3 (by omega) (by omega) (x1.trans ((Ext.new hm).trans x3)) S3
end
section
variable {P : Program} {w : World} {K : PySem.W.Frag} {mg : Str → Option Value} {base : Heap}
theorem ok__law_drawn_word (D : Df K mg "_law_drawn_word" s__law_drawn_word ["source", "most"]) (T : Tx mg) (C__law_draw : Cal P w K mg base "_law_draw" ["source", "many"] 2 sp__law_draw) (C__law_pick : Cal P w K mg base "_law_pick" ["source", "row"] 3 (sp__law_pick K)) (C__law_signs : Cal P w K mg base "_law_signs" [] 1 sp__law_signs) : Cal P w K mg base "_law_drawn_word" ["source", "most"] 4 sp__law_drawn_word := by
  obtain ⟨f__law_draw, fd__law_draw, G__law_draw, g__law_draw, k__law_draw, b__law_draw⟩ := C__law_draw
  obtain ⟨f__law_pick, fd__law_pick, G__law_pick, g__law_pick, k__law_pick, b__law_pick⟩ := C__law_pick
  obtain ⟨f__law_signs, fd__law_signs, G__law_signs, g__law_signs, k__law_signs, b__law_signs⟩ := C__law_signs
  obtain ⟨f, fd, F, gf, bf⟩ := D
  refine ⟨f, fd, F.ok sc__law_drawn_word (fun vs H Q E h => ?_) (fun cdv A outer s₀ H vs Q E hr h => ?_), gf, F.kp, bf⟩
  · obtain ⟨s, a, m, c, rfl, _⟩ := h; rfl
  · obtain ⟨s, a, m, c, rfl, m0, m1, hS, q⟩ := h
    refine ⟨_, (pss_cons (ps_set (i := 2) sc__law_drawn_word.nd rfl (Or.inr rfl) (pe_slice sl_str (pe_call0 G__law_signs (hr.mono (by decide)) (by rfl) g__law_signs k__law_signs b__law_signs .nil pass0) (po_some pe_int) po_none))
      (pss_cons (ps_if (pt_cmpR op_eq (pe_call G__law_draw (hr.mono (by decide)) (by rfl) g__law_draw k__law_draw b__law_draw .nil pass0 (pa_cons (pv 0) (pa_cons pe_int pa_nil))) pe_int (nomark _))
      (pss_one (ps_ret (pe_op op_mul_str (pe_call G__law_pick (hr.mono (by decide)) (by rfl) g__law_pick k__law_pick b__law_pick .nil pass0 (pa_cons (pv 0) (pa_cons (pv 2) pa_nil))) (pe_op op_add pe_int (pe_call G__law_draw (hr.mono (by decide)) (by rfl) g__law_draw k__law_draw b__law_draw .nil pass0 (pa_cons (pv 0) (pa_cons (pv 1) pa_nil)))))))
      pss_nil)
      (pss_one (ps_ret (pe_join pe_str (pe_lc (own := [("k", 3)]) (g := gName 3) (tt := tYes) rfl sc__law_drawn_word.nd (pi_range1 (by rfl) T.n_range (pa_cons (pe_op op_add pe_int (pe_call G__law_draw (hr.mono (by decide)) (by rfl) g__law_draw k__law_draw b__law_draw .nil pass0 (pa_cons (pv 0) (pa_cons (pe_callB (call_min2 rfl) (by rfl) T.n_min (by decide +kernel) (pa_cons (pv 1) (pa_cons pe_int pa_nil))) pa_nil)))) pa_nil)) (blkOk_by (own := [("k", 3)]) (N := N__law_drawn_word) (sc := defScope s__law_drawn_word) (by decide +kernel)) (fun _ _ _ _ _ => pg_name (i := 3) sc__law_drawn_word.nd rfl (Or.inl rfl)) (fun _ _ _ _ _ => pts_nil) (fun _ _ _ _ _ => (pe_call G__law_pick (hr.mono (by decide)) (by rfl) g__law_pick k__law_pick b__law_pick .nil pass0 (pa_cons (pv 0) (pa_cons (pv 2) pa_nil)))))))))), ?_⟩
    refine ⟨rfl, fun g hg => ?_⟩
    have eg : g = S sgn := by rw [← hg]
    subst eg
    have l1 : tl (cutS (S sgn) (some 1) none) = sgn.drop 1 := cutS_from (by decide)
    have l2 : (sgn.drop 1).length = 93 := by decide
    refine ⟨1, rfl, S sgn, rfl, by decide, ?_⟩
    generalize hz : cutS (S sgn) (some 1) none = z at l1 ⊢
    have zn : tl z ≠ [] := by rw [l1]; intro e; rw [e] at l2; cases l2
    have zl : (tl z).length ≤ 100000 := by rw [l1, l2]; decide
    refine ⟨_, rfl, s, a, _, c + 19, rfl, by decide, by decide, hS, fun v1 H1 v10 v11 x1 S1 => ?_⟩
    refine ⟨rfl, _, rfl, ite2 (fun _ => ?_) (fun _ => ?_)⟩
    · refine ⟨_, rfl, _, rfl, .inr ⟨s, a, z, c + 18, rfl, zn, zl, S1, fun ch H2 _ x2 S2 => ?_⟩⟩
      refine ⟨_, rfl, _, rfl, s, a, m, c + 17, rfl, m0, by omega, S2, fun v2 H3 v20 v21 x3 S3 => ?_⟩
      refine ⟨_, _, rfl, rfl, S [ch], _, rfl, rfl, by omega, by omega, by show 1 * _ ≤ _; omega, fun r hr' => ?_⟩
      refine q r H3 ?_ (x1.trans (x2.trans x3)) (S3.mono (by omega))
      rw [hr', rep_len]; show _ * 1 ≤ _; omega
    · refine ⟨⟨_, rfl⟩, _, rfl, _, rfl, _, _, rfl, s, a, _, c + 18, rfl, ?_, ?_, S1, fun v2 H2 v20 v21 x2 S2 => ?_⟩
      · split <;> omega
      · split <;> omega
      have v2b : v2 ≤ 11 := by split at v21 <;> omega
      refine ⟨_, _, rfl, rfl, _, rfl, by omega, by omega, fun D hD => ?_⟩
      refine lc_strs (n := (1 + v2).toNat) (d := 1) (c := c) (fun x => ∃ ch, tl x = [ch] ∧ True) hD (S2.mono (by omega)) (by omega) (fun _ => rfl) (fun i c' Hx R hi hE' hS' k => ?_) (fun xs H3 hx3 hl3 hA3 hE3 hS3 => ?_)
      · exact ⟨_, rfl, _, rfl, .inr ⟨s, a, z, c', rfl, zn, zl, hS', fun ch H3 _ x3 S3 => k _ H3 ⟨ch, rfl, True.intro⟩ x3 S3⟩⟩
      · refine ⟨_, D, xs, rfl, rfl, .inl (SqL.of hx3), by rw [ones_room (p := fun _ => True) hA3]; omega, ?_⟩
        refine q _ H3 ?_ (x1.trans (x2.trans hE3)) (hS3.mono (by omega))
        rw [ones_joinE (p := fun _ => True) hA3, heads_len]; omega
end
section
variable {P : Program} {w : World} {K : PySem.W.Frag} {mg : Str → Option Value} {base : Heap}
theorem ok__law_cut (D : Df K mg "_law_cut" s__law_cut ["source", "text"]) (T : Tx mg) (C__law_draw : Cal P w K mg base "_law_draw" ["source", "many"] 2 sp__law_draw) : Cal P w K mg base "_law_cut" ["source", "text"] 3 sp__law_cut := by
  obtain ⟨f__law_draw, fd__law_draw, G__law_draw, g__law_draw, k__law_draw, b__law_draw⟩ := C__law_draw
  obtain ⟨f, fd, F, gf, bf⟩ := D
  refine ⟨f, fd, F.ok sc__law_cut (fun vs H Q E h => ?_) (fun cdv A outer s₀ H vs Q E hr h => ?_), gf, F.kp, bf⟩
  · obtain ⟨s, a, x, c, rfl, _⟩ := h; rfl
  · obtain ⟨s, a, x, c, rfl, xl, hS, q⟩ := h
    refine ⟨_, (pss_cons (ps_set (i := 2) sc__law_cut.nd rfl (Or.inl rfl) (pe_lst pa_nil))
      (pss_cons (ps_set (i := 3) sc__law_cut.nd rfl (Or.inl rfl) pe_int)
      (pss_cons (ps_for PassesOwn.never rfl (pi_range2 (by rfl) T.n_range (pa_cons pe_int (pa_cons (pe_callB call_lenS (by rfl) T.n_len PySem.boot_len (pa_cons (pv 1) pa_nil)) pa_nil))) (pg_name (i := 4) sc__law_cut.nd rfl (Or.inl rfl))
      (pss_one (ps_if (PW.pt (pw_and (pt_cmpR op_eq (pe_item_str (pv 1) (pv 4) (fun _ _ => rfl)) pe_str (nomark _)) (pw_and1 (pt_cmpR op_eq (pe_call G__law_draw (hr.mono (by decide)) (by rfl) g__law_draw k__law_draw b__law_draw .nil pass0 (pa_cons (pv 0) (pa_cons pe_int pa_nil))) pe_int (nomark _)))))
        (pss_cons (ps_expr (pe_bm PySem.F.plainAttrs_list PySem.F.slot_list_append PySem.F.type_list_append mt_append (pv 2) (pa_cons (pe_slice sl_str (pv 1) (po_some (pv 3)) (po_some (pv 4))) pa_nil)))
          (pss_one (ps_set (i := 3) sc__law_cut.nd rfl (Or.inl rfl) (pv 4))))
        pss_nil)))
      (pss_one (ps_ret (pe_callTy call_tuple_of (by rfl) T.n_tuple (by decide +kernel) (pa_cons (pe_op L2.op_cat (pv 2) (pe_lst (pa_cons (pe_slice sl_str (pv 1) (po_some (pv 3)) po_none) pa_nil))) pa_nil))))))), ?_⟩
    have lx := tl_len x
    have small : ∀ n : Nat, n ≤ 20000 → n < sizeLine := fun n h => Nat.lt_of_le_of_lt h (by decide)
    refine ⟨Nat.zero_le _, fun L hL => ?_⟩
    have Ls := hS.ne hL
    have La := hS.nea hL
    refine ⟨_, rfl, x, rfl, Nat.le_of_lt (small _ (by omega)), 1, (x.length : Int), rfl, ⟨by decide, by decide, by omega, by omega⟩, ?_⟩
    refine for_range (lo := 1) (n := ((x.length : Int) - 1).toNat) (fun i σ H' => ∃ (R : List Str) (b : Nat) (v : Option V), σ = [some (.ref s), some (.str x), some (.ref L), some (.int (b : Int)), v] ∧ H' L = some (.lst (R.map V.str)) ∧ Ext s H H' ∧ Src H' s a (c + (300 - i)) ∧ R.length ≤ i ∧ b ≤ i ∧ i ≤ 200 ∧ (R.map tl).flatten = (tl x).take b) ?_ ?_ ?_
    · exact ⟨[], 0, none, rfl, upd_same, Ext.new hL, hS.new hL, Nat.le_refl _, Nat.le_refl _, by decide, by simp⟩
    · rintro i σ H' hi ⟨R, b, v, rfl, hR, hE, hS', l1, l2, l3, hF⟩
      obtain ⟨d, g1, g2, g3⟩ := at_str (x := x) (i := 1 + (i : Int)) (by omega) (by omega)
      have no : ∀ H2, H2 L = some (.lst (R.map V.str)) → Ext s H H2 → Src H2 s a (c + (300 - (i + 1))) → ∃ (R' : List Str) (b' : Nat) (v' : Option V), [some (.ref s), some (.str x), some (.ref L), some (.int (b : Int)), some (.int (1 + (i : Int)))] = [some (.ref s), some (.str x), some (.ref L), some (.int (b' : Int)), v'] ∧ H2 L = some (.lst (R'.map V.str)) ∧ Ext s H H2 ∧ Src H2 s a (c + (300 - (i + 1))) ∧ R'.length ≤ i + 1 ∧ b' ≤ i + 1 ∧ i + 1 ≤ 200 ∧ (R'.map tl).flatten = (tl x).take b' := fun H2 h1 h2 h3 => ⟨R, b, _, rfl, h1, h2, h3, by omega, by omega, by omega, hF⟩
      refine ⟨_, rfl, _, rfl, x, _, d, rfl, rfl, by omega, by omega, by omega, g1, rfl, _, rfl, ite2 (fun c1 => ?_) (fun c1 => iteF (no H' hR hE (hS'.mono (by omega))))⟩
      refine ⟨_, rfl, s, a, _, c + (300 - (i + 1)), rfl, by decide, by decide, hS'.mono (by omega), fun v2 H2 v20 v21 x2 S2 => ?_⟩
      have hR2 := x2 _ _ Ls hR
      refine ⟨rfl, _, rfl, ite2 (fun c2 => ?_) (fun c2 => no H2 hR2 (hE.trans x2) S2)⟩
      refine ⟨_, rfl, .inl ⟨rfl, _, SqL.of hR2⟩, _, rfl, _, rfl, (b : Int), rfl, _, rfl, 1 + (i : Int), rfl, x, rfl, Nat.le_of_lt (small _ (by omega)), L, _, _, rfl, rfl, hR2, ?_, ?_⟩
      · rw [List.length_map]; exact small _ (by omega)
      refine ⟨_, rfl, R ++ [cutS x (some (b : Int)) (some (1 + (i : Int)))], 1 + i, _, rfl, by rw [upd_same, List.map_append]; rfl, ?_, S2.put Ls La, ?_, by omega, by omega, ?_⟩
      · intro bb o hb hh
        rw [upd_ne (ne_of_none hh hL)]; exact x2 _ _ hb (hE _ _ hb hh)
      · rw [List.length_append]; show _ + 1 ≤ _; omega
      · rw [List.map_append, List.flatten_append, hF]
        show _ ++ (tl (cutS x (some (b : Int)) (some (1 + (i : Int)))) ++ []) = _
        rw [List.append_nil, cutS_mid (by omega) (by omega), show ((1 : Int) + (i : Int)).toNat = 1 + i by omega, show ((b : Int)).toNat = b from rfl]
        rw [show 1 + i = b + (1 + i - b) by omega, List.take_add, show b + (1 + i - b) - b = 1 + i - b by omega]
    · rintro σ H' ⟨R, b, v, rfl, hR, hE, hS', l1, l2, l3, hF⟩
      refine ⟨_, rfl, _, rfl, _, rfl, (b : Int), rfl, x, rfl, Nat.le_of_lt (small _ (by omega)), by show 1 ≤ sizeLine; decide, fun m hm => ?_⟩
      have hR2 : upd H' m (HO.lst [V.str (cutS x (some (b : Int)) none)]) L = some (.lst (R.map V.str)) := same_new hm _ _ hR
      refine ⟨L, m, _, _, rfl, rfl, hR2, upd_same, ?_, fun t ht => ?_⟩
      · rw [List.length_map]; exact Nat.le_of_lt (small _ (show R.length + 1 ≤ _ by omega))
      refine ⟨t, _, rfl, .inl ⟨SqL.of upd_same, fun p hp => ?_⟩⟩
      have hs := ((same_new (o := HO.lst [V.str (cutS x (some (b : Int)) none)]) hm).trans (same_new (o := HO.lst (R.map V.str ++ [V.str (cutS x (some (b : Int)) none)])) ht)).trans (same_new (o := HO.tup (R.map V.str ++ [V.str (cutS x (some (b : Int)) none)])) hp)
      refine q p (R ++ [cutS x (some (b : Int)) none]) _ (hE.trans (Ext.of hs)) ((hS'.ext hs).mono (by omega)) (by rw [upd_same, List.map_append]; rfl) ?_
      rw [List.map_append, List.flatten_append, hF]
      show _ ++ (tl (cutS x (some (b : Int)) none) ++ []) = _
      rw [List.append_nil, cutS_from (by omega), show ((b : Int)).toNat = b from rfl, List.take_append_drop]
end
section
variable {P : Program} {w : World} {K : PySem.W.Frag} {mg : Str → Option Value} {base : Heap}
theorem ok__law_rows_right (D : Df K mg "_law_rows_right" s__law_rows_right ["rows", "text", "width"]) (T : Tx mg)  : Cal P w K mg base "_law_rows_right" ["rows", "text", "width"] 1 (sp__law_rows_right K) := by
  obtain ⟨f, fd, F, gf, bf⟩ := D
  refine ⟨f, fd, F.ok sc__law_rows_right (fun vs H Q E h => ?_) (fun cdv A outer s₀ H vs Q E hr h => ?_), gf, F.kp, bf⟩
  · obtain ⟨a, rs, x, w, rfl, _⟩ := h; rfl
  · obtain ⟨a, rs, x, w, rfl, hR, xl, hF, q⟩ := h
    refine ⟨_, (pss_cons (ps_if (PW.pt (pw_or (pt_not (pt_val (pe_callB call_isi (by rfl) T.n_isinstance (by decide +kernel) (pa_cons (pv 0) (pa_cons (pe_bltn (v := .ty "tuple") (by rfl) T.n_tuple (by decide +kernel) rfl) pa_nil))))) (pw_or (pt_cmpR op_eq (pe_callB call_len_seq (by rfl) T.n_len PySem.boot_len (pa_cons (pv 0) pa_nil)) pe_int (nomark _)) (pw_or1 (pt_cmpR op_ne (pe_join pe_str (pv 0)) (pv 1) (nomark _))))))
      (pss_one (ps_ret pe_bl))
      pss_nil)
      (pss_cons (ps_for PassesOwn.never rfl (pi_range1 (by rfl) T.n_range (pa_cons (pe_callB call_len_seq (by rfl) T.n_len PySem.boot_len (pa_cons (pv 0) pa_nil)) pa_nil)) (pg_name (i := 3) sc__law_rows_right.nd rfl (Or.inl rfl))
      (C8.pss_cut (ps_if (PW.pt (pw_and (pt_cmpR op_gt (pv 3) pe_int (nomark _)) (pw_and1 (pt_cmpR op_ne (pe_slice sl_str (pe_ix ix_tup (pv 0) (pv 3) (fun _ _ => rfl)) po_none (po_some pe_int)) pe_str (nomark _)))))
        (pss_one (ps_ret pe_bl))
        pss_nil)
        (pss_one (ps_if (PW.pt (pw_and (pt_cmpR op_gt (pe_callB call_lenS (by rfl) T.n_len PySem.boot_len (pa_cons (pe_ix ix_tup (pv 0) (pv 3) (fun _ _ => rfl)) pa_nil)) (pv 2) (nomark _)) (pw_and1 (pt_cmpR op_in_str pe_str (pe_slice sl_str (pe_ix ix_tup (pv 0) (pv 3) (fun _ _ => rfl)) (po_some pe_int) po_none) (by rfl)))))
        (pss_one (ps_ret pe_bl))
        pss_nil))))
      (pss_one (ps_ret pe_bl)))), ?_⟩
    have lx := tl_len x
    have hflat := hF.flat
    have hn := hF.ne
    have hlen := hF.len
    rw [List.length_map] at hlen
    have hsum : (rs.map (·.length)).sum = (tl x).length := by
      rw [← hflat, List.length_flatten, List.map_map]
      congr 1 <;> exact List.map_congr_left fun z _ => tl_len z
    have hj : Txt.join (Str.ofString "") rs = x := tl_ext (by rw [← hflat]; exact tl_join0 rs)
    have rl : ∀ r ∈ rs, (tl r).length ≤ (tl x).length := fun r hr' => by
      rw [← hflat]
      exact len_flat (List.mem_map.mpr ⟨r, hr', rfl⟩)
    have small : ∀ n : Nat, n ≤ 20000 → n < sizeLine := fun n h => Nat.lt_of_le_of_lt h (by decide)
    have ln : (rs.map V.str).length ≠ 0 := by rw [List.length_map]; intro e; exact hn (by rw [List.length_eq_zero_iff.mp e]; rfl)
    refine ⟨_, rfl, _, _, _, _, true, rfl, .ty _, TyX.ofT hR, kit_ty (by decide +kernel), _, rfl, iteF ?_⟩
    refine ⟨_, rfl, a, _, rfl, .inr hR, rfl, _, rfl, ?_⟩
    rw [decide_eq_false (fun h => ln (by have := V.int.inj h; omega))]
    refine iteF ⟨⟨_, rfl⟩, _, rfl, _, a, rs, rfl, rfl, .inr hR, ?_, _, rfl, rfl, _, rfl, ?_⟩
    · rw [hsum]; show _ + rs.length * 0 ≤ _; omega
    rw [hj, decide_eq_true rfl]
    refine iteF ⟨_, rfl, a, _, rfl, .inr hR, _, rfl, by rw [List.length_map]; omega, by rw [List.length_map]; omega, ?_⟩
    refine for_range (lo := 0) (n := (((rs.map V.str).length : Int)).toNat) (fun i σ H' => (∃ v : Option V, σ = [some (.ref a), some (.str x), some (.int (w : Int)), v]) ∧ H' = H) ⟨⟨_, rfl⟩, rfl⟩ ?_ ?_
    · rintro i σ H' hi ⟨⟨v, rfl⟩, rfl⟩
      rw [List.length_map] at hi
      obtain ⟨r, er⟩ : ∃ r, rs[i]? = some r := ⟨_, List.getElem?_eq_getElem (show i < rs.length by omega)⟩
      have rm := List.mem_of_getElem? er
      have lr := tl_len r
      have rl' := rl r rm
      have ga : atI (rs.map V.str) (0 + (i : Int)) = some (.str r) := atI_pos (by omega) (by rw [List.getElem?_map, show (0 + (i : Int)).toNat = i by omega, er]; rfl)
      refine ⟨fun σ2 H2 => σ2 = [some (.ref a), some (.str x), some (.int (w : Int)), some (.int (0 + (i : Int)))] ∧ H2 = H', ?_, ?_⟩
      · refine ⟨_, rfl, _, _, rfl, rfl, _, rfl, ite2 (fun c1 => ?_) (fun c1 => iteF ⟨rfl, rfl⟩)⟩
        refine ⟨_, rfl, _, rfl, a, _, _, _, rfl, rfl, hR, ga, 1, rfl, r, rfl, Nat.le_of_lt (small _ (by omega)), rfl, _, rfl, ?_⟩
        have i1 : 1 ≤ i := by have := of_decide_eq_true c1; omega
        have hb := hF.begins i (tl r) i1 (by rw [List.getElem?_map, er]; rfl)
        have : cutS r none (some 1) = Str.ofString " " := tl_ext (by
          rw [cutS_to (by decide)]
          cases hq : tl r with
          | nil => rw [hq] at hb; cases hb
          | cons y ys =>
            rw [hq] at hb
            have : y = 32 := Option.some.inj hb
            subst this; rfl)
        rw [this, decide_eq_true rfl]
        exact iteF ⟨rfl, rfl⟩
      · rintro σ2 H2 ⟨rfl, rfl⟩
        refine ⟨_, rfl, _, rfl, a, _, _, _, rfl, rfl, hR, ga, r, rfl, Nat.le_of_lt (small _ (by omega)), _, rfl, _, _, rfl, rfl, _, rfl, ite2 (fun c1 => ?_) (fun c1 => iteF ⟨⟨_, rfl⟩, rfl⟩)⟩
        refine ⟨_, rfl, _, rfl, a, _, _, _, rfl, rfl, hR, ga, 1, rfl, r, rfl, Nat.le_of_lt (small _ (by omega)), _, _, rfl, rfl, _, rfl, ?_⟩
        have hw := hF.wide (tl r) (List.mem_map.mpr ⟨r, rm, rfl⟩)
        have c2 : w < (tl r).length := by have := of_decide_eq_true c1; omega
        have hno : decide (32 ∈ tl (cutS r (some 1) none)) = false := by
          refine decide_eq_false fun hm => ?_
          rw [cutS_from (by decide)] at hm
          obtain ⟨j, hj, e⟩ := List.getElem_of_mem hm
          rcases hw with hw | hw
          · omega
          · refine hw (1 + j) (by omega) ?_
            have := List.getElem?_eq_getElem hj
            rw [e, List.getElem?_drop] at this
            exact this
        have hocc : (!(Builtin.Str.occurrences (cutS r (some 1) none) (Str.ofString " ") 0 (cutS r (some 1) none).length 1).isEmpty) = false := by
          rw [← hno]; exact StrLaws.found_one _ 32
        rw [hocc]
        exact iteF ⟨⟨_, rfl⟩, rfl⟩
    · rintro σ H' ⟨⟨v, rfl⟩, rfl⟩
      exact q
end

end Z
namespace Z
open PySem L2 SX
section
variable {P : Program} {w : World} {K : PySem.W.Frag} {mg : Str → Option Value} {base : Heap}
theorem ok__law_due (D : Df K mg "_law_due" s__law_due ["text", "width"]) (T : Tx mg)  : Cal P w K mg base "_law_due" ["text", "width"] 1 sp__law_due := by
  obtain ⟨f, fd, F, gf, bf⟩ := D
  refine ⟨f, fd, F.ok sc__law_due (fun vs H Q E h => ?_) (fun cdv A outer s₀ H vs Q E hr h => ?_), gf, F.kp, bf⟩
  · obtain ⟨x, w, rfl, _⟩ := h; rfl
  · obtain ⟨x, w, rfl, xl, q⟩ := h
    refine ⟨_, (pss_cons (ps_set (i := 2) sc__law_due.nd rfl (Or.inl rfl) (pe_lst pa_nil))
      (C8.pss_cut (ps_for PassesOwn.never rfl (pi_range1 (by rfl) T.n_range (pa_cons (pe_callB call_lenS (by rfl) T.n_len PySem.boot_len (pa_cons (pv 0) pa_nil)) pa_nil)) (pg_name (i := 3) sc__law_due.nd rfl (Or.inl rfl))
      (pss_cons (ps_if (pt_cmpR op_le (pe_callB call_lenS (by rfl) T.n_len PySem.boot_len (pa_cons (pv 0) pa_nil)) (pv 1) (nomark _))
        (pss_one ps_break)
        pss_nil)
        (pss_cons (ps_setLc (i := 4) (own := [("k", 7)]) (g := gName 7) rfl sc__law_due.nd rfl rfl (sw_true rfl rfl rfl (by decide +kernel)) (pi_range2 (by rfl) T.n_range (pa_cons pe_int (pa_cons (pe_callB call_lenS (by rfl) T.n_len PySem.boot_len (pa_cons (pv 0) pa_nil)) pa_nil))) (blkOk_by (own := [("k", 7)]) (N := N__law_due) (sc := defScope s__law_due) (by decide +kernel)) (fun _ _ _ _ _ => pg_name (i := 7) sc__law_due.nd rfl (Or.inl rfl)) (fun _ _ _ _ _ => pts_one (pt_cmpR op_eq (pe_item_str (pv 0) (pv 7) (fun _ _ => rfl)) pe_str (nomark _))) (fun _ _ _ _ _ => (pv 7)))
        (pss_cons (ps_setLc (i := 5) (own := [("k", 7)]) (g := gName 7) rfl sc__law_due.nd rfl rfl (sw_true rfl rfl rfl (by decide +kernel)) (pi_list (pv 4)) (blkOk_by (own := [("k", 7)]) (N := N__law_due) (sc := defScope s__law_due) (by decide +kernel)) (fun _ _ _ _ _ => pg_name (i := 7) sc__law_due.nd rfl (Or.inl rfl)) (fun _ _ _ _ _ => pts_one (pt_cmpR op_le (pv 7) (pv 1) (nomark _))) (fun _ _ _ _ _ => (pv 7)))
        (pss_cons (ps_if (pt_cmpR op_eq (pe_callB call_len_seq (by rfl) T.n_len PySem.boot_len (pa_cons (pv 4) pa_nil)) pe_int (nomark _))
        (pss_one ps_break)
        pss_nil)
        (pss_cons (ps_set (i := 6) sc__law_due.nd rfl (Or.inl rfl) (pe_ix ix_list (pv 4) pe_int (fun _ _ => rfl)))
        (C8.pss_cut (ps_if (pt_cmpR op_gt (pe_callB call_len_seq (by rfl) T.n_len PySem.boot_len (pa_cons (pv 5) pa_nil)) pe_int (nomark _))
        (pss_one (ps_set (i := 6) sc__law_due.nd rfl (Or.inl rfl) (pe_ix ix_list (pv 5) (pe_op op_sub (pe_callB call_len_seq (by rfl) T.n_len PySem.boot_len (pa_cons (pv 5) pa_nil)) pe_int) (fun _ _ => rfl))))
        pss_nil)
        (pss_cons (ps_expr (pe_bm PySem.F.plainAttrs_list PySem.F.slot_list_append PySem.F.type_list_append mt_append (pv 2) (pa_cons (pe_slice sl_str (pv 0) po_none (po_some (pv 6))) pa_nil)))
        (pss_one (ps_set (i := 0) sc__law_due.nd rfl (Or.inr rfl) (pe_slice sl_str (pv 0) (po_some (pv 6)) po_none)))))))))))
      (pss_one (ps_ret (pe_callTy call_tuple_of (by rfl) T.n_tuple (by decide +kernel) (pa_cons (pe_op L2.op_cat (pv 2) (pe_lst (pa_cons (pv 0) pa_nil))) pa_nil)))))), ?_⟩
    have small : ∀ n : Nat, n ≤ 20000 → n < sizeLine := fun n h => Nat.lt_of_le_of_lt h (by decide)
    have lx := tl_len x
    refine ⟨Nat.zero_le _, fun L hL => ?_⟩
    refine ⟨fun σ' H' => ∃ (R : List Str) (t : Str) (v3 v4 v5 v6 v7 : Option V), σ' = [some (.str t), some (.int (w : Int)), some (.ref L), v3, v4, v5, v6, v7] ∧ H' L = some (.lst (R.map V.str)) ∧ Same H H' ∧ R.length + (tl t).length ≤ (tl x).length ∧ Fo w (tl x) (R.map tl ++ [tl t]), ?_, ?_⟩
    · refine ⟨_, rfl, x, rfl, Nat.le_of_lt (small _ (by omega)), _, rfl, by omega, by omega, ?_⟩
      refine for_range (lo := 0) (n := ((x.length : Int)).toNat) (fun i σ' H' => ∃ (R : List Str) (t : Str) (v3 v4 v5 v6 v7 : Option V), σ' = [some (.str t), some (.int (w : Int)), some (.ref L), v3, v4, v5, v6, v7] ∧ H' L = some (.lst (R.map V.str)) ∧ Same H H' ∧ R.length + (tl t).length ≤ (tl x).length ∧ (tl t).length + i ≤ (tl x).length ∧ (∀ rs, Fo w (tl t) rs → Fo w (tl x) (R.map tl ++ rs))) ?_ ?_ ?_
      · exact ⟨[], x, _, _, _, _, _, rfl, upd_same, same_new hL, by simp, by simp, fun rs h => h⟩
      · rintro i σ' H' hi ⟨R, t, v3, v4, v5, v6, v7, rfl, hR, hS, hl, hl2, hF⟩
        have lt := tl_len t
        refine ⟨_, rfl, t, rfl, Nat.le_of_lt (small _ (by omega)), _, rfl, _, _, rfl, rfl, _, rfl, ite2 (fun cc => ?_) (fun cc => ?_)⟩
        · exact ⟨R, t, _, _, _, _, _, rfl, hR, hS, hl, hF _ (.stop (.inl (by have := of_decide_eq_true cc; omega)))⟩
        have cw : w < (tl t).length := by simp at cc; omega
        -- the blanks
        refine ⟨_, rfl, t, rfl, Nat.le_of_lt (small _ (by omega)), 1, (t.length : Int), rfl, ⟨by decide, by decide, by omega, by omega⟩, fun B hB => ?_⟩
        have BL : L ≠ B := ne_of_none hR hB
        refine lc_range (lo := 1) (n := ((t.length : Int) - 1).toNat) (fun n H2 => H2 B = some (.lst ((blk (tl t) n).map fun k : Nat => V.int (k : Int))) ∧ Same H' H2 ∧ (blk (tl t) n).length ≤ n) ⟨upd_same, same_new hB, Nat.le_refl _⟩ ?_ ?_
        · rintro n H2 hn ⟨h1, h2, h3⟩
          obtain ⟨d, g1, g2, g3⟩ := at_str (x := t) (i := 1 + (n : Int)) (by omega) (by omega)
          rw [show (1 + (n : Int)).toNat = 1 + n by omega] at g2
          refine ⟨rfl, _, rfl, _, rfl, t, _, d, rfl, rfl, by omega, by omega, by omega, g1, rfl, _, rfl, ?_⟩
          by_cases e : d = 32
          · subst e
            refine ite2 (fun _ => ⟨_, rfl, _, h1, ?_, ?_, fun b o hb => ?_, ?_⟩) (fun h => (h (decide_eq_true rfl)).elim)
            · rw [List.length_map]; exact small _ (by omega)
            · rw [upd_same, blk_succ, if_pos g2, List.map_append]
              congr 3
            · rw [upd_ne (ne_of_none hb hB)]; exact h2 _ _ hb
            · rw [blk_succ, if_pos g2, List.length_append]; show _ + 1 ≤ _; omega
          · have : ¬ (tl t)[1 + n]? = some 32 := fun h => by rw [g2] at h; exact e (Option.some.inj h)
            rw [decide_eq_false (fun h => e (by have h2 := congrArg tl (V.str.inj h); exact (List.cons.inj h2).1))]
            refine iteF ⟨?_, h2, ?_⟩
            · rw [blk_succ, if_neg this, List.append_nil]; exact h1
            · rw [blk_succ, if_neg this, List.append_nil]; omega
        rintro H2 ⟨hB2, hS2, hBl⟩
        have en : ((t.length : Int) - 1).toNat = (tl t).length - 1 := by omega
        rw [en] at hB2 hBl
        have hR2 := hS2 _ _ hR
        -- those that are near
        refine ⟨_, rfl, B, rfl, ⟨_, SqL.of hB2⟩, fun C hC => ?_⟩
        refine lc_list (K := K) (a := B) (xs := (blk (tl t) ((tl t).length - 1)).map fun k : Nat => V.int (k : Int)) (fun n H3 => H3 C = some (.lst ((((blk (tl t) ((tl t).length - 1)).take n).filter (fun k => decide (k ≤ w))).map fun k : Nat => V.int (k : Int))) ∧ Same H2 H3) ⟨upd_same, same_new hC⟩ (fun n H3 _ h => SqL.of (h.2 _ _ hB2)) ?_ ?_
        · rintro n y H3 hn ⟨h1, h2⟩
          rw [List.getElem?_map] at hn
          obtain ⟨k, hk, rfl⟩ := Option.map_eq_some_iff.mp hn
          have et : (blk (tl t) ((tl t).length - 1)).take (n + 1) = (blk (tl t) ((tl t).length - 1)).take n ++ [k] := by rw [List.take_add_one, hk]; rfl
          refine ⟨rfl, _, rfl, _, rfl, _, _, rfl, rfl, _, rfl, ?_⟩
          have eb : decide ((k : Int) ≤ (w : Int)) = decide (k ≤ w) := by
            by_cases h : k ≤ w
            · rw [decide_eq_true h, decide_eq_true (by omega)]
            · rw [decide_eq_false h, decide_eq_false (by omega)]
          rw [eb]
          refine ite2 (fun c1 => ⟨_, rfl, _, h1, ?_, ?_, fun b o hb => ?_⟩) (fun c1 => ⟨?_, h2⟩)
          · rw [List.length_map]
            refine small _ ?_
            have := List.length_filter_le (fun k => decide (k ≤ w)) ((blk (tl t) ((tl t).length - 1)).take n)
            rw [List.length_take] at this; omega
          · rw [upd_same, et, List.filter_append, List.map_append, List.filter_cons, if_pos c1]; rfl
          · rw [upd_ne (ne_of_none hb hC)]; exact h2 _ _ hb
          · rw [et, List.filter_append, List.filter_cons, if_neg c1, List.filter_nil, List.append_nil]; exact h1
        rintro H3 ⟨hC3, hS3⟩
        rw [List.length_map, List.take_length] at hC3
        have hB3 := hS3 _ _ hB2
        have hR3 := hS3 _ _ hR2
        have hSa := (hS.trans hS2).trans hS3
        generalize hbl : blk (tl t) ((tl t).length - 1) = bl at hB3 hC3 hBl
        refine ⟨_, rfl, B, _, rfl, .inl (SqL.of hB3), rfl, _, rfl, ?_⟩
        cases hb : bl with
        | nil =>
          refine iteT ⟨R, t, _, _, _, _, _, rfl, hR3, hSa, hl, hF _ (.stop (.inr fun j hj hc => ?_))⟩
          have : j ∈ blk (tl t) ((tl t).length - 1) := blk_mem.mpr ⟨hj, hc⟩
          rw [hbl, hb] at this; cases this
        | cons b0 br =>
          subst hb
          rw [decide_eq_false (fun h => by have := V.int.inj h; simp at this; omega)]
          refine iteF ⟨_, rfl, B, _, _, .int (b0 : Int), rfl, rfl, SqL.of hB3, atI_nat (j := 0) rfl, ?_⟩
          refine ⟨fun σ4 H4 => ∃ k : Nat, σ4 = [some (.str t), some (.int (w : Int)), some (.ref L), some (.int (0 + (i : Int))), some (.ref B), some (.ref C), some (.int (k : Int)), v7] ∧ H4 = H3 ∧ isPl w (tl t) k, ?_, ?_⟩
          · refine ⟨_, rfl, C, _, rfl, .inl (SqL.of hC3), _, _, rfl, rfl, _, rfl, ?_⟩
            rw [List.length_map]
            rcases List.eq_nil_or_concat ((b0 :: br).filter fun k => decide (k ≤ w)) with hg | ⟨r, g, hg⟩
            · rw [hg]
              refine iteF ⟨b0, rfl, rfl, pl_first hbl fun k hk hkw => ?_⟩
              rw [hbl] at hk
              have : k ∈ (b0 :: br).filter fun k => decide (k ≤ w) := List.mem_filter.mpr ⟨hk, decide_eq_true hkw⟩
              rw [hg] at this; cases this
            · rw [hg] at hC3 ⊢
              rw [decide_eq_true (show (0 : Int) < ((r.concat g).length : Int) by rw [List.length_concat]; omega)]
              refine iteT ⟨_, rfl, _, rfl, C, _, rfl, .inl (SqL.of hC3), _, _, rfl, rfl, C, _, _, .int (g : Int), rfl, rfl, SqL.of hC3, ?_, ?_⟩
              · rw [List.length_map, List.concat_eq_append, List.length_append, List.map_append]
                refine at_of (j := r.length) (by show ((r.length + 1 : Nat) : Int) - 1 = _; omega) ?_
                rw [List.getElem?_append_right (by rw [List.length_map]; exact Nat.le_refl _), List.length_map, Nat.sub_self]; rfl
              · refine ⟨g, rfl, rfl, pl_last (r := r) ?_⟩
                rw [hbl, hg, List.concat_eq_append]
          rintro σ4 H4 ⟨k, rfl, rfl, hk⟩
          have k1 := hk.1
          have k2 := (List.getElem?_eq_some_iff.mp hk.2.1).1
          refine ⟨_, rfl, .inl ⟨rfl, _, SqL.of hR3⟩, _, rfl, _, rfl, (k : Int), rfl, t, rfl, Nat.le_of_lt (small _ (by omega)), L, _, _, rfl, rfl, hR3, ?_, ?_⟩
          · rw [List.length_map]; exact small _ (by omega)
          refine ⟨_, rfl, _, rfl, (k : Int), rfl, t, rfl, Nat.le_of_lt (small _ (by omega)), ?_⟩
          have e1 : tl (cutS t none (some (k : Int))) = (tl t).take k := cutS_to (by omega)
          have e2 : tl (cutS t (some (k : Int)) none) = (tl t).drop k := cutS_from (by omega)
          refine ⟨R ++ [cutS t none (some (k : Int))], cutS t (some (k : Int)) none, _, _, _, _, _, rfl, by rw [upd_same, List.map_append]; rfl, fun b o hb => ?_, ?_, ?_, fun rs hrs => ?_⟩
          · rw [upd_ne (ne_of_none hb hL)]; exact hSa _ _ hb
          · rw [e2, List.length_drop, List.length_append]; show _ + 1 + _ ≤ _; omega
          · rw [e2, List.length_drop]; omega
          · rw [e2] at hrs
            have := hF _ (.cut cw hk hrs)
            rw [List.map_append, List.append_assoc]
            show Fo w (tl x) (R.map tl ++ (tl (cutS t none (some (k : Int))) :: rs))
            rw [e1]; exact this
      · rintro σ' H' ⟨R, t, v3, v4, v5, v6, v7, rfl, hR, hS, hl, hl2, hF⟩
        exact ⟨R, t, _, _, _, _, _, rfl, hR, hS, hl, hF _ (.stop (.inl (by omega)))⟩
    · rintro σ' H' ⟨R, t, v3, v4, v5, v6, v7, rfl, hR, hS, hl, hF⟩
      refine ⟨_, rfl, _, rfl, by show 1 ≤ sizeLine; decide, fun m hm => ?_⟩
      refine ⟨L, m, _, _, rfl, rfl, same_new hm _ _ hR, upd_same, ?_, fun u hu => ?_⟩
      · rw [List.length_map]; exact Nat.le_of_lt (small _ (show R.length + 1 ≤ _ by omega))
      refine ⟨u, _, rfl, .inl ⟨SqL.of upd_same, fun p hp => ?_⟩⟩
      have hs := ((same_new (o := HO.lst [V.str t]) hm).trans (same_new (o := HO.lst (R.map V.str ++ [V.str t])) hu)).trans (same_new (o := HO.tup (R.map V.str ++ [V.str t])) hp)
      exact q p (R ++ [t]) _ (hS.trans hs) (by rw [upd_same, List.map_append]; rfl) (by rw [List.map_append]; exact hF)
end
section
variable {P : Program} {w : World} {K : PySem.W.Frag} {mg : Str → Option Value} {base : Heap}
theorem ok__law_drawn_text (D : Df K mg "_law_drawn_text" s__law_drawn_text ["source", "width"]) (T : Tx mg) (C__law_draw : Cal P w K mg base "_law_draw" ["source", "many"] 2 sp__law_draw) (C__law_drawn_word : Cal P w K mg base "_law_drawn_word" ["source", "most"] 4 sp__law_drawn_word) (C__law_pick : Cal P w K mg base "_law_pick" ["source", "row"] 3 (sp__law_pick K)) : Cal P w K mg base "_law_drawn_text" ["source", "width"] 5 sp__law_drawn_text := by
  obtain ⟨f__law_draw, fd__law_draw, G__law_draw, g__law_draw, k__law_draw, b__law_draw⟩ := C__law_draw
  obtain ⟨f__law_drawn_word, fd__law_drawn_word, G__law_drawn_word, g__law_drawn_word, k__law_drawn_word, b__law_drawn_word⟩ := C__law_drawn_word
  obtain ⟨f__law_pick, fd__law_pick, G__law_pick, g__law_pick, k__law_pick, b__law_pick⟩ := C__law_pick
  obtain ⟨f, fd, F, gf, bf⟩ := D
  refine ⟨f, fd, F.ok sc__law_drawn_text (fun vs H Q E h => ?_) (fun cdv A outer s₀ H vs Q E hr h => ?_), gf, F.kp, bf⟩
  · obtain ⟨s, a, w, c, rfl, _⟩ := h; rfl
  · obtain ⟨s, a, w, c, rfl, w0, w1, hS, q⟩ := h
    refine ⟨_, (pss_cons (ps_set (i := 2) sc__law_drawn_text.nd rfl (Or.inl rfl) (pe_call G__law_draw (hr.mono (by decide)) (by rfl) g__law_draw k__law_draw b__law_draw .nil pass0 (pa_cons (pv 0) (pa_cons pe_int pa_nil))))
      (pss_cons (ps_if (pt_cmpR op_eq (pv 2) pe_int (nomark _))
      (pss_cons (ps_set (i := 3) sc__law_drawn_text.nd rfl (Or.inl rfl) (pe_op op_add (pe_op op_sub (pv 1) pe_int) (pe_call G__law_draw (hr.mono (by decide)) (by rfl) g__law_draw k__law_draw b__law_draw .nil pass0 (pa_cons (pv 0) (pa_cons pe_int pa_nil)))))
        (pss_one (ps_ret (pe_op op_add_str (pe_op op_add_str (pe_op op_mul_str pe_str (pv 3)) (pe_call G__law_pick (hr.mono (by decide)) (by rfl) g__law_pick k__law_pick b__law_pick .nil pass0 (pa_cons (pv 0) (pa_cons (pe_lst (pa_cons pe_str (pa_cons pe_str (pa_cons pe_str pa_nil)))) pa_nil)))) (pe_op op_mul_str pe_str (pe_call G__law_draw (hr.mono (by decide)) (by rfl) g__law_draw k__law_draw b__law_draw .nil pass0 (pa_cons (pv 0) (pa_cons pe_int pa_nil))))))))
      pss_nil)
      (pss_cons (ps_if (pt_cmpR op_eq (pv 2) pe_int (nomark _))
      (pss_one (ps_ret (pe_op op_add_str (pe_op op_add_str (pe_op op_mul_str pe_str (pe_call G__law_draw (hr.mono (by decide)) (by rfl) g__law_draw k__law_draw b__law_draw .nil pass0 (pa_cons (pv 0) (pa_cons pe_int pa_nil)))) (pe_slice sl_str pe_str po_none (po_some (pe_call G__law_draw (hr.mono (by decide)) (by rfl) g__law_draw k__law_draw b__law_draw .nil pass0 (pa_cons (pv 0) (pa_cons pe_int pa_nil)))))) (pe_op op_mul_str pe_str (pe_call G__law_draw (hr.mono (by decide)) (by rfl) g__law_draw k__law_draw b__law_draw .nil pass0 (pa_cons (pv 0) (pa_cons pe_int pa_nil)))))))
      pss_nil)
      (pss_cons (ps_if (pt_cmpR op_eq (pv 2) pe_int (nomark _))
      (pss_one (ps_ret (pe_call G__law_drawn_word (hr.mono (by decide)) (by rfl) g__law_drawn_word k__law_drawn_word b__law_drawn_word .nil pass0 (pa_cons (pv 0) (pa_cons pe_int pa_nil)))))
      pss_nil)
      (pss_cons (ps_set (i := 4) sc__law_drawn_text.nd rfl (Or.inl rfl) (pe_op op_mul_str pe_str (pe_op op_fdiv (pe_call G__law_draw (hr.mono (by decide)) (by rfl) g__law_draw k__law_draw b__law_draw .nil pass0 (pa_cons (pv 0) (pa_cons pe_int pa_nil))) pe_int)))
      (pss_cons (ps_for PassesOwn.never rfl (pi_range1 (by rfl) T.n_range (pa_cons (pe_call G__law_draw (hr.mono (by decide)) (by rfl) g__law_draw k__law_draw b__law_draw .nil pass0 (pa_cons (pv 0) (pa_cons pe_int pa_nil))) pa_nil)) (pg_name (i := 5) sc__law_drawn_text.nd rfl (Or.inl rfl))
      (pss_one (ps_set (i := 4) sc__law_drawn_text.nd rfl (Or.inl rfl) (pe_op op_add_str (pe_op op_add_str (pv 4) (pe_call G__law_drawn_word (hr.mono (by decide)) (by rfl) g__law_drawn_word k__law_drawn_word b__law_drawn_word .nil pass0 (pa_cons (pv 0) (pa_cons pe_int pa_nil)))) (pe_op op_mul_str pe_str (pe_op op_add pe_int (pe_op op_mul (pe_op op_fdiv (pe_call G__law_draw (hr.mono (by decide)) (by rfl) g__law_draw k__law_draw b__law_draw .nil pass0 (pa_cons (pv 0) (pa_cons pe_int pa_nil))) pe_int) (pe_call G__law_draw (hr.mono (by decide)) (by rfl) g__law_draw k__law_draw b__law_draw .nil pass0 (pa_cons (pv 0) (pa_cons pe_int pa_nil))))))))))
      (pss_cons (ps_if (pt_cmpR op_eq (pv 2) pe_int (nomark _))
      (pss_one (ps_ret (pe_op op_add_str (pv 4) (pe_call G__law_drawn_word (hr.mono (by decide)) (by rfl) g__law_drawn_word k__law_drawn_word b__law_drawn_word .nil pass0 (pa_cons (pv 0) (pa_cons pe_int pa_nil))))))
      pss_nil)
      (pss_cons (ps_if (pt_cmpR op_eq (pv 2) pe_int (nomark _))
      (pss_one (ps_ret (pe_slice sl_str (pv 4) po_none (po_some (pe_op op_add (pv 1) (pe_call G__law_draw (hr.mono (by decide)) (by rfl) g__law_draw k__law_draw b__law_draw .nil pass0 (pa_cons (pv 0) (pa_cons pe_int pa_nil))))))))
      pss_nil)
      (pss_one (ps_ret (pv 4))))))))))), ?_⟩
    have small : ∀ n : Nat, n ≤ 20000 → n ≤ sizeLine := fun n h => Nat.le_trans h (by decide)
    have one : (tl (Str.ofString " ")).length = 1 := rfl
    have oneA : (tl (Str.ofString "a")).length = 1 := rfl
    have oneC : (tl (Str.ofString "c")).length = 1 := rfl
    refine ⟨_, rfl, s, a, _, c + 999, rfl, by decide, by decide, hS, fun way H1 v10 v11 x1 S1 => ?_⟩
    refine ⟨_, rfl, rfl, _, rfl, ite2 (fun _ => ?_) (fun _ => ?_)⟩
    · refine ⟨_, rfl, _, _, rfl, rfl, _, rfl, s, a, _, c + 998, rfl, by decide, by decide, S1, fun v2 H2 v20 v21 x2 S2 => ?_⟩
      refine ⟨_, _, rfl, rfl, _, rfl, _, _, rfl, rfl, by omega, by omega, by rw [oneA]; omega, fun r1 hr1 => ?_⟩
      refine ⟨_, rfl, by show 3 ≤ sizeLine; decide, fun m hm => ?_⟩
      have S3 := S2.new (o := HO.lst ([Str.ofString " ", Str.ofString "  ", Str.ofString "b"].map V.str)) hm
      refine .inl ⟨s, a, m, [Str.ofString " ", Str.ofString "  ", Str.ofString "b"].map V.str, c + 997, rfl, SqL.of upd_same, S2.ne hm, by simp, by decide, S3, fun u H3 um x3 S4 => ?_⟩
      obtain ⟨z, zm, rfl⟩ := List.mem_map.mp um
      have zl : (tl z).length ≤ 2 := by
        have : ([Str.ofString " ", Str.ofString "  ", Str.ofString "b"]).all (fun z => decide ((tl z).length ≤ 2)) = true := by decide +kernel
        exact of_decide_eq_true (List.all_eq_true.mp this z zm)
      have l1 : (tl r1).length ≤ 100 := by rw [hr1, rep_len, oneA]; omega
      refine ⟨_, _, rfl, rfl, small _ (by rw [tl_len, tl_len]; omega), _, rfl, s, a, _, c + 996, rfl, by decide, by decide, S4, fun v5 H5 v50 v51 x5 S5 => ?_⟩
      refine ⟨_, _, rfl, rfl, by omega, by omega, by rw [oneC]; omega, fun r2 hr2 => ?_⟩
      have l2 : (tl r2).length ≤ 100 := by rw [hr2, rep_len, oneC]; omega
      refine ⟨_, _, rfl, rfl, small _ (by rw [tl_len, tl_len, tl_app, List.length_append]; omega), ?_⟩
      refine q _ H5 (by rw [tl_app, tl_app, List.length_append, List.length_append]; omega) (x1.trans (x2.trans ((Ext.new hm).trans (x3.trans x5)))) (S5.mono (by omega))
    refine ⟨_, rfl, rfl, _, rfl, ite2 (fun _ => ?_) (fun _ => ?_)⟩
    · refine ⟨_, rfl, s, a, _, c + 998, rfl, by decide, by decide, S1, fun v2 H2 v20 v21 x2 S2 => ?_⟩
      refine ⟨_, _, rfl, rfl, by omega, by omega, by rw [one]; omega, fun r1 hr1 => ?_⟩
      have l1 : (tl r1).length ≤ 100 := by rw [hr1, rep_len, one]; omega
      refine ⟨_, rfl, s, a, _, c + 997, rfl, by decide, by decide, S2, fun v3 H3 v30 v31 x3 S3 => ?_⟩
      have l2 : (tl (cutS (Str.ofString "de") none (some v3))).length ≤ 2 := by rw [cutS_to v30, List.length_take]; exact Nat.min_le_right _ _
      refine ⟨v3, rfl, _, rfl, by decide, _, _, rfl, rfl, small _ (by rw [tl_len, tl_len]; omega), _, rfl, s, a, _, c + 996, rfl, by decide, by decide, S3, fun v4 H4 v40 v41 x4 S4 => ?_⟩
      refine ⟨_, _, rfl, rfl, by omega, by omega, by rw [one]; omega, fun r2 hr2 => ?_⟩
      have l3 : (tl r2).length ≤ 100 := by rw [hr2, rep_len, one]; omega
      refine ⟨_, _, rfl, rfl, small _ (by rw [tl_len, tl_len, tl_app, List.length_append]; omega), ?_⟩
      refine q _ H4 (by rw [tl_app, tl_app, List.length_append, List.length_append]; omega) (x1.trans (x2.trans (x3.trans x4))) (S4.mono (by omega))
    refine ⟨_, rfl, rfl, _, rfl, ite2 (fun _ => ?_) (fun _ => ?_)⟩
    · exact ⟨_, rfl, s, a, 100, c + 979, rfl, by decide, by decide, S1, fun y H2 yl x2 S2 => q y H2 (by omega) (x1.trans x2) (S2.mono (by omega))⟩
    refine ⟨_, rfl, s, a, _, c + 998, rfl, by decide, by decide, S1, fun v2 H2 v20 v21 x2 S2 => ?_⟩
    refine ⟨_, _, rfl, rfl, ⟨by decide, by decide⟩, _, _, rfl, rfl, by omega, by omega, by rw [one]; omega, fun r1 hr1 => ?_⟩
    have l1 : (tl r1).length ≤ 3 := by rw [hr1, rep_len, one]; omega
    refine ⟨_, rfl, s, a, _, c + 997, rfl, by decide, by decide, S2, fun v3 H3 v30 v31 x3 S3 => ?_⟩
    refine ⟨_, rfl, by omega, by omega, ?_⟩
    refine for_range (lo := 0) (n := v3.toNat) (fun i σ' H' => ∃ (y : Str) (v3' v5 : Option V), σ' = [some (.ref s), some (.int (w : Int)), some (.int way), v3', some (.str y), v5] ∧ (tl y).length ≤ 3 + 150 * i ∧ Ext s H H' ∧ Src H' s a (c + (900 - 30 * i))) ?_ ?_ ?_
    · exact ⟨r1, _, _, rfl, by omega, x1.trans (x2.trans x3), S3.mono (by omega)⟩
    · rintro i σ' H' hi ⟨y, v3', v5, rfl, yl, hE, hS'⟩
      refine ⟨_, rfl, _, rfl, s, a, 30, c + (900 - 30 * i) - 20, rfl, by decide, by decide, hS'.mono (by omega), fun z H4 zl x4 S4 => ?_⟩
      refine ⟨_, _, rfl, rfl, small _ (by rw [tl_len, tl_len]; omega), _, rfl, s, a, _, c + (900 - 30 * i) - 21, rfl, by decide, by decide, S4.mono (by omega), fun v6 H5 v60 v61 x5 S5 => ?_⟩
      refine ⟨_, _, rfl, rfl, ⟨by decide, by decide⟩, _, rfl, s, a, _, c + (900 - 30 * i) - 22, rfl, by decide, by decide, S5.mono (by omega), fun v7 H6 v70 v71 x6 S6 => ?_⟩
      have hp : 0 ≤ v6 / 3 * v7 ∧ v6 / 3 * v7 ≤ 2 := by
        have h1 : v6 / 3 = 0 ∨ v6 / 3 = 1 := by omega
        rcases h1 with h | h <;> rw [h] <;> omega
      have hk : 1 + v6 / 3 * v7 ≤ 3 ∧ -3 ≤ 1 + v6 / 3 * v7 ∧ (1 + v6 / 3 * v7).toNat ≤ 3 := by
        generalize v6 / 3 * v7 = pr at hp ⊢
        omega
      refine ⟨_, _, rfl, rfl, .inr ⟨by omega, by omega⟩, _, _, rfl, rfl, _, _, rfl, rfl, Int.le_trans hk.1 (by decide), Int.le_trans (by decide) hk.2.1, ?_, fun r2 hr2 => ?_⟩
      · rw [one, Nat.one_mul]; exact Nat.le_trans hk.2.2 (by decide)
      have l2 : (tl r2).length ≤ 3 := by rw [hr2, rep_len, one, Nat.mul_one]; exact hk.2.2
      refine ⟨_, _, rfl, rfl, small _ (by rw [tl_len, tl_len, tl_app, List.length_append]; omega), ?_⟩
      exact ⟨_, _, _, rfl, by rw [tl_app, tl_app, List.length_append, List.length_append]; omega, hE.trans (x4.trans (x5.trans x6)), S6.mono (by omega)⟩
    · rintro σ' H4 ⟨y, v3', v5, rfl, yl, hE, hS'⟩
      have yl' : (tl y).length ≤ 2000 := by omega
      refine ⟨_, rfl, rfl, _, rfl, ite2 (fun _ => ?_) (fun _ => ?_)⟩
      · refine ⟨_, rfl, _, rfl, s, a, 30, c + 100, rfl, by decide, by decide, hS'.mono (by omega), fun z H5 zl x5 S5 => ?_⟩
        refine ⟨_, _, rfl, rfl, small _ (by rw [tl_len, tl_len]; omega), q _ H5 (by rw [tl_app, List.length_append]; omega) (hE.trans x5) (S5.mono (by omega))⟩
      refine ⟨_, rfl, rfl, _, rfl, ite2 (fun _ => ?_) (fun _ => ?_)⟩
      · refine ⟨_, rfl, _, rfl, _, rfl, s, a, _, c + 100, rfl, by decide, by decide, hS'.mono (by omega), fun v8 H5 v80 v81 x5 S5 => ?_⟩
        refine ⟨_, _, rfl, rfl, _, rfl, y, rfl, small _ (by rw [tl_len]; omega), ?_⟩
        refine q _ H5 ?_ (hE.trans x5) (S5.mono (by omega))
        rw [cutS_to (by omega), List.length_take]; omega
      · exact ⟨_, rfl, q y H4 (by omega) hE (hS'.mono (by omega))⟩
end

end Z
namespace Z
open PySem L2 SX
section
variable {P : Program} {w : World} {K : PySem.W.Frag} {mg : Str → Option Value} {base : Heap}
theorem ok_law {f : Addr} {fd : FuncData} (F : Fun K "law" "law" s_law f fd) (T : Tx mg) (C__law_cut : Cal P w K mg base "_law_cut" ["source", "text"] 3 sp__law_cut) (C__law_drawn_text : Cal P w K mg base "_law_drawn_text" ["source", "width"] 5 sp__law_drawn_text) (C__law_due : Cal P w K mg base "_law_due" ["text", "width"] 1 sp__law_due) (C__law_once_in : Cal P w K mg base "_law_once_in" ["source", "many"] 3 sp__law_once_in) (C__law_rows_right : Cal P w K mg base "_law_rows_right" ["rows", "text", "width"] 1 (sp__law_rows_right K)) (C__law_same : Cal P w K mg base "_law_same" ["actual", "due"] 3 (sp__law_same K 2)) (C__law_source : Cal P w K mg base "_law_source" ["script"] 2 (sp__law_source K)) (C__law_width : Cal P w K mg base "_law_width" ["source"] 4 sp__law_width) (C_fold : Cal P w K mg base "fold" ["text", "width"] 2 sp_fold) (C_unfold : Cal P w K mg base "unfold" ["rows"] 1 (sp_unfold K)) : FnOk P w K mg base CX0 6 f fd ["script"] (sp_law K) := by
  obtain ⟨f__law_cut, fd__law_cut, G__law_cut, g__law_cut, k__law_cut, b__law_cut⟩ := C__law_cut
  obtain ⟨f__law_drawn_text, fd__law_drawn_text, G__law_drawn_text, g__law_drawn_text, k__law_drawn_text, b__law_drawn_text⟩ := C__law_drawn_text
  obtain ⟨f__law_due, fd__law_due, G__law_due, g__law_due, k__law_due, b__law_due⟩ := C__law_due
  obtain ⟨f__law_once_in, fd__law_once_in, G__law_once_in, g__law_once_in, k__law_once_in, b__law_once_in⟩ := C__law_once_in
  obtain ⟨f__law_rows_right, fd__law_rows_right, G__law_rows_right, g__law_rows_right, k__law_rows_right, b__law_rows_right⟩ := C__law_rows_right
  obtain ⟨f__law_same, fd__law_same, G__law_same, g__law_same, k__law_same, b__law_same⟩ := C__law_same
  obtain ⟨f__law_source, fd__law_source, G__law_source, g__law_source, k__law_source, b__law_source⟩ := C__law_source
  obtain ⟨f__law_width, fd__law_width, G__law_width, g__law_width, k__law_width, b__law_width⟩ := C__law_width
  obtain ⟨f_fold, fd_fold, G_fold, g_fold, k_fold, b_fold⟩ := C_fold
  obtain ⟨f_unfold, fd_unfold, G_unfold, g_unfold, k_unfold, b_unfold⟩ := C_unfold
  refine F.ok sc_law (fun vs H Q E h => ?_) (fun cdv A outer s₀ H vs Q E hr h => ?_)
  · obtain ⟨a, ns, rfl, _⟩ := h; rfl
  · obtain ⟨a, ns, rfl, hA, hlen, q⟩ := h
    refine ⟨_, (pss_cons (ps_set (i := 1) sc_law.nd rfl (Or.inl rfl) (pe_call G__law_source (hr.mono (by decide)) (by rfl) g__law_source k__law_source b__law_source .nil pass0 (pa_cons (pv 0) pa_nil)))
      (pss_cons (ps_for PassesOwn.never rfl (pi_range1 (by rfl) T.n_range (pa_cons pe_int pa_nil)) (pg_name (i := 2) sc_law.nd rfl (Or.inl rfl))
      (pss_cons (ps_set (i := 3) sc_law.nd rfl (Or.inl rfl) (pe_call G__law_width (hr.mono (by decide)) (by rfl) g__law_width k__law_width b__law_width .nil pass0 (pa_cons (pv 1) pa_nil)))
        (pss_cons (ps_set (i := 4) sc_law.nd rfl (Or.inl rfl) (pe_call G__law_drawn_text (hr.mono (by decide)) (by rfl) g__law_drawn_text k__law_drawn_text b__law_drawn_text .nil pass0 (pa_cons (pv 1) (pa_cons (pv 3) pa_nil))))
        (C8.pss_cut (ps_if (PW.pt (pw_and (pt_cmpR op_eq (pv 2) pe_int (nomark _)) (pw_and1 (pt_val (pe_call G__law_once_in (hr.mono (by decide)) (by rfl) g__law_once_in k__law_once_in b__law_once_in .nil pass0 (pa_cons (pv 1) (pa_cons pe_int pa_nil)))))))
        (pss_one (ps_set (i := 4) sc_law.nd rfl (Or.inl rfl) (pe_slice sl_str (pe_op op_mul_str (pe_op op_add_str (pv 4) pe_str) pe_int) po_none (po_some pe_int))))
        pss_nil)
        (pss_cons (ps_set (i := 5) sc_law.nd rfl (Or.inl rfl) (pe_call G__law_due (hr.mono (by decide)) (by rfl) g__law_due k__law_due b__law_due .nil pass0 (pa_cons (pv 4) (pa_cons (pv 3) pa_nil))))
        (pss_cons (ps_set (i := 6) sc_law.nd rfl (Or.inl rfl) (pe_call G_fold (hr.mono (by decide)) (by rfl) g_fold k_fold b_fold .nil pass0 (pa_cons (pv 4) (pa_cons (pv 3) pa_nil))))
        (pss_cons (ps_if (PW.pt (pw_or (pt_not (pt_val (pe_call G__law_same (hr.mono (by decide)) (by rfl) g__law_same k__law_same b__law_same .nil pass0 (pa_cons (pv 6) (pa_cons (pv 5) pa_nil))))) (pw_or (pt_not (pt_val (pe_call G__law_rows_right (hr.mono (by decide)) (by rfl) g__law_rows_right k__law_rows_right b__law_rows_right .nil pass0 (pa_cons (pv 6) (pa_cons (pv 4) (pa_cons (pv 3) pa_nil)))))) (pw_or1 (pt_not (pt_val (pe_call G__law_same (hr.mono (by decide)) (by rfl) g__law_same k__law_same b__law_same .nil pass0 (pa_cons (pe_call G_unfold (hr.mono (by decide)) (by rfl) g_unfold k_unfold b_unfold .nil pass0 (pa_cons (pv 6) pa_nil)) (pa_cons (pv 4) pa_nil)))))))))
        (pss_one (ps_ret pe_bl))
        pss_nil)
        (pss_cons (ps_set (i := 7) sc_law.nd rfl (Or.inl rfl) (pe_call G__law_cut (hr.mono (by decide)) (by rfl) g__law_cut k__law_cut b__law_cut .nil pass0 (pa_cons (pv 1) (pa_cons (pe_slice sl_str (pv 4) po_none (po_some pe_int)) pa_nil))))
        (pss_cons (ps_if (pt_not (pt_val (pe_call G__law_same (hr.mono (by decide)) (by rfl) g__law_same k__law_same b__law_same .nil pass0 (pa_cons (pe_call G_unfold (hr.mono (by decide)) (by rfl) g_unfold k_unfold b_unfold .nil pass0 (pa_cons (pv 7) pa_nil)) (pa_cons (pe_slice sl_str (pv 4) po_none (po_some pe_int)) pa_nil)))))
        (pss_one (ps_ret pe_bl))
        pss_nil)
        (pss_cons (ps_set (i := 8) sc_law.nd rfl (Or.inl rfl) (pe_call G__law_width (hr.mono (by decide)) (by rfl) g__law_width k__law_width b__law_width .nil pass0 (pa_cons (pv 1) pa_nil)))
        (pss_one (ps_if (PW.pt (pw_or (pt_not (pt_val (pe_call G__law_same (hr.mono (by decide)) (by rfl) g__law_same k__law_same b__law_same .nil pass0 (pa_cons (pe_call G_fold (hr.mono (by decide)) (by rfl) g_fold k_fold b_fold .nil pass0 (pa_cons (pe_call G_unfold (hr.mono (by decide)) (by rfl) g_unfold k_unfold b_unfold .nil pass0 (pa_cons (pv 5) pa_nil)) (pa_cons (pv 8) pa_nil))) (pa_cons (pe_call G__law_due (hr.mono (by decide)) (by rfl) g__law_due k__law_due b__law_due .nil pass0 (pa_cons (pv 4) (pa_cons (pv 8) pa_nil))) pa_nil))))) (pw_or1 (pt_not (pt_val (pe_call G__law_same (hr.mono (by decide)) (by rfl) g__law_same k__law_same b__law_same .nil pass0 (pa_cons (pe_call G_fold (hr.mono (by decide)) (by rfl) g_fold k_fold b_fold .nil pass0 (pa_cons (pv 4) (pa_cons (pv 3) pa_nil))) (pa_cons (pv 5) pa_nil))))))))
        (pss_one (ps_ret pe_bl))
        pss_nil))))))))))))
      (pss_one (ps_ret pe_bl)))), ?_⟩
    have small : ∀ n : Nat, n ≤ 20000 → n ≤ sizeLine := fun n h => Nat.le_trans h (by decide)
    refine ⟨_, rfl, a, ns, rfl, hA, hlen, fun s b H1 hs x1 S1 => ?_⟩
    refine ⟨_, rfl, by decide, by decide, ?_⟩
    refine for_range (lo := 0) (n := (3 : Int).toNat) (fun i σ' H' => (∃ v2 v3 v4 v5 v6 v7 v8 : Option V, σ' = [some (.ref a), some (.ref s), v2, v3, v4, v5, v6, v7, v8]) ∧ Src H' s b (100000 * (4 - i))) ⟨⟨_, _, _, _, _, _, _, rfl⟩, S1.mono (by decide)⟩ ?_ ?_
    · rintro i σ' H' hi ⟨⟨v2, v3, v4, v5, v6, v7, v8, rfl⟩, S'⟩
      have i3 : i < 3 := hi
      have S2 : Src H' s b (100000 * (3 - i) + 90000 + 2) := S'.mono (by omega)
      refine ⟨_, rfl, s, b, _, rfl, S2, fun w H2 w0 w1 x2 S3 => ?_⟩
      refine ⟨_, rfl, _, rfl, s, b, w, 100000 * (3 - i) + 80000, rfl, w0, w1, S3.mono (by omega), fun x0 H3 xl0 x3 S4 => ?_⟩
      refine ⟨fun σ3 H4 => ∃ x : Str, σ3 = [some (.ref a), some (.ref s), some (.int (0 + (i : Int))), some (.int (w : Int)), some (.str x), v5, v6, v7, v8] ∧ (tl x).length ≤ 4000 ∧ Src H4 s b (100000 * (3 - i) + 70000), ?_, ?_⟩
      · refine ⟨_, rfl, rfl, _, rfl, ite2 (fun _ => ?_) (fun _ => iteF ⟨x0, rfl, xl0, S4.mono (by omega)⟩)⟩
        refine ⟨_, rfl, s, b, _, 100000 * (3 - i) + 70000, rfl, by decide, by decide, S4.mono (by omega), fun bb H4 x4 S5 => ?_⟩
        refine ⟨_, rfl, ite2 (fun _ => ?_) (fun _ => ⟨x0, rfl, xl0, S5⟩)⟩
        have l1 : (tl (x0 ++ Str.ofString "xy z")).length ≤ 4004 := by rw [tl_app, List.length_append]; show _ + 4 ≤ _; omega
        refine ⟨_, rfl, _, _, rfl, rfl, small _ (by rw [tl_len]; show _ + 4 ≤ _; omega), _, _, rfl, rfl, by decide, by decide, by show _ * 500 ≤ _; omega, fun r hr' => ?_⟩
        have l2 : (tl r).length ≤ 2002000 := by rw [hr', rep_len]; show 500 * _ ≤ _; omega
        refine ⟨_, rfl, r, rfl, Nat.le_trans (show r.length ≤ 2002000 by rw [tl_len]; exact l2) (by decide), _, rfl, ?_, S5⟩
        rw [cutS_to (by decide), List.length_take]; exact Nat.le_trans (Nat.min_le_left _ _) (by decide)
      rintro σ3 H4 ⟨x, rfl, xl, S5⟩
      have lx := tl_len x
      -- due, rows
      refine ⟨_, rfl, _, rfl, x, w, rfl, by omega, fun p1 rs H5 m5 t5 f5 => ?_⟩
      refine ⟨_, rfl, _, rfl, x, w, rfl, by omega, fun p2 rs2 H6 m6 t6 f6 => ?_⟩
      have er : rs2 = rs := tl_inj (f6.det f5)
      subst er
      have hlen2 := f6.len
      rw [List.length_map] at hlen2
      have hfl := f6.flat
      have t5' := m6 _ _ t5
      refine ⟨_, rfl, _, rfl, _, _, _, rfl, DV.strs t6, DV.strs t5', DL.strs _ (by omega), _, rfl, iteF ?_⟩
      refine ⟨_, rfl, _, rfl, _, rfl, p2, rs2, x, w, rfl, SqT.of t6, by omega, f6, _, rfl, iteF ?_⟩
      refine ⟨_, rfl, p2, rs2, rfl, SqT.of t6, by rw [hfl]; omega, fun y hy => ?_⟩
      have ey : y = x := tl_ext (by rw [hy, hfl])
      subst ey
      refine ⟨_, rfl, .str y, _, _, rfl, by unfold DV; rfl, by unfold DV; rfl, True.intro, _, rfl, iteF ?_⟩
      -- a cut
      have S6 := (S5.ext m5).ext m6
      have l200 : (tl (cutS y none (some 200))).length ≤ 200 := by rw [cutS_to (by decide), List.length_take]; exact Nat.min_le_left _ _
      refine ⟨_, rfl, _, rfl, 200, rfl, y, rfl, small _ (by omega), s, b, _, 100000 * (3 - i) + 60000, rfl, l200, S6.mono (by omega), fun p3 rs3 H7 x7 S7 t7 f7 => ?_⟩
      refine ⟨_, rfl, p3, rs3, rfl, SqT.of t7, by rw [f7]; omega, fun z hz => ?_⟩
      have ez : z = cutS y none (some 200) := tl_ext (by rw [hz, f7])
      subst ez
      refine ⟨_, rfl, 200, rfl, y, rfl, small _ (by omega), .str _, _, _, rfl, by unfold DV; rfl, by unfold DV; rfl, True.intro, _, rfl, iteF ?_⟩
      -- another width
      refine ⟨_, rfl, s, b, _, rfl, (S7.mono (by omega) : Src H7 s b (100000 * (3 - i) + 50000 + 2)), fun w2 H8 w20 w21 x8 S8 => ?_⟩
      have t5'' : SqT K H8 p1 (rs2.map V.str) := x8.seqT S7.lst.choose_spec (x7.seqT S6.lst.choose_spec (SqT.of t5'))
      refine ⟨_, rfl, p1, rs2, rfl, t5'', by rw [hfl]; omega, fun u hu => ?_⟩
      have eu : u = y := tl_ext (by rw [hu, hfl])
      subst eu
      refine ⟨_, rfl, u, w2, rfl, by omega, fun p9 rs9 H9 m9 t9 f9 => ?_⟩
      refine ⟨_, rfl, _, rfl, u, w2, rfl, by omega, fun p10 rs10 H10 m10 t10 f10 => ?_⟩
      have er2 : rs10 = rs9 := tl_inj (f10.det f9)
      subst er2
      have hlen3 := f9.len
      rw [List.length_map] at hlen3
      refine ⟨_, _, _, rfl, DV.strs (m10 _ _ t9), DV.strs t10, DL.strs _ (by omega), _, rfl, iteF ?_⟩
      refine ⟨_, rfl, _, rfl, u, w, rfl, by omega, fun p11 rs11 H11 m11 t11 f11 => ?_⟩
      have er3 : rs11 = rs2 := tl_inj (f11.det f6)
      subst er3
      have t5e : SqT K H11 p1 (rs11.map V.str) := m11.tup (m10.tup (m9.tup t5''))
      refine ⟨_, rfl, _, _, _, rfl, DV.strs t11, DV.strsT t5e, DL.strs _ (by omega), _, rfl, iteF ?_⟩
      exact ⟨⟨_, _, _, _, _, _, _, rfl⟩, ((((S8.ext m9).ext m10).ext m11).mono (by omega))⟩
    · rintro σ' H' ⟨⟨v2, v3, v4, v5, v6, v7, v8, rfl⟩, S'⟩
      exact q _
end

end Z
namespace Z
open PySem L2 SX
theorem all_mk {l : PySem.W.OpenLaw} {w : World} {K : PySem.W.Frag} {h : Heap} {mg : Str → Option Value} {fa : Addr} (X : K.In h) (G : h.Ns mainGlobals mg) (hfa : mg "law" = some (.ref fa))
    {f0 : Addr} {od0 an0 : Option Addr} {sl0 : Array (Option Value)} {oc0 kV0 dc0 pm0 cd0 ct0 : Value}
    {f1 : Addr} {od1 an1 : Option Addr} {sl1 : Array (Option Value)} {oc1 kV1 dc1 pm1 cd1 ct1 : Value}
    {f2 : Addr} {od2 an2 : Option Addr} {sl2 : Array (Option Value)} {oc2 kV2 dc2 pm2 cd2 ct2 : Value}
    {f3 : Addr} {od3 an3 : Option Addr} {sl3 : Array (Option Value)} {oc3 kV3 dc3 pm3 cd3 ct3 : Value}
    {f4 : Addr} {od4 an4 : Option Addr} {sl4 : Array (Option Value)} {oc4 kV4 dc4 pm4 cd4 ct4 : Value}
    {f5 : Addr} {od5 an5 : Option Addr} {sl5 : Array (Option Value)} {oc5 kV5 dc5 pm5 cd5 ct5 : Value}
    {f6 : Addr} {od6 an6 : Option Addr} {sl6 : Array (Option Value)} {oc6 kV6 dc6 pm6 cd6 ct6 : Value}
    {f7 : Addr} {od7 an7 : Option Addr} {sl7 : Array (Option Value)} {oc7 kV7 dc7 pm7 cd7 ct7 : Value}
    {f8 : Addr} {od8 an8 : Option Addr} {sl8 : Array (Option Value)} {oc8 kV8 dc8 pm8 cd8 ct8 : Value}
    {f9 : Addr} {od9 an9 : Option Addr} {sl9 : Array (Option Value)} {oc9 kV9 dc9 pm9 cd9 ct9 : Value}
    {f10 : Addr} {od10 an10 : Option Addr} {sl10 : Array (Option Value)} {oc10 kV10 dc10 pm10 cd10 ct10 : Value}
    {f11 : Addr} {od11 an11 : Option Addr} {sl11 : Array (Option Value)} {oc11 kV11 dc11 pm11 cd11 ct11 : Value}
    {f12 : Addr} {od12 an12 : Option Addr} {sl12 : Array (Option Value)} {oc12 kV12 dc12 pm12 cd12 ct12 : Value}
    {f13 : Addr} {od13 an13 : Option Addr} {sl13 : Array (Option Value)} {oc13 kV13 dc13 pm13 cd13 ct13 : Value}
    {f14 : Addr} {od14 an14 : Option Addr} {sl14 : Array (Option Value)} {oc14 kV14 dc14 pm14 cd14 ct14 : Value}
    {f15 : Addr} {od15 an15 : Option Addr} {sl15 : Array (Option Value)} {oc15 kV15 dc15 pm15 cd15 ct15 : Value}
    {f16 : Addr} {od16 an16 : Option Addr} {sl16 : Array (Option Value)} {oc16 kV16 dc16 pm16 cd16 ct16 : Value}
    {f17 : Addr} {od17 an17 : Option Addr} {sl17 : Array (Option Value)} {oc17 kV17 dc17 pm17 cd17 ct17 : Value}
    (a0 : PySem.W.nsIn K mainGlobals "fold_place" = some (some (.ref f0))) (l0 : K.lookup f0 = some ⟨oc0, od0, .func (PySem.W.fnOf "fold_place" "fold_place" (defArgs s_fold_place) (defBody s_fold_place) (defScope s_fold_place) .none kV0 dc0 pm0 an0 cd0 ct0), sl0⟩) (c0 : PySem.W.codeIn K cd0 "fold_place" = true) (k0 : PySem.W.keepIn K (.ref f0) = true)
    (a1 : PySem.W.nsIn K mainGlobals "fold" = some (some (.ref f1))) (l1 : K.lookup f1 = some ⟨oc1, od1, .func (PySem.W.fnOf "fold" "fold" (defArgs s_fold) (defBody s_fold) (defScope s_fold) .none kV1 dc1 pm1 an1 cd1 ct1), sl1⟩) (c1 : PySem.W.codeIn K cd1 "fold" = true) (k1 : PySem.W.keepIn K (.ref f1) = true)
    (a2 : PySem.W.nsIn K mainGlobals "unfold" = some (some (.ref f2))) (l2 : K.lookup f2 = some ⟨oc2, od2, .func (PySem.W.fnOf "unfold" "unfold" (defArgs s_unfold) (defBody s_unfold) (defScope s_unfold) .none kV2 dc2 pm2 an2 cd2 ct2), sl2⟩) (c2 : PySem.W.codeIn K cd2 "unfold" = true) (k2 : PySem.W.keepIn K (.ref f2) = true)
    (a3 : PySem.W.nsIn K mainGlobals "_law_mix" = some (some (.ref f3))) (l3 : K.lookup f3 = some ⟨oc3, od3, .func (PySem.W.fnOf "_law_mix" "_law_mix" (defArgs s__law_mix) (defBody s__law_mix) (defScope s__law_mix) .none kV3 dc3 pm3 an3 cd3 ct3), sl3⟩) (c3 : PySem.W.codeIn K cd3 "_law_mix" = true) (k3 : PySem.W.keepIn K (.ref f3) = true)
    (a4 : PySem.W.nsIn K mainGlobals "_law_source" = some (some (.ref f4))) (l4 : K.lookup f4 = some ⟨oc4, od4, .func (PySem.W.fnOf "_law_source" "_law_source" (defArgs s__law_source) (defBody s__law_source) (defScope s__law_source) .none kV4 dc4 pm4 an4 cd4 ct4), sl4⟩) (c4 : PySem.W.codeIn K cd4 "_law_source" = true) (k4 : PySem.W.keepIn K (.ref f4) = true)
    (a5 : PySem.W.nsIn K mainGlobals "_law_draw" = some (some (.ref f5))) (l5 : K.lookup f5 = some ⟨oc5, od5, .func (PySem.W.fnOf "_law_draw" "_law_draw" (defArgs s__law_draw) (defBody s__law_draw) (defScope s__law_draw) .none kV5 dc5 pm5 an5 cd5 ct5), sl5⟩) (c5 : PySem.W.codeIn K cd5 "_law_draw" = true) (k5 : PySem.W.keepIn K (.ref f5) = true)
    (a6 : PySem.W.nsIn K mainGlobals "_law_pick" = some (some (.ref f6))) (l6 : K.lookup f6 = some ⟨oc6, od6, .func (PySem.W.fnOf "_law_pick" "_law_pick" (defArgs s__law_pick) (defBody s__law_pick) (defScope s__law_pick) .none kV6 dc6 pm6 an6 cd6 ct6), sl6⟩) (c6 : PySem.W.codeIn K cd6 "_law_pick" = true) (k6 : PySem.W.keepIn K (.ref f6) = true)
    (a7 : PySem.W.nsIn K mainGlobals "_law_once_in" = some (some (.ref f7))) (l7 : K.lookup f7 = some ⟨oc7, od7, .func (PySem.W.fnOf "_law_once_in" "_law_once_in" (defArgs s__law_once_in) (defBody s__law_once_in) (defScope s__law_once_in) .none kV7 dc7 pm7 an7 cd7 ct7), sl7⟩) (c7 : PySem.W.codeIn K cd7 "_law_once_in" = true) (k7 : PySem.W.keepIn K (.ref f7) = true)
    (a8 : PySem.W.nsIn K mainGlobals "_law_is_int" = some (some (.ref f8))) (l8 : K.lookup f8 = some ⟨oc8, od8, .func (PySem.W.fnOf "_law_is_int" "_law_is_int" (defArgs s__law_is_int) (defBody s__law_is_int) (defScope s__law_is_int) .none kV8 dc8 pm8 an8 cd8 ct8), sl8⟩) (c8 : PySem.W.codeIn K cd8 "_law_is_int" = true) (k8 : PySem.W.keepIn K (.ref f8) = true)
    (a9 : PySem.W.nsIn K mainGlobals "_law_same" = some (some (.ref f9))) (l9 : K.lookup f9 = some ⟨oc9, od9, .func (PySem.W.fnOf "_law_same" "_law_same" (defArgs s__law_same) (defBody s__law_same) (defScope s__law_same) .none kV9 dc9 pm9 an9 cd9 ct9), sl9⟩) (c9 : PySem.W.codeIn K cd9 "_law_same" = true) (k9 : PySem.W.keepIn K (.ref f9) = true)
    (a10 : PySem.W.nsIn K mainGlobals "_law_signs" = some (some (.ref f10))) (l10 : K.lookup f10 = some ⟨oc10, od10, .func (PySem.W.fnOf "_law_signs" "_law_signs" (defArgs s__law_signs) (defBody s__law_signs) (defScope s__law_signs) .none kV10 dc10 pm10 an10 cd10 ct10), sl10⟩) (c10 : PySem.W.codeIn K cd10 "_law_signs" = true) (k10 : PySem.W.keepIn K (.ref f10) = true)
    (a11 : PySem.W.nsIn K mainGlobals "_law_width" = some (some (.ref f11))) (l11 : K.lookup f11 = some ⟨oc11, od11, .func (PySem.W.fnOf "_law_width" "_law_width" (defArgs s__law_width) (defBody s__law_width) (defScope s__law_width) .none kV11 dc11 pm11 an11 cd11 ct11), sl11⟩) (c11 : PySem.W.codeIn K cd11 "_law_width" = true) (k11 : PySem.W.keepIn K (.ref f11) = true)
    (a12 : PySem.W.nsIn K mainGlobals "_law_due" = some (some (.ref f12))) (l12 : K.lookup f12 = some ⟨oc12, od12, .func (PySem.W.fnOf "_law_due" "_law_due" (defArgs s__law_due) (defBody s__law_due) (defScope s__law_due) .none kV12 dc12 pm12 an12 cd12 ct12), sl12⟩) (c12 : PySem.W.codeIn K cd12 "_law_due" = true) (k12 : PySem.W.keepIn K (.ref f12) = true)
    (a13 : PySem.W.nsIn K mainGlobals "_law_drawn_word" = some (some (.ref f13))) (l13 : K.lookup f13 = some ⟨oc13, od13, .func (PySem.W.fnOf "_law_drawn_word" "_law_drawn_word" (defArgs s__law_drawn_word) (defBody s__law_drawn_word) (defScope s__law_drawn_word) .none kV13 dc13 pm13 an13 cd13 ct13), sl13⟩) (c13 : PySem.W.codeIn K cd13 "_law_drawn_word" = true) (k13 : PySem.W.keepIn K (.ref f13) = true)
    (a14 : PySem.W.nsIn K mainGlobals "_law_drawn_text" = some (some (.ref f14))) (l14 : K.lookup f14 = some ⟨oc14, od14, .func (PySem.W.fnOf "_law_drawn_text" "_law_drawn_text" (defArgs s__law_drawn_text) (defBody s__law_drawn_text) (defScope s__law_drawn_text) .none kV14 dc14 pm14 an14 cd14 ct14), sl14⟩) (c14 : PySem.W.codeIn K cd14 "_law_drawn_text" = true) (k14 : PySem.W.keepIn K (.ref f14) = true)
    (a15 : PySem.W.nsIn K mainGlobals "_law_cut" = some (some (.ref f15))) (l15 : K.lookup f15 = some ⟨oc15, od15, .func (PySem.W.fnOf "_law_cut" "_law_cut" (defArgs s__law_cut) (defBody s__law_cut) (defScope s__law_cut) .none kV15 dc15 pm15 an15 cd15 ct15), sl15⟩) (c15 : PySem.W.codeIn K cd15 "_law_cut" = true) (k15 : PySem.W.keepIn K (.ref f15) = true)
    (a16 : PySem.W.nsIn K mainGlobals "_law_rows_right" = some (some (.ref f16))) (l16 : K.lookup f16 = some ⟨oc16, od16, .func (PySem.W.fnOf "_law_rows_right" "_law_rows_right" (defArgs s__law_rows_right) (defBody s__law_rows_right) (defScope s__law_rows_right) .none kV16 dc16 pm16 an16 cd16 ct16), sl16⟩) (c16 : PySem.W.codeIn K cd16 "_law_rows_right" = true) (k16 : PySem.W.keepIn K (.ref f16) = true)
    (a17 : PySem.W.nsIn K mainGlobals "law" = some (some (.ref f17))) (l17 : K.lookup f17 = some ⟨oc17, od17, .func (PySem.W.fnOf "law" "law" (defArgs s_law) (defBody s_law) (defScope s_law) .none kV17 dc17 pm17 an17 cd17 ct17), sl17⟩) (c17 : PySem.W.codeIn K cd17 "law" = true) (k17 : PySem.W.keepIn K (.ref f17) = true)
    (z_abs : PySem.W.nsIn K mainGlobals "abs" = some none)
    (z_bool : PySem.W.nsIn K mainGlobals "bool" = some none)
    (z_int : PySem.W.nsIn K mainGlobals "int" = some none)
    (z_isinstance : PySem.W.nsIn K mainGlobals "isinstance" = some none)
    (z_len : PySem.W.nsIn K mainGlobals "len" = some none)
    (z_list : PySem.W.nsIn K mainGlobals "list" = some none)
    (z_min : PySem.W.nsIn K mainGlobals "min" = some none)
    (z_range : PySem.W.nsIn K mainGlobals "range" = some none)
    (z_str : PySem.W.nsIn K mainGlobals "str" = some none)
    (z_tuple : PySem.W.nsIn K mainGlobals "tuple" = some none) :
    ∃ fd : FuncData, (∀ (s : Shared) (v : Value), BindsTo s fd ⟨[v], []⟩ [("script", v)]) ∧ ∀ base : Heap, K.In base → base.Ns mainGlobals mg → FnOk l.prog w K mg base CX0 6 fa fd ["script"] (sp_law K) := by
  have e := hfa.symm.trans (PySem.W.mg_of X G a17)
  cases e
  have T : Tx mg := ⟨PySem.W.mg_none_of X G z_abs, PySem.W.mg_none_of X G z_bool, PySem.W.mg_none_of X G z_int, PySem.W.mg_none_of X G z_isinstance, PySem.W.mg_none_of X G z_len, PySem.W.mg_none_of X G z_list, PySem.W.mg_none_of X G z_min, PySem.W.mg_none_of X G z_range, PySem.W.mg_none_of X G z_str, PySem.W.mg_none_of X G z_tuple⟩
  refine ⟨PySem.W.fnOf "law" "law" (defArgs s_law) (defBody s_law) (defScope s_law) .none kV17 dc17 pm17 an17 cd17 ct17, fun s v => .of_eq rfl, fun base _ _ => ?_⟩
  have D_fold_place : Df K mg "fold_place" s_fold_place ["text", "width"] := ⟨f0, _, fun_mk (st := s_fold_place) l0 c0 k0, PySem.W.mg_of X G a0, (fun_mk (st := s_fold_place) l0 c0 k0).binds (ps := ["text", "width"]) fun _ _ _ _ _ _ us hl => match us, hl with | [_, _], _ => rfl⟩
  have D_fold : Df K mg "fold" s_fold ["text", "width"] := ⟨f1, _, fun_mk (st := s_fold) l1 c1 k1, PySem.W.mg_of X G a1, (fun_mk (st := s_fold) l1 c1 k1).binds (ps := ["text", "width"]) fun _ _ _ _ _ _ us hl => match us, hl with | [_, _], _ => rfl⟩
  have D_unfold : Df K mg "unfold" s_unfold ["rows"] := ⟨f2, _, fun_mk (st := s_unfold) l2 c2 k2, PySem.W.mg_of X G a2, (fun_mk (st := s_unfold) l2 c2 k2).binds (ps := ["rows"]) fun _ _ _ _ _ _ us hl => match us, hl with | [_], _ => rfl⟩
  have D__law_mix : Df K mg "_law_mix" s__law_mix ["seed", "turn"] := ⟨f3, _, fun_mk (st := s__law_mix) l3 c3 k3, PySem.W.mg_of X G a3, (fun_mk (st := s__law_mix) l3 c3 k3).binds (ps := ["seed", "turn"]) fun _ _ _ _ _ _ us hl => match us, hl with | [_, _], _ => rfl⟩
  have D__law_source : Df K mg "_law_source" s__law_source ["script"] := ⟨f4, _, fun_mk (st := s__law_source) l4 c4 k4, PySem.W.mg_of X G a4, (fun_mk (st := s__law_source) l4 c4 k4).binds (ps := ["script"]) fun _ _ _ _ _ _ us hl => match us, hl with | [_], _ => rfl⟩
  have D__law_draw : Df K mg "_law_draw" s__law_draw ["source", "many"] := ⟨f5, _, fun_mk (st := s__law_draw) l5 c5 k5, PySem.W.mg_of X G a5, (fun_mk (st := s__law_draw) l5 c5 k5).binds (ps := ["source", "many"]) fun _ _ _ _ _ _ us hl => match us, hl with | [_, _], _ => rfl⟩
  have D__law_pick : Df K mg "_law_pick" s__law_pick ["source", "row"] := ⟨f6, _, fun_mk (st := s__law_pick) l6 c6 k6, PySem.W.mg_of X G a6, (fun_mk (st := s__law_pick) l6 c6 k6).binds (ps := ["source", "row"]) fun _ _ _ _ _ _ us hl => match us, hl with | [_, _], _ => rfl⟩
  have D__law_once_in : Df K mg "_law_once_in" s__law_once_in ["source", "many"] := ⟨f7, _, fun_mk (st := s__law_once_in) l7 c7 k7, PySem.W.mg_of X G a7, (fun_mk (st := s__law_once_in) l7 c7 k7).binds (ps := ["source", "many"]) fun _ _ _ _ _ _ us hl => match us, hl with | [_, _], _ => rfl⟩
  have D__law_is_int : Df K mg "_law_is_int" s__law_is_int ["value"] := ⟨f8, _, fun_mk (st := s__law_is_int) l8 c8 k8, PySem.W.mg_of X G a8, (fun_mk (st := s__law_is_int) l8 c8 k8).binds (ps := ["value"]) fun _ _ _ _ _ _ us hl => match us, hl with | [_], _ => rfl⟩
  have D__law_same : Df K mg "_law_same" s__law_same ["actual", "due"] := ⟨f9, _, fun_mk (st := s__law_same) l9 c9 k9, PySem.W.mg_of X G a9, (fun_mk (st := s__law_same) l9 c9 k9).binds (ps := ["actual", "due"]) fun _ _ _ _ _ _ us hl => match us, hl with | [_, _], _ => rfl⟩
  have D__law_signs : Df K mg "_law_signs" s__law_signs [] := ⟨f10, _, fun_mk (st := s__law_signs) l10 c10 k10, PySem.W.mg_of X G a10, (fun_mk (st := s__law_signs) l10 c10 k10).binds (ps := []) fun _ _ _ _ _ _ us hl => match us, hl with | [], _ => rfl⟩
  have D__law_width : Df K mg "_law_width" s__law_width ["source"] := ⟨f11, _, fun_mk (st := s__law_width) l11 c11 k11, PySem.W.mg_of X G a11, (fun_mk (st := s__law_width) l11 c11 k11).binds (ps := ["source"]) fun _ _ _ _ _ _ us hl => match us, hl with | [_], _ => rfl⟩
  have D__law_due : Df K mg "_law_due" s__law_due ["text", "width"] := ⟨f12, _, fun_mk (st := s__law_due) l12 c12 k12, PySem.W.mg_of X G a12, (fun_mk (st := s__law_due) l12 c12 k12).binds (ps := ["text", "width"]) fun _ _ _ _ _ _ us hl => match us, hl with | [_, _], _ => rfl⟩
  have D__law_drawn_word : Df K mg "_law_drawn_word" s__law_drawn_word ["source", "most"] := ⟨f13, _, fun_mk (st := s__law_drawn_word) l13 c13 k13, PySem.W.mg_of X G a13, (fun_mk (st := s__law_drawn_word) l13 c13 k13).binds (ps := ["source", "most"]) fun _ _ _ _ _ _ us hl => match us, hl with | [_, _], _ => rfl⟩
  have D__law_drawn_text : Df K mg "_law_drawn_text" s__law_drawn_text ["source", "width"] := ⟨f14, _, fun_mk (st := s__law_drawn_text) l14 c14 k14, PySem.W.mg_of X G a14, (fun_mk (st := s__law_drawn_text) l14 c14 k14).binds (ps := ["source", "width"]) fun _ _ _ _ _ _ us hl => match us, hl with | [_, _], _ => rfl⟩
  have D__law_cut : Df K mg "_law_cut" s__law_cut ["source", "text"] := ⟨f15, _, fun_mk (st := s__law_cut) l15 c15 k15, PySem.W.mg_of X G a15, (fun_mk (st := s__law_cut) l15 c15 k15).binds (ps := ["source", "text"]) fun _ _ _ _ _ _ us hl => match us, hl with | [_, _], _ => rfl⟩
  have D__law_rows_right : Df K mg "_law_rows_right" s__law_rows_right ["rows", "text", "width"] := ⟨f16, _, fun_mk (st := s__law_rows_right) l16 c16 k16, PySem.W.mg_of X G a16, (fun_mk (st := s__law_rows_right) l16 c16 k16).binds (ps := ["rows", "text", "width"]) fun _ _ _ _ _ _ us hl => match us, hl with | [_, _, _], _ => rfl⟩
  have C__law_mix := ok__law_mix (P := l.prog) (w := w) (base := base) D__law_mix T 
  have C__law_draw := ok__law_draw (P := l.prog) (w := w) (base := base) D__law_draw T C__law_mix
  have C__law_cut := ok__law_cut (P := l.prog) (w := w) (base := base) D__law_cut T C__law_draw
  have C__law_pick := ok__law_pick (P := l.prog) (w := w) (base := base) D__law_pick T C__law_draw
  have C__law_signs := ok__law_signs (P := l.prog) (w := w) (base := base) D__law_signs T 
  have C__law_drawn_word := ok__law_drawn_word (P := l.prog) (w := w) (base := base) D__law_drawn_word T C__law_draw C__law_pick C__law_signs
  have C__law_drawn_text := ok__law_drawn_text (P := l.prog) (w := w) (base := base) D__law_drawn_text T C__law_draw C__law_drawn_word C__law_pick
  have C__law_due := ok__law_due (P := l.prog) (w := w) (base := base) D__law_due T 
  have C__law_once_in := ok__law_once_in (P := l.prog) (w := w) (base := base) D__law_once_in T C__law_draw
  have C__law_rows_right := ok__law_rows_right (P := l.prog) (w := w) (base := base) D__law_rows_right T 
  have C__law_is_int := ok__law_is_int (P := l.prog) (w := w) (base := base) D__law_is_int T 
  have C__law_same := ok__law_same (P := l.prog) (w := w) (base := base) D__law_same T C__law_is_int 2
  have C__law_source := ok__law_source (P := l.prog) (w := w) (base := base) D__law_source T C__law_mix
  have C__law_width := ok__law_width (P := l.prog) (w := w) (base := base) D__law_width T C__law_draw C__law_pick
  have C_fold_place := ok_fold_place (P := l.prog) (w := w) (base := base) D_fold_place T 
  have C_fold := ok_fold (P := l.prog) (w := w) (base := base) D_fold T C_fold_place
  have C_unfold := ok_unfold (P := l.prog) (w := w) (base := base) D_unfold T 
  exact ok_law (fun_mk (st := s_law) l17 c17 k17) T C__law_cut C__law_drawn_text C__law_due C__law_once_in C__law_rows_right C__law_same C__law_source C__law_width C_fold C_unfold
theorem walk {l : PySem.W.OpenLaw} {q : Program} {loose : List Str} {XP : (Str → Option Value) → Heap → Prop} {YP : World → Heap → Prop} {d : DefRec} {K : Params → PySem.W.Frag} (hn : l.most = some 63) (hdf : d.params.defaults = [])
    (hY : ∀ (w : World) (h : Heap), YP w h → (K w.params).In h)
    (F : ∀ (w : World) (mg : Str → Option Value) (fa : Addr) (h : Heap), (K w.params).In h → h.Ns mainGlobals mg → mg d.name = some (.ref fa) →
      ∃ fd : FuncData, (∀ (s : Shared) (u : Value), BindsTo s fd ⟨[u], []⟩ [("script", u)]) ∧ ∀ base : Heap, (K w.params).In base → base.Ns mainGlobals mg → FnOk l.prog w (K w.params) mg base CX0 6 fa fd ["script"] (sp_law (K w.params))) :
    PySem.W.WalkO q loose XP YP l.row.toRowW d [] (fun f vs => PySem.call f vs) :=
  L2.walk_of (n := 63) (k := 6) (x := "script") (CX := fun _ => CX0) (sp := fun w => sp_law (K w.params)) hn (by decide) hdf ⟨rfl, by decide, by decide⟩ hY F (fun _ _ a ns hl _ hS => ⟨a, ns, rfl, hS, hl, fun _ => rfl⟩) fun _ _ _ _ _ z => z
end Z
open PySem PySem.W PyProof.Rows in
set_option maxRecDepth 100000 in
set_option maxHeartbeats 0 in
theorem PySem.Challenge.cw_criermoot_k06_folds_holds : PySem.Challenge.rw_criermoot_k06_folds.Holds := by
  w_on; o_law; k_head; (case hw => w_witness2)
  k_fill
  refine Z.walk (l := PySem.Challenge.rw_criermoot_k06_folds) rfl rfl (fun w h Y => PySem.W.kIn_of Y) ?F
  case F =>
    intro w mg fa h KX G hmg
    refine' Z.all_mk KX G hmg ?a0 ?l0 ?c0 ?k0 ?a1 ?l1 ?c1 ?k1 ?a2 ?l2 ?c2 ?k2 ?a3 ?l3 ?c3 ?k3 ?a4 ?l4 ?c4 ?k4 ?a5 ?l5 ?c5 ?k5 ?a6 ?l6 ?c6 ?k6 ?a7 ?l7 ?c7 ?k7 ?a8 ?l8 ?c8 ?k8 ?a9 ?l9 ?c9 ?k9 ?a10 ?l10 ?c10 ?k10 ?a11 ?l11 ?c11 ?k11 ?a12 ?l12 ?c12 ?k12 ?a13 ?l13 ?c13 ?k13 ?a14 ?l14 ?c14 ?k14 ?a15 ?l15 ?c15 ?k15 ?a16 ?l16 ?c16 ?k16 ?a17 ?l17 ?c17 ?k17 ?z_abs ?z_bool ?z_int ?z_isinstance ?z_len ?z_list ?z_min ?z_range ?z_str ?z_tuple
    (case a0 => k_is)
    (case l0 => k_is)
    (case c0 => k_is)
    (case k0 => k_is)
    (case a1 => k_is)
    (case l1 => k_is)
    (case c1 => k_is)
    (case k1 => k_is)
    (case a2 => k_is)
    (case l2 => k_is)
    (case c2 => k_is)
    (case k2 => k_is)
    (case a3 => k_is)
    (case l3 => k_is)
    (case c3 => k_is)
    (case k3 => k_is)
    (case a4 => k_is)
    (case l4 => k_is)
    (case c4 => k_is)
    (case k4 => k_is)
    (case a5 => k_is)
    (case l5 => k_is)
    (case c5 => k_is)
    (case k5 => k_is)
    (case a6 => k_is)
    (case l6 => k_is)
    (case c6 => k_is)
    (case k6 => k_is)
    (case a7 => k_is)
    (case l7 => k_is)
    (case c7 => k_is)
    (case k7 => k_is)
    (case a8 => k_is)
    (case l8 => k_is)
    (case c8 => k_is)
    (case k8 => k_is)
    (case a9 => k_is)
    (case l9 => k_is)
    (case c9 => k_is)
    (case k9 => k_is)
    (case a10 => k_is)
    (case l10 => k_is)
    (case c10 => k_is)
    (case k10 => k_is)
    (case a11 => k_is)
    (case l11 => k_is)
    (case c11 => k_is)
    (case k11 => k_is)
    (case a12 => k_is)
    (case l12 => k_is)
    (case c12 => k_is)
    (case k12 => k_is)
    (case a13 => k_is)
    (case l13 => k_is)
    (case c13 => k_is)
    (case k13 => k_is)
    (case a14 => k_is)
    (case l14 => k_is)
    (case c14 => k_is)
    (case k14 => k_is)
    (case a15 => k_is)
    (case l15 => k_is)
    (case c15 => k_is)
    (case k15 => k_is)
    (case a16 => k_is)
    (case l16 => k_is)
    (case c16 => k_is)
    (case k16 => k_is)
    (case a17 => k_is)
    (case l17 => k_is)
    (case c17 => k_is)
    (case k17 => k_is)
    (case z_abs => k_is)
    (case z_bool => k_is)
    (case z_int => k_is)
    (case z_isinstance => k_is)
    (case z_len => k_is)
    (case z_list => k_is)
    (case z_min => k_is)
    (case z_range => k_is)
    (case z_str => k_is)
    (case z_tuple => k_is)
