import PyProof.Rows.All
import Wide.All
import OpenK.AllK
import Wide.FinOn
import HandS.Base
import HandS.Call
import HandS.List
import HandS.Comp
import HandS.Ends
import HandS.Dict
import HandS.Iter
import HandS.Text
import HandS.Words
import HandS.WordsList
import HandS.Conv
import HandS.Codes
import HandS.IsInst
import HandS.Replace
import HandS.StrMore
import HandS.TupAny
import HandS.WideBits
import HandS.Rev
import PySem.Challenge.RW_criermoot_k19_feeds_pass
set_option Elab.async false
set_option linter.all false
set_option maxRecDepth 100000
namespace Z
open PySem L2

/-! ### heaps -/
/-- all that was tracked is as it was, but for what stands at s -/
def Ext (s : Addr) (H H' : Hp) : Prop := ∀ b o, b ≠ s → H b = some o → H' b = some o
theorem Ext.refl (s : Addr) (H : Hp) : Ext s H H := fun _ _ _ h => h
theorem Ext.trans {s : Addr} {H H1 H2 : Hp} (a : Ext s H H1) (b : Ext s H1 H2) : Ext s H H2 := fun c o n h => b c o n (a c o n h)
theorem Ext.of {s : Addr} {H H' : Hp} (a : Same H H') : Ext s H H' := fun c o _ h => a c o h
theorem Ext.new {s p : Addr} {H : Hp} {o : HO} (n : H p = none) : Ext s H (upd H p o) := fun b u _ h => by
  rw [upd_ne (ne_of_none h n)]; exact h
theorem Ext.put {s : Addr} {H : Hp} {o : HO} : Ext s H (upd H s o) := fun b u n h => by
  rw [upd_ne n]; exact h
theorem same_new {p : Addr} {H : Hp} {o : HO} (n : H p = none) : Same H (upd H p o) := fun b u h => by
  rw [upd_ne (ne_of_none h n)]; exact h
theorem Ext.seqT {K : PySem.W.Frag} {s a : Addr} {H H' : Hp} {xs ys : List V} (x : Ext s H H') (hs : H s = some (.lst ys)) (h : SqT K H a xs) : SqT K H' a xs := by
  rcases h with (h | ⟨o, h⟩) | h
  · exact .inl (.inl (x _ _ (fun e => by rw [e, hs] at h; cases h) h))
  · exact .inl (.inr ⟨o, x _ _ (fun e => by rw [e, hs] at h; cases h) h⟩)
  · exact .inr h
theorem Ext.seqL {K : PySem.W.Frag} {s a : Addr} {H H' : Hp} {xs : List V} (x : Ext s H H') (n : a ≠ s) (h : SqL K H a xs) : SqL K H' a xs := by
  rcases h with (h | ⟨o, h⟩) | h
  · exact .inl (.inl (x _ _ n h))
  · exact .inl (.inr ⟨o, x _ _ n h⟩)
  · exact .inr h

theorem and_nn {x : Int} (hx : 0 ≤ x) (k : Nat) : 0 ≤ Builtin.bitAnd x (1 * 2 ^ k - 1) := by
  rw [Int.one_mul, Bits.bitAnd_mask k hx]
  exact Int.emod_nonneg _ (Int.ne_of_gt (Int.pow_pos (by decide)))
/-! ### the source of draws -/
def Src (H : Hp) (s a : Addr) (c : Nat) : Prop := ∃ (ns : List Int) (i b e t : Int),
  H s = some (.lst [.ref a, .int i, .int b, .int e, .int t]) ∧ H a = some (.lst (ns.map V.int)) ∧ a ≠ s ∧ ns.length ≤ 63 ∧ 0 ≤ i ∧ i ≤ 63 ∧ 0 ≤ b ∧ 0 ≤ e ∧ e < 2147483647 ∧ 0 ≤ t ∧ t + c < 4000000000000000000
theorem Src.lst {H : Hp} {s a : Addr} {c : Nat} (h : Src H s a c) : ∃ xs, H s = some (.lst xs) := by
  obtain ⟨_, _, _, _, _, h, _⟩ := h; exact ⟨_, h⟩
theorem Src.mono {H : Hp} {s a : Addr} {c d : Nat} (h : Src H s a c) (l : d ≤ c) : Src H s a d := by
  obtain ⟨ns, i, b, e, t, h1, h2, h3, h4, h5, h6, h7, h8, h9, h10, h11⟩ := h
  exact ⟨ns, i, b, e, t, h1, h2, h3, h4, h5, h6, h7, h8, h9, h10, by omega⟩
theorem Src.ext {H H' : Hp} {s a : Addr} {c : Nat} (h : Src H s a c) (x : Same H H') : Src H' s a c := by
  obtain ⟨ns, i, b, e, t, h1, h2, h3⟩ := h
  exact ⟨ns, i, b, e, t, x _ _ h1, x _ _ h2, h3⟩
theorem Src.new {H : Hp} {s a p : Addr} {o : HO} {c : Nat} (h : Src H s a c) (n : H p = none) : Src (upd H p o) s a c := h.ext (same_new n)
theorem Src.ne {H : Hp} {s a p : Addr} {c : Nat} (h : Src H s a c) (n : H p = none) : p ≠ s := by
  obtain ⟨xs, e⟩ := h.lst
  exact (ne_of_none e n).symm
theorem Src.nea {H : Hp} {s a p : Addr} {c : Nat} (h : Src H s a c) (n : H p = none) : p ≠ a := by
  obtain ⟨ns, i, b, e, t, h1, h2, h3⟩ := h
  exact (ne_of_none h2 n).symm
theorem Src.put {H : Hp} {s a p : Addr} {o : HO} {c : Nat} (h : Src H s a c) (n : p ≠ s) (m : p ≠ a) : Src (upd H p o) s a c := by
  obtain ⟨ns, i, b, e', t, h1, h2, h3⟩ := h
  exact ⟨ns, i, b, e', t, by rw [upd_ne n.symm]; exact h1, by rw [upd_ne m.symm]; exact h2, h3⟩

/-! ### defs and their callers -/
section
variable (P : Program) (w : World) (K : PySem.W.Frag) (mg : Str → Option Value) (base : Heap)
/-- a def as callers use it -/
def Cal (x : Str) (ps : List Str) (k : Nat) (sp : Sp) : Prop := ∃ (f : Addr) (fd : FuncData), FnOk P w K mg base CX0 k f fd ps sp ∧ mg x = some (.ref f) ∧ PySem.W.keepIn K (.ref f) = true ∧ Binds K fd ps []
/-- a def as the top has left it -/
def Df (x : Str) (st : Stmt) (ps : List Str) : Prop := ∃ (f : Addr) (fd : FuncData), Fun K x x st f fd ∧ mg x = some (.ref f) ∧ Binds K fd ps []
end
theorem Cal.mono {P : Program} {w : World} {K : PySem.W.Frag} {mg : Str → Option Value} {base : Heap} {x : Str} {ps : List Str} {j k : Nat} {sp : Sp} (C : Cal P w K mg base x ps j sp) (h : j ≤ k) : Cal P w K mg base x ps k sp := by
  obtain ⟨f, fd, G, g, kp, b⟩ := C
  exact ⟨f, fd, G.mono h, g, kp, b⟩

/-! ### the promises of the drawing defs -/
def sp__law_mix : Sp := fun vs H Q _ => ∃ (x y : Int), vs = [.int x, .int y] ∧ 0 ≤ x ∧ x < 9000000000000000000 ∧ 0 ≤ y ∧ y < 9000000000000000000 ∧ ∀ v : Int, 0 ≤ v → v < 2147483647 → Q (.int v) H
def sp__law_source (K : PySem.W.Frag) : Sp := fun vs H Q _ => ∃ (a : Addr) (ns : List Int), vs = [.ref a] ∧ SqL K H a (ns.map V.int) ∧ ns.length ≤ 63 ∧ ∀ (s b : Addr) (H' : Hp), H s = none → Same H H' → Src H' s b 3000000000000000000 → Q (.ref s) H'
def sp__law_draw : Sp := fun vs H Q _ => ∃ (s a : Addr) (m : Int) (c : Nat), vs = [.ref s, .int m] ∧ 0 < m ∧ m < 1073741824 ∧ Src H s a (c + 1) ∧ ∀ (v : Int) (H' : Hp), 0 ≤ v → v < m → Ext s H H' → Src H' s a c → Q (.int v) H'

/-! ### data -/
inductive D where
  | non | bl (b : Bool) | int (i : Int) | str (x : Str) | tup (xs : List D)
mutual
def DV (K : PySem.W.Frag) (H : Hp) : D → V → Prop
  | .non, v => v = .non
  | .bl b, v => v = .bl b
  | .int i, v => v = .int i
  | .str x, v => v = .str x
  | .tup ds, v => ∃ a vs, v = .ref a ∧ SqT K H a vs ∧ DVs K H ds vs
def DVs (K : PySem.W.Frag) (H : Hp) : List D → List V → Prop
  | [], vs => vs = []
  | d :: ds, vs => ∃ v r, vs = v :: r ∧ DV K H d v ∧ DVs K H ds r
end
mutual
theorem DV.ext {K : PySem.W.Frag} {H H' : Hp} (x : ∀ a xs, SqT K H a xs → SqT K H' a xs) : ∀ {d : D} {v : V}, DV K H d v → DV K H' d v
  | .non, _, h => by unfold DV at *; exact h
  | .bl _, _, h => by unfold DV at *; exact h
  | .int _, _, h => by unfold DV at *; exact h
  | .str _, _, h => by unfold DV at *; exact h
  | .tup ds, v, h => by
    unfold DV at *
    obtain ⟨a, vs, e, q, r⟩ := h
    exact ⟨a, vs, e, x _ _ q, DVs.ext x r⟩
theorem DVs.ext {K : PySem.W.Frag} {H H' : Hp} (x : ∀ a xs, SqT K H a xs → SqT K H' a xs) : ∀ {ds : List D} {vs : List V}, DVs K H ds vs → DVs K H' ds vs
  | [], _, h => by unfold DVs at *; exact h
  | d :: ds, vs, h => by
    unfold DVs at *
    obtain ⟨v, r, e, q, t⟩ := h
    exact ⟨v, r, e, DV.ext x q, DVs.ext x t⟩
end
theorem DVs.len {K : PySem.W.Frag} {H : Hp} : ∀ {ds : List D} {vs : List V}, DVs K H ds vs → vs.length = ds.length
  | [], _, h => by unfold DVs at h; subst h; rfl
  | d :: ds, vs, h => by
    unfold DVs at h
    obtain ⟨v, r, e, q, t⟩ := h
    rw [e, List.length_cons, List.length_cons, DVs.len t]
theorem DVs.get {K : PySem.W.Frag} {H : Hp} : ∀ {ds : List D} {vs : List V} {i : Nat} {d : D}, DVs K H ds vs → ds[i]? = some d → ∃ v, vs[i]? = some v ∧ DV K H d v
  | [], _, i, d, h, e => by simp at e
  | x :: ds, vs, i, d, h, e => by
    unfold DVs at h
    obtain ⟨v, r, e1, q, t⟩ := h
    subst e1
    cases i with
    | zero =>
      have : x = d := by simpa using e
      subst this
      exact ⟨v, rfl, q⟩
    | succ i => exact DVs.get (i := i) t (by simpa using e)
theorem DVs.strs {K : PySem.W.Frag} {H : Hp} : ∀ (xs : List Str), DVs K H (xs.map D.str) (xs.map V.str)
  | [] => by unfold DVs; rfl
  | x :: xs => by
    unfold DVs
    exact ⟨_, _, rfl, by unfold DV; rfl, DVs.strs xs⟩
theorem DVs.ints {K : PySem.W.Frag} {H : Hp} : ∀ (xs : List Int), DVs K H (xs.map D.int) (xs.map V.int)
  | [] => by unfold DVs; rfl
  | x :: xs => by
    unfold DVs
    exact ⟨_, _, rfl, by unfold DV; rfl, DVs.ints xs⟩
/-- tuples lie within fewer than n others -/
def DL : Nat → D → Prop
  | 0, _ => False
  | n + 1, .tup xs => xs.length ≤ 1000000 ∧ ∀ x ∈ xs, DL n x
  | _ + 1, _ => True
theorem TyX.ofT {K : PySem.W.Frag} {H : Hp} {a : Addr} {xs : List V} (h : SqT K H a xs) : TyX K H (.ref a) (.type "tuple") := by
  rcases h with (h | ⟨o, h⟩) | ⟨o, _, _, e, c, _⟩
  · exact .base (.tup h)
  · exact .fTuple h
  · exact .kTuple e c
def sp__law_is_int (K : PySem.W.Frag) : Sp := fun vs H Q _ => ∃ i : Int, vs = [.int i] ∧ Q (.bl true) H
/-- of two values with the same data it tells True -/
def sp__law_same (K : PySem.W.Frag) (n : Nat) : Sp := fun vs H Q _ => ∃ (d : D) (v u : V), vs = [v, u] ∧ DV K H d v ∧ DV K H d u ∧ DL n d ∧ Q (.bl true) H

/-! ### texts by their signs -/
open SX (S S_cat S_len S_inj)
theorem S_lst (l : List Nat) : (S l).cps.toList = l := rfl
theorem S_of (x : Str) : x = S x.cps.toList := (SX.S_tl x).symm
theorem S_app (a b : List Nat) : S a ++ S b = S (a ++ b) := S_cat a b
/-- a for over the signs of a text -/
theorem for_str {l : List Nat} {g : TG} {tb : TS} {D : Ends} {σ : St} {H : Hp} (Pv : Nat → St → Hp → Prop) (h0 : Pv 0 σ H)
    (hs : ∀ i c σ H, l[i]? = some c → Pv i σ H → g (.str (S [c])) σ H fun σ2 H2 => tb { D with nx := Pv (i + 1), ct := Pv (i + 1), bk := D.nx } σ2 H2) (hd : ∀ σ H, Pv l.length σ H → D.nx σ H) :
    ∃ W : Nat → Nat → St → Hp → Prop, (∃ m, W 0 m σ H) ∧ ∀ i m σ H, W i m σ H →
      ((Its (S l)).stop i H ∧ D.nx σ H) ∨ ((Its (S l)).go i H ∧ ∃ N : St → Hp → Prop, (∀ σ' H', N σ' H' → ∃ m', m' < m ∧ W (i + 1) m' σ' H') ∧ ∀ x H', (Its (S l)).yld i H x H' → g x σ H' fun σ2 H2 => tb { D with nx := N, ct := N, bk := D.nx } σ2 H2) := by
  refine ⟨fun i m σ H => m = l.length - i ∧ i ≤ l.length ∧ Pv i σ H, ⟨l.length, by simp, Nat.zero_le _, h0⟩, ?_⟩
  rintro i m σ H ⟨rfl, hi, p⟩
  by_cases hlt : i < l.length
  · refine .inr ⟨by show i < l.toArray.size; simpa using hlt, Pv (i + 1), fun σ' H' p' => ⟨l.length - (i + 1), by omega, rfl, hlt, p'⟩, fun x H' y => ?_⟩
    obtain ⟨e, c, hc, y⟩ := y
    subst e y
    exact hs i c σ _ (by simpa using hc) p
  · have e : i = l.length := by omega
    subst e
    exact .inl ⟨by show l.toArray.size ≤ l.length; simp, hd σ H p⟩
/-- a comprehension over the signs of a text -/
theorem lc_str {l : List Nat} {g : TG} {tt : TT} {te : TE} {vs : List Nat} {σ : St} {H1 : Hp} {D : Addr} {Qd : Hp → Prop} (Pv : Nat → Hp → Prop) (h0 : Pv 0 (upd H1 D (.lst [])))
    (hs : ∀ i c H, l[i]? = some c → Pv i H → g (.str (S [c])) (wipe σ vs) H fun σ2 H2 => wipe σ2 vs = wipe σ vs ∧ tt σ2 H2 fun b H3 =>
      if b = true then te σ2 H3 fun y H4 => ∃ acc, H4 D = some (.lst acc) ∧ acc.length < sizeLine ∧ Pv (i + 1) (upd H4 D (.lst (acc ++ [y]))) else Pv (i + 1) H3) (hd : ∀ H, Pv l.length H → Qd H) :
    ∃ W : Nat → Nat → Hp → Prop, (∃ m, W 0 m (upd H1 D (.lst []))) ∧ ∀ i m H, W i m H →
      ((Its (S l)).stop i H ∧ Qd H) ∨ ((Its (S l)).go i H ∧ ∃ Nx : Hp → Prop, (∀ H', Nx H' → ∃ m', m' < m ∧ W (i + 1) m' H') ∧ ∀ x H', (Its (S l)).yld i H x H' → g x (wipe σ vs) H' fun σ2 H2 => wipe σ2 vs = wipe σ vs ∧ tt σ2 H2 fun b H3 =>
        if b = true then te σ2 H3 fun y H4 => ∃ acc, H4 D = some (.lst acc) ∧ acc.length < sizeLine ∧ Nx (upd H4 D (.lst (acc ++ [y]))) else Nx H3) := by
  refine ⟨fun i m H => m = l.length - i ∧ i ≤ l.length ∧ Pv i H, ⟨l.length, by simp, Nat.zero_le _, h0⟩, ?_⟩
  rintro i m H ⟨rfl, hi, p⟩
  by_cases hlt : i < l.length
  · refine .inr ⟨by show i < l.toArray.size; simpa using hlt, Pv (i + 1), fun H' p' => ⟨l.length - (i + 1), by omega, rfl, hlt, p'⟩, fun x H' y => ?_⟩
    obtain ⟨e, c, hc, y⟩ := y
    subst e y
    exact hs i c _ (by simpa using hc) p
  · have e : i = l.length := by omega
    subst e
    exact .inl ⟨by show l.toArray.size ≤ l.length; simp, hd H p⟩
/-- signs of rows -/
def Asc (l : List Nat) : Prop := ∀ x ∈ l, 32 ≤ x ∧ x ≤ 126
theorem Asc.nil : Asc [] := fun _ h => nomatch h
theorem Asc.app {a b : List Nat} (x : Asc a) (y : Asc b) : Asc (a ++ b) := fun c h => (List.mem_append.mp h).elim (x c) (y c)
theorem Asc.by_ {l : List Nat} (h : l.all (fun x => decide (32 ≤ x) && decide (x ≤ 126)) = true) : Asc l := fun x m => by
  have := List.all_eq_true.mp h x m
  simp at this
  exact this
theorem Asc.all128 {l : List Nat} (h : Asc l) : l.all (· < 128) = true := List.all_eq_true.mpr fun x m => decide_eq_true (by have := h x m; omega)
theorem joinNil : ∀ ls : List (List Nat), TL.joinL [] ls = ls.flatten
  | [] => rfl
  | [x] => by simp [TL.joinL]
  | x :: y :: r => by
    have := joinNil (y :: r)
    simp only [TL.joinL] at *
    rw [List.flatten_cons, ← this]
    simp [TL.joinL]
theorem join_nil (ls : List (List Nat)) : Txt.join (S []) (ls.map S) = S ls.flatten := by
  rw [SX.join_S, joinNil]

/-! ### texts, further -/
abbrev tl (x : Str) : List Nat := x.cps.toList
theorem tl_S (l : List Nat) : tl (S l) = l := rfl
theorem S_tl (x : Str) : S (tl x) = x := rfl
theorem tl_app (x y : Str) : tl (x ++ y) = tl x ++ tl y := TL.tl_append x y
theorem tl_len (x : Str) : x.length = (tl x).length := by show x.cps.size = x.cps.toList.length; simp
theorem tl_ext {x y : Str} (h : tl x = tl y) : x = y := TL.ext_tl h
theorem at_str {x : Str} {i : Int} (h0 : 0 ≤ i) (h1 : i < (x.length : Int)) : ∃ c, x.cps[i.toNat]? = some c ∧ (tl x)[i.toNat]? = some c ∧ c ∈ tl x := by
  have h : i.toNat < (tl x).length := by rw [← tl_len]; omega
  refine ⟨(tl x)[i.toNat], ?_, List.getElem?_eq_getElem h, List.getElem_mem h⟩
  have := List.getElem?_eq_getElem h
  rw [← this]; simp [tl]
/-- small letters and digits -/
def Low (l : List Nat) : Prop := ∀ x ∈ l, (97 ≤ x ∧ x ≤ 122) ∨ (48 ≤ x ∧ x ≤ 57)
theorem Low.nil : Low [] := fun _ h => nomatch h
theorem Low.app {a b : List Nat} (x : Low a) (y : Low b) : Low (a ++ b) := fun c h => (List.mem_append.mp h).elim (x c) (y c)
theorem Low.asc {a : List Nat} (x : Low a) : Asc a := fun c h => by have := x c h; omega
theorem low_num (n : Nat) : Low (TL.numL n) := fun c h => .inr (by have := TL.numL_digits n c h; omega)
theorem num_len : ∀ n : Nat, (TL.numL n).length ≤ n + 1 := fun n => by
  induction n using Nat.strongRecOn with
  | ind n ih =>
    by_cases h : n < 10
    · rw [TL.numL_lt h]; simp
    · rw [TL.numL_step (by omega), List.length_append]
      have := ih (n / 10) (by omega)
      simp; omega
/-- a name: a letter, then letters and digits -/
def Nm (l : List Nat) : Prop := (∃ c r, l = c :: r ∧ 97 ≤ c ∧ c ≤ 122) ∧ Low l
theorem Nm.app {a b : List Nat} (x : Nm a) (y : Low b) : Nm (a ++ b) := by
  obtain ⟨⟨c, r, e, h⟩, l⟩ := x
  exact ⟨⟨c, r ++ b, by rw [e]; rfl, h⟩, l.app y⟩
theorem flat_strs (xs : List Str) : (xs.map V.str).all flatV = true := List.all_eq_true.mpr fun x h => by
  obtain ⟨y, _, rfl⟩ := List.mem_map.mp h; rfl
theorem inV_strs (x : Str) (xs : List Str) : inV (V.str x) (xs.map V.str) = decide (x ∈ xs) := by
  unfold inV
  induction xs with
  | nil => rfl
  | cons y ys ih =>
    rw [List.map_cons, List.any_cons, ih]
    by_cases e : x = y
    · subst e; simp [eqV]
    · have : ¬ y = x := fun h => e h.symm
      simp [eqV, e, this]
def sp__law_new_name (K : PySem.W.Frag) : Sp := fun vs H Q _ => ∃ (s a u : Addr) (us : List Str) (c : Nat), vs = [.ref s, .ref u] ∧ SqL K H u (us.map V.str) ∧ u ≠ s ∧ us.length ≤ 60 ∧ Src H s a (c + 8) ∧
  ∀ (x : Str) (H' : Hp), Nm (tl x) → (tl x).length ≤ 70 → Ext s H H' → Src H' s a c → Q (.str x) H'
def sp__law_names (K : PySem.W.Frag) : Sp := fun vs H Q _ => ∃ (s a : Addr) (m c : Nat), vs = [.ref s, .int m] ∧ m ≤ 60 ∧ Src H s a (c + 8 * m) ∧
  ∀ (u : Addr) (us : List Str) (H' : Hp), H u = none → H' u = some (.lst (us.map V.str)) → us.length = m → (∀ x ∈ us, Nm (tl x) ∧ (tl x).length ≤ 70) → Ext s H H' → Src H' s a c → Q (.ref u) H'
def sp__law_row : Sp := fun vs H Q _ => ∃ (s a : Addr) (m : Int) (c : Nat), vs = [.ref s, .int m] ∧ 0 ≤ m ∧ m ≤ 1000 ∧ Src H s a (c + m.toNat) ∧
  ∀ (x : Str) (H' : Hp), Asc (tl x) → (tl x).length = m.toNat → Ext s H H' → Src H' s a c → Q (.str x) H'

/-! ### rules that name the written part themselves (for the blocks of comprehensions) -/
section
variable {X : Cx} {K : PySem.W.Frag}
/-- len of a text -/
theorem call_lenS : CallR X (.builtin "len") (fun xs H Q => ∃ x : Str, xs = [.str x] ∧ x.length ≤ sizeLine ∧ Q (.int x.length) H) := by
  intro pins s σ H xs us Q I r h
  obtain ⟨x, e, hl, q⟩ := h
  exact call_len pins s σ H xs us Q I r ⟨.str x, x.length, e, ⟨hl, rfl⟩, q⟩
theorem call_lenQ (h : X.K = K) : CallR X (.builtin "len") (fun xs H Q => ∃ p ys, xs = [.ref p] ∧ (SqL K H p ys ∨ SqT K H p ys) ∧ Q (.int ys.length) H) := by
  subst h; exact call_len_seq
theorem ix_listQ (h : X.K = K) : IxR X (rIxL K) := by subst h; exact ix_list
theorem ix_tupQ (h : X.K = K) : IxR X (rIxT K) := by subst h; exact ix_tup
theorem in_seqQ (h : X.K = K) : OpR X (compareOp .In) (rIn K false) := by subst h; exact op_in_seq
theorem notIn_seqQ (h : X.K = K) : OpR X (compareOp .NotIn) (rIn K true) := by subst h; exact op_notIn_seq
theorem isiQ (h : X.K = K) : CallR X (.builtin "isinstance") (rIsi K) := by subst h; exact call_isi
end

/-- texts of one sign each -/
def Ones (p : Nat → Prop) (xs : List Str) : Prop := ∀ x ∈ xs, ∃ c, tl x = [c] ∧ p c
theorem Ones.tail {p : Nat → Prop} {x : Str} {xs : List Str} (h : Ones p (x :: xs)) : Ones p xs := fun y m => h y (List.mem_cons_of_mem _ m)
theorem ones_len {p : Nat → Prop} : ∀ {xs : List Str}, (∀ x ∈ xs, ∃ c, tl x = [c] ∧ p c) → (xs.map (·.length)).sum = xs.length
  | [], _ => rfl
  | x :: xs, h => by
    obtain ⟨c, e, _⟩ := h x List.mem_cons_self
    have : x.length = 1 := by rw [tl_len, e]; rfl
    rw [List.map_cons, List.sum_cons, ones_len (Ones.tail h), List.length_cons, this]
    omega
/-- their only signs -/
def heads (xs : List Str) : List Nat := xs.map fun x => (tl x).headD 0
theorem tl_join0 (xs : List Str) : tl (Txt.join (S []) xs) = (xs.map tl).flatten := by
  have e : xs = (xs.map tl).map S := by rw [List.map_map]; exact (List.map_id _).symm
  have h := join_nil (xs.map tl)
  rw [← e] at h
  show tl (Txt.join (S []) xs) = _
  rw [h]
theorem ones_join {p : Nat → Prop} {xs : List Str} (h : ∀ x ∈ xs, ∃ c, tl x = [c] ∧ p c) : tl (Txt.join (S []) xs) = heads xs := by
  rw [tl_join0]
  induction xs with
  | nil => rfl
  | cons x xs ih =>
    obtain ⟨c, e, _⟩ := h x List.mem_cons_self
    rw [List.map_cons, List.flatten_cons, ih (Ones.tail h), e]
    show c :: heads xs = (tl x).headD 0 :: heads xs
    rw [e]; rfl
theorem ones_all {p : Nat → Prop} {xs : List Str} (h : ∀ x ∈ xs, ∃ c, tl x = [c] ∧ p c) : ∀ c ∈ heads xs, p c := fun c m => by
  obtain ⟨x, hx, e⟩ := List.mem_map.mp m
  obtain ⟨d, e2, hd⟩ := h x hx
  rw [e2] at e
  have : d = c := e
  rw [← this]; exact hd
theorem str0 : Str.ofString "" = S [] := rfl
theorem ones_room {p : Nat → Prop} {xs : List Str} (h : ∀ x ∈ xs, ∃ c, tl x = [c] ∧ p c) : (xs.map (·.length)).sum + xs.length * (Str.ofString "").length = xs.length := by
  rw [ones_len h]; show xs.length + xs.length * 0 = xs.length; omega
theorem ones_joinE {p : Nat → Prop} {xs : List Str} (h : ∀ x ∈ xs, ∃ c, tl x = [c] ∧ p c) : tl (Txt.join (Str.ofString "") xs) = heads xs := ones_join h
theorem ones_asc {xs : List Str} (h : ∀ x ∈ xs, ∃ c, tl x = [c] ∧ 32 ≤ c ∧ c ≤ 126) : Asc (heads xs) := fun c m => ones_all (p := fun c => 32 ≤ c ∧ c ≤ 126) h c m
theorem heads_len (xs : List Str) : (heads xs).length = xs.length := List.length_map _

theorem alpha_mem {c : Nat} (h : c ∈ tl (Str.ofString "abcdefghijklmnopqrstuvwxyz")) : 97 ≤ c ∧ c ≤ 122 := by
  have : (tl (Str.ofString "abcdefghijklmnopqrstuvwxyz")).all (fun c => decide (97 ≤ c) && decide (c ≤ 122)) = true := by decide +kernel
  have := List.all_eq_true.mp this c h
  simp at this; exact this
theorem low_mem {c : Nat} (h : c ∈ tl (Str.ofString "abcdefghijklmnopqrstuvwxyz" ++ Str.ofString "0123456789")) : (97 ≤ c ∧ c ≤ 122) ∨ (48 ≤ c ∧ c ≤ 57) := by
  rw [tl_app] at h
  have : (tl (Str.ofString "abcdefghijklmnopqrstuvwxyz") ++ tl (Str.ofString "0123456789")).all (fun c => (decide (97 ≤ c) && decide (c ≤ 122)) || (decide (48 ≤ c) && decide (c ≤ 57))) = true := by decide +kernel
  have := List.all_eq_true.mp this c h
  simp at this; exact this

theorem log_small {i : Nat} (h : i ≤ 1000000) : (Int.natAbs (0 + (i : Int))).log2 < 1920 := by
  rw [Int.zero_add, Int.natAbs_natCast]
  by_cases e : i = 0
  · subst e; decide
  · rw [Nat.log2_lt e]
    exact Nat.lt_of_le_of_lt h (Nat.lt_of_lt_of_le (by decide : 1000000 < 2 ^ 20) (Nat.pow_le_pow_right (by decide) (by decide)))

theorem fold_take {α β : Type} {f : β → α → β} {a : β} {l : List α} {i : Nat} {c : α} (h : l[i]? = some c) : (l.take (i + 1)).foldl f a = f ((l.take i).foldl f a) c := by
  rw [List.take_add_one, h, List.foldl_append]
  rfl
theorem fold_all {α β : Type} {f : β → α → β} {a : β} {l : List α} : (l.take l.length).foldl f a = l.foldl f a := by rw [List.take_length]
theorem in_abc {c : Nat} : decide (c ∈ (Str.ofString "abcdefghijklmnopqrstuvwxyz").cps.toList) = (decide (97 ≤ c) && decide (c ≤ 122)) := by
  have e : (Str.ofString "abcdefghijklmnopqrstuvwxyz").cps.toList = List.range' 97 26 := by decide +kernel
  rw [e, Bool.eq_iff_iff, decide_eq_true_iff, List.mem_range'_1]
  simp only [Bool.and_eq_true, decide_eq_true_eq]
  omega
theorem in_ABC {c : Nat} : decide (c ∈ (Str.ofString "ABCDEFGHIJKLMNOPQRSTUVWXYZ").cps.toList) = (decide (65 ≤ c) && decide (c ≤ 90)) := by
  have e : (Str.ofString "ABCDEFGHIJKLMNOPQRSTUVWXYZ").cps.toList = List.range' 65 26 := by decide +kernel
  rw [e, Bool.eq_iff_iff, decide_eq_true_iff, List.mem_range'_1]
  simp only [Bool.and_eq_true, decide_eq_true_eq]
  omega
theorem in_012 {c : Nat} : decide (c ∈ (Str.ofString "0123456789").cps.toList) = (decide (48 ≤ c) && decide (c ≤ 57)) := by
  have e : (Str.ofString "0123456789").cps.toList = List.range' 48 10 := by decide +kernel
  rw [e, Bool.eq_iff_iff, decide_eq_true_iff, List.mem_range'_1]
  simp only [Bool.and_eq_true, decide_eq_true_eq]
  omega
theorem in_abc012 {c : Nat} : decide (c ∈ (Str.ofString "abcdefghijklmnopqrstuvwxyz0123456789").cps.toList) = ((decide (97 ≤ c) && decide (c ≤ 122)) || (decide (48 ≤ c) && decide (c ≤ 57))) := by
  have e : (Str.ofString "abcdefghijklmnopqrstuvwxyz0123456789").cps.toList = List.range' 97 26 ++ List.range' 48 10 := by decide +kernel
  rw [e, Bool.eq_iff_iff, decide_eq_true_iff, List.mem_append, List.mem_range'_1, List.mem_range'_1]
  simp only [Bool.and_eq_true, Bool.or_eq_true, decide_eq_true_eq]
  omega
/-- literal texts -/
theorem tl_mapS (ws : List Str) : (ws.map tl).map S = ws := by rw [List.map_map]; exact List.map_id _

theorem strs_at (zs : List Str) {v : Int} (h0 : 0 ≤ v) (h1 : v < (zs.length : Int)) : ∃ z, z ∈ zs ∧ atI (zs.map V.str) v = some (.str z) := by
  have h : v.toNat < zs.length := by omega
  exact ⟨zs[v.toNat], List.getElem_mem h, at_of (j := v.toNat) (by omega) (by rw [List.getElem?_map, List.getElem?_eq_getElem h]; rfl)⟩
theorem tl_upper {x : Str} (h : Asc (tl x)) : tl (Txt.upper x) = (tl x).map PyProof.Rows.up1 := congrArg tl (SX.upper_S (a := tl x) h.all128)
theorem asc_upper {x : Str} (h : Asc (tl x)) : Asc (tl (Txt.upper x)) := by
  rw [tl_upper h]
  intro c hc
  obtain ⟨d, hd, e⟩ := List.mem_map.mp hc
  have := h d hd
  unfold PyProof.Rows.up1 at e
  split at e <;> omega
theorem len_upper {x : Str} (h : Asc (tl x)) : (tl (Txt.upper x)).length = (tl x).length := by rw [tl_upper h, List.length_map]
theorem DL.strs {n : Nat} (xs : List Str) (h : xs.length ≤ 1000000) : DL (n + 2) (.tup (xs.map D.str)) := ⟨by rw [List.length_map]; exact h, fun d m => by obtain ⟨x, _, rfl⟩ := List.mem_map.mp m; exact True.intro⟩
theorem DV.strs {K : PySem.W.Frag} {H : Hp} {p : Addr} {xs : List Str} (h : H p = some (.tup (xs.map V.str))) : DV K H (.tup (xs.map D.str)) (.ref p) := by
  unfold DV
  exact ⟨p, _, rfl, SqT.of h, DVs.strs xs⟩
def sp_law (K : PySem.W.Frag) : Sp := fun vs H Q _ => ∃ (a : Addr) (ns : List Int), vs = [.ref a] ∧ SqL K H a (ns.map V.int) ∧ ns.length ≤ 63 ∧ ∀ H', Q (.bl true) H'
end Z
namespace Z
open PySem L2 SX
/-! ### cuts -/
theorem sIx_pos {n d : Nat} {i : Int} (h : 0 ≤ i) : HT.sIx n d (some i) = min i.toNat n := by
  obtain ⟨k, rfl⟩ := Int.eq_ofNat_of_zero_le h
  rw [HT.sIx_nat]; rfl
theorem cutS_to {z : Str} {i : Int} (h : 0 ≤ i) : tl (cutS z none (some i)) = (tl z).take i.toNat := by
  show ((tl z).drop 0).take (HT.sIx z.length z.length (some i) - 0) = _
  rw [sIx_pos h, List.drop_zero, Nat.sub_zero, tl_len]
  by_cases e : i.toNat ≤ (tl z).length
  · rw [Nat.min_eq_left e]
  · rw [Nat.min_eq_right (by omega), List.take_length, List.take_of_length_le (by omega)]
theorem cutS_from {z : Str} {i : Int} (h : 0 ≤ i) : tl (cutS z (some i) none) = (tl z).drop i.toNat := by
  show ((tl z).drop (HT.sIx z.length 0 (some i))).take (z.length - HT.sIx z.length 0 (some i)) = _
  rw [sIx_pos h, tl_len]
  by_cases e : i.toNat ≤ (tl z).length
  · rw [Nat.min_eq_left e, List.take_of_length_le (by rw [List.length_drop]; omega)]
  · rw [Nat.min_eq_right (by omega), List.drop_of_length_le (l := tl z) (i := i.toNat) (by omega), List.drop_of_length_le (Nat.le_refl _), List.take_nil]
theorem cutS_mid {z : Str} {i j : Int} (h : 0 ≤ i) (h2 : 0 ≤ j) : tl (cutS z (some i) (some j)) = ((tl z).drop i.toNat).take (j.toNat - i.toNat) := by
  show ((tl z).drop (HT.sIx z.length 0 (some i))).take (HT.sIx z.length z.length (some j) - HT.sIx z.length 0 (some i)) = _
  rw [sIx_pos h, sIx_pos h2, tl_len]
  by_cases e : i.toNat ≤ (tl z).length
  · rw [Nat.min_eq_left e]
    by_cases f : j.toNat ≤ (tl z).length
    · rw [Nat.min_eq_left f]
    · rw [Nat.min_eq_right (by omega), List.take_of_length_le (by rw [List.length_drop]; omega), List.take_of_length_le (by rw [List.length_drop]; omega)]
  · rw [Nat.min_eq_right (a := i.toNat) (by omega), List.drop_of_length_le (Nat.le_refl _), List.drop_of_length_le (l := tl z) (i := i.toNat) (by omega)]; simp
theorem cutV_to {xs : List V} {i : Int} (h : 0 ≤ i) : cutV xs none (some i) = xs.take i.toNat := by
  show ((xs.drop 0).take (HT.sIx xs.length xs.length (some i) - 0)) = _
  rw [sIx_pos h, List.drop_zero, Nat.sub_zero]
  by_cases e : i.toNat ≤ xs.length
  · rw [Nat.min_eq_left e]
  · rw [Nat.min_eq_right (by omega), List.take_length, List.take_of_length_le (by omega)]
theorem cutV_from {xs : List V} {i : Int} (h : 0 ≤ i) : cutV xs (some i) none = xs.drop i.toNat := by
  show ((xs.drop (HT.sIx xs.length 0 (some i))).take (xs.length - HT.sIx xs.length 0 (some i))) = _
  rw [sIx_pos h]
  by_cases e : i.toNat ≤ xs.length
  · rw [Nat.min_eq_left e, List.take_of_length_le (by rw [List.length_drop]; omega)]
  · rw [Nat.min_eq_right (by omega), List.drop_of_length_le (l := xs) (i := i.toNat) (by omega), List.drop_of_length_le (Nat.le_refl _), List.take_nil]
/-- the text k times -/
def rep (k : Nat) (l : List Nat) : List Nat := (List.replicate k l).flatten
theorem rep_fold (x : Array Nat) : ∀ (k : Nat) (a : Array Nat), ((List.replicate k x).foldl (· ++ ·) a).toList = a.toList ++ rep k x.toList
  | 0, a => by simp [rep]
  | k + 1, a => by
    rw [List.replicate_succ, List.foldl_cons, rep_fold x k]
    simp [rep, List.replicate_succ]
theorem rep_len (k : Nat) (l : List Nat) : (rep k l).length = k * l.length := by
  induction k with
  | zero => simp [rep]
  | succ k ih => unfold rep at *; rw [List.replicate_succ, List.flatten_cons, List.length_append, ih, Nat.succ_mul]; omega
theorem rep_mem {k : Nat} {l : List Nat} {c : Nat} (h : c ∈ rep k l) : c ∈ l := by
  obtain ⟨x, hx, hc⟩ := List.mem_flatten.mp h
  rw [(List.mem_replicate.mp hx).2] at hc; exact hc
section
variable {X : Cx}
/-- s * k -/
theorem op_mul_str : OpR X (binaryOp .Mult) (fun x y H Q => ∃ (z : Str) (k : Int), x = .str z ∧ y = .int k ∧ k ≤ 100000 ∧ (-100000 ≤ k) ∧ (tl z).length * k.toNat ≤ 10000000 ∧ ∀ r : Str, tl r = rep k.toNat (tl z) → Q (.str r) H) := by
  intro pins s σ H x y v u Q I rx ry h
  obtain ⟨z, k, rfl, rfl, h1, h0, hz, q⟩ := h
  obtain ⟨t, rfl⟩ := rx
  obtain ⟨t', rfl⟩ := ry
  have hz' : z.length * k.toNat ≤ 10000000 := by rw [tl_len]; exact hz
  have small := PyProof.Rows.short24 (n := z.length * k.toNat) (Nat.le_trans hz' (by decide))
  refine P.mul_str ?_ (fun a b => ?_) (fun _ _ => small) ?_
  · rw [decide_eq_false (by omega), decide_eq_false (by omega)]; rfl
  · have hk : 1 ≤ k := by omega
    have hm : (z.length : Int) * k ≤ 10000000 := by
      have : ((z.length * k.toNat : Nat) : Int) ≤ 10000000 := by omega
      rw [Int.natCast_mul, Int.toNat_of_nonneg (by omega)] at this; exact this
    have hle : (z.length : Int) ≤ (2 ^ 63 - 1) / k := by
      rw [Int.le_ediv_iff_mul_le (by omega)]
      exact Int.le_trans hm (by decide)
    omega
  · by_cases hk : k < 1
    · rw [if_pos hk]
      refine ⟨by decide, ?_⟩
      exact ⟨.str Str.empty, H, I.tok _, ⟨_, rfl⟩, q _ (by rw [show k.toNat = 0 by omega]; rfl)⟩
    · rw [if_neg hk]
      by_cases hb : (k == 1 || z.length == 0) = true
      · rw [if_pos hb]
        refine ⟨.str z, H, I, ⟨_, rfl⟩, q _ ?_⟩
        rw [Bool.or_eq_true] at hb
        rcases hb with e | e
        · have : k = 1 := by simpa using e
          subst this; simp [rep]
        · have e : z.length = 0 := by simpa using e
          rw [tl_len] at e
          have : tl z = [] := List.length_eq_zero_iff.mp e
          rw [this]
          exact (List.length_eq_zero_iff.mp (by rw [rep_len]; rfl)).symm
      · rw [if_neg hb]
        have hr : tl (⟨(List.replicate k.toNat z.cps).foldl (· ++ ·) #[]⟩ : Str) = rep k.toNat (tl z) := by
          show ((List.replicate k.toNat z.cps).foldl (· ++ ·) #[]).toList = _
          rw [rep_fold]; simp [tl]
        refine ⟨?_, ?_⟩
        · rw [tl_len, hr, rep_len, Nat.mul_comm]
          exact Nat.le_trans hz (by decide)
        · exact ⟨.str _, H, I.tok _, ⟨_, rfl⟩, q _ hr⟩
end
section
variable {X : Cx} {K : PySem.W.Frag}
/-- t + u, of tuples -/
theorem op_cat (hK : X.K = K) : OpR X (binaryOp .Add) (fun x y H Q => ∃ a b xs ys, x = .ref a ∧ y = .ref b ∧ SqT K H a xs ∧ SqT K H b ys ∧ xs.length + ys.length ≤ sizeLine ∧
    ∀ p H', Same H H' → SqT K H' p (xs ++ ys) → Q (.ref p) H') := by
  subst hK
  intro pins s σ H x y v u Q I rx ry h
  obtain ⟨a, b, xs, ys, e1, e2, ha, hb, hz, q⟩ := h
  refine op_catA pins s σ H x y v u Q I rx ry ⟨a, b, xs, ys, e1, e2, ha, hb, hz, fun e => ?_, fun _ e => ?_, fun _ _ p hp => q p _ (same_new hp) (SqT.of upd_same)⟩
  · subst e; exact q b H (Same.refl _) hb
  · subst e; exact q a H (Same.refl _) (by rw [List.append_nil]; exact ha)
/-- t[lo:hi] of a tuple -/
theorem sl_tupS (hK : X.K = K) : SlR X (fun x lo hi H Q => ∃ a xs, x = .ref a ∧ SqT K H a xs ∧ ∀ p H', Same H H' → SqT K H' p (cutV xs lo hi) → Q (.ref p) H') := by
  subst hK
  intro pins s σ H x v vl vu lo hi sl Q I rx hs pl pu h
  obtain ⟨a, xs, e, hx, q⟩ := h
  refine sl_tupA pins s σ H x v vl vu lo hi sl Q I rx hs pl pu ⟨a, xs, e, hx, fun hw => q a H (Same.refl _) ?_, fun _ p hp => q p _ (same_new hp) (SqT.of upd_same)⟩
  have : cutV xs lo hi = xs := by
    show (xs.drop (HT.sIx xs.length 0 lo)).take (HT.sIx xs.length xs.length hi - HT.sIx xs.length 0 lo) = xs
    rw [hw.1, hw.2, List.drop_zero, Nat.sub_zero, List.take_length]
  rw [this]; exact hx
end
theorem _root_.L2.Same.tup {K : PySem.W.Frag} {H H' : Hp} {a : Addr} {xs : List V} (e : Same H H') (h : SqT K H a xs) : SqT K H' a xs := by
  rcases h with (h | ⟨o, h⟩) | h
  · exact .inl (.inl (e _ _ h))
  · exact .inl (.inr ⟨o, e _ _ h⟩)
  · exact .inr h

/-- a comprehension over a range that makes texts by draws (at most d of them for each) -/
theorem lc_strs {j n d : Nat} {te : TE} {vs : List Nat} {σ : St} {H : Hp} {D s a : Addr} {c : Nat} {Qd : Hp → Prop} (p : Str → Prop) (hD : H D = none) (hS : Src H s a (c + n * d)) (hn : n ≤ 100000)
    (hw : ∀ i : Nat, wipe ((wipe σ vs).set j (some (.int (0 + (i : Int))))) vs = wipe σ vs)
    (hs : ∀ (i c' : Nat) (H1 : Hp) (R : VK), i < n → Ext s H H1 → Src H1 s a (c' + d) → (∀ (x : Str) (H2 : Hp), p x → Ext s H1 H2 → Src H2 s a c' → R (.str x) H2) → te ((wipe σ vs).set j (some (.int (0 + (i : Int))))) H1 R)
    (hd : ∀ (xs : List Str) (H' : Hp), H' D = some (.lst (xs.map V.str)) → xs.length = n → (∀ x ∈ xs, p x) → Ext s H H' → Src H' s a c → Qd H') :
    ∃ W : Nat → Nat → Hp → Prop, (∃ m, W 0 m (upd H D (.lst []))) ∧ ∀ i m H, W i m H →
      ((Itr 0 n).stop i H ∧ Qd H) ∨ ((Itr 0 n).go i H ∧ ∃ Nx : Hp → Prop, (∀ H', Nx H' → ∃ m', m' < m ∧ W (i + 1) m' H') ∧ ∀ x H', (Itr 0 n).yld i H x H' → gName j x (wipe σ vs) H' fun σ2 H2 => wipe σ2 vs = wipe σ vs ∧ tYes σ2 H2 fun b H3 =>
        if b = true then te σ2 H3 fun y H4 => ∃ acc, H4 D = some (.lst acc) ∧ acc.length < sizeLine ∧ Nx (upd H4 D (.lst (acc ++ [y]))) else Nx H3) := by
  have Ds : D ≠ s := hS.ne hD
  have Da : D ≠ a := hS.nea hD
  refine lc_range (lo := 0) (n := n) (fun i H' => ∃ xs : List Str, H' D = some (.lst (xs.map V.str)) ∧ xs.length = i ∧ (∀ x ∈ xs, p x) ∧ Ext s H H' ∧ Src H' s a (c + (n - i) * d)) ?_ ?_ ?_
  · exact ⟨[], upd_same, rfl, (fun _ h => by cases h), Ext.new hD, (hS.new hD).mono (by simp)⟩
  · rintro i H' hi ⟨xs, hx, hl, hA, hE, hS'⟩
    refine ⟨hw i, ?_⟩
    show te _ H' _
    have e : c + (n - i) * d = c + (n - (i + 1)) * d + d := by
      rw [show n - i = n - (i + 1) + 1 by omega, Nat.succ_mul]; omega
    refine hs i (c + (n - (i + 1)) * d) H' _ hi hE (by rw [← e]; exact hS') (fun x H2 hp hE2 hS2 => ?_)
    refine ⟨xs.map V.str, hE2 _ _ Ds hx, ?_, xs ++ [x], by rw [upd_same, List.map_append]; rfl, by rw [List.length_append]; simp [hl], fun y hy => ?_, ?_, hS2.put Ds Da⟩
    · rw [List.length_map]; exact Nat.lt_of_lt_of_le (show xs.length < 100000 by omega) (by decide)
    · rcases List.mem_append.mp hy with h | h
      · exact hA y h
      · rw [List.mem_singleton.mp h]; exact hp
    · intro b o hb hH
      rw [upd_ne (ne_of_none hH hD)]; exact hE2 _ _ hb (hE _ _ hb hH)
  · rintro H' ⟨xs, hx, hl, hA, hE, hS'⟩
    exact hd xs H' hx hl hA hE (hS'.mono (by omega))
theorem atI_pos {α : Type} {xs : List α} {v : Int} {x : α} (h0 : 0 ≤ v) (h : xs[v.toNat]? = some x) : atI xs v = some x := by
  have e : v = (v.toNat : Int) := by omega
  rw [e]; exact atI_nat h
/-- any item of a list of texts -/
def sp__law_pick (K : PySem.W.Frag) : Sp := fun vs H Q _ =>
  (∃ (s a r : Addr) (xs : List V) (c : Nat), vs = [.ref s, .ref r] ∧ SqL K H r xs ∧ r ≠ s ∧ xs ≠ [] ∧ xs.length ≤ 100000 ∧ Src H s a (c + 1) ∧ ∀ (v : V) (H' : Hp), v ∈ xs → Ext s H H' → Src H' s a c → Q v H') ∨
  (∃ (s a : Addr) (x : Str) (c : Nat), vs = [.ref s, .str x] ∧ tl x ≠ [] ∧ (tl x).length ≤ 100000 ∧ Src H s a (c + 1) ∧ ∀ (ch : Nat) (H' : Hp), ch ∈ tl x → Ext s H H' → Src H' s a c → Q (.str (S [ch])) H')
def sp__law_once_in : Sp := fun vs H Q _ => ∃ (s a : Addr) (m : Int) (c : Nat), vs = [.ref s, .int m] ∧ 0 < m ∧ m < 1073741824 ∧ Src H s a (c + 1) ∧ ∀ (b : Bool) (H' : Hp), Ext s H H' → Src H' s a c → Q (.bl b) H'
end Z
namespace Z
open PySem L2 SX
open PySem.Builtin.Str (occurrences lastOccurrence subAt)
theorem at_one {x : Str} {c hi k : Nat} (h : hi ≤ (tl x).length) : StrLaws.At x (S [c]) hi k ↔ k < hi ∧ (tl x)[k]? = some c := by
  have e := StrLaws.subAt_one x c k
  have l1 : (S [c]).length = 1 := rfl
  unfold StrLaws.At
  constructor
  · rintro ⟨h1, h2⟩
    rw [l1] at h1
    refine ⟨by omega, e.mp ⟨?_, h2⟩⟩
    show k + 1 ≤ x.length
    rw [tl_len]; omega
  · rintro ⟨h1, h2⟩
    have h3 := e.mpr h2
    exact ⟨by rw [l1]; omega, h3.2⟩
theorem find_from (x : Str) (c : Nat) {i : Int} (h : 0 ≤ i) :
    (Txt.find3 x (S [c]) i = -1 ∧ ∀ k : Nat, i ≤ (k : Int) → (tl x)[k]? ≠ some c) ∨ ∃ k : Nat, Txt.find3 x (S [c]) i = (k : Int) ∧ i ≤ (k : Int) ∧ (tl x)[k]? = some c ∧ ∀ j : Nat, i ≤ (j : Int) → j < k → (tl x)[j]? ≠ some c := by
  obtain ⟨n, rfl⟩ := Int.eq_ofNat_of_zero_le h
  have hf : fromIndex x.length (n : Int) = n := by
    unfold fromIndex
    rw [if_neg (by omega), Int.max_eq_right (by omega)]; rfl
  unfold Txt.find3
  rw [hf, StrLaws.occ_eq]
  have hx : x.length = (tl x).length := tl_len x
  rcases StrLaws.occ_first x (S [c]) x.length 1 (Nat.le_refl _) (List.range' n (x.length + 1 - n)) n (fun i hi => (List.mem_range'_1.mp hi).1) with ⟨h0, hn⟩ | ⟨pre, a, post, e, h0, ha, hn⟩
  · refine .inl ⟨by rw [h0], fun k hk hc => ?_⟩
    have hlt := (List.getElem?_eq_some_iff.mp hc).1
    exact hn k (List.mem_range'_1.mpr ⟨by omega, by omega⟩) ((at_one (by omega)).mpr ⟨by omega, hc⟩)
  · have h1 := (at_one (by omega)).mp ha
    have hm : a ∈ List.range' n (x.length + 1 - n) := by rw [e]; simp
    refine .inr ⟨a, ?_, by have := (List.mem_range'_1.mp hm).1; omega, h1.2, fun j hj hl hc => ?_⟩
    · cases hq : (forIn (List.range' n (x.length + 1 - n)) ((#[] : Array Nat), n) (StrLaws.occBody x (S [c]) x.length 1)).run.fst.toList with
      | nil =>
        have : (forIn (List.range' n (x.length + 1 - n)) ((#[] : Array Nat), n) (StrLaws.occBody x (S [c]) x.length 1)).run.fst = #[] := Array.toList_eq_nil_iff.mp hq
        rw [this] at h0; simp at h0
      | cons b r =>
        have hb : (forIn (List.range' n (x.length + 1 - n)) ((#[] : Array Nat), n) (StrLaws.occBody x (S [c]) x.length 1)).run.fst[0]? = some b := by
          rw [← Array.getElem?_toList, hq]; rfl
        rw [hb] at h0
        cases h0; rfl
    · have hjm : j ∈ pre := by
        have hlt := (List.getElem?_eq_some_iff.mp hc).1
        have hjr : j ∈ List.range' n (x.length + 1 - n) := List.mem_range'_1.mpr ⟨by omega, by omega⟩
        have hp : (pre ++ a :: post).Pairwise (· < ·) := by rw [← e]; exact List.pairwise_lt_range'
        rw [e] at hjr
        rcases List.mem_append.mp hjr with q | q
        · exact q
        · rcases List.mem_cons.mp q with q | q
          · omega
          · have := (List.pairwise_cons.mp (List.pairwise_append.mp hp).2.1).1 j q
            omega
      exact hn j hjm ((at_one (by omega)).mpr ⟨by have := (List.getElem?_eq_some_iff.mp hc).1; omega, hc⟩)
theorem rfind_in (x : Str) (c : Nat) {i m : Int} (h : 0 ≤ i) (hm : 0 ≤ m) :
    (Txt.rfindIn x (S [c]) i m = -1 ∧ ∀ k : Nat, i ≤ (k : Int) → (k : Int) < m → (tl x)[k]? ≠ some c) ∨ ∃ k : Nat, Txt.rfindIn x (S [c]) i m = (k : Int) ∧ i ≤ (k : Int) ∧ (k : Int) < m ∧ (tl x)[k]? = some c ∧ ∀ j : Nat, k < j → (j : Int) < m → (tl x)[j]? ≠ some c := by
  obtain ⟨n, rfl⟩ := Int.eq_ofNat_of_zero_le h
  obtain ⟨e, rfl⟩ := Int.eq_ofNat_of_zero_le hm
  have hf : fromIndex x.length (n : Int) = n := by
    unfold fromIndex
    rw [if_neg (by omega), Int.max_eq_right (by omega)]; rfl
  have ht : toIndexW x.length (e : Int) = min e x.length := by
    unfold toIndexW
    rw [if_neg (by omega), Int.max_eq_right (by omega)]; rfl
  have hx : x.length = (tl x).length := tl_len x
  unfold Txt.rfindIn
  rw [hf, ht, StrLaws.last_eq]
  have key := StrLaws.last_run x (S [c]) (min e x.length) (List.range' n (min e x.length + 1 - n)) [] none (fun _ h => nomatch h) (fun _ h => nomatch h) List.pairwise_lt_range'
  rw [List.nil_append] at key
  cases hq : (forIn (List.range' n (min e x.length + 1 - n)) none (StrLaws.lastBody x (S [c]) (min e x.length))).run with
  | none =>
    rw [hq] at key
    refine .inl ⟨rfl, fun k hk hk2 hc => ?_⟩
    have hlt := (List.getElem?_eq_some_iff.mp hc).1
    exact key k (List.mem_range'_1.mpr ⟨by omega, by omega⟩) ((at_one (by omega)).mpr ⟨by omega, hc⟩)
  | some a =>
    rw [hq] at key
    obtain ⟨ha, hl⟩ := key
    have h1 := (at_one (by omega)).mp ha
    have hr : n ≤ a := by
      -- the last place is one of those that were looked at
      have : ∀ (l : List Nat) (st : Option Nat) (b : Nat), (forIn l st (StrLaws.lastBody x (S [c]) (min e x.length))).run = some b → st = some b ∨ b ∈ l := by
        intro l
        induction l with
        | nil => intro st b hb; exact .inl hb
        | cons d l ih =>
          intro st b hb
          rw [List.forIn_cons] at hb
          unfold StrLaws.lastBody at hb
          split at hb
          · rcases ih _ _ hb with q | q
            · exact .inr (by cases q; exact List.mem_cons_self)
            · exact .inr (List.mem_cons_of_mem _ q)
          · rcases ih _ _ hb with q | q
            · exact .inl q
            · exact .inr (List.mem_cons_of_mem _ q)
      rcases this _ _ _ hq with q | q
      · cases q
      · exact (List.mem_range'_1.mp q).1
    refine .inr ⟨a, rfl, by omega, by omega, h1.2, fun j hj hj2 hc => ?_⟩
    have hlt := (List.getElem?_eq_some_iff.mp hc).1
    exact hl j (List.mem_range'_1.mpr ⟨by omega, by omega⟩) hj ((at_one (by omega)).mpr ⟨by omega, hc⟩)

theorem tl_inj : ∀ {a b : List Str}, a.map tl = b.map tl → a = b
  | [], [], _ => rfl
  | [], _ :: _, h => by cases h
  | _ :: _, [], h => by cases h
  | x :: a, y :: b, h => by
    rw [List.map_cons, List.map_cons] at h
    obtain ⟨h1, h2⟩ := List.cons.inj h
    rw [tl_ext h1, tl_inj h2]
theorem DV.strsT {K : PySem.W.Frag} {H : Hp} {p : Addr} {xs : List Str} (h : SqT K H p (xs.map V.str)) : DV K H (.tup (xs.map D.str)) (.ref p) := by
  unfold DV
  exact ⟨p, _, rfl, h, DVs.strs xs⟩
end Z
namespace Z
open PySem L2 SX
def top (i : Nat) : Stmt := PySem.Challenge.pw_criermoot_k19_feeds_pass.main.body.getD i (.Pass ⟨0, 0, 0, 0⟩)
abbrev s_add_place : Stmt := top 1
abbrev N_add_place : List Str := ["glob", "places", "place"]
theorem sc_add_place : FnScope ["glob", "places", "place"] ["glob", "places", "place"] (defScope s_add_place) := ⟨rfl, rfl, rfl, by decide +kernel, rfl, by decide +kernel, by decide +kernel⟩
abbrev s_follows : Stmt := top 2
abbrev N_follows : List Str := ["glob", "standing", "character", "places", "place"]
theorem sc_follows : FnScope ["glob", "standing", "character", "places", "place"] ["glob", "standing", "character"] (defScope s_follows) := ⟨rfl, rfl, rfl, by decide +kernel, rfl, by decide +kernel, by decide +kernel⟩
abbrev s_standing : Stmt := top 3
abbrev N_standing : List Str := ["glob", "beginning", "places", "found", "character"]
theorem sc_standing : FnScope ["glob", "beginning", "places", "found", "character"] ["glob", "beginning"] (defScope s_standing) := ⟨rfl, rfl, rfl, by decide +kernel, rfl, by decide +kernel, by decide +kernel⟩
abbrev s_fits : Stmt := top 4
abbrev N_fits : List Str := ["glob", "board"]
theorem sc_fits : FnScope ["glob", "board"] ["glob", "board"] (defScope s_fits) := ⟨rfl, rfl, rfl, by decide +kernel, rfl, by decide +kernel, by decide +kernel⟩
abbrev s_items_of : Stmt := top 6
abbrev N_items_of : List Str := ["pattern", "item"]
theorem sc_items_of : FnScope ["pattern", "item"] ["pattern"] (defScope s_items_of) := ⟨rfl, rfl, rfl, by decide +kernel, rfl, by decide +kernel, by decide +kernel⟩
abbrev s_lets : Stmt := top 7
abbrev N_lets : List Str := ["pattern", "board", "sign", "glob"]
theorem sc_lets : FnScope ["pattern", "board", "sign", "glob"] ["pattern", "board"] (defScope s_lets) := ⟨rfl, rfl, rfl, by decide +kernel, rfl, by decide +kernel, by decide +kernel⟩
abbrev s_lets_one : Stmt := top 8
abbrev N_lets_one : List Str := ["pattern", "boards", "board"]
theorem sc_lets_one : FnScope ["pattern", "boards", "board"] ["pattern", "boards"] (defScope s_lets_one) := ⟨rfl, rfl, rfl, by decide +kernel, rfl, by decide +kernel, by decide +kernel⟩
abbrev s_passes : Stmt := top 10
abbrev N_passes : List Str := ["feed", "boards", "size", "hops"]
theorem sc_passes : FnScope ["feed", "boards", "size", "hops"] ["feed", "boards", "size", "hops"] (defScope s_passes) := ⟨rfl, rfl, rfl, by decide +kernel, rfl, by decide +kernel, by decide +kernel⟩
abbrev s__law_mix : Stmt := top 12
abbrev N__law_mix : List Str := ["seed", "turn", "number"]
theorem sc__law_mix : FnScope ["seed", "turn", "number"] ["seed", "turn"] (defScope s__law_mix) := ⟨rfl, rfl, rfl, by decide +kernel, rfl, by decide +kernel, by decide +kernel⟩
abbrev s__law_source : Stmt := top 13
abbrev N__law_source : List Str := ["script", "seed", "k"]
theorem sc__law_source : FnScope ["script", "seed", "k"] ["script"] (defScope s__law_source) := ⟨rfl, rfl, rfl, by decide +kernel, rfl, by decide +kernel, by decide +kernel⟩
abbrev s__law_draw : Stmt := top 14
abbrev N__law_draw : List Str := ["source", "many", "cell", "value"]
theorem sc__law_draw : FnScope ["source", "many", "cell", "value"] ["source", "many"] (defScope s__law_draw) := ⟨rfl, rfl, rfl, by decide +kernel, rfl, by decide +kernel, by decide +kernel⟩
abbrev s__law_pick : Stmt := top 15
abbrev N__law_pick : List Str := ["source", "row"]
theorem sc__law_pick : FnScope ["source", "row"] ["source", "row"] (defScope s__law_pick) := ⟨rfl, rfl, rfl, by decide +kernel, rfl, by decide +kernel, by decide +kernel⟩
abbrev s__law_shuffled : Stmt := top 16
abbrev N__law_shuffled : List Str := ["source", "row", "left", "done", "k"]
theorem sc__law_shuffled : FnScope ["source", "row", "left", "done", "k"] ["source", "row"] (defScope s__law_shuffled) := ⟨rfl, rfl, rfl, by decide +kernel, rfl, by decide +kernel, by decide +kernel⟩
abbrev s__law_new_name : Stmt := top 17
abbrev N__law_new_name : List Str := ["source", "used", "letters", "size", "name", "k", "tried"]
theorem sc__law_new_name : FnScope ["source", "used", "letters", "size", "name", "k", "tried"] ["source", "used"] (defScope s__law_new_name) := ⟨rfl, rfl, rfl, by decide +kernel, rfl, by decide +kernel, by decide +kernel⟩
abbrev s__law_names : Stmt := top 18
abbrev N__law_names : List Str := ["source", "many", "used", "k"]
theorem sc__law_names : FnScope ["source", "many", "used", "k"] ["source", "many"] (defScope s__law_names) := ⟨rfl, rfl, rfl, by decide +kernel, rfl, by decide +kernel, by decide +kernel⟩
abbrev s__law_words : Stmt := top 19
abbrev N__law_words : List Str := ["source"]
theorem sc__law_words : FnScope ["source"] ["source"] (defScope s__law_words) := ⟨rfl, rfl, rfl, by decide +kernel, rfl, by decide +kernel, by decide +kernel⟩
abbrev s__law_board : Stmt := top 20
abbrev N__law_board : List Str := ["source", "words", "size", "k"]
theorem sc__law_board : FnScope ["source", "words", "size", "k"] ["source", "words"] (defScope s__law_board) := ⟨rfl, rfl, rfl, by decide +kernel, rfl, by decide +kernel, by decide +kernel⟩
abbrev s__law_boards : Stmt := top 21
abbrev N__law_boards : List Str := ["source", "words", "most", "found", "k", "board"]
theorem sc__law_boards : FnScope ["source", "words", "most", "found", "k", "board"] ["source", "words", "most"] (defScope s__law_boards) := ⟨rfl, rfl, rfl, by decide +kernel, rfl, by decide +kernel, by decide +kernel⟩
abbrev s__law_glob : Stmt := top 22
abbrev N__law_glob : List Str := ["source", "words", "word", "menu"]
theorem sc__law_glob : FnScope ["source", "words", "word", "menu"] ["source", "words"] (defScope s__law_glob) := ⟨rfl, rfl, rfl, by decide +kernel, rfl, by decide +kernel, by decide +kernel⟩
abbrev s__law_pattern : Stmt := top 23
abbrev N__law_pattern : List Str := ["source", "words", "many", "items", "k"]
theorem sc__law_pattern : FnScope ["source", "words", "many", "items", "k"] ["source", "words"] (defScope s__law_pattern) := ⟨rfl, rfl, rfl, by decide +kernel, rfl, by decide +kernel, by decide +kernel⟩
abbrev s__law_fits : Stmt := top 24
abbrev N__law_fits : List Str := ["glob", "board", "spots", "k", "sign", "after"]
theorem sc__law_fits : FnScope ["glob", "board", "spots", "k", "sign", "after"] ["glob", "board"] (defScope s__law_fits) := ⟨rfl, rfl, rfl, by decide +kernel, rfl, by decide +kernel, by decide +kernel⟩
abbrev s__law_lets : Stmt := top 25
abbrev N__law_lets : List Str := ["pattern", "board", "answer", "item"]
theorem sc__law_lets : FnScope ["pattern", "board", "answer", "item"] ["pattern", "board"] (defScope s__law_lets) := ⟨rfl, rfl, rfl, by decide +kernel, rfl, by decide +kernel, by decide +kernel⟩
abbrev s__law_lets_some : Stmt := top 26
abbrev N__law_lets_some : List Str := ["pattern", "boards", "board"]
theorem sc__law_lets_some : FnScope ["pattern", "boards", "board"] ["pattern", "boards"] (defScope s__law_lets_some) := ⟨rfl, rfl, rfl, by decide +kernel, rfl, by decide +kernel, by decide +kernel⟩
abbrev s__law_is_int : Stmt := top 27
abbrev N__law_is_int : List Str := ["value"]
theorem sc__law_is_int : FnScope ["value"] ["value"] (defScope s__law_is_int) := ⟨rfl, rfl, rfl, by decide +kernel, rfl, by decide +kernel, by decide +kernel⟩
abbrev s__law_same : Stmt := top 28
abbrev N__law_same : List Str := ["actual", "due", "k"]
theorem sc__law_same : FnScope ["actual", "due", "k"] ["actual", "due"] (defScope s__law_same) := ⟨rfl, rfl, rfl, by decide +kernel, rfl, by decide +kernel, by decide +kernel⟩
abbrev s__law_feed : Stmt := top 29
abbrev N__law_feed : List Str := ["source", "names", "words", "pattern"]
theorem sc__law_feed : FnScope ["source", "names", "words", "pattern"] ["source", "names", "words"] (defScope s__law_feed) := ⟨rfl, rfl, rfl, by decide +kernel, rfl, by decide +kernel, by decide +kernel⟩
abbrev s__law_questions : Stmt := top 30
abbrev N__law_questions : List Str := ["source", "feed", "boards", "most", "size", "rows", "board"]
theorem sc__law_questions : FnScope ["source", "feed", "boards", "most", "size", "rows", "board"] ["source", "feed", "boards"] (defScope s__law_questions) := ⟨rfl, rfl, rfl, by decide +kernel, rfl, by decide +kernel, by decide +kernel⟩
abbrev s__law_due : Stmt := top 31
abbrev N__law_due : List Str := ["feed", "row"]
theorem sc__law_due : FnScope ["feed", "row"] ["feed", "row"] (defScope s__law_due) := ⟨rfl, rfl, rfl, by decide +kernel, rfl, by decide +kernel, by decide +kernel⟩
abbrev s_law : Stmt := top 32
abbrev N_law : List Str := ["script", "source", "words", "names", "asked", "k", "feed", "boards", "row", "one"]
theorem sc_law : FnScope ["script", "source", "words", "names", "asked", "k", "feed", "boards", "row", "one"] ["script"] (defScope s_law) := ⟨rfl, rfl, rfl, by decide +kernel, rfl, by decide +kernel, by decide +kernel⟩
structure Tx (mg : Str → Option Value) : Prop where
  n_abs : mg "abs" = none
  n_any : mg "any" = none
  n_bool : mg "bool" = none
  n_int : mg "int" = none
  n_isinstance : mg "isinstance" = none
  n_len : mg "len" = none
  n_list : mg "list" = none
  n_max : mg "max" = none
  n_range : mg "range" = none
  n_reversed : mg "reversed" = none
  n_str : mg "str" = none
  n_tuple : mg "tuple" = none
end Z
namespace Z
open PySem L2 SX
/-! ### where a beginning stands in a glob -/
abbrev nts (l : List Nat) : List V := l.map fun k : Nat => V.int (k : Int)
def st0 (g : List Nat) : Nat → Prop
  | 0 => True
  | i + 1 => g[i]? = some 42 ∧ st0 g i
def nxt (g : List Nat) (M : Nat → Prop) (c : Nat) : Nat → Prop
  | 0 => False
  | i + 1 => (g[i]? = some 42 ∧ (nxt g M c i ∨ M (i + 1))) ∨ (g[i]? ≠ some 42 ∧ M i ∧ (g[i]? = some 63 ∨ g[i]? = some c))
def stand (g b : List Nat) : Nat → Prop := b.foldl (fun M c => nxt g M c) (st0 g)
/-- closed along stars -/
def closed (g : List Nat) (M : Nat → Prop) : Prop := ∀ y, M y → g[y]? = some 42 → M (y + 1)
def within (g : List Nat) (M : Nat → Prop) : Prop := ∀ y, M y → y ≤ g.length
theorem st0_closed (g : List Nat) : closed g (st0 g) := fun _ h e => ⟨e, h⟩
theorem st0_within (g : List Nat) : within g (st0 g) := fun y h => by
  cases y with
  | zero => omega
  | succ i => have := (List.getElem?_eq_some_iff.mp h.1).1; omega
theorem nxt_closed (g : List Nat) (M : Nat → Prop) (c : Nat) : closed g (nxt g M c) := fun _ h e => .inl ⟨e, .inl h⟩
theorem nxt_within (g : List Nat) (M : Nat → Prop) (c : Nat) : within g (nxt g M c) := fun y h => by
  cases y with
  | zero => omega
  | succ i =>
    rcases h with ⟨h, _⟩ | ⟨_, _, h | h⟩ <;> (have := (List.getElem?_eq_some_iff.mp h).1; omega)
theorem stand_nil (g : List Nat) : stand g [] = st0 g := rfl
theorem stand_snoc (g b : List Nat) (c : Nat) : stand g (b ++ [c]) = nxt g (stand g b) c := by unfold stand; rw [List.foldl_append]; rfl
theorem stand_ok (g b : List Nat) : closed g (stand g b) ∧ within g (stand g b) := by
  unfold stand
  rw [← List.reverse_reverse b, List.foldl_reverse]
  cases b.reverse with
  | nil => exact ⟨st0_closed g, st0_within g⟩
  | cons c r => exact ⟨nxt_closed g _ c, nxt_within g _ c⟩
/-- the places, ascending -/
def Asd (ps : List Nat) (M : Nat → Prop) : Prop := ps.Pairwise (· < ·) ∧ ∀ y, y ∈ ps ↔ M y
theorem asd_one : ∀ {a b : List Nat}, a.Pairwise (· < ·) → b.Pairwise (· < ·) → (∀ y, y ∈ a ↔ y ∈ b) → a = b
  | [], [], _, _, _ => rfl
  | [], y :: b, _, _, h => by have := (h y).mpr (by simp); cases this
  | x :: a, [], _, _, h => by have := (h x).mp (by simp); cases this
  | x :: a, y :: b, pa, pb, h => by
    have ha := List.pairwise_cons.mp pa
    have hb := List.pairwise_cons.mp pb
    have e : x = y := by
      have h1 := (h x).mp (by simp)
      have h2 := (h y).mpr (by simp)
      rcases List.mem_cons.mp h1 with e | e
      · exact e
      · rcases List.mem_cons.mp h2 with f | f
        · exact f.symm
        · have := hb.1 x e; have := ha.1 y f; omega
    subst e
    rw [asd_one ha.2 hb.2 fun z => ?_]
    constructor
    · intro hz
      rcases List.mem_cons.mp ((h z).mp (List.mem_cons_of_mem _ hz)) with e | e
      · subst e; have := ha.1 z hz; omega
      · exact e
    · intro hz
      rcases List.mem_cons.mp ((h z).mpr (List.mem_cons_of_mem _ hz)) with e | e
      · subst e; have := hb.1 z hz; omega
      · exact e
theorem Asd.one {a b : List Nat} {M : Nat → Prop} (x : Asd a M) (y : Asd b M) : a = b := asd_one x.1 y.1 fun z => (x.2 z).trans (y.2 z).symm
theorem Asd.congr {a : List Nat} {M N : Nat → Prop} (x : Asd a M) (h : ∀ y, M y ↔ N y) : Asd a N := ⟨x.1, fun y => (x.2 y).trans (h y)⟩
theorem Asd.len {a : List Nat} {M : Nat → Prop} {g : List Nat} (x : Asd a M) (w : within g M) : a.length ≤ g.length + 1 := by
  have : ∀ (n : Nat) (l : List Nat), l.Pairwise (· < ·) → (∀ y ∈ l, y < n) → l.length ≤ n := by
    intro n
    induction n with
    | zero => intro l _ h; cases l with
      | nil => simp
      | cons y r => have := h y (by simp); omega
    | succ n ih =>
      intro l p h
      rcases List.eq_nil_or_concat l with e | ⟨r, z, e⟩
      · subst e; simp
      · subst e
        rw [List.concat_eq_append] at p h ⊢
        have h2 := ih r (List.pairwise_append.mp p).1 (fun y hy => by
          have := (List.pairwise_append.mp p).2.2 y hy z (by simp)
          have := h z (by simp)
          omega)
        rw [List.length_append]; simp; exact h2
  exact this (g.length + 1) a x.1 fun y hy => by have := w y ((x.2 y).mp hy); omega
/-- a row of stars behind x -/
def isRun (g : List Nat) (x k : Nat) : Prop := (∀ j, j < k → g[x + j]? = some 42) ∧ g[x + k]? ≠ some 42
/-- places that are built up: L so far, m the greatest one that was put in, A what was put in -/
structure Up (g L : List Nat) (m : Nat) (A : Nat → Prop) : Prop where
  asc : L.Pairwise (· < ·)
  cl : ∀ y ∈ L, g[y]? = some 42 → y + 1 ∈ L
  gap : ∀ y z, m ≤ y → y ≤ z → z ∈ L → y ∈ L
  has : ∀ y, A y → y ∈ L
  only : ∀ (N : Nat → Prop), closed g N → (∀ y, A y → N y) → ∀ y ∈ L, N y
theorem Up.nil (g : List Nat) : Up g [] 0 (fun _ => False) := ⟨.nil, (fun _ h => by cases h), (fun _ _ _ _ h => by cases h), (fun _ h => h.elim), (fun _ _ _ _ h => by cases h)⟩
theorem Up.stay {g L : List Nat} {m x z : Nat} {A : Nat → Prop} (u : Up g L m A) (hm : m ≤ x) (hz : z ∈ L) (hx : x ≤ z) : Up g L x (fun y => A y ∨ y = x) :=
  ⟨u.asc, u.cl, fun y z a b c => u.gap y z (by omega) b c, fun y h => h.elim (u.has y) fun e => by subst e; exact u.gap _ _ hm hx hz, fun N c h => u.only N c fun y a => h y (.inl a)⟩
theorem run_mem {x k y : Nat} : y ∈ List.range' x (k + 1) ↔ x ≤ y ∧ y ≤ x + k := by rw [List.mem_range'_1]; omega
theorem Up.more {g L : List Nat} {m x k : Nat} {A : Nat → Prop} (u : Up g L m A) (hl : ∀ y ∈ L, y < x) (hr : isRun g x k) : Up g (L ++ List.range' x (k + 1)) x (fun y => A y ∨ y = x) := by
  refine ⟨?_, ?_, ?_, ?_, ?_⟩
  · exact List.pairwise_append.mpr ⟨u.asc, List.pairwise_lt_range', fun a ha b hb => by have := hl a ha; have := (run_mem.mp hb).1; omega⟩
  · intro y hy e
    rcases List.mem_append.mp hy with h | h
    · exact List.mem_append_left _ (u.cl y h e)
    · refine List.mem_append_right _ (run_mem.mpr ?_)
      have := run_mem.mp h
      by_cases q : y = x + k
      · subst q; exact absurd e hr.2
      · omega
  · intro y z hy hyz hz
    rcases List.mem_append.mp hz with h | h
    · have := hl z h; omega
    · have := run_mem.mp h
      exact List.mem_append_right _ (run_mem.mpr ⟨by omega, by omega⟩)
  · intro y h
    rcases h with h | e
    · exact List.mem_append_left _ (u.has y h)
    · subst e; exact List.mem_append_right _ (run_mem.mpr ⟨Nat.le_refl _, by omega⟩)
  · intro N c h y hy
    rcases List.mem_append.mp hy with q | q
    · exact u.only N c (fun z a => h z (.inl a)) y q
    · obtain ⟨q1, q2⟩ := run_mem.mp q
      have : ∀ j, j ≤ k → N (x + j) := by
        intro j
        induction j with
        | zero => intro _; exact h x (.inr rfl)
        | succ j ih => intro hj; exact c _ (ih (by omega)) (hr.1 j (by omega))
      have := this (y - x) (by omega)
      rwa [show x + (y - x) = y by omega] at this
theorem Up.congr {g L : List Nat} {m : Nat} {A B : Nat → Prop} (u : Up g L m A) (h : ∀ y, A y ↔ B y) : Up g L m B :=
  ⟨u.asc, u.cl, u.gap, fun y b => u.has y ((h y).mpr b), fun N c q => u.only N c fun y a => q y ((h y).mp a)⟩
/-- what is put in by the places of M that are taken -/
def puts (g : List Nat) (c : Nat) (T : Nat → Prop) (y : Nat) : Prop := (T y ∧ ∃ i, y = i + 1 ∧ g[i]? = some 42) ∨ ∃ i, y = i + 1 ∧ T i ∧ (g[i]? = some 63 ∨ g[i]? = some c)
theorem puts_next {g : List Nat} {M : Nat → Prop} {c : Nat} (hc : c ≠ 42) (cl : closed g M) {L : List Nat} {m : Nat} (u : Up g L m (puts g c M)) : Asd L (nxt g M c) := by
  refine ⟨u.asc, fun y => ⟨fun hy => u.only _ (nxt_closed g M c) (fun y p => ?_) y hy, ?_⟩⟩
  · rcases p with ⟨t, i, rfl, e⟩ | ⟨i, rfl, t, e⟩
    · exact .inl ⟨e, .inr t⟩
    · refine .inr ⟨fun q => ?_, t, e⟩
      rcases e with e | e <;> rw [e] at q
      · cases q
      · exact hc (Option.some.inj q)
  · intro h
    induction y with
    | zero => exact h.elim
    | succ i ih =>
      rcases h with ⟨e, h | h⟩ | ⟨_, t, e⟩
      · exact u.cl i (ih h) e
      · exact u.has _ (.inl ⟨h, i, rfl, e⟩)
      · exact u.has _ (.inr ⟨i, rfl, t, e⟩)
theorem start_asd {g L : List Nat} {m : Nat} (u : Up g L m (fun y => y = 0)) : Asd L (st0 g) := by
  refine ⟨u.asc, fun y => ⟨fun hy => u.only _ (st0_closed g) (fun y e => by subst e; exact True.intro) y hy, ?_⟩⟩
  intro h
  induction y with
  | zero => exact u.has 0 rfl
  | succ i ih => exact u.cl i (ih h.2) h.1
/-! ### promises -/
def sp_add_place : Sp := fun vs H Q _ => ∃ (g : Str) (p : Addr) (x : Nat) (L : List Nat) (m : Nat) (A : Nat → Prop), vs = [.str g, .ref p, .int (x : Int)] ∧ H p = some (.lst (nts L)) ∧ Up (tl g) L m A ∧ m ≤ x ∧ x ≤ (tl g).length ∧ (∀ y ∈ L, y ≤ (tl g).length) ∧ (tl g).length ≤ 10000 ∧
  ∀ (L' : List Nat) (H' : Hp), H' p = some (.lst (nts L')) → (∀ b, b ≠ p → H' b = H b) → Up (tl g) L' x (fun y => A y ∨ y = x) → (∀ y ∈ L', y ≤ (tl g).length) → Q .non H'
def sp_follows (K : PySem.W.Frag) : Sp := fun vs H Q _ => ∃ (g : Str) (a : Addr) (c : Nat) (ps : List Nat) (M : Nat → Prop), vs = [.str g, .ref a, .str (S [c])] ∧ SqT K H a (nts ps) ∧ Asd ps M ∧ closed (tl g) M ∧ within (tl g) M ∧ c ≠ 42 ∧ (tl g).length ≤ 10000 ∧
  ∀ (q : Addr) (qs : List Nat) (H' : Hp), Same H H' → H' q = some (.tup (nts qs)) → Asd qs (nxt (tl g) M c) → Q (.ref q) H'
def sp_standing (K : PySem.W.Frag) : Sp := fun vs H Q _ => ∃ (g b : Str), vs = [.str g, .str b] ∧ (∀ c ∈ tl b, c ≠ 42) ∧ (tl g).length ≤ 10000 ∧
  ∀ (q : Addr) (qs : List Nat) (H' : Hp), Same H H' → H' q = some (.tup (nts qs)) → Asd qs (stand (tl g) (tl b)) → Q (.ref q) H'
open Classical in
def sp_fits (K : PySem.W.Frag) : Sp := fun vs H Q _ => ∃ (g b : Str), vs = [.str g, .str b] ∧ (∀ c ∈ tl b, c ≠ 42) ∧ (tl g).length ≤ 10000 ∧
  ∀ (H' : Hp), Same H H' → Q (.bl (decide (stand (tl g) (tl b) (tl g).length))) H'
theorem inV_nts (n : Nat) (l : List Nat) : inV (V.int (n : Int)) (nts l) = decide (n ∈ l) := by
  unfold inV nts
  induction l with
  | nil => rfl
  | cons y ys ih =>
    rw [List.map_cons, List.any_cons, ih]
    by_cases e : n = y
    · subst e; simp [eqV]
    · have : ¬ (y : Int) = (n : Int) := fun h => e (by omega)
      simp [eqV, e, this]
theorem flat_nts (xs : List Nat) : (nts xs).all flatV = true := List.all_eq_true.mpr fun x h => by
  obtain ⟨y, _, rfl⟩ := List.mem_map.mp h; rfl
theorem DVs.nats {K : PySem.W.Frag} {H : Hp} (xs : List Nat) : DVs K H (xs.map fun k : Nat => D.int (k : Int)) (nts xs) := by
  have := DVs.ints (K := K) (H := H) (xs.map fun k : Nat => (k : Int))
  rwa [List.map_map, List.map_map] at this
theorem DV.nats {K : PySem.W.Frag} {H : Hp} {p : Addr} {xs : List Nat} (h : SqT K H p (nts xs)) : DV K H (.tup (xs.map fun k : Nat => D.int (k : Int))) (.ref p) := by
  unfold DV
  exact ⟨p, _, rfl, h, DVs.nats xs⟩
theorem DL.nats {n : Nat} (xs : List Nat) (h : xs.length ≤ 1000000) : DL (n + 2) (.tup (xs.map fun k : Nat => D.int (k : Int))) := ⟨by rw [List.length_map]; exact h, fun d m => by obtain ⟨x, _, rfl⟩ := List.mem_map.mp m; exact True.intro⟩
end Z
namespace Z
open PySem L2 SX
/-! ### patterns -/
def parts (p : List Nat) : List (List Nat) := TL.spl [44] 0 [] p
theorem spl_bound (c0 : Nat) : ∀ (l acc : List Nat), (∀ q ∈ TL.spl [c0] 0 acc l, q.length ≤ acc.length + l.length) ∧ (TL.spl [c0] 0 acc l).length ≤ l.length + 1
  | [], acc => by
    rw [TL.spl_nil]
    exact ⟨fun q h => by rw [List.mem_singleton.mp h]; exact Nat.le_refl _, Nat.le_refl _⟩
  | c :: r, acc => by
    cases h : TL.pre [c0] (c :: r) with
    | true =>
      rw [TL.spl_hit h]
      have ih := spl_bound c0 r []
      refine ⟨fun q hq => ?_, ?_⟩
      · rcases List.mem_cons.mp hq with e | e
        · subst e; omega
        · have := ih.1 q e; rw [List.length_nil] at this; rw [List.length_cons]; omega
      · have := ih.2; show (TL.spl [c0] 0 [] r).length + 1 ≤ r.length + 1 + 1; omega
    | false =>
      rw [TL.spl_miss h]
      have ih := spl_bound c0 r (acc ++ [c])
      refine ⟨fun q hq => ?_, ?_⟩
      · have := ih.1 q hq; rw [List.length_append] at this; rw [List.length_cons]; simp at this; omega
      · rw [List.length_cons]; have := ih.2; omega
theorem parts_len {p q : List Nat} (h : q ∈ parts p) : q.length ≤ p.length := by have := (spl_bound 44 p []).1 q h; rw [List.length_nil] at this; omega
theorem parts_num (p : List Nat) : (parts p).length ≤ p.length + 1 := (spl_bound 44 p []).2
/-- an item: its sign, its glob -/
def isBar (it : List Nat) : Bool := decide (it.take 1 = [33])
def globOf (it : List Nat) : List Nat := if isBar it = true then it.drop 1 else it
theorem globOf_len (it : List Nat) : (globOf it).length ≤ it.length := by
  unfold globOf; split
  · rw [List.length_drop]; omega
  · exact Nat.le_refl _
def fit (g b : List Nat) : Prop := stand g b g.length
open Classical in
noncomputable def letsL (its : List (List Nat)) (b : List Nat) : Bool := its.foldl (fun ans it => if fit (globOf it) b then !isBar it else ans) false
open Classical in
theorem lets_skip (b : List Nat) : ∀ (its : List (List Nat)) (v : Bool), (∀ it ∈ its, ¬ fit (globOf it) b) → its.foldl (fun ans it => if fit (globOf it) b then !isBar it else ans) v = v
  | [], _, _ => rfl
  | x :: r, v, h => by rw [List.foldl_cons, if_neg (h x (by simp))]; exact lets_skip b r v fun y hy => h y (List.mem_cons_of_mem _ hy)
theorem lets_last {its : List (List Nat)} {b : List Nat} {i : Nat} {it : List Nat} (h : its[i]? = some it) (hf : fit (globOf it) b) (hn : ∀ (j : Nat) (y : List Nat), i < j → its[j]? = some y → ¬ fit (globOf y) b) : letsL its b = !isBar it := by
  classical
  unfold letsL
  have e : its = its.take i ++ it :: its.drop (i + 1) := by
    obtain ⟨h1, h2⟩ := List.getElem?_eq_some_iff.mp h
    rw [← h2, List.getElem_cons_drop, List.take_append_drop]
  rw [e, List.foldl_append, List.foldl_cons, if_pos hf]
  refine lets_skip b _ _ fun y hy => ?_
  obtain ⟨j, hj, e2⟩ := List.getElem_of_mem hy
  refine hn (i + 1 + j) y (by omega) ?_
  have := List.getElem?_eq_getElem hj
  rw [List.getElem?_drop, e2] at this
  exact this
theorem lets_none {its : List (List Nat)} {b : List Nat} (hn : ∀ (j : Nat) (y : List Nat), its[j]? = some y → ¬ fit (globOf y) b) : letsL its b = false := by
  classical
  unfold letsL
  refine lets_skip b _ _ fun y hy => ?_
  obtain ⟨j, hj, e⟩ := List.getElem_of_mem hy
  exact hn j y (by rw [List.getElem?_eq_getElem hj, e])
def Clean (b : List Nat) : Prop := ∀ c ∈ b, c ≠ 42
theorem bar_starts (x : Str) : Txt.startswith x (Str.ofString "!") = isBar (tl x) := by
  have e := StrLaws.subAt_one x 33 0
  have e0 : ((tl x)[0]? = some 33) ↔ (tl x).take 1 = [33] := by
    cases tl x with
    | nil => simp
    | cons y r => simp
  unfold Txt.startswith isBar
  rw [Bool.eq_iff_iff, Bool.and_eq_true, decide_eq_true_iff, decide_eq_true_iff, ← e0]
  exact e
theorem bar_cut (x : Str) : decide (V.str (cutS x none (some 1)) = V.str (Str.ofString "!")) = isBar (tl x) := by
  unfold isBar
  rw [Bool.eq_iff_iff, decide_eq_true_iff, decide_eq_true_iff]
  have e : tl (cutS x none (some 1)) = (tl x).take 1 := cutS_to (by decide)
  constructor
  · intro h
    have h2 := congrArg tl (V.str.inj h)
    rw [e] at h2; exact h2
  · intro h
    exact congrArg V.str (tl_ext (by rw [e, h]; rfl))
/-- the law's places: those that lie ahead of a star, too -/
def Lax (g : List Nat) (N M : Nat → Prop) : Prop := ∀ y, M y ↔ (N y ∨ (g[y]? = some 42 ∧ N (y + 1)))
theorem lax_start (g : List Nat) : Lax g (st0 g) (st0 g) := fun y => ⟨.inl, fun h => h.elim id fun k => k.2.2⟩
/-- what the law puts in, ahead of its last loop -/
def lawA (g : List Nat) (M : Nat → Prop) (c : Nat) (y : Nat) : Prop := (M y ∧ g[y]? = some 42) ∨ ∃ i, y = i + 1 ∧ M i ∧ (g[i]? = some 63 ∨ g[i]? = some c)
def lawB (g : List Nat) (A : Nat → Prop) : Nat → Prop
  | 0 => A 0
  | i + 1 => A (i + 1) ∨ (lawB g A i ∧ g[i]? = some 42)
theorem lax_next {g : List Nat} {N M : Nat → Prop} {c : Nat} (hc : c ≠ 42) (cl : closed g N) (l : Lax g N M) : Lax g (nxt g N c) (lawB g (lawA g M c)) := by
  have ns : ∀ i : Nat, (g[i]? = some 63 ∨ g[i]? = some c) → g[i]? ≠ some 42 := fun i h e => by
    rcases h with h | h <;> rw [h] at e
    · cases e
    · exact hc (Option.some.inj e)
  have bA : ∀ y, lawA g M c y → lawB g (lawA g M c) y := fun y h => by
    cases y with
    | zero => exact h
    | succ i => exact .inl h
  have fA : ∀ y, lawA g M c y → nxt g N c y ∨ (g[y]? = some 42 ∧ nxt g N c (y + 1)) := fun y h => by
    rcases h with ⟨m, e⟩ | ⟨i, rfl, m, k⟩
    · refine .inr ⟨e, .inl ⟨e, .inr ?_⟩⟩
      rcases (l y).mp m with n | ⟨_, n⟩
      · exact cl y n e
      · exact n
    · refine .inl (.inr ⟨ns i k, ?_, k⟩)
      rcases (l i).mp m with n | ⟨q, _⟩
      · exact n
      · exact absurd q (ns i k)
  have back : ∀ y, nxt g N c y → lawB g (lawA g M c) y := fun y => by
    induction y with
    | zero => intro h; exact h.elim
    | succ i ih =>
      rintro (⟨e, h | h⟩ | ⟨_, n, k⟩)
      · exact .inr ⟨ih h, e⟩
      · exact .inr ⟨bA i (.inl ⟨(l i).mpr (.inr ⟨e, h⟩), e⟩), e⟩
      · exact .inl (.inr ⟨i, rfl, (l i).mpr (.inl n), k⟩)
  intro y
  constructor
  · induction y with
    | zero => intro h; exact fA 0 h
    | succ i ih =>
      rintro (h | ⟨h, e⟩)
      · exact fA _ h
      · rcases ih h with n | ⟨_, n⟩
        · exact .inl (.inl ⟨e, .inl n⟩)
        · exact .inl n
  · rintro (h | ⟨e, h⟩)
    · exact back y h
    · rcases h with ⟨_, h | h⟩ | ⟨q, _⟩
      · exact back y h
      · exact bA y (.inl ⟨(l y).mpr (.inr ⟨e, h⟩), e⟩)
      · exact absurd e q
/-! ### promises -/
def itemV (it : List Nat) : List V := [.int (if isBar it = true then 0 else 1), .str (S (globOf it))]
def sp_items_of (K : PySem.W.Frag) : Sp := fun vs H Q _ => ∃ (p : Str), vs = [.str p] ∧ (tl p).length ≤ 3000 ∧
  ∀ (q : Addr) (ts : List Addr) (H' : Hp), Same H H' → H' q = some (.tup (ts.map V.ref)) → ts.length = (parts (tl p)).length → (∀ (i : Nat) (t : Addr) (it : List Nat), ts[i]? = some t → (parts (tl p))[i]? = some it → H' t = some (.tup (itemV it))) → Q (.ref q) H'
def sp_lets (K : PySem.W.Frag) : Sp := fun vs H Q _ => ∃ (p b : Str), vs = [.str p, .str b] ∧ (tl p).length ≤ 3000 ∧ Clean (tl b) ∧ ∀ H', Same H H' → Q (.bl (letsL (parts (tl p)) (tl b))) H'
def sp_lets_one (K : PySem.W.Frag) : Sp := fun vs H Q _ => ∃ (p : Str) (a : Addr) (bs : List Str), vs = [.str p, .ref a] ∧ SqT K H a (bs.map V.str) ∧ (tl p).length ≤ 3000 ∧ bs.length ≤ 1000 ∧ (∀ b ∈ bs, Clean (tl b)) ∧ ∀ H', Same H H' → Q (.bl (bs.any fun b => letsL (parts (tl p)) (tl b))) H'
open Classical in
def sp__law_fits (K : PySem.W.Frag) : Sp := fun vs H Q _ => ∃ (g b : Str), vs = [.str g, .str b] ∧ Clean (tl b) ∧ (tl g).length ≤ 10000 ∧ ∀ (H' : Hp), Same H H' → Q (.bl (decide (fit (tl g) (tl b)))) H'
def sp__law_lets (K : PySem.W.Frag) : Sp := sp_lets K
def sp__law_lets_some (K : PySem.W.Frag) : Sp := sp_lets_one K
theorem split_bar (p : Str) : Txt.split p (Str.ofString ",") = (parts (tl p)).map S := split_S (a := tl p) (b := [44]) (by decide) (by decide)

/-! ### lists of truth values -/
def Bs (bs : List Bool) (n : Nat) (M : Nat → Prop) : Prop := bs.length = n + 1 ∧ ∀ y, bs[y]? = some true ↔ M y
theorem Bs.set {bs : List Bool} {n k : Nat} {M : Nat → Prop} (h : Bs bs n M) (hk : k ≤ n) : Bs (bs.set k true) n (fun y => M y ∨ y = k) := by
  refine ⟨by rw [List.length_set]; exact h.1, fun y => ?_⟩
  rw [List.getElem?_set]
  by_cases e : k = y
  · subst e
    rw [if_pos rfl, if_pos (by have := h.1; omega)]
    exact ⟨fun _ => .inr rfl, fun _ => rfl⟩
  · rw [if_neg e]
    exact ⟨fun q => .inl ((h.2 y).mp q), fun q => q.elim (h.2 y).mpr fun z => absurd z.symm e⟩
theorem Bs.congr {bs : List Bool} {n : Nat} {M N : Nat → Prop} (h : Bs bs n M) (e : ∀ y, M y ↔ N y) : Bs bs n N := ⟨h.1, fun y => (h.2 y).trans (e y)⟩
theorem Bs.get {bs : List Bool} {n k : Nat} {M : Nat → Prop} (h : Bs bs n M) (hk : k ≤ n) : ∃ b : Bool, bs[k]? = some b ∧ (b = true ↔ M k) := by
  have hl : k < bs.length := by have := h.1; omega
  refine ⟨bs[k], List.getElem?_eq_getElem hl, ?_⟩
  rw [← h.2 k, List.getElem?_eq_getElem hl]
  exact ⟨fun e => by rw [e], fun e => Option.some.inj e⟩
theorem atI_bl {bs : List Bool} {k : Nat} {b : Bool} {z : Int} (hz : z = (k : Int)) (h : bs[k]? = some b) : atI (bs.map V.bl) z = some (.bl b) := at_of hz (by rw [List.getElem?_map, h]; rfl)
theorem ixN_pos {n k : Nat} {z : Int} (hz : z = (k : Int)) (h : k < n) : ixN n z = some k := by
  subst hz
  unfold ixN
  rw [if_pos (by omega), if_pos (by omega)]; rfl
theorem map_set_bl (bs : List Bool) (k : Nat) : (bs.map V.bl).set k (.bl true) = (bs.set k true).map V.bl := by rw [List.map_set]
theorem bs_false (n : Nat) : Bs (List.replicate (n + 1) false) n (fun _ => False) := by
  refine ⟨List.length_replicate, fun y => ⟨fun h => ?_, fun h => h.elim⟩⟩
  rw [List.getElem?_replicate] at h
  split at h <;> cases h
theorem flatten_one (n : Nat) : (List.replicate n [V.bl false]).flatten = (List.replicate n false).map V.bl := by
  induction n with
  | zero => rfl
  | succ n ih => rw [List.replicate_succ, List.flatten_cons, ih, List.replicate_succ, List.map_cons]; rfl
end Z
namespace Z
open PySem L2 SX
/-! ### boards, globs, patterns, as they are drawn -/
/-- tuples stay -/
def TK (K : PySem.W.Frag) (H H' : Hp) : Prop := ∀ a xs, SqT K H a xs → SqT K H' a xs
theorem TK.same {K : PySem.W.Frag} {H H' : Hp} (h : Same H H') : TK K H H' := fun _ _ q => h.tup q
theorem TK.ext {K : PySem.W.Frag} {H H' : Hp} {s a : Addr} {c : Nat} (h : Ext s H H') (S : Src H s a c) : TK K H H' := fun _ _ q => h.seqT S.lst.choose_spec q
theorem TK.trans {K : PySem.W.Frag} {H H1 H2 : Hp} (x : TK K H H1) (y : TK K H1 H2) : TK K H H2 := fun a xs q => y a xs (x a xs q)
theorem TK.lst {K : PySem.W.Frag} {H : Hp} {L : Addr} {xs ys : List V} (h : H L = some (.lst xs)) : TK K H (upd H L (.lst ys)) := fun a us q => by
  rcases q with (q | ⟨o, q⟩) | q
  · exact .inl (.inl (by rw [upd_ne (fun e => by rw [e, h] at q; cases q)]; exact q))
  · exact .inl (.inr ⟨o, by rw [upd_ne (fun e => by rw [e, h] at q; cases q)]; exact q⟩)
  · exact .inr q
theorem ext_free {H H1 : Hp} {s a u : Addr} {c : Nat} (x : Ext s H H1) (S : Src H1 s a c) (h : H1 u = none) : H u = none := by
  cases e : H u with
  | none => rfl
  | some o =>
    by_cases q : u = s
    · subst q
      obtain ⟨xs, e2⟩ := S.lst
      rw [h] at e2; cases e2
    · have := x _ _ q e
      rw [h] at this; cases this
/-- signs of boards -/
def Bdc (l : List Nat) : Prop := ∀ c ∈ l, (97 ≤ c ∧ c ≤ 122) ∨ (48 ≤ c ∧ c ≤ 57) ∨ c = 46
theorem Low.bdc {l : List Nat} (h : Low l) : Bdc l := fun c m => (h c m).elim .inl fun q => .inr (.inl q)
theorem Bdc.clean {l : List Nat} (h : Bdc l) : Clean l := fun c m => by have := h c m; omega
theorem joinL_mem {s : List Nat} : ∀ {ls : List (List Nat)} {c : Nat}, c ∈ TL.joinL s ls → c ∈ s ∨ ∃ l ∈ ls, c ∈ l
  | [], c, h => by cases h
  | [x], c, h => .inr ⟨x, by simp, h⟩
  | x :: y :: r, c, h => by
    have h' : c ∈ x ++ (s ++ TL.joinL s (y :: r)) := h
    rcases List.mem_append.mp h' with q | q
    · exact .inr ⟨x, by simp, q⟩
    · rcases List.mem_append.mp q with q | q
      · exact .inl q
      · rcases joinL_mem q with q | ⟨l, m, q⟩
        · exact .inl q
        · exact .inr ⟨l, List.mem_cons_of_mem _ m, q⟩
theorem joinL_len {s : List Nat} {n : Nat} : ∀ {ls : List (List Nat)}, (∀ l ∈ ls, l.length ≤ n) → (TL.joinL s ls).length ≤ ls.length * (n + s.length)
  | [], _ => by simp [TL.joinL]
  | [x], h => by have := h x (by simp); show x.length ≤ 1 * (n + s.length); omega
  | x :: y :: r, h => by
    have ih := joinL_len (s := s) (ls := y :: r) (fun l m => h l (List.mem_cons_of_mem _ m))
    have := h x (by simp)
    show (x ++ (s ++ TL.joinL s (y :: r))).length ≤ ((y :: r).length + 1) * (n + s.length)
    rw [List.length_append, List.length_append, Nat.succ_mul]
    omega
theorem tl_joinS (s : Str) (xs : List Str) : tl (Txt.join s xs) = TL.joinL (tl s) (xs.map tl) := by
  have h := join_S (tl s) (xs.map tl)
  rw [tl_mapS] at h
  exact congrArg tl h
theorem sum_len {n : Nat} : ∀ {xs : List Str}, (∀ x ∈ xs, (tl x).length ≤ n) → (xs.map (·.length)).sum ≤ xs.length * n
  | [], _ => by simp
  | x :: xs, h => by
    have := h x (by simp)
    have ih := sum_len (n := n) (xs := xs) (fun y m => h y (List.mem_cons_of_mem _ m))
    rw [List.map_cons, List.sum_cons, List.length_cons, Nat.succ_mul, tl_len]; omega
def sp__law_words (K : PySem.W.Frag) : Sp := fun vs H Q _ => ∃ (s a : Addr) (c : Nat), vs = [.ref s] ∧ Src H s a (c + 100) ∧
  ∀ (u : Addr) (us : List Str) (H' : Hp), H u = none → H' u = some (.lst (us.map V.str)) → 2 ≤ us.length → us.length ≤ 4 → (∀ x ∈ us, Nm (tl x) ∧ (tl x).length ≤ 70) → Ext s H H' → Src H' s a c → Q (.ref u) H'
def sp__law_board (K : PySem.W.Frag) : Sp := fun vs H Q _ => ∃ (s a u : Addr) (us : List Str) (c : Nat), vs = [.ref s, .ref u] ∧ SqL K H u (us.map V.str) ∧ u ≠ s ∧ us ≠ [] ∧ us.length ≤ 100 ∧ (∀ x ∈ us, Nm (tl x) ∧ (tl x).length ≤ 70) ∧ Src H s a (c + 10) ∧
  ∀ (x : Str) (H' : Hp), Bdc (tl x) → (tl x).length ≤ 300 → Ext s H H' → Src H' s a c → Q (.str x) H'
def sp__law_boards (K : PySem.W.Frag) : Sp := fun vs H Q _ => ∃ (s a u : Addr) (us : List Str) (m : Int) (c : Nat), vs = [.ref s, .ref u, .int m] ∧ SqL K H u (us.map V.str) ∧ u ≠ s ∧ us ≠ [] ∧ us.length ≤ 100 ∧ (∀ x ∈ us, Nm (tl x) ∧ (tl x).length ≤ 70) ∧ 0 < m ∧ m ≤ 10 ∧ Src H s a (c + 200) ∧
  ∀ (t : Addr) (bs : List Str) (H' : Hp), H' t = some (.tup (bs.map V.str)) → bs.length ≤ 10 → (∀ x ∈ bs, Bdc (tl x) ∧ (tl x).length ≤ 300) → Ext s H H' → Src H' s a c → Q (.ref t) H'
def sp__law_glob (K : PySem.W.Frag) : Sp := fun vs H Q _ => ∃ (s a u : Addr) (us : List Str) (c : Nat), vs = [.ref s, .ref u] ∧ SqL K H u (us.map V.str) ∧ u ≠ s ∧ us ≠ [] ∧ us.length ≤ 100 ∧ (∀ x ∈ us, Nm (tl x) ∧ (tl x).length ≤ 70) ∧ Src H s a (c + 20) ∧
  ∀ (x : Str) (H' : Hp), (tl x).length ≤ 400 → Ext s H H' → Src H' s a c → Q (.str x) H'
def sp__law_pattern (K : PySem.W.Frag) : Sp := fun vs H Q _ => ∃ (s a u : Addr) (us : List Str) (c : Nat), vs = [.ref s, .ref u] ∧ SqL K H u (us.map V.str) ∧ u ≠ s ∧ us ≠ [] ∧ us.length ≤ 100 ∧ (∀ x ∈ us, Nm (tl x) ∧ (tl x).length ≤ 70) ∧ Src H s a (c + 200) ∧
  ∀ (x : Str) (H' : Hp), (tl x).length ≤ 3000 → Ext s H H' → Src H' s a c → Q (.str x) H'
def sp__law_shuffled (K : PySem.W.Frag) : Sp := fun vs H Q _ => ∃ (s a r : Addr) (xs : List V) (c : Nat), vs = [.ref s, .ref r] ∧ SqL K H r xs ∧ r ≠ s ∧ xs.length ≤ 1000 ∧ Src H s a (c + xs.length) ∧
  ∀ (d : Addr) (ys : List V) (H' : Hp), H d = none → H' d = some (.lst ys) → ys.length = xs.length → (∀ y ∈ ys, y ∈ xs) → Ext s H H' → Src H' s a c → Q (.ref d) H'
end Z
namespace Z
open PySem L2 SX
noncomputable def valF (p : Str) (bs : List Str) (z h Z Y : Int) : Bool := (bs.any fun b => letsL (parts (tl p)) (tl b)) && (decide (z ≤ Z) && decide (h + 1 ≤ Y))
def FeedAt (K : PySem.W.Frag) (H : Hp) (fd : Addr) (p : Str) (Y Z : Int) : Prop := ∃ n0 n1 : Str, SqT K H fd [.str "feed", .str n0, .str n1, .str p, .int Y, .int Z] ∧ (tl p).length ≤ 3000 ∧ 1 ≤ Y ∧ Y ≤ 9 ∧ 1 ≤ Z ∧ Z ≤ 99
def BsOk (bs : List Str) : Prop := bs.length ≤ 10 ∧ ∀ b ∈ bs, Clean (tl b)
def RowAt (K : PySem.W.Frag) (H : Hp) (rw : Addr) (bd : Addr) (bs : List Str) (z h : Int) : Prop := SqT K H rw [.ref bd, .int z, .int h] ∧ SqT K H bd (bs.map V.str) ∧ BsOk bs
def IsRow (K : PySem.W.Frag) (H : Hp) (v : V) : Prop := ∃ rw bd bs z h, v = .ref rw ∧ RowAt K H rw bd bs z h
theorem FeedAt.tk {K : PySem.W.Frag} {H H' : Hp} {fd : Addr} {p : Str} {Y Z : Int} (t : TK K H H') (h : FeedAt K H fd p Y Z) : FeedAt K H' fd p Y Z := by
  obtain ⟨n0, n1, q, r⟩ := h
  exact ⟨n0, n1, t _ _ q, r⟩
theorem RowAt.tk {K : PySem.W.Frag} {H H' : Hp} {rw bd : Addr} {bs : List Str} {z h : Int} (t : TK K H H') (x : RowAt K H rw bd bs z h) : RowAt K H' rw bd bs z h := ⟨t _ _ x.1, t _ _ x.2.1, x.2.2⟩
theorem IsRow.tk {K : PySem.W.Frag} {H H' : Hp} {v : V} (t : TK K H H') (x : IsRow K H v) : IsRow K H' v := by
  obtain ⟨rw, bd, bs, z, h, e, r⟩ := x
  exact ⟨rw, bd, bs, z, h, e, r.tk t⟩
def AskAt (K : PySem.W.Frag) (H : Hp) (v : V) : Prop := ∃ t fd rw bd p Y Z bs z h, v = .ref t ∧ SqT K H t [.ref fd, .ref rw, .bl (valF p bs z h Z Y)] ∧ FeedAt K H fd p Y Z ∧ RowAt K H rw bd bs z h
theorem AskAt.tk {K : PySem.W.Frag} {H H' : Hp} {v : V} (t : TK K H H') (x : AskAt K H v) : AskAt K H' v := by
  obtain ⟨t0, fd, rw, bd, p, Y, Z, bs, z, h, e, q, f, r⟩ := x
  exact ⟨t0, fd, rw, bd, p, Y, Z, bs, z, h, e, t _ _ q, f.tk t, r.tk t⟩
def sp__law_feed (K : PySem.W.Frag) : Sp := fun vs H Q _ => ∃ (s a n u : Addr) (ns us : List Str) (c : Nat), vs = [.ref s, .ref n, .ref u] ∧ SqL K H n (ns.map V.str) ∧ n ≠ s ∧ ns.length = 2 ∧ SqL K H u (us.map V.str) ∧ u ≠ s ∧ us ≠ [] ∧ us.length ≤ 100 ∧ (∀ x ∈ us, Nm (tl x) ∧ (tl x).length ≤ 70) ∧ Src H s a (c + 300) ∧
  ∀ (fd : Addr) (p : Str) (Y Z : Int) (H' : Hp), FeedAt K H' fd p Y Z → Ext s H H' → Src H' s a c → Q (.ref fd) H'
def sp__law_questions (K : PySem.W.Frag) : Sp := fun vs H Q _ => ∃ (s a fd bd : Addr) (p : Str) (Y Z : Int) (bs : List Str) (c : Nat), vs = [.ref s, .ref fd, .ref bd] ∧ FeedAt K H fd p Y Z ∧ SqT K H bd (bs.map V.str) ∧ BsOk bs ∧ Src H s a (c + 100) ∧
  ∀ (R : Addr) (rs : List V) (H' : Hp), H' R = some (.lst rs) → rs.length ≤ 20 → (∀ v ∈ rs, IsRow K H' v) → H R = none → Ext s H H' → Src H' s a c → Q (.ref R) H'
def sp__law_due (K : PySem.W.Frag) : Sp := fun vs H Q _ => ∃ (fd rw bd : Addr) (p : Str) (Y Z z h : Int) (bs : List Str), vs = [.ref fd, .ref rw] ∧ FeedAt K H fd p Y Z ∧ RowAt K H rw bd bs z h ∧ ∀ H', Same H H' → Q (.bl (valF p bs z h Z Y)) H'
def sp_passes (K : PySem.W.Frag) : Sp := fun vs H Q _ => ∃ (fd bd : Addr) (p : Str) (Y Z z h : Int) (bs : List Str), vs = [.ref fd, .ref bd, .int z, .int h] ∧ FeedAt K H fd p Y Z ∧ SqT K H bd (bs.map V.str) ∧ BsOk bs ∧ ∀ H', Same H H' → Q (.bl (valF p bs z h Z Y)) H'
theorem push_rows {K : PySem.W.Frag} {H : Hp} {R t bd : Addr} {rs : List V} {bs : List Str} {z h : Int} (hR : H R = some (.lst rs)) (ht : H t = none) (hb : SqT K H bd (bs.map V.str)) (bo : BsOk bs) (hr : ∀ v ∈ rs, IsRow K H v) : ∀ v ∈ rs ++ [V.ref t], IsRow K (upd (upd H t (.tup [.ref bd, .int z, .int h])) R (.lst (rs ++ [.ref t]))) v := by
  have nn : R ≠ t := ne_of_none hR ht
  have e1 : (upd H t (HO.tup [.ref bd, .int z, .int h])) R = some (.lst rs) := by rw [upd_ne nn]; exact hR
  have k1 : TK K H (upd H t (HO.tup [.ref bd, .int z, .int h])) := TK.same (same_new ht)
  have k2 : TK K (upd H t (HO.tup [.ref bd, .int z, .int h])) (upd (upd H t (.tup [.ref bd, .int z, .int h])) R (.lst (rs ++ [.ref t]))) := TK.lst e1
  intro v hv
  rcases List.mem_append.mp hv with q | q
  · exact ((hr v q).tk k1).tk k2
  · rw [List.mem_singleton.mp q]
    exact ⟨t, bd, bs, z, h, rfl, k2 _ _ (SqT.of upd_same), k2 _ _ (k1 _ _ hb), bo⟩
theorem push_asked {K : PySem.W.Frag} {H : Hp} {A t fd rw bd : Addr} {as : List V} {p : Str} {Y Z : Int} {bs : List Str} {z h : Int} (hA : H A = some (.lst as)) (ht : H t = none) (hF : FeedAt K H fd p Y Z) (hR : RowAt K H rw bd bs z h) (ha : ∀ v ∈ as, AskAt K H v) : TK K H (upd (upd H t (.tup [.ref fd, .ref rw, .bl (valF p bs z h Z Y)])) A (.lst (as ++ [.ref t]))) ∧ ∀ v ∈ as ++ [V.ref t], AskAt K (upd (upd H t (.tup [.ref fd, .ref rw, .bl (valF p bs z h Z Y)])) A (.lst (as ++ [.ref t]))) v := by
  have nn : A ≠ t := ne_of_none hA ht
  have e1 : (upd H t (HO.tup [.ref fd, .ref rw, .bl (valF p bs z h Z Y)])) A = some (.lst as) := by rw [upd_ne nn]; exact hA
  have k1 : TK K H (upd H t (HO.tup [.ref fd, .ref rw, .bl (valF p bs z h Z Y)])) := TK.same (same_new ht)
  have k2 : TK K (upd H t (HO.tup [.ref fd, .ref rw, .bl (valF p bs z h Z Y)])) (upd (upd H t (.tup [.ref fd, .ref rw, .bl (valF p bs z h Z Y)])) A (.lst (as ++ [.ref t]))) := TK.lst e1
  refine ⟨k1.trans k2, fun v hv => ?_⟩
  rcases List.mem_append.mp hv with q | q
  · exact ((ha v q).tk k1).tk k2
  · rw [List.mem_singleton.mp q]
    exact ⟨t, fd, rw, bd, p, Y, Z, bs, z, h, rfl, k2 _ _ (SqT.of upd_same), hF.tk (k1.trans k2), hR.tk (k1.trans k2)⟩
end Z
namespace Z
open PySem L2
section
variable {P : Program} {w : World} {K : PySem.W.Frag} {mg : Str → Option Value} {base : Heap}
theorem ok__law_mix (D : Df K mg "_law_mix" s__law_mix ["seed", "turn"]) (T : Tx mg) : Cal P w K mg base "_law_mix" ["seed", "turn"] 1 sp__law_mix := by
  obtain ⟨f, fd, F, gf, bf⟩ := D
  refine ⟨f, fd, F.ok sc__law_mix (fun vs H Q E h => ?_) (fun cdv A outer s H vs Q E hr h => ?_), gf, F.kp, bf⟩
  · obtain ⟨x, y, rfl, _⟩ := h; rfl
  · obtain ⟨x, y, rfl, x0, x1, y0, y1, q⟩ := h
    refine ⟨_, (pss_cons (ps_set (i := 2) sc__law_mix.nd rfl (Or.inl rfl) (pe_op op_mod (pe_callTy call_int1 (by rfl) T.n_int (by decide +kernel) (pa_cons (pe_op op_add (pe_op op_add (pe_op op_mul (pv 0) pe_int) (pe_op op_mul (pv 1) pe_int)) pe_int) pa_nil)) pe_int))
      (pss_cons (ps_set (i := 2) sc__law_mix.nd rfl (Or.inl rfl) (pe_op op_mod (pe_callTy call_int1 (by rfl) T.n_int (by decide +kernel) (pa_cons (pe_op op_add (pe_op op_add (pe_op op_mul (pv 2) (pv 2)) (pe_op op_mul (pv 1) pe_int)) pe_int) pa_nil)) pe_int))
      (pss_cons (ps_set (i := 2) sc__law_mix.nd rfl (Or.inl rfl) (pe_op op_mod (pe_callTy call_int1 (by rfl) T.n_int (by decide +kernel) (pa_cons (pe_op op_add (pe_op op_add (pe_op op_mul (pv 2) pe_int) (pe_op op_mul (pe_op op_mul (pv 1) (pv 1)) pe_int)) pe_int) pa_nil)) pe_int))
      (pss_one (ps_ret (pv 2)))))), ?_⟩

    refine ⟨_, rfl, _, _, rfl, rfl, .inr (by decide), _, rfl, _, _, rfl, rfl, .inr (by decide), _, _, rfl, rfl, _, _, rfl, rfl, .inl ⟨_, rfl, _, _, rfl, rfl, (by show (0 : Int) < _; decide), ?_⟩⟩
    refine ⟨_, rfl, _, rfl, _, _, rfl, rfl, .inl ⟨by omega, by omega⟩, _, rfl, _, _, rfl, rfl, .inr (by decide), _, _, rfl, rfl, _, _, rfl, rfl, .inl ⟨_, rfl, _, _, rfl, rfl, (by show (0 : Int) < _; decide), ?_⟩⟩
    refine ⟨_, rfl, _, _, rfl, rfl, .inr (by decide), _, rfl, _, rfl, _, _, rfl, rfl, .inl ⟨by omega, by omega⟩, _, _, rfl, rfl, .inr (by decide), _, _, rfl, rfl, _, _, rfl, rfl, .inl ⟨_, rfl, _, _, rfl, rfl, (by show (0 : Int) < _; decide), ?_⟩⟩
    exact ⟨_, rfl, q _ (Int.emod_nonneg _ (by decide)) (by omega)⟩
end
end Z
namespace Z
open PySem L2
section
variable {P : Program} {w : World} {K : PySem.W.Frag} {mg : Str → Option Value} {base : Heap}
theorem ok__law_source (D : Df K mg "_law_source" s__law_source ["script"]) (T : Tx mg) (C__law_mix : Cal P w K mg base "_law_mix" ["seed", "turn"] 1 sp__law_mix) : Cal P w K mg base "_law_source" ["script"] 2 (sp__law_source K) := by
  obtain ⟨f__law_mix, fd__law_mix, G__law_mix, g__law_mix, k__law_mix, b__law_mix⟩ := C__law_mix
  obtain ⟨f, fd, F, gf, bf⟩ := D
  refine ⟨f, fd, F.ok sc__law_source (fun vs H Q E h => ?_) (fun cdv A outer s H vs Q E hr h => ?_), gf, F.kp, bf⟩
  · obtain ⟨a, ns, rfl, _⟩ := h; rfl
  · obtain ⟨a, ns, rfl, hS, hlen, q⟩ := h
    refine ⟨_, (pss_cons (ps_set (i := 1) sc__law_source.nd rfl (Or.inl rfl) pe_int)
      (pss_cons (ps_for PassesOwn.never rfl (pi_range1 (by rfl) T.n_range (pa_cons (pe_callB call_len_seq (by rfl) T.n_len PySem.boot_len (pa_cons (pv 0) pa_nil)) pa_nil)) (pg_name (i := 2) sc__law_source.nd rfl (Or.inl rfl))
      (pss_one (ps_set (i := 1) sc__law_source.nd rfl (Or.inl rfl) (pe_call G__law_mix (hr.mono (by decide)) (by rfl) g__law_mix k__law_mix b__law_mix .nil pass0 (pa_cons (pe_op op_add (pv 1) (pe_op op_mod (pe_callTy call_int1 (by rfl) T.n_int (by decide +kernel) (pa_cons (pe_ix ix_list (pv 0) (pv 2) (fun _ _ => rfl)) pa_nil)) pe_int)) (pa_cons (pv 2) pa_nil))))))
      (pss_one (ps_ret (pe_lst (pa_cons (pe_callTy call_list_of (by rfl) T.n_list (by decide +kernel) (pa_cons (pv 0) pa_nil)) (pa_cons pe_int (pa_cons pe_int (pa_cons (pv 1) (pa_cons pe_int pa_nil)))))))))), ?_⟩
    refine ⟨_, rfl, a, _, rfl, .inl hS, _, rfl, by rw [List.length_map]; omega, by rw [List.length_map]; omega, ?_⟩
    refine for_range (lo := 0) (n := (((ns.map V.int).length : Int)).toNat) (fun i σ H' => ∃ (e : Int) (v : Option V), σ = [some (.ref a), some (.int e), v] ∧ H' = H ∧ 0 ≤ e ∧ e < 2147483647) ⟨17, none, rfl, rfl, by decide, by decide⟩ ?_ ?_
    · rintro i σ H' hi ⟨e, v, rfl, rfl, e0, e1⟩
      rw [List.length_map] at hi
      have hi' : i < ns.length := by omega
      refine ⟨_, rfl, _, rfl, _, rfl, a, _, _, .int ns[i], rfl, rfl, hS, ?_, .inl ⟨_, rfl, _, _, rfl, rfl, (by show (0 : Int) < _; decide), _, _, rfl, rfl, _, rfl, ?_⟩⟩
      · rw [Int.zero_add]
        exact atI_nat (by rw [List.getElem?_map, List.getElem?_eq_getElem hi']; rfl)
      · refine ⟨_, _, rfl, ?_, ?_, ?_, ?_, fun v v0 v1 => ?_⟩
        · have := Int.emod_nonneg ns[i] (by decide : (2147483647 : Int) ≠ 0); omega
        · have := Int.emod_lt_of_pos ns[i] (by decide : (0 : Int) < 2147483647); omega
        · omega
        · omega
        · exact ⟨v, _, rfl, rfl, v0, v1⟩
    · rintro σ H' ⟨e, v, rfl, rfl, e0, e1⟩
      refine ⟨_, rfl, a, _, rfl, .inl hS, fun l hl => ?_⟩
      refine ⟨_, rfl, by show 5 ≤ sizeLine; decide, fun s hs => ?_⟩
      have hsl : s ≠ l := fun z => by rw [z, upd_same] at hs; cases hs
      have hs0 : H' s = none := by rw [upd_ne hsl] at hs; exact hs
      refine q s l _ hs0 ((same_new hl).trans (same_new hs)) ⟨ns, 0, 0, e, 0, upd_same, by rw [upd_ne hsl.symm, upd_same], hsl.symm, hlen, by decide, by decide, by decide, e0, e1, by decide, by decide⟩
end
end Z
namespace Z
open PySem L2
section
variable {P : Program} {w : World} {K : PySem.W.Frag} {mg : Str → Option Value} {base : Heap}
theorem ok__law_draw (D : Df K mg "_law_draw" s__law_draw ["source", "many"]) (T : Tx mg) (C__law_mix : Cal P w K mg base "_law_mix" ["seed", "turn"] 1 sp__law_mix) : Cal P w K mg base "_law_draw" ["source", "many"] 2 sp__law_draw := by
  obtain ⟨f__law_mix, fd__law_mix, G__law_mix, g__law_mix, k__law_mix, b__law_mix⟩ := C__law_mix
  obtain ⟨f, fd, F, gf, bf⟩ := D
  refine ⟨f, fd, F.ok sc__law_draw (fun vs H Q E h => ?_) (fun cdv A outer s H vs Q E hr h => ?_), gf, F.kp, bf⟩
  · obtain ⟨s, a, m, c, rfl, _⟩ := h; rfl
  · obtain ⟨s, a, m, c, rfl, m0, m1, hS, q⟩ := h
    refine ⟨_, (C8.pss_cut (ps_if (PW.pt (pw_and (pt_cmpR op_eq (pe_ix ix_list (pv 0) pe_int (fun _ _ => rfl)) pe_int (nomark _)) (pw_and (pt_cmpR op_lt (pe_ix ix_list (pv 0) pe_int (fun _ _ => rfl)) (pe_callB call_len_seq (by rfl) T.n_len PySem.boot_len (pa_cons (pe_ix ix_list (pv 0) pe_int (fun _ _ => rfl)) pa_nil)) (nomark _)) (pw_and1 (pt_cmpR op_eq (pe_op op_mod (pe_callTy call_int1 (by rfl) T.n_int (by decide +kernel) (pa_cons (pe_ix ix_list (pv 0) pe_int (fun _ _ => rfl)) pa_nil)) pe_int) pe_int (nomark _))))))
      (pss_cons (ps_set (i := 2) sc__law_draw.nd rfl (Or.inl rfl) (pe_ix ix_list (pe_ix ix_list (pv 0) pe_int (fun _ _ => rfl)) (pe_ix ix_list (pv 0) pe_int (fun _ _ => rfl)) (fun _ _ => rfl)))
        (pss_cons (ps_asg (pe_op op_add (pe_ix ix_list (pv 0) pe_int (fun _ _ => rfl)) pe_int) (pg_sub (pv 0) pe_int set_list))
        (pss_one (ps_if (pt_cmpR op_ge (pe_callB call_abs (by rfl) T.n_abs (by decide +kernel) (pa_cons (pv 2) pa_nil)) (pe_op op_pow pe_int pe_int) (nomark _))
        (pss_one (ps_asg (pe_op op_and (pe_callB call_abs (by rfl) T.n_abs (by decide +kernel) (pa_cons (pv 2) pa_nil)) (pe_op op_sub (pe_op op_shl pe_int pe_int) pe_int)) (pg_sub (pv 0) pe_int set_list)))
        (pss_one (ps_asg (pe_call G__law_mix (hr.mono (by decide)) (by rfl) g__law_mix k__law_mix b__law_mix .nil pass0 (pa_cons (pe_op op_add (pe_ix ix_list (pv 0) pe_int (fun _ _ => rfl)) (pe_op op_mod (pe_callTy call_int1 (by rfl) T.n_int (by decide +kernel) (pa_cons (pv 2) pa_nil)) pe_int)) (pa_cons (pe_ix ix_list (pv 0) pe_int (fun _ _ => rfl)) pa_nil))) (pg_sub (pv 0) pe_int set_list)))))))
      pss_nil)
      (pss_cons (ps_if (pt_cmpR op_gt (pe_ix ix_list (pv 0) pe_int (fun _ _ => rfl)) pe_int (nomark _))
      (pss_cons (ps_set (i := 3) sc__law_draw.nd rfl (Or.inl rfl) (pe_op op_mod (pe_callTy call_int1 (by rfl) T.n_int (by decide +kernel) (pa_cons (pe_ix ix_list (pv 0) pe_int (fun _ _ => rfl)) pa_nil)) (pv 1)))
        (pss_cons (ps_asg (pe_op op_fdivN (pe_callTy call_int1 (by rfl) T.n_int (by decide +kernel) (pa_cons (pe_ix ix_list (pv 0) pe_int (fun _ _ => rfl)) pa_nil)) (pv 1)) (pg_sub (pv 0) pe_int set_list))
        (pss_one (ps_ret (pv 3)))))
      pss_nil)
      (pss_cons (ps_asg (pe_op op_add (pe_ix ix_list (pv 0) pe_int (fun _ _ => rfl)) pe_int) (pg_sub (pv 0) pe_int set_list))
      (pss_one (ps_ret (pe_op op_mod (pe_callTy call_int1 (by rfl) T.n_int (by decide +kernel) (pa_cons (pe_op op_fdiv (pe_call G__law_mix (hr.mono (by decide)) (by rfl) g__law_mix k__law_mix b__law_mix .nil pass0 (pa_cons (pe_ix ix_list (pv 0) pe_int (fun _ _ => rfl)) (pa_cons (pe_ix ix_list (pv 0) pe_int (fun _ _ => rfl)) pa_nil))) pe_int) pa_nil)) (pv 1))))))), ?_⟩
    refine ⟨fun σ' H' => (∃ v2 v3, σ' = [some (.ref s), some (.int m), v2, v3]) ∧ Src H' s a (c + 1) ∧ Ext s H H', ?_, ?_⟩
    · obtain ⟨ns, i, b, e, t, h1, h2, as, h4, h5, h6, h7, h8, h9, h10, h11⟩ := id hS
      have hL : SqL K H s [.ref a, .int i, .int b, .int e, .int t] := SqL.of h1
      refine ⟨_, rfl, _, _, _, _, rfl, rfl, hL, rfl, rfl, _, rfl, ite2 (fun c1 => ?_) (fun c1 => iteF ⟨⟨_, _, rfl⟩, hS, Ext.refl _ _⟩)⟩
      refine ⟨_, rfl, _, _, _, _, rfl, rfl, hL, rfl, _, rfl, _, _, _, _, rfl, rfl, hL, rfl, a, _, rfl, .inl (SqL.of h2), _, _, rfl, rfl, _, rfl, ite2 (fun c2 => ?_) (fun c2 => iteF ⟨⟨_, _, rfl⟩, hS, Ext.refl _ _⟩)⟩
      refine ⟨_, rfl, _, _, _, _, rfl, rfl, hL, rfl, .inl ⟨_, rfl, _, _, rfl, rfl, (by show (0 : Int) < 6; decide), rfl, _, rfl, ite2 (fun c3 => ?_) (fun c3 => ⟨⟨_, _, rfl⟩, hS, Ext.refl _ _⟩)⟩⟩
      have hi : i < ns.length := by
        have := of_decide_eq_true c2
        rw [List.length_map] at this
        exact this
      have hi' : i.toNat < ns.length := by omega
      -- cell = source[0][source[1]]
      refine ⟨_, rfl, _, _, _, _, rfl, rfl, hL, rfl, _, rfl, _, _, _, _, rfl, rfl, hL, rfl, a, _, _, .int ns[i.toNat], rfl, rfl, SqL.of h2, at_of (j := i.toNat) (by omega) (by rw [List.getElem?_map, List.getElem?_eq_getElem hi']; rfl), ?_⟩
      -- source[1] = source[1] + 1
      refine ⟨_, rfl, _, _, _, _, rfl, rfl, hL, rfl, _, _, rfl, rfl, _, rfl, _, _, _, 1, rfl, rfl, h1, rfl, ?_⟩
      refine ⟨_, rfl, _, rfl, _, _, rfl, rfl, ⟨by decide, by decide, by decide⟩, _, _, rfl, rfl, _, rfl, ite2 (fun c4 => ?_) (fun c4 => ?_)⟩
      · refine ⟨_, rfl, _, rfl, _, _, rfl, rfl, ⟨by decide, by decide, by decide⟩, _, _, rfl, rfl, _, _, rfl, rfl, _, rfl, _, _, _, 2, rfl, rfl, upd_same, rfl, ?_⟩
        refine ⟨⟨_, _, rfl⟩, ?_, ?_⟩
        · refine ⟨ns, i + 1, _, e, t, upd_same, by rw [upd_ne as, upd_ne as]; exact h2, as, h4, by omega, by omega, ?_, h8, h9, h10, h11⟩
          exact and_nn (by split <;> omega) _
        · exact Ext.put.trans Ext.put
      · refine ⟨_, rfl, _, _, _, _, rfl, rfl, SqL.of upd_same, rfl, _, rfl, .inl ⟨_, rfl, _, _, rfl, rfl, (by show (0 : Int) < 2147483647; decide), _, _, rfl, rfl, _, rfl, _, _, _, _, rfl, rfl, SqL.of upd_same, rfl, _, _, rfl, ?_, ?_, ?_, ?_, fun v v0 v1 => ?_⟩⟩
        · have := Int.emod_nonneg ns[i.toNat] (by decide : (2147483647 : Int) ≠ 0); omega
        · have := Int.emod_lt_of_pos ns[i.toNat] (by decide : (0 : Int) < 2147483647); omega
        · omega
        · omega
        · refine ⟨_, rfl, _, _, _, 3, rfl, rfl, upd_same, rfl, ⟨_, _, rfl⟩, ?_, Ext.put.trans Ext.put⟩
          exact ⟨ns, i + 1, b, v, t, upd_same, by rw [upd_ne as, upd_ne as]; exact h2, as, h4, by omega, by omega, h7, v0, v1, h10, h11⟩
    · rintro σ' H' ⟨⟨v2, v3, rfl⟩, hS', hx⟩
      obtain ⟨ns, i, b, e, t, h1, h2, as, h4, h5, h6, h7, h8, h9, h10, h11⟩ := id hS'
      have hL : SqL K H' s [.ref a, .int i, .int b, .int e, .int t] := SqL.of h1
      refine ⟨_, rfl, _, _, _, _, rfl, rfl, hL, rfl, _, _, rfl, rfl, _, rfl, ite2 (fun c1 => ?_) (fun c1 => ?_)⟩
      · refine ⟨_, rfl, _, _, _, _, rfl, rfl, hL, rfl, .inl ⟨_, rfl, _, rfl, _, _, rfl, rfl, m0, ?_⟩⟩
        refine ⟨_, rfl, _, _, _, _, rfl, rfl, hL, rfl, .inl ⟨_, rfl, _, rfl, _, _, rfl, rfl, ⟨by omega, by omega⟩, _, rfl, _, _, _, 2, rfl, rfl, h1, rfl, ?_⟩⟩
        refine ⟨_, rfl, q _ _ (Int.emod_nonneg _ (by omega)) (Int.emod_lt_of_pos _ m0) (hx.trans Ext.put) ?_⟩
        refine ⟨ns, i, _, e, t, upd_same, by rw [upd_ne as]; exact h2, as, h4, h5, h6, ?_, h8, h9, h10, by omega⟩
        exact Int.fdiv_nonneg h7 (by omega)
      · refine ⟨_, rfl, _, _, _, _, rfl, rfl, hL, rfl, _, _, rfl, rfl, _, rfl, _, _, _, 4, rfl, rfl, h1, rfl, ?_⟩
        refine ⟨_, rfl, _, _, _, _, rfl, rfl, SqL.of upd_same, rfl, _, rfl, _, _, _, _, rfl, rfl, SqL.of upd_same, rfl, _, _, rfl, h8, by omega, by omega, by omega, fun v v0 v1 => ?_⟩
        refine ⟨_, _, rfl, rfl, ⟨by decide, by decide⟩, .inl ⟨_, rfl, _, rfl, _, _, rfl, rfl, m0, ?_⟩⟩
        refine q _ _ (Int.emod_nonneg _ (by omega)) (Int.emod_lt_of_pos _ m0) (hx.trans Ext.put) ?_
        exact ⟨ns, i, b, e, t + 1, upd_same, by rw [upd_ne as]; exact h2, as, h4, h5, h6, h7, h8, h9, by omega, by omega⟩
end
end Z
namespace Z
open PySem L2
section
variable {P : Program} {w : World} {K : PySem.W.Frag} {mg : Str → Option Value} {base : Heap}
theorem ok__law_is_int (D : Df K mg "_law_is_int" s__law_is_int ["value"]) (T : Tx mg)  : Cal P w K mg base "_law_is_int" ["value"] 1 (sp__law_is_int K) := by
  obtain ⟨f, fd, F, gf, bf⟩ := D
  refine ⟨f, fd, F.ok sc__law_is_int (fun vs H Q E h => ?_) (fun cdv A outer s H vs Q E hr h => ?_), gf, F.kp, bf⟩
  · obtain ⟨i, rfl, _⟩ := h; rfl
  · obtain ⟨i, rfl, q⟩ := h
    refine ⟨_, (pss_one (ps_ret (pe_and (pe_callB call_isi (by rfl) T.n_isinstance (by decide +kernel) (pa_cons (pv 0) (pa_cons (pe_bltn (v := .ty "int") (by rfl) T.n_int (by decide +kernel) rfl) pa_nil))) (pe_one (pe_not (pe_callB call_isi (by rfl) T.n_isinstance (by decide +kernel) (pa_cons (pv 0) (pa_cons (pe_bltn (v := .ty "bool") (by rfl) T.n_bool (by decide +kernel) rfl) pa_nil)))))))), ?_⟩
    refine ⟨_, rfl, _, _, _, _, true, rfl, .ty _, .base (.int i), kit_ty (by decide +kernel), _, rfl, ?_⟩
    refine iteT ⟨_, rfl, _, _, _, _, false, rfl, .ty _, .base (.int i), kit_ty (by decide +kernel), _, rfl, q⟩

theorem ok__law_same (D : Df K mg "_law_same" s__law_same ["actual", "due"]) (T : Tx mg) (C__law_is_int : Cal P w K mg base "_law_is_int" ["value"] 1 (sp__law_is_int K)) : ∀ n, Cal P w K mg base "_law_same" ["actual", "due"] (n + 1) (sp__law_same K n)
  | 0 => by
    obtain ⟨f, fd, F, gf, bf⟩ := D
    exact ⟨f, fd, ⟨fun vs H Q E h => by obtain ⟨_, _, _, _, _, _, h, _⟩ := h; exact h.elim, fun A outer s H args us vs Q E _ _ _ _ h => by obtain ⟨_, _, _, _, _, _, h, _⟩ := h; exact h.elim⟩, gf, F.kp, bf⟩
  | n + 1 => by
    obtain ⟨f__law_same, fd__law_same, G__law_same, g__law_same, k__law_same, b__law_same⟩ := ok__law_same D T C__law_is_int n
    obtain ⟨f__law_is_int, fd__law_is_int, G__law_is_int, g__law_is_int, k__law_is_int, b__law_is_int⟩ := C__law_is_int
    obtain ⟨f, fd, F, gf, bf⟩ := D
    refine ⟨f, fd, F.ok sc__law_same (fun vs H Q E h => ?_) (fun cdv A outer s H vs Q E hr h => ?_), gf, F.kp, bf⟩
    · obtain ⟨d, v, u, rfl, _⟩ := h; rfl
    · obtain ⟨d, v, u, rfl, hv, hu, hd, q⟩ := h
      refine ⟨_, (pss_cons (ps_if (pt_val (pe_callB call_isi (by rfl) T.n_isinstance (by decide +kernel) (pa_cons (pv 1) (pa_cons (pe_bltn (v := .ty "tuple") (by rfl) T.n_tuple (by decide +kernel) rfl) pa_nil))))
      (pss_cons (ps_if (PW.pt (pw_or (pt_not (pt_val (pe_callB call_isi (by rfl) T.n_isinstance (by decide +kernel) (pa_cons (pv 0) (pa_cons (pe_bltn (v := .ty "tuple") (by rfl) T.n_tuple (by decide +kernel) rfl) pa_nil))))) (pw_or1 (pt_cmpR op_ne (pe_callB call_len_seq (by rfl) T.n_len PySem.boot_len (pa_cons (pv 0) pa_nil)) (pe_callB call_len_seq (by rfl) T.n_len PySem.boot_len (pa_cons (pv 1) pa_nil)) (nomark _)))))
        (pss_one (ps_ret pe_bl))
        pss_nil)
        (pss_cons (ps_for PassesOwn.never rfl (pi_range1 (by rfl) T.n_range (pa_cons (pe_callB call_len_seq (by rfl) T.n_len PySem.boot_len (pa_cons (pv 1) pa_nil)) pa_nil)) (pg_name (i := 2) sc__law_same.nd rfl (Or.inl rfl))
        (pss_one (ps_if (pt_not (pt_val (pe_call G__law_same hr (by rfl) g__law_same k__law_same b__law_same .nil pass0 (pa_cons (pe_ix ix_tup (pv 0) (pv 2) (fun _ _ => rfl)) (pa_cons (pe_ix ix_tup (pv 1) (pv 2) (fun _ _ => rfl)) pa_nil)))))
          (pss_one (ps_ret pe_bl))
          pss_nil)))
        (pss_one (ps_ret pe_bl))))
      pss_nil)
      (pss_cons (ps_if (pt_cmpR op_isN (pv 1) pe_non (nomark _))
      (pss_one (ps_ret (pe_cmpR op_isN (pv 0) pe_non (nomark _))))
      pss_nil)
      (pss_cons (ps_if (pt_val (pe_callB call_isi (by rfl) T.n_isinstance (by decide +kernel) (pa_cons (pv 1) (pa_cons (pe_bltn (v := .ty "bool") (by rfl) T.n_bool (by decide +kernel) rfl) pa_nil))))
      (pss_one (ps_ret (pe_and (pe_callB call_isi (by rfl) T.n_isinstance (by decide +kernel) (pa_cons (pv 0) (pa_cons (pe_bltn (v := .ty "bool") (by rfl) T.n_bool (by decide +kernel) rfl) pa_nil))) (pe_one (pe_cmpR op_eq (pv 0) (pv 1) (nomark _))))))
      pss_nil)
      (pss_cons (ps_if (pt_val (pe_callB call_isi (by rfl) T.n_isinstance (by decide +kernel) (pa_cons (pv 1) (pa_cons (pe_bltn (v := .ty "int") (by rfl) T.n_int (by decide +kernel) rfl) pa_nil))))
      (pss_one (ps_ret (pe_and (pe_call G__law_is_int (hr.mono (by omega)) (by rfl) g__law_is_int k__law_is_int b__law_is_int .nil pass0 (pa_cons (pv 0) pa_nil)) (pe_one (pe_cmpR op_eq (pv 0) (pv 1) (nomark _))))))
      pss_nil)
      (pss_one (ps_ret (pe_and (pe_callB call_isi (by rfl) T.n_isinstance (by decide +kernel) (pa_cons (pv 0) (pa_cons (pe_bltn (v := .ty "str") (by rfl) T.n_str (by decide +kernel) rfl) pa_nil))) (pe_one (pe_cmpR op_eq (pv 0) (pv 1) (nomark _)))))))))), ?_⟩
      cases d with
      | non =>
        unfold DV at hv hu; subst hv hu
        refine ⟨_, rfl, _, _, _, _, false, rfl, .ty _, .base .non, kit_ty (by decide +kernel), _, rfl, iteF ?_⟩
        exact ⟨_, rfl, rfl, _, rfl, iteT ⟨_, rfl, rfl, q⟩⟩
      | bl b =>
        unfold DV at hv hu; subst hv hu
        refine ⟨_, rfl, _, _, _, _, false, rfl, .ty _, .base (.bl b), kit_ty (by decide +kernel), _, rfl, iteF ?_⟩
        refine ⟨_, rfl, rfl, _, rfl, iteF ?_⟩
        refine ⟨_, rfl, _, _, _, _, true, rfl, .ty _, .base (.bl b), kit_ty (by decide +kernel), _, rfl, iteT ?_⟩
        refine ⟨_, rfl, _, _, _, _, true, rfl, .ty _, .base (.bl b), kit_ty (by decide +kernel), _, rfl, iteT ?_⟩
        refine ⟨_, rfl, _, rfl, rfl, ?_⟩
        rw [decide_eq_true rfl]; exact q
      | int b =>
        unfold DV at hv hu; subst hv hu
        refine ⟨_, rfl, _, _, _, _, false, rfl, .ty _, .base (.int b), kit_ty (by decide +kernel), _, rfl, iteF ?_⟩
        refine ⟨_, rfl, rfl, _, rfl, iteF ?_⟩
        refine ⟨_, rfl, _, _, _, _, false, rfl, .ty _, .base (.int b), kit_ty (by decide +kernel), _, rfl, iteF ?_⟩
        refine ⟨_, rfl, _, _, _, _, true, rfl, .ty _, .base (.int b), kit_ty (by decide +kernel), _, rfl, iteT ?_⟩
        refine ⟨_, rfl, _, rfl, _, rfl, iteT ?_⟩
        refine ⟨_, rfl, _, rfl, rfl, ?_⟩
        rw [decide_eq_true rfl]; exact q
      | str b =>
        unfold DV at hv hu; subst hv hu
        refine ⟨_, rfl, _, _, _, _, false, rfl, .ty _, .base (.str b), kit_ty (by decide +kernel), _, rfl, iteF ?_⟩
        refine ⟨_, rfl, rfl, _, rfl, iteF ?_⟩
        refine ⟨_, rfl, _, _, _, _, false, rfl, .ty _, .base (.str b), kit_ty (by decide +kernel), _, rfl, iteF ?_⟩
        refine ⟨_, rfl, _, _, _, _, false, rfl, .ty _, .base (.str b), kit_ty (by decide +kernel), _, rfl, iteF ?_⟩
        refine ⟨_, rfl, _, _, _, _, true, rfl, .ty _, .base (.str b), kit_ty (by decide +kernel), _, rfl, iteT ?_⟩
        refine ⟨_, rfl, _, rfl, rfl, ?_⟩
        rw [decide_eq_true rfl]; exact q
      | tup ds =>
        unfold DV at hv hu
        obtain ⟨a, vs, rfl, ha, hvs⟩ := hv
        obtain ⟨b, us, rfl, hb, hus⟩ := hu
        have hl := hvs.len
        have hm := hus.len
        refine ⟨_, rfl, _, _, _, _, true, rfl, .ty _, TyX.ofT hb, kit_ty (by decide +kernel), _, rfl, iteT ?_⟩
        refine ⟨_, rfl, _, _, _, _, true, rfl, .ty _, TyX.ofT ha, kit_ty (by decide +kernel), _, rfl, iteF ?_⟩
        refine ⟨_, rfl, a, _, rfl, .inr ha, _, rfl, b, _, rfl, .inr hb, rfl, _, rfl, iteNS (by rw [hl, hm]) ?_⟩
        refine ⟨_, rfl, b, _, rfl, .inr hb, _, rfl, by omega, by have := hd.1; omega, ?_⟩
        refine for_range (lo := 0) (n := ((us.length : Int)).toNat) (fun i σ H' => ∃ (x : Option V), σ = [some (.ref a), some (.ref b), x] ∧ H' = H) ⟨none, rfl, rfl⟩ ?_ ?_
        · rintro i σ H' hi ⟨x, rfl, rfl⟩
          have hi' : i < us.length := by omega
          have hi2 : i < ds.length := by omega
          obtain ⟨v1, e1, q1⟩ := hvs.get (List.getElem?_eq_getElem hi2)
          obtain ⟨v2, e2, q2⟩ := hus.get (List.getElem?_eq_getElem hi2)
          refine ⟨_, rfl, _, rfl, a, _, _, v1, rfl, rfl, ha, at_of (j := i) (by omega) e1, _, rfl, _, rfl, b, _, _, v2, rfl, rfl, hb, at_of (j := i) (by omega) e2, ?_⟩
          refine ⟨ds[i], v1, v2, rfl, q1, q2, hd.2 _ (List.getElem_mem hi2), _, rfl, iteF ?_⟩
          exact ⟨_, rfl, rfl⟩
        · rintro σ H' ⟨x, rfl, rfl⟩
          exact q
end
end Z
namespace Z
open PySem L2 SX
section
variable {P : Program} {w : World} {K : PySem.W.Frag} {mg : Str → Option Value} {base : Heap}
theorem ok__law_new_name (D : Df K mg "_law_new_name" s__law_new_name ["source", "used"]) (T : Tx mg) (C__law_draw : Cal P w K mg base "_law_draw" ["source", "many"] 2 sp__law_draw) : Cal P w K mg base "_law_new_name" ["source", "used"] 3 (sp__law_new_name K) := by
  obtain ⟨f__law_draw, fd__law_draw, G__law_draw, g__law_draw, k__law_draw, b__law_draw⟩ := C__law_draw
  obtain ⟨f, fd, F, gf, bf⟩ := D
  refine ⟨f, fd, F.ok sc__law_new_name (fun vs H Q E h => ?_) (fun cdv A outer s H vs Q E hr h => ?_), gf, F.kp, bf⟩
  · obtain ⟨s, a, u, us, c, rfl, _⟩ := h; rfl
  · obtain ⟨s, a, u, us, c, rfl, hU, hus, hul, hS, q⟩ := h
    refine ⟨_, (pss_cons (ps_set (i := 2) sc__law_new_name.nd rfl (Or.inl rfl) pe_str)
      (pss_cons (ps_set (i := 3) sc__law_new_name.nd rfl (Or.inl rfl) (pe_op op_add pe_int (pe_call G__law_draw (hr.mono (by decide)) (by rfl) g__law_draw k__law_draw b__law_draw .nil pass0 (pa_cons (pv 0) (pa_cons pe_int pa_nil)))))
      (pss_cons (ps_set (i := 4) sc__law_new_name.nd rfl (Or.inl rfl) (pe_item_str (pv 2) (pe_call G__law_draw (hr.mono (by decide)) (by rfl) g__law_draw k__law_draw b__law_draw .nil pass0 (pa_cons (pv 0) (pa_cons pe_int pa_nil))) (fun _ _ => rfl)))
      (pss_cons (ps_for PassesOwn.never rfl (pi_range1 (by rfl) T.n_range (pa_cons (pe_op op_sub (pv 3) pe_int) pa_nil)) (pg_name (i := 5) sc__law_new_name.nd rfl (Or.inl rfl))
      (pss_one (ps_set (i := 4) sc__law_new_name.nd rfl (Or.inl rfl) (pe_op op_add_str (pv 4) (pe_item_str (pe_op op_add_str (pv 2) pe_str) (pe_call G__law_draw (hr.mono (by decide)) (by rfl) g__law_draw k__law_draw b__law_draw .nil pass0 (pa_cons (pv 0) (pa_cons pe_int pa_nil))) (fun _ _ => rfl))))))
      (pss_cons (ps_for PassesOwn.never rfl (pi_range1 (by rfl) T.n_range (pa_cons (pe_op op_add (pe_callB call_len_seq (by rfl) T.n_len PySem.boot_len (pa_cons (pv 1) pa_nil)) pe_int) pa_nil)) (pg_name (i := 5) sc__law_new_name.nd rfl (Or.inl rfl))
      (pss_cons (ps_set (i := 6) sc__law_new_name.nd rfl (Or.inl rfl) (pe_op op_add_str (pv 4) (pe_ix ix_list (pe_lst (pa_cons pe_str (pa_cons (pe_callTy call_str_int (by rfl) T.n_str (by decide +kernel) (pa_cons (pv 5) pa_nil)) pa_nil))) (pe_callTy call_int1 (by rfl) T.n_int (by decide +kernel) (pa_cons (pe_cmpR op_gt (pv 5) pe_int (nomark _)) pa_nil)) (fun _ _ => rfl))))
        (pss_one (ps_if (pt_cmpR op_notIn_seq (pv 6) (pv 1) (by rfl))
        (pss_one (ps_ret (pv 6)))
        pss_nil))))
      (pss_one (ps_ret (pv 4)))))))), ?_⟩
    -- size, the first letter
    refine ⟨_, rfl, s, a, _, c + 7, rfl, by decide, by decide, hS, fun v1 H1 v10 v11 x1 S1 => ?_⟩
    refine ⟨_, _, rfl, rfl, ?_⟩
    refine ⟨_, rfl, _, rfl, s, a, _, c + 6, rfl, by decide, by decide, S1, fun v2 H2 v20 v21 x2 S2 => ?_⟩
    obtain ⟨ch, e1, _, e3⟩ := at_str (x := Str.ofString "abcdefghijklmnopqrstuvwxyz") v20 v21
    refine ⟨_, _, ch, rfl, rfl, v20, by omega, v21, e1, ?_⟩
    have hch : 97 ≤ ch ∧ ch ≤ 122 := alpha_mem e3
    -- the further signs
    refine ⟨_, rfl, _, _, rfl, rfl, _, rfl, by omega, by omega, ?_⟩
    refine for_range (lo := 0) (n := (1 + v1 - 1).toNat) (fun i σ H' => ∃ (x : Str) (v : Option V), σ = [some (.ref s), some (.ref u), some (.str "abcdefghijklmnopqrstuvwxyz"), some (.int (1 + v1)), some (.str x), v, none] ∧ Nm (tl x) ∧ (tl x).length = i + 1 ∧ Ext s H H' ∧ Src H' s a (c + (5 - i))) ?_ ?_ ?_
    · exact ⟨S [ch], none, rfl, ⟨⟨ch, [], rfl, hch⟩, fun y hy => by rw [List.mem_singleton.mp hy]; exact .inl hch⟩, rfl, x1.trans x2, S2.mono (by omega)⟩
    · rintro i σ H' hi ⟨x, v, rfl, hN, hl, hE, hS'⟩
      refine ⟨_, rfl, _, rfl, _, _, rfl, rfl, by decide +kernel, ?_⟩
      refine ⟨_, rfl, s, a, _, c + (5 - (i + 1)), rfl, by decide, by decide, hS'.mono (by omega), fun v3 H3 v30 v31 x3 S3 => ?_⟩
      obtain ⟨d, e1, _, e3⟩ := at_str (x := Str.ofString "abcdefghijklmnopqrstuvwxyz" ++ Str.ofString "0123456789") v30 v31
      refine ⟨_, _, d, rfl, rfl, v30, by omega, v31, e1, _, _, rfl, rfl, ?_, ?_⟩
      · rw [tl_len, hl]; exact Nat.le_trans (show i + 1 + 1 ≤ 10 by omega) (by decide)
      · exact ⟨_, _, rfl, by rw [tl_app]; exact hN.app (fun y hy => by rw [List.mem_singleton.mp hy]; exact low_mem e3), by rw [tl_app, List.length_append, hl]; rfl, hE.trans x3, S3⟩
    · rintro σ H3 ⟨x, v, rfl, hN, hl, hE, hS'⟩
      have hU3 : SqL K H3 u (us.map V.str) := hE.seqL hus hU
      refine ⟨_, rfl, u, _, rfl, .inl hU3, _, _, rfl, rfl, _, rfl, by rw [List.length_map]; omega, by rw [List.length_map]; omega, ?_⟩
      refine for_range (lo := 0) (n := ((((us.map V.str).length : Int)) + 1).toNat) (fun i σ H' => ∃ (v t : Option V), σ = [some (.ref s), some (.ref u), some (.str "abcdefghijklmnopqrstuvwxyz"), some (.int (1 + v1)), some (.str x), v, t] ∧ Same H3 H') ⟨_, _, rfl, Same.refl _⟩ ?_ ?_
      · rintro i σ H' hi ⟨v', t', rfl, hM⟩
        rw [List.length_map] at hi
        obtain ⟨y, hy, hyl, hya⟩ : ∃ y : Str, atI [V.str (Str.ofString ""), V.str (Str.ofString (toString (0 + (i : Int))))] (if decide ((0 : Int) < 0 + (i : Int)) = true then 1 else 0) = some (.str y) ∧ (tl y).length ≤ 62 ∧ Low (tl y) := by
          by_cases h0 : i = 0
          · subst h0
            exact ⟨Str.ofString "", rfl, by decide, Low.nil⟩
          · rw [if_pos (decide_eq_true (by omega))]
            refine ⟨_, rfl, ?_, ?_⟩
            · rw [Int.zero_add, num_S, tl_S]
              have := num_len i
              omega
            · rw [Int.zero_add, num_S, tl_S]
              exact low_num i
        refine ⟨_, rfl, _, rfl, _, rfl, log_small (by omega), by show 2 ≤ sizeLine; decide, fun p hp => ?_⟩
        refine ⟨_, rfl, _, _, rfl, rfl, .inr ⟨_, rfl, p, _, _, _, rfl, rfl, SqL.of upd_same, hy, _, _, rfl, rfl, ?_, ?_⟩⟩
        · rw [tl_len, tl_len]; exact Nat.le_trans (show _ ≤ 70 by omega) (by decide)
        have hM' : Same H3 (upd H' p (HO.lst [V.str (Str.ofString ""), V.str (Str.ofString (toString (0 + (i : Int))))])) := hM.trans (same_new hp)
        refine ⟨_, rfl, _, rfl, u, _, rfl, .inl (hM'.seq hU3), rfl, flat_strs us, _, rfl, ite2 (fun _ => ?_) (fun _ => ⟨_, _, rfl, hM'⟩)⟩
        exact ⟨_, rfl, q _ _ (by rw [tl_app]; exact hN.app hya) (by rw [tl_app, List.length_append]; omega) (hE.trans (Ext.of hM')) ((hS'.ext hM').mono (by omega))⟩
      · rintro σ H' ⟨v', t', rfl, hM⟩
        exact ⟨_, rfl, q x H' hN (by omega) (hE.trans (Ext.of hM)) ((hS'.ext hM).mono (by omega))⟩
end
end Z
namespace Z
open PySem L2 SX
section
variable {P : Program} {w : World} {K : PySem.W.Frag} {mg : Str → Option Value} {base : Heap}
theorem ok__law_names (D : Df K mg "_law_names" s__law_names ["source", "many"]) (T : Tx mg) (C__law_new_name : Cal P w K mg base "_law_new_name" ["source", "used"] 3 (sp__law_new_name K)) : Cal P w K mg base "_law_names" ["source", "many"] 4 (sp__law_names K) := by
  obtain ⟨f__law_new_name, fd__law_new_name, G__law_new_name, g__law_new_name, k__law_new_name, b__law_new_name⟩ := C__law_new_name
  obtain ⟨f, fd, F, gf, bf⟩ := D
  refine ⟨f, fd, F.ok sc__law_names (fun vs H Q E h => ?_) (fun cdv A outer s H vs Q E hr h => ?_), gf, F.kp, bf⟩
  · obtain ⟨s, a, m, c, rfl, _⟩ := h; rfl
  · obtain ⟨s, a, m, c, rfl, hm, hS, q⟩ := h
    refine ⟨_, (pss_cons (ps_set (i := 2) sc__law_names.nd rfl (Or.inl rfl) (pe_lst pa_nil))
      (pss_cons (ps_for PassesOwn.never rfl (pi_range1 (by rfl) T.n_range (pa_cons (pv 1) pa_nil)) (pg_name (i := 3) sc__law_names.nd rfl (Or.inl rfl))
      (pss_one (ps_expr (pe_bm PySem.F.plainAttrs_list PySem.F.slot_list_append PySem.F.type_list_append mt_append (pv 2) (pa_cons (pe_call G__law_new_name (hr.mono (by decide)) (by rfl) g__law_new_name k__law_new_name b__law_new_name .nil pass0 (pa_cons (pv 0) (pa_cons (pv 2) pa_nil))) pa_nil)))))
      (pss_one (ps_ret (pv 2))))), ?_⟩
    refine ⟨Nat.zero_le _, fun u hu => ?_⟩
    have us : u ≠ s := hS.ne hu
    have ua : u ≠ a := hS.nea hu
    refine ⟨_, rfl, _, rfl, by omega, by omega, ?_⟩
    refine for_range (lo := 0) (n := ((m : Int)).toNat) (fun i σ H' => ∃ (xs : List Str) (v : Option V), σ = [some (.ref s), some (.int m), some (.ref u), v] ∧ H' u = some (.lst (xs.map V.str)) ∧ xs.length = i ∧ (∀ x ∈ xs, Nm (tl x) ∧ (tl x).length ≤ 70) ∧ Ext s H H' ∧ Src H' s a (c + 8 * (m - i))) ?_ ?_ ?_
    · exact ⟨[], none, rfl, upd_same, rfl, (fun _ h => by cases h), Ext.new hu, (hS.new hu).mono (by omega)⟩
    · rintro i σ H' hi ⟨xs, v, rfl, hx, hl, hA, hE, hS'⟩
      refine ⟨_, rfl, .inl ⟨rfl, _, SqL.of hx⟩, _, rfl, _, rfl, s, a, u, xs, c + 8 * (m - (i + 1)), rfl, SqL.of hx, us, by omega, by rw [show c + 8 * (m - (i + 1)) + 8 = c + 8 * (m - i) by omega]; exact hS', fun x H2 hN hl2 hE2 hS2 => ?_⟩
      refine ⟨u, _, _, rfl, rfl, hE2 _ _ us hx, ?_, ?_⟩
      · rw [List.length_map]; exact small1000 (by omega)
      · refine ⟨xs ++ [x], _, rfl, by rw [upd_same, List.map_append]; rfl, by rw [List.length_append]; simp [hl], fun y hy => ?_, ?_, hS2.put us ua⟩
        · rcases List.mem_append.mp hy with h | h
          · exact hA y h
          · rw [List.mem_singleton.mp h]; exact ⟨hN, hl2⟩
        · intro b o hb hH
          rw [upd_ne (ne_of_none hH hu)]; exact hE2 _ _ hb (hE _ _ hb hH)
    · rintro σ H' ⟨xs, v, rfl, hx, hl, hA, hE, hS'⟩
      exact ⟨_, rfl, q u xs H' hu hx (by omega) hA hE (hS'.mono (by omega))⟩

end
end Z
namespace Z
open PySem L2 SX
section
variable {P : Program} {w : World} {K : PySem.W.Frag} {mg : Str → Option Value} {base : Heap}
theorem ok__law_pick (D : Df K mg "_law_pick" s__law_pick ["source", "row"]) (T : Tx mg) (C__law_draw : Cal P w K mg base "_law_draw" ["source", "many"] 2 sp__law_draw) : Cal P w K mg base "_law_pick" ["source", "row"] 3 (sp__law_pick K) := by
  obtain ⟨f__law_draw, fd__law_draw, G__law_draw, g__law_draw, k__law_draw, b__law_draw⟩ := C__law_draw
  obtain ⟨f, fd, F, gf, bf⟩ := D
  refine ⟨f, fd, F.ok sc__law_pick (fun vs H Q E h => ?_) (fun cdv A outer s H vs Q E hr h => ?_), gf, F.kp, bf⟩
  · rcases h with ⟨s, a, r, xs, c, rfl, _⟩ | ⟨s, a, x, c, rfl, _⟩ <;> rfl
  · refine ⟨_, (pss_one (ps_ret (pe_ix ix_seq (pv 1) (pe_call G__law_draw (hr.mono (by decide)) (by rfl) g__law_draw k__law_draw b__law_draw .nil pass0 (pa_cons (pv 0) (pa_cons (pe_callB call_len (by rfl) T.n_len PySem.boot_len (pa_cons (pv 1) pa_nil)) pa_nil))) (fun _ _ => rfl)))), ?_⟩
    rcases h with ⟨s, a, r, xs, c, rfl, hR, rs, ne, hl, hS, q⟩ | ⟨s, a, x, c, rfl, ne, hl, hS, q⟩
    · have n0 : 0 < xs.length := List.length_pos_iff.mpr ne
      refine ⟨_, rfl, _, rfl, _, rfl, _, _, rfl, .inl ⟨xs, hR, rfl⟩, s, a, (xs.length : Int), c, rfl, by omega, by omega, hS, fun v H' v0 v1 hE hS' => ?_⟩
      have hv : v.toNat < xs.length := by omega
      exact .inl ⟨r, xs, v, xs[v.toNat], rfl, rfl, hE.seqL rs hR, atI_pos v0 (List.getElem?_eq_getElem hv), q _ _ (List.getElem_mem hv) hE hS'⟩
    · have n0 : 0 < (tl x).length := List.length_pos_iff.mpr ne
      have hx := tl_len x
      refine ⟨_, rfl, _, rfl, _, rfl, _, x.length, rfl, ⟨by rw [hx]; exact Nat.le_trans hl (by decide), rfl⟩, s, a, (x.length : Int), c, rfl, by omega, by omega, hS, fun v H' v0 v1 hE hS' => ?_⟩
      have hv : v.toNat < (tl x).length := by omega
      exact .inr (.inr ⟨x, v, (tl x)[v.toNat], rfl, rfl, by rw [hx]; exact Nat.le_trans hl (by decide), atI_pos v0 (List.getElem?_eq_getElem hv), q _ _ (List.getElem_mem hv) hE hS'⟩)
end
end Z
namespace Z
open PySem L2 SX
section
variable {P : Program} {w : World} {K : PySem.W.Frag} {mg : Str → Option Value} {base : Heap}
theorem ok_add_place (D : Df K mg "add_place" s_add_place ["glob", "places", "place"]) (T : Tx mg)  : Cal P w K mg base "add_place" ["glob", "places", "place"] 1 sp_add_place := by
  obtain ⟨f, fd, F, gf, bf⟩ := D
  refine ⟨f, fd, F.ok sc_add_place (fun vs H Q E h => ?_) (fun cdv A outer s₀ H vs Q E hr h => ?_), gf, F.kp, bf⟩
  · obtain ⟨g, p, x, L, m, A, rfl, _⟩ := h; rfl
  · obtain ⟨g, p, x, L, m, A, rfl, hL, hU, hm, hx, hb, gl, q⟩ := h
    refine ⟨_, (pss_cons (ps_if (PW.pt (pw_and (pt_truth (pv 1) (by intro _; rfl)) (pw_and1 (pt_cmpR op_ge (pe_ix ix_list (pv 1) (pe_un un_neg pe_int) (fun _ _ => rfl)) (pv 2) (nomark _)))))
      (pss_one ps_retN)
      pss_nil)
      (pss_cons (ps_expr (pe_bm PySem.F.plainAttrs_list PySem.F.slot_list_append PySem.F.type_list_append mt_append (pv 1) (pa_cons (pv 2) pa_nil)))
      (pss_one (ps_while PassesOwn.never (PW.pt (pw_and (pt_cmpR op_lt (pv 2) (pe_callB call_lenS (by rfl) T.n_len PySem.boot_len (pa_cons (pv 0) pa_nil)) (nomark _)) (pw_and1 (pt_cmpR op_eq (pe_item_str (pv 0) (pv 2) (fun _ _ => rfl)) pe_str (nomark _)))))
      (pss_cons (ps_aug (i := 2) sc_add_place.nd rfl (Or.inl rfl) pe_int ip_add)
        (pss_one (ps_expr (pe_bm PySem.F.plainAttrs_list PySem.F.slot_list_append PySem.F.type_list_append mt_append (pv 1) (pa_cons (pv 2) pa_nil))))))))), ?_⟩
    have lg := tl_len g
    have small : ∀ n : Nat, n ≤ 30000 → n < sizeLine := fun n h => Nat.lt_of_le_of_lt h (by decide)
    have Ll : L.length ≤ (tl g).length + 1 := Asd.len (M := fun y => y ∈ L) ⟨hU.asc, fun _ => Iff.rfl⟩ hb
    refine ⟨_, rfl, !(nts L).isEmpty, .inl ⟨_, SqL.of hL, rfl⟩, ?_⟩
    -- what is put in
    have go : ∀ (hl : ∀ y ∈ L, y < x), tSeq (tDrop (tBM K "list" rAppend (tVar 1) (tCons (tVar 2) tNil))) (tWhile (tAnd (tTest (tOp (rI0 fun i j => V.bl (decide (i < j))) (tVar 2) (tCB (fun xs H Q => ∃ x : Str, xs = [.str x] ∧ x.length ≤ sizeLine ∧ Q (.int x.length) H) (tCons (tVar 0) tNil)))) (tTest (tOp rEq (tOp (fun x y H Q => ∃ z i c, x = .str z ∧ y = .int i ∧ 0 ≤ i ∧ i < 2 ^ 63 ∧ i < z.length ∧ z.cps[i.toNat]? = some c ∧ Q (.str ⟨#[c]⟩) H) (tVar 0) (tVar 2)) (tC (.str (Str.ofString "*")))))) (tSeq (tAug 2 (tC (.int 1)) (ipI fun i j => i + j)) (tDrop (tBM K "list" rAppend (tVar 1) (tCons (tVar 2) tNil))))) { nx := fun _ H' => Q .non H', rt := Q } [some (.str g), some (.ref p), some (.int (x : Int))] H := by
      intro hl
      refine ⟨_, rfl, .inl ⟨rfl, _, SqL.of hL⟩, _, rfl, p, _, _, rfl, rfl, hL, ?_, ?_⟩
      · rw [List.length_map]; exact small _ (by omega)
      refine ⟨fun n σ H' => ∃ k, σ = [some (.str g), some (.ref p), some (.int ((x + k : Nat) : Int))] ∧ H' p = some (.lst (nts (L ++ List.range' x (k + 1)))) ∧ (∀ b, b ≠ p → H' b = H b) ∧ (∀ j, j < k → (tl g)[x + j]? = some 42) ∧ x + k ≤ (tl g).length ∧ n = (tl g).length - (x + k), ⟨_, 0, rfl, ?_, fun b hb => upd_ne hb, fun j hj => by omega, by omega, rfl⟩, ?_⟩
      · rw [upd_same]; show some (HO.lst (nts L ++ nts [x])) = _; unfold nts; rw [← List.map_append]; rfl
      rintro n σ H' ⟨k, rfl, hp, hH, hs, hk, rfl⟩
      have stop : (tl g)[x + k]? ≠ some 42 → Q .non H' := fun ns => by
        refine q _ H' hp hH (hU.more hl ⟨hs, ns⟩) fun y hy => ?_
        rcases List.mem_append.mp hy with h | h
        · exact hb y h
        · have := (run_mem.mp h).2; omega
      refine ⟨_, rfl, _, rfl, g, rfl, Nat.le_of_lt (small _ (by omega)), _, _, rfl, rfl, _, rfl, ite2 (fun c1 => ?_) (fun c1 => iteF (stop fun e => ?_))⟩
      · have c1 : x + k < (tl g).length := by have := of_decide_eq_true c1; omega
        obtain ⟨d, g1, g2, g3⟩ := at_str (x := g) (i := ((x + k : Nat) : Int)) (by omega) (by omega)
        rw [Int.toNat_natCast] at g2
        refine ⟨_, rfl, _, rfl, g, _, d, rfl, rfl, by omega, by omega, by omega, g1, rfl, _, rfl, ite2 (fun c2 => ?_) (fun c2 => stop fun e => ?_)⟩
        · have ed : d = 42 := (List.cons.inj (congrArg tl (V.str.inj (of_decide_eq_true c2)))).1
          subst ed
          refine ⟨fun σ2 H2 => ∃ m', m' < (tl g).length - (x + k) ∧ ∃ k, σ2 = [some (.str g), some (.ref p), some (.int ((x + k : Nat) : Int))] ∧ H2 p = some (.lst (nts (L ++ List.range' x (k + 1)))) ∧ (∀ b, b ≠ p → H2 b = H b) ∧ (∀ j, j < k → (tl g)[x + j]? = some 42) ∧ x + k ≤ (tl g).length ∧ m' = (tl g).length - (x + k), fun σ2 H2 h => h, ?_⟩
          refine ⟨_, rfl, _, _, rfl, rfl, ?_⟩
          refine ⟨_, rfl, .inl ⟨rfl, _, SqL.of hp⟩, _, rfl, p, _, _, rfl, rfl, hp, ?_, ?_⟩
          · rw [List.length_map, List.length_append, List.length_range']; exact small _ (by omega)
          refine ⟨_, ?_, k + 1, rfl, ?_, fun b hb => by rw [upd_ne hb]; exact hH b hb, fun j hj => ?_, by omega, rfl⟩
          · omega
          · rw [upd_same]
            show some (HO.lst (nts (L ++ List.range' x (k + 1)) ++ nts [x + k + 1])) = _
            unfold nts
            rw [← List.map_append, List.append_assoc]
            congr 4
            rw [List.range'_concat (n := k + 1), Nat.one_mul, Nat.add_assoc]
          · by_cases e : j = k
            · subst e; exact g2
            · exact hs j (by omega)
        · rw [g2] at e
          have : d = 42 := Option.some.inj e
          subst this
          exact c2 (decide_eq_true rfl)
      · have := (List.getElem?_eq_some_iff.mp e).1
        exact c1 (decide_eq_true (by omega))
    by_cases hE : L = []
    · subst hE
      exact iteF (go fun _ h => by cases h)
    · rw [show (!(nts L).isEmpty) = true by unfold nts; cases L with | nil => exact absurd rfl hE | cons _ _ => rfl]
      refine iteT ?_
      obtain ⟨r, z, e⟩ : ∃ r z, L = r ++ [z] := ⟨L.dropLast, L.getLast hE, (List.dropLast_concat_getLast hE).symm⟩
      have hz : atI (nts L) (-1) = some (.int (z : Int)) := by rw [e]; unfold nts; rw [List.map_append]; exact atI_last _ _
      have zm : z ∈ L := by rw [e]; simp
      have zmax : ∀ y ∈ L, y ≤ z := fun y hy => by
        have ha := hU.asc
        rw [e] at hy ha
        rcases List.mem_append.mp hy with h | h
        · have := (List.pairwise_append.mp ha).2.2 y h z (by simp); omega
        · rw [List.mem_singleton.mp h]; exact Nat.le_refl _
      refine ⟨_, rfl, 1, rfl, p, _, _, _, rfl, rfl, SqL.of hL, hz, _, rfl, _, _, rfl, rfl, _, rfl, ite2 (fun c1 => ?_) (fun c1 => go fun y hy => ?_)⟩
      · have : x ≤ z := by have := of_decide_eq_true c1; omega
        exact q L H hL (fun _ _ => rfl) (hU.stay hm zm this) hb
      · have := zmax y hy
        simp at c1; omega
end
section
variable {P : Program} {w : World} {K : PySem.W.Frag} {mg : Str → Option Value} {base : Heap}
theorem ok_follows (D : Df K mg "follows" s_follows ["glob", "standing", "character"]) (T : Tx mg) (C_add_place : Cal P w K mg base "add_place" ["glob", "places", "place"] 1 sp_add_place) : Cal P w K mg base "follows" ["glob", "standing", "character"] 2 (sp_follows K) := by
  obtain ⟨f_add_place, fd_add_place, G_add_place, g_add_place, k_add_place, b_add_place⟩ := C_add_place
  obtain ⟨f, fd, F, gf, bf⟩ := D
  refine ⟨f, fd, F.ok sc_follows (fun vs H Q E h => ?_) (fun cdv A outer s₀ H vs Q E hr h => ?_), gf, F.kp, bf⟩
  · obtain ⟨g, a, c, ps, M, rfl, _⟩ := h; rfl
  · obtain ⟨g, a, c, ps, M, rfl, hA, hP, hC, hW, hc, gl, q⟩ := h
    refine ⟨_, (pss_cons (ps_set (i := 3) sc_follows.nd rfl (Or.inl rfl) (pe_lst pa_nil))
      (pss_cons (ps_for PassesOwn.never rfl (pi_tup (pv 1)) (pg_name (i := 4) sc_follows.nd rfl (Or.inl rfl))
      (C8.pss_cut (ps_if (PW.pt (pw_and (pt_cmpR op_gt (pv 4) pe_int (nomark _)) (pw_and1 (pt_cmpR op_eq (pe_item_str (pv 0) (pe_op op_sub (pv 4) pe_int) (fun _ _ => rfl)) pe_str (nomark _)))))
        (pss_one (ps_expr (pe_call G_add_place (hr.mono (by decide)) (by rfl) g_add_place k_add_place b_add_place .nil pass0 (pa_cons (pv 0) (pa_cons (pv 3) (pa_cons (pv 4) pa_nil))))))
        pss_nil)
        (pss_one (ps_if (PW.pt (pw_and (pt_cmpR op_lt (pv 4) (pe_callB call_lenS (by rfl) T.n_len PySem.boot_len (pa_cons (pv 0) pa_nil)) (nomark _)) (pw_and1 (pt_cmpR op_in_seq (pe_item_str (pv 0) (pv 4) (fun _ _ => rfl)) (pe_tup (pa_cons pe_str (pa_cons (pv 2) pa_nil))) (by rfl)))))
        (pss_one (ps_expr (pe_call G_add_place (hr.mono (by decide)) (by rfl) g_add_place k_add_place b_add_place .nil pass0 (pa_cons (pv 0) (pa_cons (pv 3) (pa_cons (pe_op op_add (pv 4) pe_int) pa_nil))))))
        pss_nil))))
      (pss_one (ps_ret (pe_callTy call_tuple_of (by rfl) T.n_tuple (by decide +kernel) (pa_cons (pv 3) pa_nil)))))), ?_⟩
    have lg := tl_len g
    have pl := hP.len hW
    have small : ∀ n : Nat, n ≤ 30000 → n < sizeLine := fun n h => Nat.lt_of_le_of_lt h (by decide)
    refine ⟨Nat.zero_le _, fun L hL => ?_⟩
    refine ⟨_, rfl, a, rfl, ⟨_, (same_new hL).tup hA⟩, ?_⟩
    refine for_tup (K := K) (a := a) (xs := nts ps) (fun i σ H' => ∃ (qs : List Nat) (m : Nat) (v : Option V), σ = [some (.str g), some (.ref a), some (.str (S [c])), some (.ref L), v] ∧ H' L = some (.lst (nts qs)) ∧ Same H H' ∧ Up (tl g) qs m (puts (tl g) c (fun y => y ∈ ps.take i)) ∧ (∀ y ∈ qs, y ≤ (tl g).length) ∧ (∀ y, y ∈ ps.drop i → m ≤ y)) ?_ ?_ ?_ ?_
    · exact ⟨[], 0, _, rfl, upd_same, same_new hL, (Up.nil _).congr fun y => ⟨fun h => h.elim, fun h => by
        rcases h with ⟨h, _⟩ | ⟨i, _, h, _⟩ <;> (rw [List.take_zero] at h; cases h)⟩, (fun _ h => by cases h), fun _ _ => Nat.zero_le _⟩
    · rintro i σ H' _ ⟨_, _, _, _, _, hS, _⟩
      exact hS.tup hA
    · rintro i y σ H' hi ⟨qs, m, v, rfl, hQ, hS, hU, hB, hm⟩
      rw [List.getElem?_map] at hi
      obtain ⟨x, hx, rfl⟩ := Option.map_eq_some_iff.mp hi
      have xm := List.mem_of_getElem? hx
      have xM := (hP.2 x).mp xm
      have xw := hW x xM
      have ed : ps.drop i = x :: ps.drop (i + 1) := by
        obtain ⟨h1, h2⟩ := List.getElem?_eq_some_iff.mp hx
        rw [← h2, List.getElem_cons_drop]
      have et : ps.take (i + 1) = ps.take i ++ [x] := by rw [List.take_add_one, hx]; rfl
      have mx : m ≤ x := hm x (by rw [ed]; simp)
      have later : ∀ z, z ∈ ps.drop (i + 1) → x < z := fun z hz => by
        have := hP.1.sublist (List.drop_sublist i ps)
        rw [ed] at this
        exact (List.pairwise_cons.mp this).1 z hz
      -- the place behind a star
      refine ⟨fun σ2 H2 => ∃ (qs2 : List Nat) (m2 : Nat), σ2 = [some (.str g), some (.ref a), some (.str (S [c])), some (.ref L), some (.int (x : Int))] ∧ H2 L = some (.lst (nts qs2)) ∧ Same H H2 ∧ Up (tl g) qs2 m2 (fun z => puts (tl g) c (fun y => y ∈ ps.take i) z ∨ (z = x ∧ ∃ j, x = j + 1 ∧ (tl g)[j]? = some 42)) ∧ (∀ y ∈ qs2, y ≤ (tl g).length) ∧ m2 ≤ x, ?_, ?_⟩
      · have no : (¬ ∃ j, x = j + 1 ∧ (tl g)[j]? = some 42) → ∃ (qs2 : List Nat) (m2 : Nat), ([some (V.str g), some (V.ref a), some (V.str (S [c])), some (V.ref L), some (V.int (x : Int))] : St) = [some (.str g), some (.ref a), some (.str (S [c])), some (.ref L), some (.int (x : Int))] ∧ H' L = some (.lst (nts qs2)) ∧ Same H H' ∧ Up (tl g) qs2 m2 (fun z => puts (tl g) c (fun y => y ∈ ps.take i) z ∨ (z = x ∧ ∃ j, x = j + 1 ∧ (tl g)[j]? = some 42)) ∧ (∀ y ∈ qs2, y ≤ (tl g).length) ∧ m2 ≤ x := fun h =>
          ⟨qs, m, rfl, hQ, hS, hU.congr fun y => ⟨.inl, fun z => z.elim id fun w => absurd w.2 h⟩, hB, mx⟩
        refine ⟨_, rfl, _, _, rfl, rfl, _, rfl, ite2 (fun c1 => ?_) (fun c1 => iteF (no fun ⟨j, e, _⟩ => c1 (decide_eq_true (by omega))))⟩
        have x1 : 0 < x := by have := of_decide_eq_true c1; omega
        obtain ⟨d, g1, g2, g3⟩ := at_str (x := g) (i := (x : Int) - 1) (by omega) (by omega)
        rw [show ((x : Int) - 1).toNat = x - 1 by omega] at g2
        refine ⟨_, rfl, _, rfl, _, _, rfl, rfl, g, _, d, rfl, rfl, by omega, by omega, by omega, g1, rfl, _, rfl, ite2 (fun c2 => ?_) (fun c2 => no fun ⟨j, e, h⟩ => ?_)⟩
        · have e42 : d = 42 := (List.cons.inj (congrArg tl (V.str.inj (of_decide_eq_true c2)))).1
          subst e42
          refine ⟨_, rfl, _, rfl, _, rfl, g, L, x, qs, m, _, rfl, hQ, hU, mx, xw, hB, gl, fun qs' H2 h1 h2 h3 h4 => ?_⟩
          refine ⟨qs', x, rfl, h1, fun b o hb => ?_, h3.congr fun y => ⟨fun z => z.elim .inl fun e => .inr ⟨e, x - 1, by omega, g2⟩, fun z => z.elim .inl fun w => .inr w.1⟩, h4, Nat.le_refl _⟩
          rw [h2 b (ne_of_none hb hL)]; exact hS _ _ hb
        · rw [show x - 1 = j by omega] at g2
          rw [g2] at h
          have : d = 42 := Option.some.inj h
          subst this
          exact c2 (decide_eq_true rfl)
      · rintro σ2 H2 ⟨qs2, m2, rfl, hQ2, hS2, hU2, hB2, hm2⟩
        have ends : ∀ (qs3 : List Nat) (m3 : Nat) (H3 : Hp) (Z : Prop), H3 L = some (.lst (nts qs3)) → Same H H3 → Up (tl g) qs3 m3 (fun z => (puts (tl g) c (fun y => y ∈ ps.take i) z ∨ (z = x ∧ ∃ j, x = j + 1 ∧ (tl g)[j]? = some 42)) ∨ (z = x + 1 ∧ ((tl g)[x]? = some 63 ∨ (tl g)[x]? = some c))) → (∀ y ∈ qs3, y ≤ (tl g).length) → m3 ≤ x + 1 →
            ∃ (qs : List Nat) (m : Nat) (v : Option V), ([some (V.str g), some (V.ref a), some (V.str (S [c])), some (V.ref L), some (V.int (x : Int))] : St) = [some (.str g), some (.ref a), some (.str (S [c])), some (.ref L), v] ∧ H3 L = some (.lst (nts qs)) ∧ Same H H3 ∧ Up (tl g) qs m (puts (tl g) c (fun y => y ∈ ps.take (i + 1))) ∧ (∀ y ∈ qs, y ≤ (tl g).length) ∧ (∀ y, y ∈ ps.drop (i + 1) → m ≤ y) := fun qs3 m3 H3 _ h1 h2 h3 h4 h5 => by
          refine ⟨qs3, m3, _, rfl, h1, h2, h3.congr fun z => ?_, h4, fun y hy => by have := later y hy; omega⟩
          unfold puts
          rw [et]
          simp only [List.mem_append, List.mem_singleton]
          constructor
          · rintro (((⟨h, k⟩ | ⟨j, e, h, k⟩) | ⟨e, k⟩) | ⟨e, k⟩)
            · exact .inl ⟨.inl h, k⟩
            · exact .inr ⟨j, e, .inl h, k⟩
            · exact .inl ⟨.inr e, by rw [e]; exact k⟩
            · exact .inr ⟨x, e, .inr rfl, k⟩
          · rintro (⟨h | e, k⟩ | ⟨j, e, h | e2, k⟩)
            · exact .inl (.inl (.inl ⟨h, k⟩))
            · exact .inl (.inr ⟨e, by rw [e] at k; exact k⟩)
            · exact .inl (.inl (.inr ⟨j, e, h, k⟩))
            · subst e2; exact .inr ⟨e, k⟩
        have no : (¬ ((tl g)[x]? = some 63 ∨ (tl g)[x]? = some c)) → _ := fun h => ends qs2 m2 H2 True hQ2 hS2 (hU2.congr fun z => ⟨.inl, fun w => w.elim id fun q => absurd q.2 h⟩) hB2 (by omega)
        have noT : ∀ (t : Addr) (us : List V), H2 t = none → (¬ ((tl g)[x]? = some 63 ∨ (tl g)[x]? = some c)) → _ := fun t us ht h => ends qs2 m2 (upd H2 t (.tup us)) True ((same_new ht) _ _ hQ2) (hS2.trans (same_new ht)) (hU2.congr fun z => ⟨.inl, fun w => w.elim id fun q => absurd q.2 h⟩) hB2 (by omega)
        refine ⟨_, rfl, _, rfl, g, rfl, Nat.le_of_lt (small _ (by omega)), _, _, rfl, rfl, _, rfl, ite2 (fun c1 => ?_) (fun c1 => iteF (no fun e => ?_))⟩
        · have xl : x < (tl g).length := by have := of_decide_eq_true c1; omega
          obtain ⟨d, g1, g2, g3⟩ := at_str (x := g) (i := (x : Int)) (by omega) (by omega)
          rw [Int.toNat_natCast] at g2
          refine ⟨_, rfl, _, rfl, g, _, d, rfl, rfl, by omega, by omega, by omega, g1, ?_⟩
          refine ⟨_, rfl, by show 2 ≤ sizeLine; decide, fun t ht => ?_⟩
          refine ⟨t, [Str.ofString "?", S [c]].map V.str, rfl, .inr (SqT.of upd_same), rfl, flat_strs _, _, rfl, ?_⟩
          have eb : (if false = true then !inV (V.str (S [d])) ([Str.ofString "?", S [c]].map V.str) else inV (V.str (S [d])) ([Str.ofString "?", S [c]].map V.str)) = decide (S [d] ∈ [Str.ofString "?", S [c]]) := inV_strs _ _
          by_cases hin : S [d] ∈ [Str.ofString "?", S [c]]
          · have hmt : (tl g)[x]? = some 63 ∨ (tl g)[x]? = some c := by
              rw [g2]
              rcases List.mem_cons.mp hin with e | e
              · exact .inl (congrArg some (List.cons.inj (congrArg tl e)).1)
              · exact .inr (congrArg some (List.cons.inj (congrArg tl (List.mem_singleton.mp e))).1)
            refine ite2 (fun _ => ?_) (fun h => (h (eb.trans (decide_eq_true hin))).elim)
            refine ⟨_, rfl, _, rfl, _, rfl, _, _, rfl, rfl, g, L, x + 1, qs2, m2, _, rfl, (same_new ht) _ _ hQ2, hU2, by omega, by omega, hB2, gl, fun qs' H3 h1 h2 h3 h4 => ?_⟩
            refine ends qs' (x + 1) H3 True h1 (fun b o hb => ?_) (h3.congr fun z => ⟨fun w => w.elim .inl fun e => .inr ⟨e, hmt⟩, fun w => w.elim .inl fun q => .inr q.1⟩) h4 (Nat.le_refl _)
            rw [h2 b (ne_of_none hb hL)]; exact (hS2.trans (same_new ht)) _ _ hb
          · refine ite2 (fun h => (hin (of_decide_eq_true (eb.symm.trans h))).elim) (fun _ => noT t _ ht fun e => hin ?_)
            rw [g2] at e
            rcases e with e | e
            · have : d = 63 := Option.some.inj e
              subst this; exact List.mem_cons_self
            · have : d = c := Option.some.inj e
              subst this; exact List.mem_cons_of_mem _ (List.mem_singleton.mpr rfl)
        · have : x < (tl g).length := by rcases e with e | e <;> exact (List.getElem?_eq_some_iff.mp e).1
          exact c1 (decide_eq_true (by omega))
    · rintro σ H' ⟨qs, m, v, rfl, hQ, hS, hU, hB, hm⟩
      rw [List.length_map, List.take_length] at hU
      refine ⟨_, rfl, L, _, rfl, .inl ⟨SqL.of hQ, fun t ht => ?_⟩⟩
      exact q t qs _ (hS.trans (same_new ht)) upd_same (puts_next hc hC (hU.congr fun y => by
        unfold puts
        simp only [hP.2]))
end
section
variable {P : Program} {w : World} {K : PySem.W.Frag} {mg : Str → Option Value} {base : Heap}
theorem ok_standing (D : Df K mg "standing" s_standing ["glob", "beginning"]) (T : Tx mg) (C_add_place : Cal P w K mg base "add_place" ["glob", "places", "place"] 1 sp_add_place) (C_follows : Cal P w K mg base "follows" ["glob", "standing", "character"] 2 (sp_follows K)) : Cal P w K mg base "standing" ["glob", "beginning"] 3 (sp_standing K) := by
  obtain ⟨f_add_place, fd_add_place, G_add_place, g_add_place, k_add_place, b_add_place⟩ := C_add_place
  obtain ⟨f_follows, fd_follows, G_follows, g_follows, k_follows, b_follows⟩ := C_follows
  obtain ⟨f, fd, F, gf, bf⟩ := D
  refine ⟨f, fd, F.ok sc_standing (fun vs H Q E h => ?_) (fun cdv A outer s₀ H vs Q E hr h => ?_), gf, F.kp, bf⟩
  · obtain ⟨g, b, rfl, _⟩ := h; rfl
  · obtain ⟨g, b, rfl, hb, gl, q⟩ := h
    refine ⟨_, (pss_cons (ps_set (i := 2) sc_standing.nd rfl (Or.inl rfl) (pe_lst pa_nil))
      (pss_cons (ps_expr (pe_call G_add_place (hr.mono (by decide)) (by rfl) g_add_place k_add_place b_add_place .nil pass0 (pa_cons (pv 0) (pa_cons (pv 2) (pa_cons pe_int pa_nil)))))
      (pss_cons (ps_set (i := 3) sc_standing.nd rfl (Or.inl rfl) (pe_callTy call_tuple_of (by rfl) T.n_tuple (by decide +kernel) (pa_cons (pv 2) pa_nil)))
      (pss_cons (ps_for PassesOwn.never rfl (pi_str (pv 1)) (pg_name (i := 4) sc_standing.nd rfl (Or.inl rfl))
      (pss_one (ps_set (i := 3) sc_standing.nd rfl (Or.inl rfl) (pe_call G_follows (hr.mono (by decide)) (by rfl) g_follows k_follows b_follows .nil pass0 (pa_cons (pv 0) (pa_cons (pv 3) (pa_cons (pv 4) pa_nil)))))))
      (pss_one (ps_ret (pv 3))))))), ?_⟩
    refine ⟨Nat.zero_le _, fun L hL => ?_⟩
    refine ⟨_, rfl, _, rfl, g, L, 0, [], 0, _, rfl, upd_same, Up.nil _, Nat.le_refl _, Nat.zero_le _, (fun _ h => by cases h), gl, fun L' H1 h1 h2 h3 h4 => ?_⟩
    have s1 : Same H H1 := fun bb o hh => by rw [h2 bb (ne_of_none hh hL), upd_ne (ne_of_none hh hL)]; exact hh
    have a0 := start_asd (h3.congr fun y => ⟨fun h => h.elim (fun z => z.elim) id, .inr⟩)
    refine ⟨_, rfl, L, _, rfl, .inl ⟨SqL.of h1, fun t ht => ?_⟩⟩
    refine ⟨_, rfl, _, rfl, ?_⟩
    refine for_str (l := tl b) (fun i σ H' => ∃ (t : Addr) (ps : List Nat) (v : Option V), σ = [some (.str g), some (.str b), some (.ref L), some (.ref t), v] ∧ H' t = some (.tup (nts ps)) ∧ Same H H' ∧ Asd ps (stand (tl g) ((tl b).take i))) ⟨t, L', _, rfl, upd_same, s1.trans (same_new ht), a0⟩ ?_ ?_
    · rintro i c σ H' hi ⟨t', ps, v, rfl, hT, hS, hP⟩
      have cb := hb c (List.mem_of_getElem? hi)
      have e : (tl b).take (i + 1) = (tl b).take i ++ [c] := by rw [List.take_add_one, hi]; rfl
      obtain ⟨cl, wi⟩ := stand_ok (tl g) ((tl b).take i)
      refine ⟨_, rfl, _, rfl, _, rfl, g, t', c, ps, _, rfl, SqT.of hT, hP, cl, wi, cb, gl, fun q' qs H2 m2 e2 a2 => ?_⟩
      exact ⟨q', qs, _, rfl, e2, hS.trans m2, by rw [e, stand_snoc]; exact a2⟩
    · rintro σ H' ⟨t', ps, v, rfl, hT, hS, hP⟩
      rw [List.take_length] at hP
      exact ⟨_, rfl, q t' ps H' hS hT hP⟩
end
section
variable {P : Program} {w : World} {K : PySem.W.Frag} {mg : Str → Option Value} {base : Heap}
theorem ok_fits (D : Df K mg "fits" s_fits ["glob", "board"]) (T : Tx mg) (C_standing : Cal P w K mg base "standing" ["glob", "beginning"] 3 (sp_standing K)) : Cal P w K mg base "fits" ["glob", "board"] 4 (sp_fits K) := by
  obtain ⟨f_standing, fd_standing, G_standing, g_standing, k_standing, b_standing⟩ := C_standing
  obtain ⟨f, fd, F, gf, bf⟩ := D
  refine ⟨f, fd, F.ok sc_fits (fun vs H Q E h => ?_) (fun cdv A outer s₀ H vs Q E hr h => ?_), gf, F.kp, bf⟩
  · obtain ⟨g, b, rfl, _⟩ := h; rfl
  · obtain ⟨g, b, rfl, hb, gl, q⟩ := h
    refine ⟨_, (pss_one (ps_ret (pe_cmpR op_in_seq (pe_callB call_lenS (by rfl) T.n_len PySem.boot_len (pa_cons (pv 0) pa_nil)) (pe_call G_standing (hr.mono (by decide)) (by rfl) g_standing k_standing b_standing .nil pass0 (pa_cons (pv 0) (pa_cons (pv 1) pa_nil))) (by rfl)))), ?_⟩
    have lg := tl_len g
    refine ⟨_, rfl, g, rfl, Nat.le_trans (show g.length ≤ 10000 by omega) (by decide), ?_⟩
    refine ⟨_, rfl, _, rfl, g, b, rfl, hb, gl, fun t ps H1 m1 e1 a1 => ?_⟩
    refine ⟨t, _, rfl, .inr (SqT.of e1), rfl, flat_nts ps, ?_⟩
    have eb : (if false = true then !inV (V.int (g.length : Int)) (nts ps) else inV (V.int (g.length : Int)) (nts ps)) = decide (g.length ∈ ps) := inV_nts _ _
    have e2 : decide (g.length ∈ ps) = @decide (stand (tl g) (tl b) (tl g).length) (Classical.propDecidable _) := by
      rw [Bool.eq_iff_iff]
      simp only [decide_eq_true_iff]
      rw [lg]; exact a1.2 _
    rw [eb, e2]
    exact q H1 m1
end

end Z
namespace Z
open PySem L2 SX
section
variable {P : Program} {w : World} {K : PySem.W.Frag} {mg : Str → Option Value} {base : Heap}
theorem ok_items_of (D : Df K mg "items_of" s_items_of ["pattern"]) (T : Tx mg)  : Cal P w K mg base "items_of" ["pattern"] 1 (sp_items_of K) := by
  obtain ⟨f, fd, F, gf, bf⟩ := D
  refine ⟨f, fd, F.ok sc_items_of (fun vs H Q E h => ?_) (fun cdv A outer s₀ H vs Q E hr h => ?_), gf, F.kp, bf⟩
  · obtain ⟨p, rfl, _⟩ := h; rfl
  · obtain ⟨p, rfl, pl, q⟩ := h
    refine ⟨_, (pss_one (ps_ret (pe_callTy call_tuple_of (by rfl) T.n_tuple (by decide +kernel) (pa_cons (pe_lc (own := [("item", 1)]) (g := gName 1) (tt := tYes) rfl sc_items_of.nd (pi_list (pe_split (pv 0) pe_str)) (blkOk_by (own := [("item", 1)]) (N := N_items_of) (sc := defScope s_items_of) (by decide +kernel)) (fun _ _ _ _ _ => pg_name (i := 1) sc_items_of.nd rfl (Or.inl rfl)) (fun _ _ _ _ _ => pts_nil) (fun _ _ _ _ _ => (pe_ifExp (pt_val (pe_m1 PySem.F.slot_str_startswith PySem.F.type_str_startswith mt_startswith (pv 1) pe_str)) (pe_tup (pa_cons pe_int (pa_cons (pe_slice sl_str (pv 1) (po_some pe_int) po_none) pa_nil))) (pe_tup (pa_cons pe_int (pa_cons (pv 1) pa_nil)))))) pa_nil)))), ?_⟩
    have lp := tl_len p
    have small : ∀ n : Nat, n ≤ 30000 → n < sizeLine := fun n h => Nat.lt_of_le_of_lt h (by decide)
    refine ⟨_, rfl, ⟨_, rfl⟩, p, Str.ofString ",", rfl, rfl, rfl, Nat.le_of_lt (small _ (by omega)), fun B hB => ?_⟩
    rw [split_bar]
    have pn := parts_num (tl p)
    have hB1 : (upd H B (HO.lst (((parts (tl p)).map S).map V.str))) B = some (.lst (((parts (tl p)).map S).map V.str)) := upd_same
    refine ⟨B, rfl, ⟨_, SqL.of hB1⟩, fun D hD => ?_⟩
    refine lc_list (K := K) (a := B) (xs := ((parts (tl p)).map S).map V.str) (fun i H' => ∃ ts : List Addr, H' D = some (.lst (ts.map V.ref)) ∧ ts.length = i ∧ Same (upd H B (HO.lst (((parts (tl p)).map S).map V.str))) H' ∧ (∀ (j : Nat) (t : Addr) (it : List Nat), ts[j]? = some t → (parts (tl p))[j]? = some it → H' t = some (.tup (itemV it)))) ⟨[], upd_same, rfl, same_new hD, fun j t it h => by simp at h⟩ (fun i H' _ h => by obtain ⟨_, _, _, h, _⟩ := h; exact SqL.of (h _ _ hB1)) ?_ ?_
    · rintro i x H' hi ⟨ts, h1, h2, h3, h4⟩
      rw [List.getElem?_map, List.getElem?_map] at hi
      obtain ⟨y, hy, rfl⟩ := Option.map_eq_some_iff.mp hi
      obtain ⟨it, hit, rfl⟩ := Option.map_eq_some_iff.mp hy
      have il := parts_len (List.mem_of_getElem? hit)
      have ilt : i < (parts (tl p)).length := (List.getElem?_eq_some_iff.mp hit).1
      have fin : ∀ (t : Addr), H' t = none → ∃ acc, (upd H' t (HO.tup (itemV it))) D = some (.lst acc) ∧ acc.length < sizeLine ∧ ∃ ts : List Addr, (upd (upd H' t (HO.tup (itemV it))) D (HO.lst (acc ++ [V.ref t]))) D = some (.lst (ts.map V.ref)) ∧ ts.length = i + 1 ∧ Same (upd H B (HO.lst (((parts (tl p)).map S).map V.str))) (upd (upd H' t (HO.tup (itemV it))) D (HO.lst (acc ++ [V.ref t]))) ∧ (∀ (j : Nat) (t' : Addr) (it' : List Nat), ts[j]? = some t' → (parts (tl p))[j]? = some it' → (upd (upd H' t (HO.tup (itemV it))) D (HO.lst (acc ++ [V.ref t]))) t' = some (.tup (itemV it'))) := fun t ht => by
        have tD : t ≠ D := (ne_of_none h1 ht).symm
        refine ⟨ts.map V.ref, (same_new ht) _ _ h1, by rw [List.length_map]; exact small _ (by omega), ts ++ [t], by rw [upd_same, List.map_append]; rfl, by rw [List.length_append]; simp [h2], fun b o hb => ?_, fun j t' it' hj hj2 => ?_⟩
        · rw [upd_ne (ne_of_none hb hD)]; exact (h3.trans (same_new ht)) _ _ hb
        · by_cases e : j < ts.length
          · rw [List.getElem?_append_left e] at hj
            have h5 := h4 j t' it' hj hj2
            have : t' ≠ D := fun q => by rw [q, h1] at h5; cases h5
            rw [upd_ne this]; exact (same_new ht) _ _ h5
          · rw [List.getElem?_append_right (by omega)] at hj
            have ej : j - ts.length = 0 := by
              have := (List.getElem?_eq_some_iff.mp hj).1
              simp at this; omega
            rw [ej] at hj
            have : t = t' := by simpa using hj
            subst this
            have : j = i := by omega
            subst this
            rw [hit] at hj2
            cases hj2
            rw [upd_ne tD, upd_same]
      refine ⟨rfl, _, rfl, ⟨_, rfl⟩, _, _, rfl, rfl, _, rfl, ?_⟩
      rw [bar_starts]
      refine ite2 (fun cc => ?_) (fun cc => ?_)
      · refine ⟨_, rfl, 1, rfl, S it, rfl, Nat.le_of_lt (small _ (by show (S it).length ≤ _; rw [S_len]; omega)), by show 2 ≤ sizeLine; decide, fun t ht => ?_⟩
        have e : [V.int 0, V.str (cutS (S it) (some 1) none)] = itemV it := by
          unfold itemV globOf
          have cc' : isBar it = true := cc
          rw [if_pos cc', if_pos cc']
          have : cutS (S it) (some 1) none = S (it.drop 1) := tl_ext (cutS_from (by decide))
          rw [this]
        rw [e]
        exact fin t ht
      · refine ⟨_, rfl, by show 2 ≤ sizeLine; decide, fun t ht => ?_⟩
        have e : [V.int 1, V.str (S it)] = itemV it := by
          unfold itemV globOf
          have cc' : ¬ isBar it = true := cc
          rw [if_neg cc', if_neg cc']
        rw [e]
        exact fin t ht
    · rintro H' ⟨ts, h1, h2, h3, h4⟩
      rw [List.length_map, List.length_map] at h2
      refine ⟨D, _, rfl, .inl ⟨SqL.of h1, fun u hu => ?_⟩⟩
      exact q u ts _ (((same_new hB).trans h3).trans (same_new hu)) upd_same h2 fun i t it a b => (same_new hu) _ _ (h4 i t it a b)
end
section
variable {P : Program} {w : World} {K : PySem.W.Frag} {mg : Str → Option Value} {base : Heap}
theorem ok_lets (D : Df K mg "lets" s_lets ["pattern", "board"]) (T : Tx mg) (C_fits : Cal P w K mg base "fits" ["glob", "board"] 4 (sp_fits K)) (C_items_of : Cal P w K mg base "items_of" ["pattern"] 1 (sp_items_of K)) : Cal P w K mg base "lets" ["pattern", "board"] 5 (sp_lets K) := by
  obtain ⟨f_fits, fd_fits, G_fits, g_fits, k_fits, b_fits⟩ := C_fits
  obtain ⟨f_items_of, fd_items_of, G_items_of, g_items_of, k_items_of, b_items_of⟩ := C_items_of
  obtain ⟨f, fd, F, gf, bf⟩ := D
  refine ⟨f, fd, F.ok sc_lets (fun vs H Q E h => ?_) (fun cdv A outer s₀ H vs Q E hr h => ?_), gf, F.kp, bf⟩
  · obtain ⟨p, b, rfl, _⟩ := h; rfl
  · obtain ⟨p, b, rfl, pl, hb, q⟩ := h
    refine ⟨_, (pss_cons (ps_for PassesOwn.never rfl (RT.pi_revA (by rfl) T.n_reversed (pe_call G_items_of (hr.mono (by decide)) (by rfl) g_items_of k_items_of b_items_of .nil pass0 (pa_cons (pv 0) pa_nil))) (pg_tup rfl (pgs_cons (pg_name (i := 2) sc_lets.nd rfl (Or.inl rfl)) (pgs_cons (pg_name (i := 3) sc_lets.nd rfl (Or.inl rfl)) pgs_nil)))
      (pss_one (ps_if (pt_val (pe_call G_fits (hr.mono (by decide)) (by rfl) g_fits k_fits b_fits .nil pass0 (pa_cons (pv 3) (pa_cons (pv 1) pa_nil))))
        (pss_one (ps_ret (pe_cmpR op_eq (pv 2) pe_int (nomark _))))
        pss_nil)))
      (pss_one (ps_ret pe_bl))), ?_⟩
    refine ⟨_, rfl, p, rfl, pl, fun u ts H1 m1 e1 l1 g1 => ?_⟩
    refine ⟨u, _, rfl, .inr ⟨SqT.of e1, ?_⟩⟩
    have ln : (ts.map V.ref).length = (parts (tl p)).length := by rw [List.length_map]; exact l1
    refine RT.for_ItvT (K := K) (a := u) (xs := ts.map V.ref) (fun i σ H' => (∃ v2 v3 : Option V, σ = [some (.str p), some (.str b), v2, v3]) ∧ Same H1 H' ∧ ∀ (j : Nat) (y : List Nat), (parts (tl p)).length ≤ j + i → (parts (tl p))[j]? = some y → ¬ fit (globOf y) (tl b)) ⟨⟨_, _, rfl⟩, Same.refl _, fun j y h1 h2 => by have := (List.getElem?_eq_some_iff.mp h2).1; omega⟩ (fun i σ H' h => SqT.of (h.2.1 _ _ e1)) ?_ ?_
    · rintro i x σ H' hi hx ⟨⟨v2, v3, rfl⟩, hS, hN⟩
      rw [ln] at hi hx
      rw [List.getElem?_map] at hx
      obtain ⟨t, ht, rfl⟩ := Option.map_eq_some_iff.mp hx
      obtain ⟨it, hit⟩ : ∃ it, (parts (tl p))[(parts (tl p)).length - 1 - i]? = some it := ⟨_, List.getElem?_eq_getElem (show (parts (tl p)).length - 1 - i < (parts (tl p)).length by omega)⟩
      have il := parts_len (List.mem_of_getElem? hit)
      have gl := globOf_len it
      have hT := hS _ _ (g1 _ t it ht hit)
      refine ⟨t, _, rfl, SqT.of hT, rfl, _, _, rfl, _, _, rfl, rfl, ?_⟩
      refine ⟨_, rfl, _, rfl, S (globOf it), b, rfl, hb, by show (globOf it).length ≤ _; omega, fun H2 m2 => ?_⟩
      refine ⟨_, rfl, ite2 (fun cc => ?_) (fun cc => ⟨⟨_, _, rfl⟩, hS.trans m2, fun j y h1 h2 => ?_⟩)⟩
      · have hf : fit (globOf it) (tl b) := @of_decide_eq_true _ (Classical.propDecidable _) cc
        refine ⟨_, rfl, rfl, ?_⟩
        have e := lets_last hit hf fun j y h1 h2 => hN j y (by omega) h2
        have e2 : decide (V.int (if isBar it = true then 0 else 1) = V.int 1) = letsL (parts (tl p)) (tl b) := by
          rw [e]; cases isBar it <;> rfl
        show Q (.bl (decide (V.int (if isBar it = true then 0 else 1) = V.int 1))) H2
        rw [e2]
        exact q H2 (m1.trans (hS.trans m2))
      · by_cases e : j = (parts (tl p)).length - 1 - i
        · subst e
          rw [hit] at h2; cases h2
          exact fun hf => cc (@decide_eq_true _ (Classical.propDecidable _) hf)
        · exact hN j y (by omega) h2
    · rintro σ H' ⟨⟨v2, v3, rfl⟩, hS, hN⟩
      rw [ln] at hN
      have := q H' (m1.trans hS)
      rw [lets_none fun j y h => hN j y (by omega) h] at this
      exact this
end
section
variable {P : Program} {w : World} {K : PySem.W.Frag} {mg : Str → Option Value} {base : Heap}
theorem ok_lets_one (D : Df K mg "lets_one" s_lets_one ["pattern", "boards"]) (T : Tx mg) (C_lets : Cal P w K mg base "lets" ["pattern", "board"] 5 (sp_lets K)) : Cal P w K mg base "lets_one" ["pattern", "boards"] 6 (sp_lets_one K) := by
  obtain ⟨f_lets, fd_lets, G_lets, g_lets, k_lets, b_lets⟩ := C_lets
  obtain ⟨f, fd, F, gf, bf⟩ := D
  refine ⟨f, fd, F.ok sc_lets_one (fun vs H Q E h => ?_) (fun cdv A outer s₀ H vs Q E hr h => ?_), gf, F.kp, bf⟩
  · obtain ⟨p, a, bs, rfl, _⟩ := h; rfl
  · obtain ⟨p, a, bs, rfl, hA, pl, bl, hb, q⟩ := h
    refine ⟨_, (pss_one (ps_ret (pe_callB (cr_any rfl) (by rfl) T.n_any (by decide +kernel) (pa_cons (pe_lc (own := [("board", 2)]) (g := gName 2) (tt := tYes) rfl sc_lets_one.nd (pi_tup (pv 1)) (blkOk_by (own := [("board", 2)]) (N := N_lets_one) (sc := defScope s_lets_one) (by decide +kernel)) (fun _ _ _ _ _ => pg_name (i := 2) sc_lets_one.nd rfl (Or.inl rfl)) (fun _ _ _ _ _ => pts_nil) (fun _ _ _ _ _ => (pe_call G_lets (hr.mono (by decide)) (by rfl) g_lets k_lets b_lets .nil pass0 (pa_cons (pv 0) (pa_cons (pv 2) pa_nil))))) pa_nil)))), ?_⟩
    have small : ∀ n : Nat, n ≤ 30000 → n < sizeLine := fun n h => Nat.lt_of_le_of_lt h (by decide)
    refine ⟨_, rfl, a, rfl, ⟨_, hA⟩, fun D hD => ?_⟩
    refine lc_tup (K := K) (a := a) (xs := bs.map V.str) (fun i H' => H' D = some (.lst (((bs.take i).map fun b => letsL (parts (tl p)) (tl b)).map V.bl)) ∧ Same H H') ⟨upd_same, same_new hD⟩ (fun i H' _ h => h.2.tup hA) ?_ ?_
    · rintro i x H' hi ⟨h1, h2⟩
      rw [List.getElem?_map] at hi
      obtain ⟨b, hbi, rfl⟩ := Option.map_eq_some_iff.mp hi
      have et : bs.take (i + 1) = bs.take i ++ [b] := by rw [List.take_add_one, hbi]; rfl
      have := (List.getElem?_eq_some_iff.mp hbi).1
      refine ⟨rfl, _, rfl, _, rfl, p, b, rfl, pl, hb b (List.mem_of_getElem? hbi), fun H2 m2 => ?_⟩
      refine ⟨_, m2 _ _ h1, by rw [List.length_map, List.length_map, List.length_take]; exact small _ (by omega), by rw [upd_same, et, List.map_append, List.map_append]; rfl, fun bb o hh => ?_⟩
      rw [upd_ne (ne_of_none hh hD)]; exact (h2.trans m2) _ _ hh
    · rintro H' ⟨h1, h2⟩
      rw [List.length_map, List.take_length] at h1
      refine ⟨D, _, rfl, SqL.of h1, ?_⟩
      rw [List.any_map]
      exact q H' h2
end

end Z
namespace Z
open PySem L2 SX
section
variable {P : Program} {w : World} {K : PySem.W.Frag} {mg : Str → Option Value} {base : Heap}
theorem ok__law_fits (D : Df K mg "_law_fits" s__law_fits ["glob", "board"]) (T : Tx mg)  : Cal P w K mg base "_law_fits" ["glob", "board"] 1 (sp__law_fits K) := by
  obtain ⟨f, fd, F, gf, bf⟩ := D
  refine ⟨f, fd, F.ok sc__law_fits (fun vs H Q E h => ?_) (fun cdv A outer s₀ H vs Q E hr h => ?_), gf, F.kp, bf⟩
  · obtain ⟨g, b, rfl, _⟩ := h; rfl
  · obtain ⟨g, b, rfl, hb, gl, q⟩ := h
    refine ⟨_, (pss_cons (ps_set (i := 2) sc__law_fits.nd rfl (Or.inl rfl) (pe_op L2.op_cat (pe_lst (pa_cons pe_bl pa_nil)) (pe_op L2.op_rep (pe_lst (pa_cons pe_bl pa_nil)) (pe_callB call_lenS (by rfl) T.n_len PySem.boot_len (pa_cons (pv 0) pa_nil)))))
      (pss_cons (ps_for PassesOwn.never rfl (pi_range1 (by rfl) T.n_range (pa_cons (pe_callB call_lenS (by rfl) T.n_len PySem.boot_len (pa_cons (pv 0) pa_nil)) pa_nil)) (pg_name (i := 3) sc__law_fits.nd rfl (Or.inl rfl))
      (pss_one (ps_if (PW.pt (pw_and (pt_truth (pe_ix ix_list (pv 2) (pv 3) (fun _ _ => rfl)) (by intro _; rfl)) (pw_and1 (pt_cmpR op_eq (pe_item_str (pv 0) (pv 3) (fun _ _ => rfl)) pe_str (nomark _)))))
        (pss_one (ps_asg pe_bl (pg_sub (pv 2) (pe_op op_add (pv 3) pe_int) set_list)))
        pss_nil)))
      (pss_cons (ps_for PassesOwn.never rfl (pi_str (pv 1)) (pg_name (i := 4) sc__law_fits.nd rfl (Or.inl rfl))
      (pss_cons (ps_set (i := 5) sc__law_fits.nd rfl (Or.inl rfl) (pe_op L2.op_rep (pe_lst (pa_cons pe_bl pa_nil)) (pe_op op_add (pe_callB call_lenS (by rfl) T.n_len PySem.boot_len (pa_cons (pv 0) pa_nil)) pe_int)))
        (pss_cons (ps_for PassesOwn.never rfl (pi_range1 (by rfl) T.n_range (pa_cons (pe_callB call_lenS (by rfl) T.n_len PySem.boot_len (pa_cons (pv 0) pa_nil)) pa_nil)) (pg_name (i := 3) sc__law_fits.nd rfl (Or.inl rfl))
        (C8.pss_cut (ps_if (PW.pt (pw_and (pt_truth (pe_ix ix_list (pv 2) (pv 3) (fun _ _ => rfl)) (by intro _; rfl)) (pw_and1 (pt_cmpR op_eq (pe_item_str (pv 0) (pv 3) (fun _ _ => rfl)) pe_str (nomark _)))))
          (pss_one (ps_asg pe_bl (pg_sub (pv 5) (pv 3) set_list)))
          pss_nil)
          (pss_one (ps_if (PW.pt (pw_and (pt_truth (pe_ix ix_list (pv 2) (pv 3) (fun _ _ => rfl)) (by intro _; rfl)) (pw_and1 (pt_cmpR op_in_seq (pe_item_str (pv 0) (pv 3) (fun _ _ => rfl)) (pe_tup (pa_cons pe_str (pa_cons (pv 4) pa_nil))) (by rfl)))))
          (pss_one (ps_asg pe_bl (pg_sub (pv 5) (pe_op op_add (pv 3) pe_int) set_list)))
          pss_nil))))
        (pss_cons (ps_for PassesOwn.never rfl (pi_range1 (by rfl) T.n_range (pa_cons (pe_callB call_lenS (by rfl) T.n_len PySem.boot_len (pa_cons (pv 0) pa_nil)) pa_nil)) (pg_name (i := 3) sc__law_fits.nd rfl (Or.inl rfl))
        (pss_one (ps_if (PW.pt (pw_and (pt_truth (pe_ix ix_list (pv 5) (pv 3) (fun _ _ => rfl)) (by intro _; rfl)) (pw_and1 (pt_cmpR op_eq (pe_item_str (pv 0) (pv 3) (fun _ _ => rfl)) pe_str (nomark _)))))
          (pss_one (ps_asg pe_bl (pg_sub (pv 5) (pe_op op_add (pv 3) pe_int) set_list)))
          pss_nil)))
        (pss_one (ps_set (i := 2) sc__law_fits.nd rfl (Or.inl rfl) (pv 5)))))))
      (pss_one (ps_ret (pe_ix ix_list (pv 2) (pe_callB call_lenS (by rfl) T.n_len PySem.boot_len (pa_cons (pv 0) pa_nil)) (fun _ _ => rfl))))))), ?_⟩
    have lg := tl_len g
    have small : ∀ n : Nat, n ≤ 30000 → n < sizeLine := fun n h => Nat.lt_of_le_of_lt h (by decide)
    refine ⟨by show 1 ≤ sizeLine; decide, fun p1 h1 => ⟨by show 1 ≤ sizeLine; decide, fun p2 h2 => ?_⟩⟩
    refine ⟨_, rfl, g, rfl, Nat.le_of_lt (small _ (by omega)), p2, _, [V.bl false], rfl, rfl, upd_same, by omega, by omega, ?_, fun p3 h3 => ?_⟩
    · show 1 * _ ≤ _; rw [Nat.one_mul]; exact Nat.le_of_lt (small _ (by omega))
    have hp1 : upd (upd (upd H p1 (HO.lst [V.bl true])) p2 (HO.lst [V.bl false])) p3 (HO.lst (List.replicate ((g.length : Int)).toNat [V.bl false]).flatten) p1 = some (.lst [V.bl true]) := (same_new h3) _ _ ((same_new h2) _ _ upd_same)
    refine ⟨p1, p3, _, _, rfl, rfl, hp1, upd_same, ?_, fun L hL => ?_⟩
    · rw [flatten_one, List.length_map, List.length_replicate]; exact Nat.le_of_lt (small _ (show 1 + _ ≤ _ by omega))
    have s4 := ((same_new h1).trans (same_new h2)).trans ((same_new h3).trans (same_new (o := HO.lst ([V.bl true] ++ (List.replicate ((g.length : Int)).toNat [V.bl false]).flatten)) hL))
    have hL4 : upd (upd (upd (upd H p1 (HO.lst [V.bl true])) p2 (HO.lst [V.bl false])) p3 (HO.lst (List.replicate ((g.length : Int)).toNat [V.bl false]).flatten)) L (HO.lst ([V.bl true] ++ (List.replicate ((g.length : Int)).toNat [V.bl false]).flatten)) L = some (.lst ((true :: List.replicate (tl g).length false).map V.bl)) := by
      rw [upd_same, flatten_one, show ((g.length : Int)).toNat = (tl g).length by omega]; rfl
    have B0 : Bs (true :: List.replicate (tl g).length false) (tl g).length (fun y => st0 (tl g) y ∧ y ≤ 0) := by
      refine ⟨by rw [List.length_cons, List.length_replicate], fun y => ?_⟩
      cases y with
      | zero => exact ⟨fun _ => ⟨True.intro, Nat.le_refl _⟩, fun _ => rfl⟩
      | succ y =>
        rw [List.getElem?_cons_succ, List.getElem?_replicate]
        constructor
        · intro h; split at h <;> cases h
        · intro h; have := h.2; omega
    generalize (upd (upd (upd (upd H p1 (HO.lst [V.bl true])) p2 (HO.lst [V.bl false])) p3 (HO.lst (List.replicate ((g.length : Int)).toNat [V.bl false]).flatten)) L (HO.lst ([V.bl true] ++ (List.replicate ((g.length : Int)).toNat [V.bl false]).flatten))) = H4 at hL4 s4 ⊢
    have HL : H L = none := by
      have := hL
      refine Same.free ?_ this
      exact ((same_new h1).trans (same_new h2)).trans (same_new h3)
    refine ⟨_, rfl, g, rfl, Nat.le_of_lt (small _ (by omega)), _, rfl, by omega, by omega, ?_⟩
    refine for_range (lo := 0) (n := ((g.length : Int)).toNat) (fun i σ H' => ∃ (bs : List Bool) (v3 : Option V), σ = [some (.str g), some (.str b), some (.ref L), v3, none, none] ∧ H' L = some (.lst (bs.map V.bl)) ∧ Same H H' ∧ Bs bs (tl g).length (fun y => st0 (tl g) y ∧ y ≤ i)) ⟨_, _, rfl, hL4, s4, B0⟩ ?_ ?_
    · rintro i σ H' hi ⟨bs, v3, rfl, hl, hS, hB⟩
      have hi' : i < (tl g).length := by omega
      obtain ⟨bi, e1, e2⟩ := hB.get (k := i) (by omega)
      have no : ¬ (st0 (tl g) i ∧ (tl g)[i]? = some 42) → ∃ (bs : List Bool) (v3 : Option V), ([some (V.str g), some (V.str b), some (V.ref L), some (V.int (0 + (i : Int))), none, none] : St) = [some (.str g), some (.str b), some (.ref L), v3, none, none] ∧ H' L = some (.lst (bs.map V.bl)) ∧ Same H H' ∧ Bs bs (tl g).length (fun y => st0 (tl g) y ∧ y ≤ i + 1) := fun h => ⟨bs, _, rfl, hl, hS, hB.congr fun y => ⟨fun z => ⟨z.1, by omega⟩, fun z => ⟨z.1, by
        by_cases e : y = i + 1
        · subst e; exact absurd ⟨z.1.2, z.1.1⟩ h
        · omega⟩⟩⟩
      refine ⟨_, rfl, _, rfl, L, _, _, _, rfl, rfl, SqL.of hl, atI_bl (k := i) (by omega) e1, bi, rfl, ite2 (fun c1 => ?_) (fun c1 => iteF (no fun h => c1 (e2.mpr ⟨h.1, Nat.le_refl _⟩)))⟩
      obtain ⟨d, g1, g2, g3⟩ := at_str (x := g) (i := 0 + (i : Int)) (by omega) (by omega)
      rw [show (0 + (i : Int)).toNat = i by omega] at g2
      refine ⟨_, rfl, _, rfl, g, _, d, rfl, rfl, by omega, by omega, by omega, g1, rfl, _, rfl, ite2 (fun c2 => ?_) (fun c2 => no fun h => ?_)⟩
      · have e42 : d = 42 := (List.cons.inj (congrArg tl (V.str.inj (of_decide_eq_true c2)))).1
        subst e42
        refine ⟨_, rfl, _, rfl, _, _, rfl, rfl, L, _, _, i + 1, rfl, rfl, hl, ixN_pos (by omega) (by rw [List.length_map]; have := hB.1; omega), ?_⟩
        refine ⟨bs.set (i + 1) true, _, rfl, by rw [upd_same, map_set_bl], fun bb o hh => by rw [upd_ne (ne_of_none hh HL)]; exact hS _ _ hh, (hB.set (k := i + 1) (by omega)).congr fun y => ⟨fun z => z.elim (fun w => ⟨w.1, by omega⟩) fun e => ?_, fun z => ?_⟩⟩
        · subst e; exact ⟨⟨g2, (e2.mp c1).1⟩, Nat.le_refl _⟩
        · by_cases e : y = i + 1
          · exact .inr e
          · exact .inl ⟨z.1, by omega⟩
      · rw [g2] at h
        have : d = 42 := Option.some.inj h.2
        subst this
        exact c2 (decide_eq_true rfl)
    rintro σ H5 ⟨bs0, v3, rfl, hl0, hS0, hB0⟩
    -- the signs
    refine ⟨_, rfl, b, rfl, ?_⟩
    refine for_str (l := tl b) (fun j σ H' => ∃ (L : Addr) (bs : List Bool) (M : Nat → Prop) (v3 v4 v5 : Option V), σ = [some (.str g), some (.str b), some (.ref L), v3, v4, v5] ∧ H' L = some (.lst (bs.map V.bl)) ∧ Same H H' ∧ Bs bs (tl g).length M ∧ Lax (tl g) (stand (tl g) ((tl b).take j)) M) ⟨L, bs0, _, _, _, _, rfl, hl0, hS0, hB0.congr (N := st0 (tl g)) fun y => ⟨fun z => z.1, fun z => ⟨z, by have := st0_within (tl g) y z; omega⟩⟩, lax_start _⟩ ?_ ?_
    · rintro j c σ H' hj ⟨L, bs, M, v3, v4, v5, rfl, hl, hS, hB, hLx⟩
      have hc := hb c (List.mem_of_getElem? hj)
      have et : (tl b).take (j + 1) = (tl b).take j ++ [c] := by rw [List.take_add_one, hj]; rfl
      obtain ⟨cl, wi⟩ := stand_ok (tl g) ((tl b).take j)
      have hLx' := lax_next hc cl hLx
      rw [← stand_snoc, ← et] at hLx'
      have Mw : within (tl g) M := fun y m => by
        rcases (hLx y).mp m with n | ⟨e, _⟩
        · exact wi y n
        · have := (List.getElem?_eq_some_iff.mp e).1; omega
      refine ⟨by show 1 ≤ sizeLine; decide, fun p6 h6 => ?_⟩
      refine ⟨_, rfl, g, rfl, Nat.le_of_lt (small _ (by omega)), _, _, rfl, rfl, p6, _, [V.bl false], rfl, rfl, upd_same, by omega, by omega, ?_, fun A hA => ?_⟩
      · show 1 * _ ≤ _; rw [Nat.one_mul]; exact Nat.le_of_lt (small _ (by omega))
      have eA : upd (upd H' p6 (HO.lst [V.bl false])) A (HO.lst (List.replicate ((g.length : Int) + 1).toNat [V.bl false]).flatten) A = some (.lst ((List.replicate ((tl g).length + 1) false).map V.bl)) := by
        rw [upd_same, flatten_one, show ((g.length : Int) + 1).toNat = (tl g).length + 1 by omega]
      have sA : Same H' (upd (upd H' p6 (HO.lst [V.bl false])) A (HO.lst (List.replicate ((g.length : Int) + 1).toNat [V.bl false]).flatten)) := (same_new h6).trans (same_new hA)
      have HA' : H' A = none := Same.free (same_new h6) hA
      have LA : L ≠ A := ne_of_none hl HA'
      have HA : H A = none := Same.free hS HA'
      generalize (upd (upd H' p6 (HO.lst [V.bl false])) A (HO.lst (List.replicate ((g.length : Int) + 1).toNat [V.bl false]).flatten)) = H7 at eA sA ⊢
      refine ⟨_, rfl, g, rfl, Nat.le_of_lt (small _ (by omega)), _, rfl, by omega, by omega, ?_⟩
      refine for_range (lo := 0) (n := ((g.length : Int)).toNat) (fun i σ H8 => ∃ (as : List Bool) (v3 : Option V), σ = [some (.str g), some (.str b), some (.ref L), v3, some (.str (S [c])), some (.ref A)] ∧ H8 A = some (.lst (as.map V.bl)) ∧ H8 L = some (.lst (bs.map V.bl)) ∧ Same H H8 ∧ Bs as (tl g).length (fun y => (M y ∧ (tl g)[y]? = some 42 ∧ y < i) ∨ ∃ k, k < i ∧ y = k + 1 ∧ M k ∧ ((tl g)[k]? = some 63 ∨ (tl g)[k]? = some c))) ⟨_, _, rfl, eA, sA _ _ hl, hS.trans sA, (bs_false _).congr fun y => ⟨fun z => z.elim, fun z => by
        rcases z with ⟨_, _, z⟩ | ⟨k, z, _⟩ <;> omega⟩⟩ ?_ ?_
      · rintro i σ H8 hi ⟨as, v3, rfl, ha, hl8, hS8, hB8⟩
        have hi' : i < (tl g).length := by omega
        obtain ⟨bi, e1, e2⟩ := hB.get (k := i) (by omega)
        obtain ⟨d, g1, g2, g3⟩ := at_str (x := g) (i := 0 + (i : Int)) (by omega) (by omega)
        rw [show (0 + (i : Int)).toNat = i by omega] at g2
        refine ⟨fun σ2 H9 => ∃ (as : List Bool), σ2 = [some (.str g), some (.str b), some (.ref L), some (.int (0 + (i : Int))), some (.str (S [c])), some (.ref A)] ∧ H9 A = some (.lst (as.map V.bl)) ∧ H9 L = some (.lst (bs.map V.bl)) ∧ Same H H9 ∧ Bs as (tl g).length (fun y => (M y ∧ (tl g)[y]? = some 42 ∧ y < i + 1) ∨ ∃ k, k < i ∧ y = k + 1 ∧ M k ∧ ((tl g)[k]? = some 63 ∨ (tl g)[k]? = some c)), ?_, ?_⟩
        · have no : ¬ (M i ∧ (tl g)[i]? = some 42) → ∃ (as : List Bool), ([some (V.str g), some (V.str b), some (V.ref L), some (V.int (0 + (i : Int))), some (V.str (S [c])), some (V.ref A)] : St) = [some (.str g), some (.str b), some (.ref L), some (.int (0 + (i : Int))), some (.str (S [c])), some (.ref A)] ∧ H8 A = some (.lst (as.map V.bl)) ∧ H8 L = some (.lst (bs.map V.bl)) ∧ Same H H8 ∧ Bs as (tl g).length (fun y => (M y ∧ (tl g)[y]? = some 42 ∧ y < i + 1) ∨ ∃ k, k < i ∧ y = k + 1 ∧ M k ∧ ((tl g)[k]? = some 63 ∨ (tl g)[k]? = some c)) := fun h => ⟨as, rfl, ha, hl8, hS8, hB8.congr fun y => ⟨fun z => z.elim (fun w => .inl ⟨w.1, w.2.1, by omega⟩) .inr, fun z => z.elim (fun w => .inl ⟨w.1, w.2.1, by
            by_cases e : y = i
            · subst e; exact absurd ⟨w.1, w.2.1⟩ h
            · omega⟩) .inr⟩⟩
          refine ⟨_, rfl, _, rfl, L, _, _, _, rfl, rfl, SqL.of hl8, atI_bl (k := i) (by omega) e1, bi, rfl, ite2 (fun c1 => ?_) (fun c1 => iteF (no fun h => c1 (e2.mpr h.1)))⟩
          refine ⟨_, rfl, _, rfl, g, _, d, rfl, rfl, by omega, by omega, by omega, g1, rfl, _, rfl, ite2 (fun c2 => ?_) (fun c2 => no fun h => ?_)⟩
          · have e42 : d = 42 := (List.cons.inj (congrArg tl (V.str.inj (of_decide_eq_true c2)))).1
            subst e42
            refine ⟨_, rfl, _, rfl, A, _, _, i, rfl, rfl, ha, ixN_pos (by omega) (by rw [List.length_map]; have := hB8.1; omega), ?_⟩
            refine ⟨as.set i true, rfl, by rw [upd_same, map_set_bl], by rw [upd_ne LA]; exact hl8, fun bb o hh => by rw [upd_ne (ne_of_none hh HA)]; exact hS8 _ _ hh, (hB8.set (k := i) (by omega)).congr fun y => ⟨fun z => ?_, fun z => ?_⟩⟩
            · rcases z with (w | w) | e
              · exact .inl ⟨w.1, w.2.1, by omega⟩
              · exact .inr w
              · subst e; exact .inl ⟨e2.mp c1, g2, by omega⟩
            · rcases z with w | w
              · by_cases e : y = i
                · exact .inr e
                · exact .inl (.inl ⟨w.1, w.2.1, by omega⟩)
              · exact .inl (.inr w)
          · rw [g2] at h
            have : d = 42 := Option.some.inj h.2
            subst this
            exact c2 (decide_eq_true rfl)
        · rintro σ2 H9 ⟨as2, rfl, ha9, hl9, hS9, hB9⟩
          have ends : ∀ (as3 : List Bool) (H10 : Hp), H10 A = some (.lst (as3.map V.bl)) → H10 L = some (.lst (bs.map V.bl)) → Same H H10 → Bs as3 (tl g).length (fun y => ((M y ∧ (tl g)[y]? = some 42 ∧ y < i + 1) ∨ ∃ k, k < i ∧ y = k + 1 ∧ M k ∧ ((tl g)[k]? = some 63 ∨ (tl g)[k]? = some c)) ∨ (y = i + 1 ∧ M i ∧ ((tl g)[i]? = some 63 ∨ (tl g)[i]? = some c))) → ∃ (as : List Bool) (v3 : Option V), ([some (V.str g), some (V.str b), some (V.ref L), some (V.int (0 + (i : Int))), some (V.str (S [c])), some (V.ref A)] : St) = [some (.str g), some (.str b), some (.ref L), v3, some (.str (S [c])), some (.ref A)] ∧ H10 A = some (.lst (as.map V.bl)) ∧ H10 L = some (.lst (bs.map V.bl)) ∧ Same H H10 ∧ Bs as (tl g).length (fun y => (M y ∧ (tl g)[y]? = some 42 ∧ y < i + 1) ∨ ∃ k, k < i + 1 ∧ y = k + 1 ∧ M k ∧ ((tl g)[k]? = some 63 ∨ (tl g)[k]? = some c)) := fun as3 H10 h1 h2 h3 h4 => ⟨as3, _, rfl, h1, h2, h3, h4.congr fun y => ⟨fun z => by
            rcases z with (w | ⟨k, w1, w2⟩) | ⟨w1, w2⟩
            · exact .inl w
            · exact .inr ⟨k, by omega, w2⟩
            · exact .inr ⟨i, by omega, w1, w2⟩, fun z => by
            rcases z with w | ⟨k, w1, w2, w3⟩
            · exact .inl (.inl w)
            · by_cases e : k = i
              · subst e; exact .inr ⟨w2, w3⟩
              · exact .inl (.inr ⟨k, by omega, w2, w3⟩)⟩⟩
          refine ⟨_, rfl, _, rfl, L, _, _, _, rfl, rfl, SqL.of hl9, atI_bl (k := i) (by omega) e1, bi, rfl, ite2 (fun c1 => ?_) (fun c1 => iteF (ends as2 H9 ha9 hl9 hS9 (hB9.congr fun y => ⟨.inl, fun z => z.elim id fun w => absurd (e2.mpr w.2.1) c1⟩)))⟩
          refine ⟨_, rfl, _, rfl, g, _, d, rfl, rfl, by omega, by omega, by omega, g1, ?_⟩
          refine ⟨_, rfl, by show 2 ≤ sizeLine; decide, fun t ht => ?_⟩
          refine ⟨t, [Str.ofString "?", S [c]].map V.str, rfl, .inr (SqT.of upd_same), rfl, flat_strs _, _, rfl, ?_⟩
          have eb : (if false = true then !inV (V.str (S [d])) ([Str.ofString "?", S [c]].map V.str) else inV (V.str (S [d])) ([Str.ofString "?", S [c]].map V.str)) = decide (S [d] ∈ [Str.ofString "?", S [c]]) := inV_strs _ _
          have tn := same_new (o := HO.tup [V.str (Str.ofString "?"), V.str (S [c])]) ht
          by_cases hin : S [d] ∈ [Str.ofString "?", S [c]]
          · have hmt : (tl g)[i]? = some 63 ∨ (tl g)[i]? = some c := by
              rw [g2]
              rcases List.mem_cons.mp hin with e | e
              · exact .inl (congrArg some (List.cons.inj (congrArg tl e)).1)
              · exact .inr (congrArg some (List.cons.inj (congrArg tl (List.mem_singleton.mp e))).1)
            refine ite2 (fun _ => ?_) (fun h => (h (eb.trans (decide_eq_true hin))).elim)
            refine ⟨_, rfl, _, rfl, _, _, rfl, rfl, A, _, _, i + 1, rfl, rfl, tn _ _ ha9, ixN_pos (by omega) (by rw [List.length_map]; have := hB9.1; omega), ?_⟩
            refine ends (as2.set (i + 1) true) _ (by rw [upd_same, map_set_bl]) (by rw [upd_ne LA]; exact tn _ _ hl9) (fun bb o hh => by rw [upd_ne (ne_of_none hh HA)]; exact (hS9.trans tn) _ _ hh) ((hB9.set (k := i + 1) (by omega)).congr fun y => ⟨fun z => z.elim .inl fun e => .inr ⟨e, e2.mp c1, hmt⟩, fun z => z.elim .inl fun w => .inr w.1⟩)
          · refine ite2 (fun h => (hin (of_decide_eq_true (eb.symm.trans h))).elim) (fun _ => ends as2 _ (tn _ _ ha9) (tn _ _ hl9) (hS9.trans tn) (hB9.congr fun y => ⟨.inl, fun z => z.elim id fun w => absurd ?_ hin⟩))
            have e := w.2.2
            rw [g2] at e
            rcases e with e | e
            · have : d = 63 := Option.some.inj e
              subst this; exact List.mem_cons_self
            · have : d = c := Option.some.inj e
              subst this; exact List.mem_cons_of_mem _ (List.mem_singleton.mpr rfl)
      -- along the stars
      rintro σ8 H8 ⟨as, v3', rfl, ha, hl8, hS8, hB8⟩
      have hB8' : Bs as (tl g).length (lawA (tl g) M c) := hB8.congr fun y => by
        unfold lawA
        constructor
        · rintro (w | ⟨k, _, w⟩)
          · exact .inl ⟨w.1, w.2.1⟩
          · exact .inr ⟨k, w⟩
        · rintro (w | ⟨k, w⟩)
          · exact .inl ⟨w.1, w.2, by have := (List.getElem?_eq_some_iff.mp w.2).1; omega⟩
          · refine .inr ⟨k, ?_, w⟩
            have : k < (tl g).length := by rcases w.2.2 with e | e <;> exact (List.getElem?_eq_some_iff.mp e).1
            omega
      refine ⟨_, rfl, g, rfl, Nat.le_of_lt (small _ (by omega)), _, rfl, by omega, by omega, ?_⟩
      refine for_range (lo := 0) (n := ((g.length : Int)).toNat) (fun i σ H9 => ∃ (as : List Bool) (v3 : Option V), σ = [some (.str g), some (.str b), some (.ref L), v3, some (.str (S [c])), some (.ref A)] ∧ H9 A = some (.lst (as.map V.bl)) ∧ Same H H9 ∧ Bs as (tl g).length (fun y => (y ≤ i ∧ lawB (tl g) (lawA (tl g) M c) y) ∨ (i < y ∧ lawA (tl g) M c y))) ⟨as, _, rfl, ha, hS8, hB8'.congr fun y => ?_⟩ ?_ ?_
      · cases y with
        | zero => exact ⟨fun z => .inl ⟨Nat.le_refl _, z⟩, fun z => z.elim (fun w => w.2) fun w => w.2⟩
        | succ y => exact ⟨fun z => .inr ⟨by omega, z⟩, fun z => z.elim (fun w => by omega) fun w => w.2⟩
      · rintro i σ H9 hi ⟨as, v3, rfl, ha, hS9, hB9⟩
        have hi' : i < (tl g).length := by omega
        obtain ⟨bi, e1, e2⟩ := hB9.get (k := i) (by omega)
        have e3 : bi = true ↔ lawB (tl g) (lawA (tl g) M c) i := e2.trans ⟨fun z => z.elim (fun w => w.2) fun w => by omega, fun z => .inl ⟨Nat.le_refl _, z⟩⟩
        have no : ¬ (lawB (tl g) (lawA (tl g) M c) i ∧ (tl g)[i]? = some 42) → ∃ (as : List Bool) (v3 : Option V), ([some (V.str g), some (V.str b), some (V.ref L), some (V.int (0 + (i : Int))), some (V.str (S [c])), some (V.ref A)] : St) = [some (.str g), some (.str b), some (.ref L), v3, some (.str (S [c])), some (.ref A)] ∧ H9 A = some (.lst (as.map V.bl)) ∧ Same H H9 ∧ Bs as (tl g).length (fun y => (y ≤ i + 1 ∧ lawB (tl g) (lawA (tl g) M c) y) ∨ (i + 1 < y ∧ lawA (tl g) M c y)) := fun h => ⟨as, _, rfl, ha, hS9, hB9.congr fun y => by
          by_cases e : y = i + 1
          · subst e
            constructor
            · rintro (w | w)
              · omega
              · exact .inl ⟨Nat.le_refl _, .inl w.2⟩
            · rintro (⟨_, w | w⟩ | w)
              · exact .inr ⟨by omega, w⟩
              · exact absurd w h
              · omega
          · constructor
            · rintro (w | w)
              · exact .inl ⟨by omega, w.2⟩
              · exact .inr ⟨by omega, w.2⟩
            · rintro (w | w)
              · exact .inl ⟨by omega, w.2⟩
              · exact .inr ⟨by omega, w.2⟩⟩
        refine ⟨_, rfl, _, rfl, A, _, _, _, rfl, rfl, SqL.of ha, atI_bl (k := i) (by omega) e1, bi, rfl, ite2 (fun c1 => ?_) (fun c1 => iteF (no fun h => c1 (e3.mpr h.1)))⟩
        obtain ⟨d, g1, g2, g3⟩ := at_str (x := g) (i := 0 + (i : Int)) (by omega) (by omega)
        rw [show (0 + (i : Int)).toNat = i by omega] at g2
        refine ⟨_, rfl, _, rfl, g, _, d, rfl, rfl, by omega, by omega, by omega, g1, rfl, _, rfl, ite2 (fun c2 => ?_) (fun c2 => no fun h => ?_)⟩
        · have e42 : d = 42 := (List.cons.inj (congrArg tl (V.str.inj (of_decide_eq_true c2)))).1
          subst e42
          refine ⟨_, rfl, _, rfl, _, _, rfl, rfl, A, _, _, i + 1, rfl, rfl, ha, ixN_pos (by omega) (by rw [List.length_map]; have := hB9.1; omega), ?_⟩
          refine ⟨as.set (i + 1) true, _, rfl, by rw [upd_same, map_set_bl], fun bb o hh => by rw [upd_ne (ne_of_none hh HA)]; exact hS9 _ _ hh, (hB9.set (k := i + 1) (by omega)).congr fun y => ?_⟩
          by_cases e : y = i + 1
          · subst e
            exact ⟨fun _ => .inl ⟨Nat.le_refl _, .inr ⟨e3.mp c1, g2⟩⟩, fun _ => .inr rfl⟩
          · constructor
            · rintro ((w | w) | w)
              · exact .inl ⟨by omega, w.2⟩
              · exact .inr ⟨by omega, w.2⟩
              · exact absurd w e
            · rintro (w | w)
              · exact .inl (.inl ⟨by omega, w.2⟩)
              · exact .inl (.inr ⟨by omega, w.2⟩)
        · rw [g2] at h
          have : d = 42 := Option.some.inj h.2
          subst this
          exact c2 (decide_eq_true rfl)
      · rintro σ9 H9 ⟨as, v3, rfl, ha, hS9, hB9⟩
        refine ⟨_, rfl, A, as, lawB (tl g) (lawA (tl g) M c), _, _, _, rfl, ha, hS9, hB9.congr fun y => ⟨fun z => z.elim (fun w => w.2) fun w => ?_, fun z => ?_⟩, hLx'⟩
        · have hw := w.1
          exfalso
          rcases w.2 with ⟨m, _⟩ | ⟨k, e, m, r⟩
          · have := Mw y m; omega
          · have : k < (tl g).length := by rcases r with r | r <;> exact (List.getElem?_eq_some_iff.mp r).1
            omega
        · by_cases e : y ≤ ((g.length : Int)).toNat
          · exact .inl ⟨e, z⟩
          · exfalso
            have h9 := (hLx' y).mp z
            obtain ⟨_, wi2⟩ := stand_ok (tl g) ((tl b).take (j + 1))
            rcases h9 with n | ⟨q, _⟩
            · have := wi2 y n; omega
            · have := (List.getElem?_eq_some_iff.mp q).1; omega
    · rintro σ H' ⟨L, bs, M, v3, v4, v5, rfl, hl, hS, hB, hLx⟩
      rw [List.take_length] at hLx
      obtain ⟨bi, e1, e2⟩ := hB.get (k := (tl g).length) (Nat.le_refl _)
      refine ⟨_, rfl, _, rfl, g, rfl, Nat.le_of_lt (small _ (by omega)), L, _, _, .bl bi, rfl, rfl, SqL.of hl, atI_bl (k := (tl g).length) (by omega) e1, ?_⟩
      have ef : bi = @decide (fit (tl g) (tl b)) (Classical.propDecidable _) := by
        rw [Bool.eq_iff_iff, e2]
        simp only [decide_eq_true_iff]
        refine (hLx _).trans ⟨fun z => z.elim id fun w => ?_, .inl⟩
        have := (List.getElem?_eq_some_iff.mp w.1).1; omega
      rw [ef]
      exact q H' hS
end

end Z
namespace Z
open PySem L2 SX
section
variable {P : Program} {w : World} {K : PySem.W.Frag} {mg : Str → Option Value} {base : Heap}
theorem ok__law_lets (D : Df K mg "_law_lets" s__law_lets ["pattern", "board"]) (T : Tx mg) (C__law_fits : Cal P w K mg base "_law_fits" ["glob", "board"] 1 (sp__law_fits K)) : Cal P w K mg base "_law_lets" ["pattern", "board"] 2 (sp__law_lets K) := by
  obtain ⟨f__law_fits, fd__law_fits, G__law_fits, g__law_fits, k__law_fits, b__law_fits⟩ := C__law_fits
  obtain ⟨f, fd, F, gf, bf⟩ := D
  refine ⟨f, fd, F.ok sc__law_lets (fun vs H Q E h => ?_) (fun cdv A outer s₀ H vs Q E hr h => ?_), gf, F.kp, bf⟩
  · obtain ⟨p, b, rfl, _⟩ := h; rfl
  · obtain ⟨p, b, rfl, pl, hb, q⟩ := h
    refine ⟨_, (pss_cons (ps_set (i := 2) sc__law_lets.nd rfl (Or.inl rfl) pe_bl)
      (pss_cons (ps_for PassesOwn.never rfl (pi_list (pe_split (pv 0) pe_str)) (pg_name (i := 3) sc__law_lets.nd rfl (Or.inl rfl))
      (pss_one (ps_if (pt_cmpR op_eq (pe_slice sl_str (pv 3) po_none (po_some pe_int)) pe_str (nomark _))
        (pss_one (ps_if (pt_val (pe_call G__law_fits (hr.mono (by decide)) (by rfl) g__law_fits k__law_fits b__law_fits .nil pass0 (pa_cons (pe_slice sl_str (pv 3) (po_some pe_int) po_none) (pa_cons (pv 1) pa_nil))))
          (pss_one (ps_set (i := 2) sc__law_lets.nd rfl (Or.inl rfl) pe_bl))
          pss_nil))
        (pss_one (ps_if (pt_val (pe_call G__law_fits (hr.mono (by decide)) (by rfl) g__law_fits k__law_fits b__law_fits .nil pass0 (pa_cons (pv 3) (pa_cons (pv 1) pa_nil))))
          (pss_one (ps_set (i := 2) sc__law_lets.nd rfl (Or.inl rfl) pe_bl))
          pss_nil)))))
      (pss_one (ps_ret (pv 2))))), ?_⟩
    have lp := tl_len p
    have small : ∀ n : Nat, n ≤ 30000 → n ≤ sizeLine := fun n h => Nat.le_trans h (by decide)
    refine ⟨_, rfl, ⟨_, rfl⟩, p, Str.ofString ",", rfl, rfl, rfl, small _ (by omega), fun B hB => ?_⟩
    rw [split_bar]
    have hB1 : (upd H B (HO.lst (((parts (tl p)).map S).map V.str))) B = some (.lst (((parts (tl p)).map S).map V.str)) := upd_same
    refine ⟨B, rfl, ⟨_, SqL.of hB1⟩, ?_⟩
    refine for_list (K := K) (a := B) (xs := ((parts (tl p)).map S).map V.str) (fun i σ H' => (∃ v3 : Option V, σ = [some (.str p), some (.str b), some (.bl (letsL ((parts (tl p)).take i) (tl b))), v3]) ∧ Same (upd H B (HO.lst (((parts (tl p)).map S).map V.str))) H') ⟨⟨_, rfl⟩, Same.refl _⟩ (fun i σ H' _ h => SqL.of (h.2 _ _ hB1)) ?_ ?_
    · rintro i x σ H' hi ⟨⟨v3, rfl⟩, hS⟩
      rw [List.getElem?_map, List.getElem?_map] at hi
      obtain ⟨y, hy, rfl⟩ := Option.map_eq_some_iff.mp hi
      obtain ⟨it, hit, rfl⟩ := Option.map_eq_some_iff.mp hy
      have il := parts_len (List.mem_of_getElem? hit)
      have et : (parts (tl p)).take (i + 1) = (parts (tl p)).take i ++ [it] := by rw [List.take_add_one, hit]; rfl
      have step : letsL ((parts (tl p)).take (i + 1)) (tl b) = (if @decide (fit (globOf it) (tl b)) (Classical.propDecidable _) = true then !isBar it else letsL ((parts (tl p)).take i) (tl b)) := by
        rw [et]
        show List.foldl _ _ (_ ++ [it]) = _
        rw [List.foldl_append]
        show (@ite _ (fit (globOf it) (tl b)) (Classical.propDecidable _) (!isBar it) (letsL ((parts (tl p)).take i) (tl b))) = _
        by_cases h : fit (globOf it) (tl b)
        · rw [if_pos h, if_pos (@decide_eq_true _ (Classical.propDecidable _) h)]
        · rw [if_neg h, if_neg (fun e => h (@of_decide_eq_true _ (Classical.propDecidable _) e))]
      refine ⟨_, rfl, 1, rfl, S it, rfl, small _ (by show (S it).length ≤ _; rw [S_len]; omega), rfl, _, rfl, ?_⟩
      rw [bar_cut]
      refine ite2 (fun cc => ?_) (fun cc => ?_)
      · have cc' : isBar it = true := cc
        have eg : globOf it = it.drop 1 := by unfold globOf; rw [if_pos cc']
        have ec : tl (cutS (S it) (some 1) none) = globOf it := by rw [eg]; exact cutS_from (by decide)
        refine ⟨_, rfl, 1, rfl, S it, rfl, small _ (by show (S it).length ≤ _; rw [S_len]; omega), _, rfl, cutS (S it) (some 1) none, b, rfl, hb, by rw [ec]; have := globOf_len it; omega, fun H2 m2 => ?_⟩
        rw [ec]
        refine ⟨_, rfl, ite2 (fun c2 => ?_) (fun c2 => ?_)⟩
        · refine ⟨⟨some (.str (S it)), ?_⟩, hS.trans m2⟩
          rw [step, if_pos c2, cc']; rfl
        · refine ⟨⟨some (.str (S it)), ?_⟩, hS.trans m2⟩
          rw [step, if_neg c2]; rfl
      · have cc' : ¬ isBar it = true := cc
        have eg : globOf it = it := by unfold globOf; rw [if_neg cc']
        refine ⟨_, rfl, _, rfl, S it, b, rfl, hb, by show it.length ≤ _; omega, fun H2 m2 => ?_⟩
        rw [show tl (S it) = globOf it from eg.symm]
        refine ⟨_, rfl, ite2 (fun c2 => ?_) (fun c2 => ?_)⟩
        · refine ⟨⟨some (.str (S it)), ?_⟩, hS.trans m2⟩
          rw [step, if_pos c2, show isBar it = false by simpa using cc']; rfl
        · refine ⟨⟨some (.str (S it)), ?_⟩, hS.trans m2⟩
          rw [step, if_neg c2]; rfl
    · rintro σ H' ⟨⟨v3, rfl⟩, hS⟩
      rw [List.length_map, List.length_map, List.take_length]
      exact ⟨_, rfl, q H' ((same_new hB).trans hS)⟩
end
section
variable {P : Program} {w : World} {K : PySem.W.Frag} {mg : Str → Option Value} {base : Heap}
theorem ok__law_lets_some (D : Df K mg "_law_lets_some" s__law_lets_some ["pattern", "boards"]) (T : Tx mg) (C__law_lets : Cal P w K mg base "_law_lets" ["pattern", "board"] 2 (sp__law_lets K)) : Cal P w K mg base "_law_lets_some" ["pattern", "boards"] 3 (sp__law_lets_some K) := by
  obtain ⟨f__law_lets, fd__law_lets, G__law_lets, g__law_lets, k__law_lets, b__law_lets⟩ := C__law_lets
  obtain ⟨f, fd, F, gf, bf⟩ := D
  refine ⟨f, fd, F.ok sc__law_lets_some (fun vs H Q E h => ?_) (fun cdv A outer s₀ H vs Q E hr h => ?_), gf, F.kp, bf⟩
  · obtain ⟨p, a, bs, rfl, _⟩ := h; rfl
  · obtain ⟨p, a, bs, rfl, hA, pl, bl, hb, q⟩ := h
    refine ⟨_, (pss_cons (ps_for PassesOwn.never rfl (pi_tup (pv 1)) (pg_name (i := 2) sc__law_lets_some.nd rfl (Or.inl rfl))
      (pss_one (ps_if (pt_val (pe_call G__law_lets (hr.mono (by decide)) (by rfl) g__law_lets k__law_lets b__law_lets .nil pass0 (pa_cons (pv 0) (pa_cons (pv 2) pa_nil))))
        (pss_one (ps_ret pe_bl))
        pss_nil)))
      (pss_one (ps_ret pe_bl))), ?_⟩
    refine ⟨_, rfl, a, rfl, ⟨_, hA⟩, ?_⟩
    refine for_tup (K := K) (a := a) (xs := bs.map V.str) (fun i σ H' => (∃ v2 : Option V, σ = [some (.str p), some (.ref a), v2]) ∧ Same H H' ∧ (bs.take i).any (fun b => letsL (parts (tl p)) (tl b)) = false) ⟨⟨_, rfl⟩, Same.refl _, rfl⟩ (fun i σ H' _ h => h.2.1.tup hA) ?_ ?_
    · rintro i x σ H' hi ⟨⟨v2, rfl⟩, hS, hN⟩
      rw [List.getElem?_map] at hi
      obtain ⟨b, hbi, rfl⟩ := Option.map_eq_some_iff.mp hi
      have et : bs.take (i + 1) = bs.take i ++ [b] := by rw [List.take_add_one, hbi]; rfl
      refine ⟨_, rfl, _, rfl, p, b, rfl, pl, hb b (List.mem_of_getElem? hbi), fun H2 m2 => ?_⟩
      refine ⟨_, rfl, ite2 (fun cc => ?_) (fun cc => ⟨⟨_, rfl⟩, hS.trans m2, ?_⟩)⟩
      · have := q H2 (hS.trans m2)
        rw [show (bs.any fun b => letsL (parts (tl p)) (tl b)) = true from List.any_eq_true.mpr ⟨b, List.mem_of_getElem? hbi, cc⟩] at this
        exact this
      · rw [et, List.any_append, hN]
        show (false || (letsL (parts (tl p)) (tl b) || false)) = false
        rw [show letsL (parts (tl p)) (tl b) = false by simpa using cc]; rfl
    · rintro σ H' ⟨⟨v2, rfl⟩, hS, hN⟩
      rw [List.length_map, List.take_length] at hN
      have := q H' hS
      rw [hN] at this
      exact this
end

end Z
namespace Z
open PySem L2 SX
section
variable {P : Program} {w : World} {K : PySem.W.Frag} {mg : Str → Option Value} {base : Heap}
theorem ok__law_words (D : Df K mg "_law_words" s__law_words ["source"]) (T : Tx mg) (C__law_draw : Cal P w K mg base "_law_draw" ["source", "many"] 2 sp__law_draw) (C__law_names : Cal P w K mg base "_law_names" ["source", "many"] 4 (sp__law_names K)) : Cal P w K mg base "_law_words" ["source"] 5 (sp__law_words K) := by
  obtain ⟨f__law_draw, fd__law_draw, G__law_draw, g__law_draw, k__law_draw, b__law_draw⟩ := C__law_draw
  obtain ⟨f__law_names, fd__law_names, G__law_names, g__law_names, k__law_names, b__law_names⟩ := C__law_names
  obtain ⟨f, fd, F, gf, bf⟩ := D
  refine ⟨f, fd, F.ok sc__law_words (fun vs H Q E h => ?_) (fun cdv A outer s₀ H vs Q E hr h => ?_), gf, F.kp, bf⟩
  · obtain ⟨s, a, c, rfl, _⟩ := h; rfl
  · obtain ⟨s, a, c, rfl, hS, q⟩ := h
    refine ⟨_, (pss_one (ps_ret (pe_call G__law_names (hr.mono (by decide)) (by rfl) g__law_names k__law_names b__law_names .nil pass0 (pa_cons (pv 0) (pa_cons (pe_op op_add pe_int (pe_call G__law_draw (hr.mono (by decide)) (by rfl) g__law_draw k__law_draw b__law_draw .nil pass0 (pa_cons (pv 0) (pa_cons pe_int pa_nil)))) pa_nil))))), ?_⟩
    refine ⟨_, rfl, _, rfl, s, a, _, c + 99, rfl, by decide, by decide, hS, fun v H1 v0 v1 x1 S1 => ?_⟩
    obtain ⟨m, rfl⟩ := Int.eq_ofNat_of_zero_le v0
    refine ⟨_, _, rfl, rfl, s, a, m + 2, c + 50, ?_, by omega, S1.mono (by omega), fun u us H2 hu h2 ul uA x2 S2 => ?_⟩
    · show [V.ref s, V.int (2 + (m : Int))] = [V.ref s, V.int ((m + 2 : Nat) : Int)]
      rw [show ((m + 2 : Nat) : Int) = 2 + (m : Int) by omega]
    · have hu0 : H u = none := ext_free x1 S1 hu
      exact q u us H2 hu0 h2 (by omega) (by omega) uA (x1.trans x2) (S2.mono (by omega))
end
section
variable {P : Program} {w : World} {K : PySem.W.Frag} {mg : Str → Option Value} {base : Heap}
theorem ok__law_board (D : Df K mg "_law_board" s__law_board ["source", "words"]) (T : Tx mg) (C__law_draw : Cal P w K mg base "_law_draw" ["source", "many"] 2 sp__law_draw) (C__law_pick : Cal P w K mg base "_law_pick" ["source", "row"] 3 (sp__law_pick K)) : Cal P w K mg base "_law_board" ["source", "words"] 4 (sp__law_board K) := by
  obtain ⟨f__law_draw, fd__law_draw, G__law_draw, g__law_draw, k__law_draw, b__law_draw⟩ := C__law_draw
  obtain ⟨f__law_pick, fd__law_pick, G__law_pick, g__law_pick, k__law_pick, b__law_pick⟩ := C__law_pick
  obtain ⟨f, fd, F, gf, bf⟩ := D
  refine ⟨f, fd, F.ok sc__law_board (fun vs H Q E h => ?_) (fun cdv A outer s₀ H vs Q E hr h => ?_), gf, F.kp, bf⟩
  · obtain ⟨s, a, u, us, c, rfl, _⟩ := h; rfl
  · obtain ⟨s, a, u, us, c, rfl, hU, hus, un, ul, uA, hS, q⟩ := h
    refine ⟨_, (pss_cons (ps_set (i := 2) sc__law_board.nd rfl (Or.inl rfl) (pe_op op_add pe_int (pe_call G__law_draw (hr.mono (by decide)) (by rfl) g__law_draw k__law_draw b__law_draw .nil pass0 (pa_cons (pv 0) (pa_cons pe_int pa_nil)))))
      (pss_one (ps_ret (pe_join pe_str (pe_lc (own := [("k", 3)]) (g := gName 3) (tt := tYes) rfl sc__law_board.nd (pi_range1 (by rfl) T.n_range (pa_cons (pv 2) pa_nil)) (blkOk_by (own := [("k", 3)]) (N := N__law_board) (sc := defScope s__law_board) (by decide +kernel)) (fun _ _ _ _ _ => pg_name (i := 3) sc__law_board.nd rfl (Or.inl rfl)) (fun _ _ _ _ _ => pts_nil) (fun _ _ _ _ _ => (pe_call G__law_pick (hr.mono (by decide)) (by rfl) g__law_pick k__law_pick b__law_pick .nil pass0 (pa_cons (pv 0) (pa_cons (pv 1) pa_nil))))))))), ?_⟩
    refine ⟨_, rfl, s, a, _, c + 9, rfl, by decide, by decide, hS, fun v H1 v0 v1 x1 S1 => ?_⟩
    refine ⟨_, _, rfl, rfl, ?_⟩
    refine ⟨⟨_, rfl⟩, _, rfl, _, rfl, by omega, by omega, fun D hD => ?_⟩
    refine lc_strs (n := (1 + v).toNat) (d := 1) (c := c) (fun x => Bdc (tl x) ∧ (tl x).length ≤ 70) hD (S1.mono (by omega)) (by omega) (fun _ => rfl) (fun i c' Hx R hi hE' hS' k => ?_) (fun xs H3 hx3 hl3 hA3 hE3 hS3 => ?_)
    · refine ⟨_, rfl, _, rfl, .inl ⟨s, a, u, us.map V.str, c', rfl, hE'.seqL hus (x1.seqL hus hU), hus, fun e => un (List.map_eq_nil_iff.mp e), by rw [List.length_map]; omega, hS', fun w H4 wm x4 S4 => ?_⟩⟩
      obtain ⟨z, zm, rfl⟩ := List.mem_map.mp wm
      exact k z H4 ⟨(uA z zm).1.2.bdc, (uA z zm).2⟩ x4 S4
    · have hs := sum_len (n := 70) (xs := xs) fun x m => (hA3 x m).2
      refine ⟨_, D, xs, rfl, rfl, .inl (SqL.of hx3), ?_, ?_⟩
      · show _ + xs.length * 1 ≤ _; omega
      refine q _ H3 ?_ ?_ (x1.trans hE3) hS3
      · rw [tl_joinS]
        intro ch hc
        rcases joinL_mem hc with e | ⟨l, m, e⟩
        · rw [List.mem_singleton.mp e]; exact .inr (.inr rfl)
        · obtain ⟨x, hx, rfl⟩ := List.mem_map.mp m
          exact (hA3 x hx).1 ch e
      · rw [tl_joinS]
        refine Nat.le_trans (joinL_len (n := 70) fun l m => ?_) ?_
        · obtain ⟨x, hx, rfl⟩ := List.mem_map.mp m
          exact (hA3 x hx).2
        · rw [List.length_map]; show xs.length * (70 + 1) ≤ 300; omega
end
section
variable {P : Program} {w : World} {K : PySem.W.Frag} {mg : Str → Option Value} {base : Heap}
theorem ok__law_boards (D : Df K mg "_law_boards" s__law_boards ["source", "words", "most"]) (T : Tx mg) (C__law_board : Cal P w K mg base "_law_board" ["source", "words"] 4 (sp__law_board K)) (C__law_draw : Cal P w K mg base "_law_draw" ["source", "many"] 2 sp__law_draw) : Cal P w K mg base "_law_boards" ["source", "words", "most"] 5 (sp__law_boards K) := by
  obtain ⟨f__law_board, fd__law_board, G__law_board, g__law_board, k__law_board, b__law_board⟩ := C__law_board
  obtain ⟨f__law_draw, fd__law_draw, G__law_draw, g__law_draw, k__law_draw, b__law_draw⟩ := C__law_draw
  obtain ⟨f, fd, F, gf, bf⟩ := D
  refine ⟨f, fd, F.ok sc__law_boards (fun vs H Q E h => ?_) (fun cdv A outer s₀ H vs Q E hr h => ?_), gf, F.kp, bf⟩
  · obtain ⟨s, a, u, us, m, c, rfl, _⟩ := h; rfl
  · obtain ⟨s, a, u, us, m, c, rfl, hU, hus, un, ul, uA, m0, m1, hS, q⟩ := h
    refine ⟨_, (pss_cons (ps_set (i := 3) sc__law_boards.nd rfl (Or.inl rfl) (pe_lst pa_nil))
      (pss_cons (ps_for PassesOwn.never rfl (pi_range1 (by rfl) T.n_range (pa_cons (pe_op op_add pe_int (pe_call G__law_draw (hr.mono (by decide)) (by rfl) g__law_draw k__law_draw b__law_draw .nil pass0 (pa_cons (pv 0) (pa_cons (pv 2) pa_nil)))) pa_nil)) (pg_name (i := 4) sc__law_boards.nd rfl (Or.inl rfl))
      (pss_cons (ps_set (i := 5) sc__law_boards.nd rfl (Or.inl rfl) (pe_call G__law_board (hr.mono (by decide)) (by rfl) g__law_board k__law_board b__law_board .nil pass0 (pa_cons (pv 0) (pa_cons (pv 1) pa_nil))))
        (pss_one (ps_if (pt_cmpR op_notIn_seq (pv 5) (pv 3) (by rfl))
        (pss_one (ps_expr (pe_bm PySem.F.plainAttrs_list PySem.F.slot_list_append PySem.F.type_list_append mt_append (pv 3) (pa_cons (pv 5) pa_nil))))
        pss_nil))))
      (pss_one (ps_ret (pe_callTy call_tuple_of (by rfl) T.n_tuple (by decide +kernel) (pa_cons (pv 3) pa_nil)))))), ?_⟩
    refine ⟨Nat.zero_le _, fun L hL => ?_⟩
    have Ls := hS.ne hL
    have La := hS.nea hL
    refine ⟨_, rfl, _, rfl, s, a, m, c + 190, rfl, m0, by omega, (hS.new hL).mono (by omega), fun v H1 v0 v1 x1 S1 => ?_⟩
    refine ⟨_, _, rfl, rfl, _, rfl, by omega, by omega, ?_⟩
    refine for_range (lo := 0) (n := (1 + v).toNat) (fun i σ H' => ∃ (bs : List Str) (v4 v5 : Option V), σ = [some (.ref s), some (.ref u), some (.int m), some (.ref L), v4, v5] ∧ H' L = some (.lst (bs.map V.str)) ∧ bs.length ≤ i ∧ (∀ x ∈ bs, Bdc (tl x) ∧ (tl x).length ≤ 300) ∧ Ext s H H' ∧ Src H' s a (c + (190 - 15 * i))) ?_ ?_ ?_
    · exact ⟨[], _, _, rfl, x1 _ _ Ls upd_same, Nat.le_refl _, (fun _ h => by cases h), (Ext.new hL).trans x1, S1.mono (by omega)⟩
    · rintro i σ H' hi ⟨bs, v4, v5, rfl, hl, l1, hB, hE, hS'⟩
      refine ⟨_, rfl, _, rfl, s, a, u, us, c + (190 - 15 * i) - 10, rfl, hE.seqL hus hU, hus, un, ul, uA, hS'.mono (by omega), fun x H2 xB xl x2 S2 => ?_⟩
      have hl2 := x2 _ _ Ls hl
      refine ⟨_, rfl, _, rfl, L, _, rfl, .inl (SqL.of hl2), rfl, flat_strs bs, _, rfl, ite2 (fun _ => ?_) (fun _ => ⟨bs, _, _, rfl, hl2, by omega, hB, hE.trans x2, S2.mono (by omega)⟩)⟩
      refine ⟨_, rfl, .inl ⟨rfl, _, SqL.of hl2⟩, _, rfl, L, _, _, rfl, rfl, hl2, ?_, ?_⟩
      · rw [List.length_map]; exact small1000 (by omega)
      · refine ⟨bs ++ [x], _, _, rfl, by rw [upd_same, List.map_append]; rfl, by rw [List.length_append]; show _ + 1 ≤ _; omega, fun y hy => ?_, fun b o hb hh => ?_, (S2.put Ls La).mono (by omega)⟩
        · rcases List.mem_append.mp hy with h | h
          · exact hB y h
          · rw [List.mem_singleton.mp h]; exact ⟨xB, xl⟩
        · rw [upd_ne (ne_of_none hh hL)]; exact x2 _ _ hb (hE _ _ hb hh)
    · rintro σ H' ⟨bs, v4, v5, rfl, hl, l1, hB, hE, hS'⟩
      refine ⟨_, rfl, L, _, rfl, .inl ⟨SqL.of hl, fun t ht => ?_⟩⟩
      exact q t bs _ upd_same (by omega) hB (hE.trans (Ext.new ht)) ((hS'.new ht).mono (by omega))
end
section
variable {P : Program} {w : World} {K : PySem.W.Frag} {mg : Str → Option Value} {base : Heap}
theorem ok__law_glob (D : Df K mg "_law_glob" s__law_glob ["source", "words"]) (T : Tx mg) (C__law_board : Cal P w K mg base "_law_board" ["source", "words"] 4 (sp__law_board K)) (C__law_pick : Cal P w K mg base "_law_pick" ["source", "row"] 3 (sp__law_pick K)) : Cal P w K mg base "_law_glob" ["source", "words"] 5 (sp__law_glob K) := by
  obtain ⟨f__law_board, fd__law_board, G__law_board, g__law_board, k__law_board, b__law_board⟩ := C__law_board
  obtain ⟨f__law_pick, fd__law_pick, G__law_pick, g__law_pick, k__law_pick, b__law_pick⟩ := C__law_pick
  obtain ⟨f, fd, F, gf, bf⟩ := D
  refine ⟨f, fd, F.ok sc__law_glob (fun vs H Q E h => ?_) (fun cdv A outer s₀ H vs Q E hr h => ?_), gf, F.kp, bf⟩
  · obtain ⟨s, a, u, us, c, rfl, _⟩ := h; rfl
  · obtain ⟨s, a, u, us, c, rfl, hU, hus, un, ul, uA, hS, q⟩ := h
    refine ⟨_, (pss_cons (ps_set (i := 2) sc__law_glob.nd rfl (Or.inl rfl) (pe_call G__law_pick (hr.mono (by decide)) (by rfl) g__law_pick k__law_pick b__law_pick .nil pass0 (pa_cons (pv 0) (pa_cons (pv 1) pa_nil))))
      (pss_cons (ps_set (i := 3) sc__law_glob.nd rfl (Or.inl rfl) (pe_lst (pa_cons (pe_call G__law_board (hr.mono (by decide)) (by rfl) g__law_board k__law_board b__law_board .nil pass0 (pa_cons (pv 0) (pa_cons (pv 1) pa_nil))) (pa_cons (pe_op op_add_str (pv 2) pe_str) (pa_cons (pe_op op_add_str pe_str (pv 2)) (pa_cons (pe_op op_add_str (pv 2) pe_str) (pa_cons (pe_op op_add_str (pe_op op_add_str pe_str (pe_slice sl_str (pv 2) (po_some pe_int) po_none)) pe_str) pa_nil)))))))
      (pss_one (ps_ret (pe_call G__law_pick (hr.mono (by decide)) (by rfl) g__law_pick k__law_pick b__law_pick .nil pass0 (pa_cons (pv 0) (pa_cons (pe_op L2.op_cat (pv 3) (pe_lst (pa_cons (pe_op op_add_str (pe_op op_add_str pe_str (pe_slice sl_str (pv 2) (po_some (pe_un un_neg pe_int)) po_none)) pe_str) (pa_cons (pe_op op_add_str (pv 2) pe_str) (pa_cons pe_str pa_nil))))) pa_nil))))))), ?_⟩
    have small : ∀ n : Nat, n ≤ 30000 → n ≤ sizeLine := fun n h => Nat.le_trans h (by decide)
    refine ⟨_, rfl, _, rfl, .inl ⟨s, a, u, us.map V.str, c + 19, rfl, hU, hus, fun e => un (List.map_eq_nil_iff.mp e), by rw [List.length_map]; omega, hS, fun w H1 wm x1 S1 => ?_⟩⟩
    obtain ⟨z, zm, rfl⟩ := List.mem_map.mp wm
    have zl := (uA z zm).2
    have lz := tl_len z
    refine ⟨_, rfl, _, rfl, s, a, u, us, c + 9, rfl, x1.seqL hus hU, hus, un, ul, uA, S1, fun x H2 xB xl x2 S2 => ?_⟩
    have l1 : (tl (z ++ Str.ofString ".*")).length ≤ 100 := by rw [tl_app, List.length_append]; show _ + 2 ≤ _; omega
    have l2 : (tl (Str.ofString "*." ++ z)).length ≤ 100 := by rw [tl_app, List.length_append]; show 2 + _ ≤ _; omega
    have l3 : (tl (z ++ Str.ofString "*")).length ≤ 100 := by rw [tl_app, List.length_append]; show _ + 1 ≤ _; omega
    have lc1 : (tl (cutS z (some 1) none)).length ≤ 70 := by rw [cutS_from (by decide), List.length_drop]; omega
    have l4 : (tl (Str.ofString "?" ++ cutS z (some 1) none ++ Str.ofString "*")).length ≤ 100 := by rw [tl_app, tl_app, List.length_append, List.length_append]; show (1 + _) + 1 ≤ _; omega
    have lc2 : (tl (cutS z (some (-1)) none)).length ≤ 70 := by
      show (((tl z).drop (HT.sIx z.length 0 (some (-1)))).take (HT.sIx z.length z.length none - HT.sIx z.length 0 (some (-1)))).length ≤ 70
      rw [List.length_take, List.length_drop]; omega
    have l5 : (tl (Str.ofString "*" ++ cutS z (some (-1)) none ++ Str.ofString "?*")).length ≤ 100 := by rw [tl_app, tl_app, List.length_append, List.length_append]; show (1 + _) + 2 ≤ _; omega
    have l6 : (tl (z ++ Str.ofString ".?*")).length ≤ 100 := by rw [tl_app, List.length_append]; show _ + 3 ≤ _; omega
    refine ⟨_, rfl, _, _, rfl, rfl, small _ (by rw [tl_len, tl_len]; show _ + 2 ≤ _; omega), _, rfl, _, _, rfl, rfl, small _ (by rw [tl_len, tl_len]; show 2 + _ ≤ _; omega), _, rfl, _, _, rfl, rfl, small _ (by rw [tl_len, tl_len]; show _ + 1 ≤ _; omega), ?_⟩
    refine ⟨_, rfl, 1, rfl, z, rfl, small _ (by omega), _, _, rfl, rfl, small _ (by rw [tl_len, tl_len]; show 1 + _ ≤ _; omega), _, _, rfl, rfl, small _ (by rw [tl_len, tl_len, tl_app, List.length_append]; show (1 + _) + 1 ≤ _; omega), by show 5 ≤ sizeLine; decide, fun M hM => ?_⟩
    have n1 := same_new (o := HO.lst ([x, z ++ Str.ofString ".*", Str.ofString "*." ++ z, z ++ Str.ofString "*", Str.ofString "?" ++ cutS z (some 1) none ++ Str.ofString "*"].map V.str)) hM
    refine ⟨_, rfl, _, rfl, _, rfl, 1, rfl, -1, rfl, z, rfl, small _ (by omega), _, _, rfl, rfl, small _ (by rw [tl_len, tl_len]; show 1 + _ ≤ _; omega), _, _, rfl, rfl, small _ (by rw [tl_len, tl_len, tl_app, List.length_append]; show (1 + _) + 2 ≤ _; omega), _, rfl, _, _, rfl, rfl, small _ (by rw [tl_len, tl_len]; show _ + 3 ≤ _; omega), by show 3 ≤ sizeLine; decide, fun N hN => ?_⟩
    have n2 := same_new (o := HO.lst ([Str.ofString "*" ++ cutS z (some (-1)) none ++ Str.ofString "?*", z ++ Str.ofString ".?*", Str.ofString "*"].map V.str)) hN
    refine ⟨M, N, _, _, rfl, rfl, n2 _ _ upd_same, upd_same, by show 5 + 3 ≤ sizeLine; decide, fun R hR => ?_⟩
    have n3 := same_new (o := HO.lst (([x, z ++ Str.ofString ".*", Str.ofString "*." ++ z, z ++ Str.ofString "*", Str.ofString "?" ++ cutS z (some 1) none ++ Str.ofString "*"] ++ [Str.ofString "*" ++ cutS z (some (-1)) none ++ Str.ofString "?*", z ++ Str.ofString ".?*", Str.ofString "*"]).map V.str)) hR
    have S3 := ((S2.ext n1).ext n2).ext n3
    refine .inl ⟨s, a, R, ([x, z ++ Str.ofString ".*", Str.ofString "*." ++ z, z ++ Str.ofString "*", Str.ofString "?" ++ cutS z (some 1) none ++ Str.ofString "*"] ++ [Str.ofString "*" ++ cutS z (some (-1)) none ++ Str.ofString "?*", z ++ Str.ofString ".?*", Str.ofString "*"]).map V.str, c + 8, rfl, SqL.of upd_same, (((S2.ext n1).ext n2).ne hR), by simp, by show 8 ≤ 100000; decide, S3, fun w H4 wm x4 S4 => ?_⟩
    obtain ⟨y, ym, rfl⟩ := List.mem_map.mp wm
    refine q y H4 ?_ (x1.trans (x2.trans ((Ext.of (n1.trans (n2.trans n3))).trans x4))) (S4.mono (by omega))
    simp only [List.mem_append, List.mem_cons, List.not_mem_nil, or_false] at ym
    rcases ym with (e | e | e | e | e) | (e | e | e) <;> subst e
    · omega
    · omega
    · omega
    · omega
    · omega
    · omega
    · omega
    · decide
end
section
variable {P : Program} {w : World} {K : PySem.W.Frag} {mg : Str → Option Value} {base : Heap}
theorem ok__law_pattern (D : Df K mg "_law_pattern" s__law_pattern ["source", "words"]) (T : Tx mg) (C__law_draw : Cal P w K mg base "_law_draw" ["source", "many"] 2 sp__law_draw) (C__law_glob : Cal P w K mg base "_law_glob" ["source", "words"] 5 (sp__law_glob K)) : Cal P w K mg base "_law_pattern" ["source", "words"] 6 (sp__law_pattern K) := by
  obtain ⟨f__law_draw, fd__law_draw, G__law_draw, g__law_draw, k__law_draw, b__law_draw⟩ := C__law_draw
  obtain ⟨f__law_glob, fd__law_glob, G__law_glob, g__law_glob, k__law_glob, b__law_glob⟩ := C__law_glob
  obtain ⟨f, fd, F, gf, bf⟩ := D
  refine ⟨f, fd, F.ok sc__law_pattern (fun vs H Q E h => ?_) (fun cdv A outer s₀ H vs Q E hr h => ?_), gf, F.kp, bf⟩
  · obtain ⟨s, a, u, us, c, rfl, _⟩ := h; rfl
  · obtain ⟨s, a, u, us, c, rfl, hU, hus, un, ul, uA, hS, q⟩ := h
    refine ⟨_, (pss_cons (ps_set (i := 2) sc__law_pattern.nd rfl (Or.inl rfl) (pe_op op_add pe_int (pe_call G__law_draw (hr.mono (by decide)) (by rfl) g__law_draw k__law_draw b__law_draw .nil pass0 (pa_cons (pv 0) (pa_cons pe_int pa_nil)))))
      (pss_cons (ps_setLc (i := 3) (own := [("k", 4)]) (g := gName 4) (tt := tYes) rfl sc__law_pattern.nd rfl rfl (sw_true rfl rfl rfl (by decide +kernel)) (pi_range1 (by rfl) T.n_range (pa_cons (pv 2) pa_nil)) (blkOk_by (own := [("k", 4)]) (N := N__law_pattern) (sc := defScope s__law_pattern) (by decide +kernel)) (fun _ _ _ _ _ => pg_name (i := 4) sc__law_pattern.nd rfl (Or.inl rfl)) (fun _ _ _ _ _ => pts_nil) (fun _ _ _ _ _ => (pe_op op_add_str (pe_ix (ix_listQ (K := K) rfl) (pe_lst (pa_cons pe_str (pa_cons pe_str pa_nil))) (pe_callTy call_int1 (by rfl) T.n_int (by decide +kernel) (pa_cons (pe_and (pe_cmpR op_gt (pv 4) pe_int (nomark _)) (pe_one (pe_cmpR op_eq (pe_call G__law_draw (hr.mono (by decide)) (by rfl) g__law_draw k__law_draw b__law_draw .nil pass0 (pa_cons (pv 0) (pa_cons pe_int pa_nil))) pe_int (nomark _)))) pa_nil)) (fun _ _ => rfl)) (pe_call G__law_glob (hr.mono (by decide)) (by rfl) g__law_glob k__law_glob b__law_glob .nil pass0 (pa_cons (pv 0) (pa_cons (pv 1) pa_nil))))))
      (pss_cons (ps_while PassesOwn.never (PW.pt (pw_and (pt_cmpR op_gt (pe_callB call_len_seq (by rfl) T.n_len PySem.boot_len (pa_cons (pv 3) pa_nil)) pe_int (nomark _)) (pw_and1 (pt_cmpR op_gt (pe_callB call_lenS (by rfl) T.n_len PySem.boot_len (pa_cons (pe_join pe_str (pv 3)) pa_nil)) pe_int (nomark _)))))
      (pss_one (ps_expr (pe_bm0 PySem.F.plainAttrs_list PySem.F.slot_list_pop PySem.F.type_list_pop mt_pop (pv 3)))))
      (pss_one (ps_ret (pe_join pe_str (pv 3))))))), ?_⟩
    have small : ∀ n : Nat, n ≤ 30000 → n ≤ sizeLine := fun n h => Nat.le_trans h (by decide)
    refine ⟨_, rfl, s, a, _, c + 199, rfl, by decide, by decide, hS, fun v H1 v0 v1 x1 S1 => ?_⟩
    refine ⟨_, _, rfl, rfl, ?_⟩
    refine ⟨_, rfl, _, rfl, by omega, by omega, fun D hD => ?_⟩
    refine lc_strs (n := (1 + v).toNat) (d := 22) (c := c) (fun x => (tl x).length ≤ 401) hD (S1.mono (by omega)) (by omega) (fun _ => rfl) (fun i c' Hx R hi hE' hS' k => ?_) (fun xs H3 hx3 hl3 hA3 hE3 hS3 => ?_)
    · have fin : ∀ (z : Str) (H4 : Hp), (tl z).length ≤ 1 → Ext s Hx H4 → Src H4 s a (c' + 20) → ∀ (g : Str) (H5 : Hp), (tl g).length ≤ 400 → Ext s H4 H5 → Src H5 s a c' → z.length + g.length ≤ sizeLine ∧ R (.str (z ++ g)) H5 := fun z H4 zl x4 S4 g H5 gl x5 S5 =>
        ⟨small _ (by rw [tl_len, tl_len]; omega), k _ H5 (by rw [tl_app, List.length_append]; omega) (x4.trans x5) S5⟩
      refine ⟨by show 2 ≤ sizeLine; decide, fun p hp => ?_⟩
      have S2 := hS'.new (o := HO.lst ([Str.ofString "", Str.ofString "!"].map V.str)) hp
      have ps := hS'.ne hp
      refine ⟨_, rfl, _, _, rfl, rfl, _, rfl, ite2 (fun _ => ?_) (fun _ => ?_)⟩
      · refine ⟨_, rfl, s, a, _, c' + 21, rfl, by decide, by decide, S2, fun w H4 w0 w1 x4 S4 => ?_⟩
        obtain ⟨z, zm, ez⟩ := strs_at [Str.ofString "", Str.ofString "!"] (v := if decide (V.int w = V.int 1) = true then 1 else 0) (by split <;> decide) (by split <;> decide)
        have zl : (tl z).length ≤ 1 := by
          rcases List.mem_cons.mp zm with e | e
          · subst e; decide
          · rw [List.mem_singleton.mp e]; decide
        refine ⟨rfl, .inr ⟨_, rfl, p, _, _, _, rfl, rfl, SqL.of (x4 _ _ ps upd_same), ez, ?_⟩⟩
        have xx := hE'.trans ((Ext.new hp).trans x4)
        refine ⟨_, rfl, _, rfl, s, a, u, us, c', rfl, xx.seqL hus (x1.seqL hus hU), hus, un, ul, uA, S4.mono (by omega), fun g H5 gl x5 S5 => ?_⟩
        obtain ⟨f1, f2⟩ := fin z H4 zl ((Ext.new hp).trans x4) (S4.mono (by omega)) g H5 gl x5 S5
        exact ⟨_, _, rfl, rfl, f1, f2⟩
      · refine .inr ⟨_, rfl, p, _, _, .str (Str.ofString ""), rfl, rfl, SqL.of upd_same, rfl, ?_⟩
        have xx := hE'.trans (Ext.new (o := HO.lst ([Str.ofString "", Str.ofString "!"].map V.str)) (s := s) hp)
        refine ⟨_, rfl, _, rfl, s, a, u, us, c', rfl, xx.seqL hus (x1.seqL hus hU), hus, un, ul, uA, S2.mono (by omega), fun g H5 gl x5 S5 => ?_⟩
        obtain ⟨f1, f2⟩ := fin (Str.ofString "") _ (by decide) (Ext.new hp) (S2.mono (by omega)) g H5 gl x5 S5
        exact ⟨_, _, rfl, rfl, f1, f2⟩
    -- items are left out
    have Ds := S1.ne hD
    have Da := S1.nea hD
    have jl : ∀ ys : List Str, (∀ x ∈ ys, (tl x).length ≤ 401) → ys.length ≤ 5 → (tl (Txt.join (Str.ofString ",") ys)).length ≤ 3000 := fun ys hy hl => by
      rw [tl_joinS]
      refine Nat.le_trans (joinL_len (n := 401) fun l m => ?_) ?_
      · obtain ⟨x, hx, rfl⟩ := List.mem_map.mp m
        exact hy x hx
      · rw [List.length_map]; show ys.length * (401 + 1) ≤ 3000; omega
    have js : ∀ ys : List Str, (∀ x ∈ ys, (tl x).length ≤ 401) → ys.length ≤ 5 → (ys.map (·.length)).sum + ys.length * (Str.ofString ",").length ≤ 16777216 := fun ys hy hl => by
      have := sum_len hy
      show _ + ys.length * 1 ≤ _; omega
    refine ⟨fun n σ H' => ∃ ys : List Str, σ = [some (.ref s), some (.ref u), some (.int (1 + v)), some (.ref D), none] ∧ H' D = some (.lst (ys.map V.str)) ∧ (∀ x ∈ ys, (tl x).length ≤ 401) ∧ ys.length ≤ 5 ∧ Ext s H H' ∧ Src H' s a c ∧ n = ys.length, ⟨_, xs, rfl, hx3, hA3, by omega, x1.trans hE3, hS3, rfl⟩, ?_⟩
    rintro n σ H' ⟨ys, rfl, hy, yA, yl, hE, hS', rfl⟩
    have stop : (tl (Txt.join (Str.ofString ",") ys)).length ≤ 3000 := jl ys yA yl
    have fin : ∃ a_1, [some (V.ref s), some (V.ref u), some (V.int (1 + v)), some (V.ref D), none][3]? = some (some a_1) ∧ ∃ a p zs, V.str (Str.ofString ",") = V.str a ∧ [a_1] = [V.ref p] ∧ (SqL K H' p (zs.map V.str) ∨ SqT K H' p (zs.map V.str)) ∧ (zs.map (·.length)).sum + zs.length * a.length ≤ 16777216 ∧ Q (V.str (Txt.join a zs)) H' := ⟨_, rfl, _, D, ys, rfl, rfl, .inl (SqL.of hy), js ys yA yl, q _ H' stop hE hS'⟩
    refine ⟨_, rfl, D, _, rfl, .inl (SqL.of hy), _, _, rfl, rfl, _, rfl, ite2 (fun c1 => ?_) (fun c1 => iteF ⟨⟨_, rfl⟩, fin⟩)⟩
    have y1 : 1 < ys.length := by have := of_decide_eq_true c1; rw [List.length_map] at this; omega
    refine ⟨⟨_, rfl⟩, _, rfl, _, D, ys, rfl, rfl, .inl (SqL.of hy), js ys yA yl, _, rfl, small _ (by rw [tl_len]; omega), _, _, rfl, rfl, _, rfl, ite2 (fun c2 => ?_) (fun c2 => ⟨⟨_, rfl⟩, fin⟩)⟩
    refine ⟨fun σ2 H2 => ∃ m', m' < ys.length ∧ ∃ ys : List Str, σ2 = [some (.ref s), some (.ref u), some (.int (1 + v)), some (.ref D), none] ∧ H2 D = some (.lst (ys.map V.str)) ∧ (∀ x ∈ ys, (tl x).length ≤ 401) ∧ ys.length ≤ 5 ∧ Ext s H H2 ∧ Src H2 s a c ∧ m' = ys.length, fun σ2 H2 h => h, ?_⟩
    obtain ⟨r, z, e⟩ : ∃ r z, ys = r ++ [z] := ⟨ys.dropLast, ys.getLast (by intro e; rw [e] at y1; simp at y1), (List.dropLast_concat_getLast _).symm⟩
    subst e
    refine ⟨_, rfl, .inl ⟨rfl, _, SqL.of hy⟩, D, _, .str z, rfl, rfl, hy, ?_, ?_⟩
    · rw [List.map_append, List.length_append, List.length_map]
      show (r.map V.str ++ [V.str z])[r.length + 1 - 1]? = _
      rw [Nat.add_sub_cancel, List.getElem?_append_right (by rw [List.length_map]; exact Nat.le_refl _), List.length_map, Nat.sub_self]; rfl
    · have ed : ((r ++ [z]).map V.str).dropLast = r.map V.str := by rw [List.map_append]; exact List.dropLast_concat
      rw [ed]
      refine ⟨_, ?_, r, rfl, upd_same, fun x hx => yA x (List.mem_append_left _ hx), ?_, fun b o hb hh => ?_, hS'.put Ds Da, rfl⟩
      · rw [List.length_append]; show _ < _ + 1; omega
      · rw [List.length_append] at yl; simp at yl; omega
      · have : H1 D = none := hD
        have hh1 := x1 _ _ hb hh
        rw [upd_ne (ne_of_none hh1 hD)]; exact hE _ _ hb hh
end
section
variable {P : Program} {w : World} {K : PySem.W.Frag} {mg : Str → Option Value} {base : Heap}
theorem ok__law_shuffled (D : Df K mg "_law_shuffled" s__law_shuffled ["source", "row"]) (T : Tx mg) (C__law_draw : Cal P w K mg base "_law_draw" ["source", "many"] 2 sp__law_draw) : Cal P w K mg base "_law_shuffled" ["source", "row"] 3 (sp__law_shuffled K) := by
  obtain ⟨f__law_draw, fd__law_draw, G__law_draw, g__law_draw, k__law_draw, b__law_draw⟩ := C__law_draw
  obtain ⟨f, fd, F, gf, bf⟩ := D
  refine ⟨f, fd, F.ok sc__law_shuffled (fun vs H Q E h => ?_) (fun cdv A outer s₀ H vs Q E hr h => ?_), gf, F.kp, bf⟩
  · obtain ⟨s, a, r, xs, c, rfl, _⟩ := h; rfl
  · obtain ⟨s, a, r, xs, c, rfl, hR, rs, xl, hS, q⟩ := h
    refine ⟨_, (pss_cons (ps_set (i := 2) sc__law_shuffled.nd rfl (Or.inl rfl) (pe_callTy call_list_of (by rfl) T.n_list (by decide +kernel) (pa_cons (pv 1) pa_nil)))
      (pss_cons (ps_set (i := 3) sc__law_shuffled.nd rfl (Or.inl rfl) (pe_lst pa_nil))
      (pss_cons (ps_for PassesOwn.never rfl (pi_range1 (by rfl) T.n_range (pa_cons (pe_callB call_len_seq (by rfl) T.n_len PySem.boot_len (pa_cons (pv 1) pa_nil)) pa_nil)) (pg_name (i := 4) sc__law_shuffled.nd rfl (Or.inl rfl))
      (pss_one (ps_expr (pe_bm PySem.F.plainAttrs_list PySem.F.slot_list_append PySem.F.type_list_append mt_append (pv 3) (pa_cons (pe_bm PySem.F.plainAttrs_list PySem.F.slot_list_pop PySem.F.type_list_pop mt_popAt (pv 2) (pa_cons (pe_call G__law_draw (hr.mono (by decide)) (by rfl) g__law_draw k__law_draw b__law_draw .nil pass0 (pa_cons (pv 0) (pa_cons (pe_callB call_len_seq (by rfl) T.n_len PySem.boot_len (pa_cons (pv 2) pa_nil)) pa_nil))) pa_nil)) pa_nil)))))
      (pss_one (ps_ret (pv 3)))))), ?_⟩
    refine ⟨_, rfl, r, xs, rfl, .inl hR, fun L hL => ?_⟩
    have n1 := same_new (o := HO.lst xs) hL
    refine ⟨Nat.zero_le _, fun D hD => ?_⟩
    have n2 := same_new (o := HO.lst []) hD
    have S1 := (hS.ext n1).ext n2
    have Ls := hS.ne hL
    have La := hS.nea hL
    have HD : H D = none := Same.free n1 hD
    have Ds := hS.ne HD
    have Da := hS.nea HD
    have LD : L ≠ D := ne_of_none upd_same hD
    refine ⟨_, rfl, r, xs, rfl, .inl ((n1.trans n2).seq hR), _, rfl, by omega, by omega, ?_⟩
    refine for_range (lo := 0) (n := ((xs.length : Int)).toNat) (fun i σ H' => ∃ (ls ys : List V) (v4 : Option V), σ = [some (.ref s), some (.ref r), some (.ref L), some (.ref D), v4] ∧ H' L = some (.lst ls) ∧ H' D = some (.lst ys) ∧ ls.length + i = xs.length ∧ ys.length = i ∧ (∀ y ∈ ls, y ∈ xs) ∧ (∀ y ∈ ys, y ∈ xs) ∧ Ext s H H' ∧ Src H' s a (c + (xs.length - i))) ?_ ?_ ?_
    · exact ⟨xs, [], _, rfl, n2 _ _ upd_same, upd_same, by simp, rfl, (fun _ h => h), (fun _ h => by cases h), Ext.of (n1.trans n2), S1.mono (by omega)⟩
    · rintro i σ H' hi ⟨ls, ys, v4, rfl, hl, hy, l1, l2, m1, m2, hE, hS'⟩
      refine ⟨_, rfl, .inl ⟨rfl, _, SqL.of hy⟩, _, rfl, .inl ⟨rfl, _, SqL.of hl⟩, _, rfl, _, rfl, L, _, rfl, .inl (SqL.of hl), s, a, (ls.length : Int), c + (xs.length - (i + 1)), rfl, by omega, by omega, hS'.mono (by omega), fun v H2 v0 v1 x2 S2 => ?_⟩
      have hv : v.toNat < ls.length := by omega
      have hl2 := x2 _ _ Ls hl
      have hy2 := x2 _ _ Ds hy
      refine ⟨L, ls, v, v.toNat, ls[v.toNat], rfl, rfl, hl2, by omega, by omega, ?_, List.getElem?_eq_getElem hv, ?_⟩
      · exact seqIndex_of v0 v1
      refine ⟨D, ys, _, rfl, rfl, by rw [upd_ne LD.symm]; exact hy2, small1000 (by omega), ?_⟩
      refine ⟨ls.eraseIdx v.toNat, ys ++ [ls[v.toNat]], _, rfl, by rw [upd_ne LD, upd_same], upd_same, ?_, by rw [List.length_append]; simp [l2], fun y h => m1 y (List.mem_of_mem_eraseIdx h), fun y h => ?_, fun b o hb hh => ?_, (S2.put Ls La).put Ds Da⟩
      · rw [List.length_eraseIdx, if_pos hv]; omega
      · rcases List.mem_append.mp h with q1 | q1
        · exact m2 y q1
        · rw [List.mem_singleton.mp q1]; exact m1 _ (List.getElem_mem hv)
      · rw [upd_ne (ne_of_none hh HD), upd_ne (ne_of_none hh hL)]; exact x2 _ _ hb (hE _ _ hb hh)
    · rintro σ H' ⟨ls, ys, v4, rfl, hl, hy, l1, l2, m1, m2, hE, hS'⟩
      exact ⟨_, rfl, q D ys H' HD hy (by omega) m2 hE (hS'.mono (by omega))⟩
end

end Z
namespace Z
open PySem L2 SX
section
variable {P : Program} {w : World} {K : PySem.W.Frag} {mg : Str → Option Value} {base : Heap}
theorem ok__law_feed (D : Df K mg "_law_feed" s__law_feed ["source", "names", "words"]) (T : Tx mg) (C__law_draw : Cal P w K mg base "_law_draw" ["source", "many"] 2 sp__law_draw) (C__law_pattern : Cal P w K mg base "_law_pattern" ["source", "words"] 6 (sp__law_pattern K)) : Cal P w K mg base "_law_feed" ["source", "names", "words"] 7 (sp__law_feed K) := by
  obtain ⟨f__law_draw, fd__law_draw, G__law_draw, g__law_draw, k__law_draw, b__law_draw⟩ := C__law_draw
  obtain ⟨f__law_pattern, fd__law_pattern, G__law_pattern, g__law_pattern, k__law_pattern, b__law_pattern⟩ := C__law_pattern
  obtain ⟨f, fd, F, gf, bf⟩ := D
  refine ⟨f, fd, F.ok sc__law_feed (fun vs H Q E h => ?_) (fun cdv A outer s₀ H vs Q E hr h => ?_), gf, F.kp, bf⟩
  · obtain ⟨s, a, n, u, ns, us, c, rfl, _⟩ := h; rfl
  · obtain ⟨s, a, n, u, ns, us, c, rfl, hN, nS, nl, hU, uS, un, ul, uA, hS, q⟩ := h
    refine ⟨_, (pss_cons (ps_set (i := 3) sc__law_feed.nd rfl (Or.inl rfl) (pe_call G__law_pattern (hr.mono (by decide)) (by rfl) g__law_pattern k__law_pattern b__law_pattern .nil pass0 (pa_cons (pv 0) (pa_cons (pv 2) pa_nil))))
      (C8.pss_cut (ps_if (pt_cmpR op_eq (pe_call G__law_draw (hr.mono (by decide)) (by rfl) g__law_draw k__law_draw b__law_draw .nil pass0 (pa_cons (pv 0) (pa_cons pe_int pa_nil))) pe_int (nomark _))
      (pss_one (ps_set (i := 3) sc__law_feed.nd rfl (Or.inl rfl) pe_str))
      pss_nil)
      (pss_one (ps_ret (pe_tup (pa_cons pe_str (pa_cons (pe_ix ix_list (pv 1) pe_int (fun _ _ => rfl)) (pa_cons (pe_ix ix_list (pv 1) pe_int (fun _ _ => rfl)) (pa_cons (pv 3) (pa_cons (pe_op op_add pe_int (pe_call G__law_draw (hr.mono (by decide)) (by rfl) g__law_draw k__law_draw b__law_draw .nil pass0 (pa_cons (pv 0) (pa_cons pe_int pa_nil)))) (pa_cons (pe_op op_add pe_int (pe_call G__law_draw (hr.mono (by decide)) (by rfl) g__law_draw k__law_draw b__law_draw .nil pass0 (pa_cons (pv 0) (pa_cons pe_int pa_nil)))) pa_nil))))))))))), ?_⟩
    refine ⟨_, rfl, _, rfl, s, a, u, us, c + 100, rfl, hU, uS, un, ul, uA, hS, fun p H1 pl x1 S1 => ?_⟩
    refine ⟨fun σ' H' => ∃ p : Str, σ' = [some (.ref s), some (.ref n), some (.ref u), some (.str p)] ∧ (tl p).length ≤ 3000 ∧ Ext s H H' ∧ Src H' s a (c + 99), ?_, ?_⟩
    · refine ⟨_, rfl, s, a, _, c + 99, rfl, by decide, by decide, S1, fun v H2 v0 v1 x2 S2 => ?_⟩
      exact ⟨rfl, _, rfl, ite2 (fun _ => ⟨_, rfl, by decide, x1.trans x2, S2⟩) (fun _ => ⟨p, rfl, pl, x1.trans x2, S2⟩)⟩
    rintro σ' H2 ⟨p, rfl, pl, x2, S2⟩
    obtain ⟨n0, n1, rfl⟩ : ∃ n0 n1, ns = [n0, n1] := by
      match ns, nl with
      | [x, y], _ => exact ⟨x, y, rfl⟩
    have hN2 := x2.seqL nS hN
    refine ⟨_, rfl, n, _, _, .str n0, rfl, rfl, hN2, atI_nat (j := 0) rfl, _, rfl, n, _, _, .str n1, rfl, rfl, hN2, atI_nat (j := 1) rfl, _, rfl, ?_⟩
    refine ⟨_, rfl, s, a, _, c + 98, rfl, by decide, by decide, S2, fun v H3 v0 v1 x3 S3 => ?_⟩
    refine ⟨_, _, rfl, rfl, _, rfl, s, a, _, c + 97, rfl, by decide, by decide, S3, fun w H4 w0 w1 x4 S4 => ?_⟩
    refine ⟨_, _, rfl, rfl, by show 6 ≤ sizeLine; decide, fun t ht => ?_⟩
    exact q t p (1 + v) (1 + w) _ ⟨n0, n1, SqT.of upd_same, pl, by omega, by omega, by omega, by omega⟩ (x2.trans (x3.trans (x4.trans (Ext.new ht)))) ((S4.new ht).mono (by omega))
end
section
variable {P : Program} {w : World} {K : PySem.W.Frag} {mg : Str → Option Value} {base : Heap}
theorem ok__law_due (D : Df K mg "_law_due" s__law_due ["feed", "row"]) (T : Tx mg) (C__law_lets_some : Cal P w K mg base "_law_lets_some" ["pattern", "boards"] 3 (sp__law_lets_some K)) : Cal P w K mg base "_law_due" ["feed", "row"] 4 (sp__law_due K) := by
  obtain ⟨f__law_lets_some, fd__law_lets_some, G__law_lets_some, g__law_lets_some, k__law_lets_some, b__law_lets_some⟩ := C__law_lets_some
  obtain ⟨f, fd, F, gf, bf⟩ := D
  refine ⟨f, fd, F.ok sc__law_due (fun vs H Q E h => ?_) (fun cdv A outer s₀ H vs Q E hr h => ?_), gf, F.kp, bf⟩
  · obtain ⟨fd, rw', bd, p, Y, Z, z, h, bs, rfl, _⟩ := h; rfl
  · obtain ⟨fd, rw', bd, p, Y, Z, z, h, bs, rfl, ⟨n0, n1, hF, pl, _⟩, ⟨hW, hB, bo⟩, q⟩ := h
    refine ⟨_, (pss_one (ps_ret (pe_and (pe_call G__law_lets_some (hr.mono (by decide)) (by rfl) g__law_lets_some k__law_lets_some b__law_lets_some .nil pass0 (pa_cons (pe_ix ix_tup (pv 0) pe_int (fun _ _ => rfl)) (pa_cons (pe_ix ix_tup (pv 1) pe_int (fun _ _ => rfl)) pa_nil))) (pe_and (pe_cmpR op_le (pe_ix ix_tup (pv 1) pe_int (fun _ _ => rfl)) (pe_ix ix_tup (pv 0) pe_int (fun _ _ => rfl)) (nomark _)) (pe_one (pe_cmpR op_le (pe_op op_add (pe_ix ix_tup (pv 1) pe_int (fun _ _ => rfl)) pe_int) (pe_ix ix_tup (pv 0) pe_int (fun _ _ => rfl)) (nomark _))))))), ?_⟩
    refine ⟨_, rfl, fd, _, _, .str p, rfl, rfl, hF, atI_nat (j := 3) rfl, _, rfl, rw', _, _, .ref bd, rfl, rfl, hW, atI_nat (j := 0) rfl, p, bd, bs, rfl, hB, pl, Nat.le_trans bo.1 (by decide), bo.2, fun H1 m1 => ?_⟩
    have fin := q H1 m1
    unfold valF at fin
    refine ⟨_, rfl, ?_⟩
    cases hb : (bs.any fun b => letsL (parts (tl p)) (tl b)) with
    | false => rw [hb] at fin; exact iteF fin
    | true =>
      rw [hb] at fin
      refine iteT ⟨_, rfl, rw', _, _, .int z, rfl, rfl, m1.tup hW, atI_nat (j := 1) rfl, _, rfl, fd, _, _, .int Z, rfl, rfl, m1.tup hF, atI_nat (j := 5) rfl, _, _, rfl, rfl, _, rfl, ?_⟩
      cases hz : decide (z ≤ Z) with
      | false => rw [hz] at fin; exact iteF fin
      | true =>
        rw [hz] at fin
        exact iteT ⟨_, rfl, rw', _, _, .int h, rfl, rfl, m1.tup hW, atI_nat (j := 2) rfl, _, _, rfl, rfl, _, rfl, fd, _, _, .int Y, rfl, rfl, m1.tup hF, atI_nat (j := 4) rfl, _, _, rfl, rfl, fin⟩
end
section
variable {P : Program} {w : World} {K : PySem.W.Frag} {mg : Str → Option Value} {base : Heap}
theorem ok_passes (D : Df K mg "passes" s_passes ["feed", "boards", "size", "hops"]) (T : Tx mg) (C_lets_one : Cal P w K mg base "lets_one" ["pattern", "boards"] 6 (sp_lets_one K)) : Cal P w K mg base "passes" ["feed", "boards", "size", "hops"] 7 (sp_passes K) := by
  obtain ⟨f_lets_one, fd_lets_one, G_lets_one, g_lets_one, k_lets_one, b_lets_one⟩ := C_lets_one
  obtain ⟨f, fd, F, gf, bf⟩ := D
  refine ⟨f, fd, F.ok sc_passes (fun vs H Q E h => ?_) (fun cdv A outer s₀ H vs Q E hr h => ?_), gf, F.kp, bf⟩
  · obtain ⟨fd, bd, p, Y, Z, z, h, bs, rfl, _⟩ := h; rfl
  · obtain ⟨fd, bd, p, Y, Z, z, h, bs, rfl, ⟨n0, n1, hF, pl, _⟩, hB, bo, q⟩ := h
    refine ⟨_, (pss_one (ps_ret (pe_and (pe_call G_lets_one (hr.mono (by decide)) (by rfl) g_lets_one k_lets_one b_lets_one .nil pass0 (pa_cons (pe_ix ix_tup (pv 0) pe_int (fun _ _ => rfl)) (pa_cons (pv 1) pa_nil))) (pe_and (pe_cmpR op_le (pv 2) (pe_ix ix_tup (pv 0) pe_int (fun _ _ => rfl)) (nomark _)) (pe_one (pe_cmpR op_le (pe_op op_add (pv 3) pe_int) (pe_ix ix_tup (pv 0) pe_int (fun _ _ => rfl)) (nomark _))))))), ?_⟩
    refine ⟨_, rfl, fd, _, _, .str p, rfl, rfl, hF, atI_nat (j := 3) rfl, _, rfl, p, bd, bs, rfl, hB, pl, Nat.le_trans bo.1 (by decide), bo.2, fun H1 m1 => ?_⟩
    have fin := q H1 m1
    unfold valF at fin
    refine ⟨_, rfl, ?_⟩
    cases hb : (bs.any fun b => letsL (parts (tl p)) (tl b)) with
    | false => rw [hb] at fin; exact iteF fin
    | true =>
      rw [hb] at fin
      refine iteT ⟨_, rfl, _, rfl, fd, _, _, .int Z, rfl, rfl, m1.tup hF, atI_nat (j := 5) rfl, _, _, rfl, rfl, _, rfl, ?_⟩
      cases hz : decide (z ≤ Z) with
      | false => rw [hz] at fin; exact iteF fin
      | true =>
        rw [hz] at fin
        exact iteT ⟨_, rfl, _, _, rfl, rfl, _, rfl, fd, _, _, .int Y, rfl, rfl, m1.tup hF, atI_nat (j := 4) rfl, _, _, rfl, rfl, fin⟩
end
section
variable {P : Program} {w : World} {K : PySem.W.Frag} {mg : Str → Option Value} {base : Heap}
theorem ok__law_questions (D : Df K mg "_law_questions" s__law_questions ["source", "feed", "boards"]) (T : Tx mg) (C__law_draw : Cal P w K mg base "_law_draw" ["source", "many"] 2 sp__law_draw) : Cal P w K mg base "_law_questions" ["source", "feed", "boards"] 3 (sp__law_questions K) := by
  obtain ⟨f__law_draw, fd__law_draw, G__law_draw, g__law_draw, k__law_draw, b__law_draw⟩ := C__law_draw
  obtain ⟨f, fd, F, gf, bf⟩ := D
  refine ⟨f, fd, F.ok sc__law_questions (fun vs H Q E h => ?_) (fun cdv A outer s₀ H vs Q E hr h => ?_), gf, F.kp, bf⟩
  · obtain ⟨s, a, fd, bd, p, Y, Z, bs, c, rfl, _⟩ := h; rfl
  · obtain ⟨s, a, fd, bd, p, Y, Z, bs, c, rfl, hF, hB, bo, hS, q⟩ := h
    refine ⟨_, (pss_cons (ps_set (i := 3) sc__law_questions.nd rfl (Or.inl rfl) (pe_ix ix_tup (pv 1) pe_int (fun _ _ => rfl)))
      (pss_cons (ps_set (i := 4) sc__law_questions.nd rfl (Or.inl rfl) (pe_ix ix_tup (pv 1) pe_int (fun _ _ => rfl)))
      (pss_cons (ps_set (i := 5) sc__law_questions.nd rfl (Or.inl rfl) (pe_lst (pa_cons (pe_tup (pa_cons (pv 2) (pa_cons (pv 4) (pa_cons (pe_op op_sub (pv 3) pe_int) pa_nil)))) (pa_cons (pe_tup (pa_cons (pv 2) (pa_cons (pe_op op_add (pv 4) pe_int) (pa_cons (pe_op op_sub (pv 3) pe_int) pa_nil)))) (pa_cons (pe_tup (pa_cons (pv 2) (pa_cons (pv 4) (pa_cons (pv 3) pa_nil)))) (pa_cons (pe_tup (pa_cons (pv 2) (pa_cons (pe_callB (call_max2 rfl) (by rfl) T.n_max (by decide +kernel) (pa_cons pe_int (pa_cons (pe_op op_sub (pv 4) pe_int) pa_nil))) (pa_cons pe_int pa_nil)))) pa_nil))))))
      (pss_cons (ps_expr (pe_bm PySem.F.plainAttrs_list PySem.F.slot_list_append PySem.F.type_list_append mt_append (pv 5) (pa_cons (pe_tup (pa_cons (pv 2) (pa_cons (pe_op op_add pe_int (pe_call G__law_draw (hr.mono (by decide)) (by rfl) g__law_draw k__law_draw b__law_draw .nil pass0 (pa_cons (pv 0) (pa_cons pe_int pa_nil)))) (pa_cons (pe_call G__law_draw (hr.mono (by decide)) (by rfl) g__law_draw k__law_draw b__law_draw .nil pass0 (pa_cons (pv 0) (pa_cons pe_int pa_nil))) pa_nil)))) pa_nil)))
      (pss_cons (ps_for PassesOwn.never rfl (pi_tup (pv 2)) (pg_name (i := 6) sc__law_questions.nd rfl (Or.inl rfl))
      (pss_one (ps_expr (pe_bm PySem.F.plainAttrs_list PySem.F.slot_list_append PySem.F.type_list_append mt_append (pv 5) (pa_cons (pe_tup (pa_cons (pe_tup (pa_cons (pv 6) pa_nil)) (pa_cons (pe_op op_add pe_int (pe_call G__law_draw (hr.mono (by decide)) (by rfl) g__law_draw k__law_draw b__law_draw .nil pass0 (pa_cons (pv 0) (pa_cons (pv 4) pa_nil)))) (pa_cons (pe_call G__law_draw (hr.mono (by decide)) (by rfl) g__law_draw k__law_draw b__law_draw .nil pass0 (pa_cons (pv 0) (pa_cons (pv 3) pa_nil))) pa_nil)))) pa_nil)))))
      (pss_one (ps_ret (pv 5)))))))), ?_⟩
    obtain ⟨n0, n1, hF', pl, y1, y2, z1, z2⟩ := id hF
    refine ⟨_, rfl, fd, _, _, .int Y, rfl, rfl, hF', atI_nat (j := 4) rfl, ?_⟩
    refine ⟨_, rfl, fd, _, _, .int Z, rfl, rfl, hF', atI_nat (j := 5) rfl, ?_⟩
    refine ⟨_, rfl, _, rfl, _, rfl, _, _, rfl, rfl, by show 3 ≤ sizeLine; decide, fun t1 h1 => ?_⟩
    have m1 := same_new (o := HO.tup [V.ref bd, .int Z, .int (Y - 1)]) h1
    refine ⟨_, rfl, _, rfl, _, _, rfl, rfl, _, rfl, _, _, rfl, rfl, by show 3 ≤ sizeLine; decide, fun t2 h2 => ?_⟩
    have m2 := same_new (o := HO.tup [V.ref bd, .int (Z + 1), .int (Y - 1)]) h2
    refine ⟨_, rfl, _, rfl, _, rfl, by show 3 ≤ sizeLine; decide, fun t3 h3 => ?_⟩
    have m3 := same_new (o := HO.tup [V.ref bd, .int Z, .int Y]) h3
    refine ⟨_, rfl, _, rfl, _, _, rfl, rfl, _, _, rfl, by show 3 ≤ sizeLine; decide, fun t4 h4 => ?_⟩
    have m4 := same_new (o := HO.tup [V.ref bd, .int (if Z - 1 > 1 then Z - 1 else 1), .int 0]) h4
    refine ⟨by show 4 ≤ sizeLine; decide, fun R hR => ?_⟩
    have m5 := same_new (o := HO.lst [V.ref t1, .ref t2, .ref t3, .ref t4]) hR
    have mm := m1.trans (m2.trans (m3.trans (m4.trans m5)))
    have S5 := hS.ext mm
    have Rs : R ≠ s := (hS.ext (m1.trans (m2.trans (m3.trans m4)))).ne hR
    have Ra : R ≠ a := (hS.ext (m1.trans (m2.trans (m3.trans m4)))).nea hR
    have rows4 : ∀ v ∈ [V.ref t1, .ref t2, .ref t3, .ref t4], IsRow K (upd (upd (upd (upd (upd H t1 (.tup [V.ref bd, .int Z, .int (Y - 1)])) t2 (.tup [V.ref bd, .int (Z + 1), .int (Y - 1)])) t3 (.tup [V.ref bd, .int Z, .int Y])) t4 (.tup [V.ref bd, .int (if Z - 1 > 1 then Z - 1 else 1), .int 0])) R (.lst [V.ref t1, .ref t2, .ref t3, .ref t4])) v := by
      intro v hv
      simp only [List.mem_cons, List.not_mem_nil, or_false] at hv
      rcases hv with e | e | e | e <;> subst e
      · exact ⟨t1, bd, bs, Z, Y - 1, rfl, (m2.trans (m3.trans (m4.trans m5))).tup (SqT.of upd_same), mm.tup hB, bo⟩
      · exact ⟨t2, bd, bs, Z + 1, Y - 1, rfl, (m3.trans (m4.trans m5)).tup (SqT.of upd_same), mm.tup hB, bo⟩
      · exact ⟨t3, bd, bs, Z, Y, rfl, (m4.trans m5).tup (SqT.of upd_same), mm.tup hB, bo⟩
      · exact ⟨t4, bd, bs, (if Z - 1 > 1 then Z - 1 else 1), 0, rfl, m5.tup (SqT.of upd_same), mm.tup hB, bo⟩
    have R5 : (upd (upd (upd (upd (upd H t1 (.tup [V.ref bd, .int Z, .int (Y - 1)])) t2 (.tup [V.ref bd, .int (Z + 1), .int (Y - 1)])) t3 (.tup [V.ref bd, .int Z, .int Y])) t4 (.tup [V.ref bd, .int (if Z - 1 > 1 then Z - 1 else 1), .int 0])) R (.lst [V.ref t1, .ref t2, .ref t3, .ref t4])) R = some (.lst [V.ref t1, .ref t2, .ref t3, .ref t4]) := upd_same
    refine ⟨_, rfl, .inl ⟨rfl, _, SqL.of R5⟩, _, rfl, _, rfl, s, a, _, c + 99, rfl, by decide, by decide, S5, fun v H6 v0 v1 x6 S6 => ?_⟩
    refine ⟨_, _, rfl, rfl, _, rfl, s, a, _, c + 98, rfl, by decide, by decide, S6, fun w H7 w0 w1 x7 S7 => ?_⟩
    have R7 := (x6.trans x7) _ _ Rs R5
    have k7 : TK K _ H7 := (TK.ext x6 S5).trans (TK.ext x7 S6)
    refine ⟨by show 3 ≤ sizeLine; decide, fun t5 h5 => ?_⟩
    have R8 := same_new (o := HO.tup [V.ref bd, .int (1 + v), .int w]) h5 _ _ R7
    have rows8 := push_rows (K := K) (z := 1 + v) (h := w) R7 h5 (k7 _ _ (mm.tup hB)) bo (fun v hv => (rows4 v hv).tk k7)
    refine ⟨R, _, _, rfl, rfl, R8, by show 4 < sizeLine; decide, ?_⟩
    have HR : H R = none := by
      cases e : H R with
      | none => rfl
      | some o =>
        have := (m1.trans (m2.trans (m3.trans m4))) _ _ e
        rw [hR] at this; cases this
    have out : ∀ (G : Hp) (o : HO), Ext s H G → Ext s H (upd G R o) := fun G o x b u hb hh => by
      rw [upd_ne (ne_of_none hh HR)]; exact x _ _ hb hh
    have x8 := out _ (HO.lst ([V.ref t1, .ref t2, .ref t3, .ref t4] ++ [V.ref t5])) (((Ext.of mm).trans (x6.trans x7)).trans (Ext.new (o := HO.tup [V.ref bd, .int (1 + v), .int w]) h5))
    refine ⟨_, rfl, bd, rfl, ⟨_, x8.seqT hS.lst.choose_spec hB⟩, ?_⟩
    refine for_tup (K := K) (a := bd) (xs := bs.map V.str) (fun i σ H' => ∃ (rs : List V) (v6 : Option V), σ = [some (.ref s), some (.ref fd), some (.ref bd), some (.int Y), some (.int Z), some (.ref R), v6] ∧ H' R = some (.lst rs) ∧ rs.length = 5 + i ∧ (∀ v ∈ rs, IsRow K H' v) ∧ Ext s H H' ∧ Src H' s a (c + (90 - 2 * i))) ?_ ?_ ?_ ?_
    · exact ⟨_, _, rfl, upd_same, rfl, rows8, x8, ((S7.new h5).put Rs Ra).mono (by omega)⟩
    · rintro i σ H' _ ⟨rs, v6, rfl, hl, l1, hA, hE, hS'⟩
      exact hE.seqT hS.lst.choose_spec hB
    · rintro i x σ H' hi ⟨rs, v6, rfl, hl, l1, hA, hE, hS'⟩
      have ib : i < bs.length := by
        have := (List.getElem?_eq_some_iff.mp hi).1
        rw [List.length_map] at this; exact this
      rw [List.getElem?_map] at hi
      obtain ⟨b, hbi, rfl⟩ := Option.map_eq_some_iff.mp hi
      have b10 := bo.1
      refine ⟨_, rfl, .inl ⟨rfl, _, SqL.of hl⟩, _, rfl, by show 1 ≤ sizeLine; decide, fun u1 g1 => ?_⟩
      have n1 := same_new (o := HO.tup [V.str b]) g1
      have T1 := hS'.ext n1
      refine ⟨_, rfl, _, rfl, s, a, _, c + (90 - 2 * i) - 1, rfl, by omega, by omega, T1.mono (by omega), fun v' H2 v'0 v'1 x2 S2 => ?_⟩
      refine ⟨_, _, rfl, rfl, _, rfl, _, rfl, s, a, _, c + (90 - 2 * i) - 2, rfl, by omega, by omega, S2.mono (by omega), fun w' H3 w'0 w'1 x3 S3 => ?_⟩
      have R3 := (x2.trans x3) _ _ Rs (n1 _ _ hl)
      have kk : TK K H' H3 := (TK.same n1).trans ((TK.ext x2 T1).trans (TK.ext x3 S2))
      have ku : TK K _ H3 := (TK.ext x2 T1).trans (TK.ext x3 S2)
      refine ⟨by show 3 ≤ sizeLine; decide, fun u2 g2 => ?_⟩
      refine ⟨R, _, _, rfl, rfl, same_new g2 _ _ R3, small1000 (by omega), ?_⟩
      refine ⟨_, _, rfl, upd_same, by rw [List.length_append]; show _ + 1 = _; omega, push_rows (K := K) (bs := [b]) R3 g2 (ku _ _ (SqT.of upd_same)) ⟨by show 1 ≤ 10; decide, fun y hy => by rw [List.mem_singleton.mp hy]; exact bo.2 b (List.mem_of_getElem? hbi)⟩ (fun v hv => (hA v hv).tk kk), out _ _ ((hE.trans ((Ext.of n1).trans (x2.trans x3))).trans (Ext.new g2)), ((S3.new g2).put Rs Ra).mono (by omega)⟩
    · rintro σ H' ⟨rs, v6, rfl, hl, l1, hA, hE, hS'⟩
      rw [List.length_map] at l1
      have b10 := bo.1
      exact ⟨_, rfl, q R rs H' hl (by omega) hA HR hE (hS'.mono (by omega))⟩
end

end Z
namespace Z
open PySem L2 SX
section
variable {P : Program} {w : World} {K : PySem.W.Frag} {mg : Str → Option Value} {base : Heap}
theorem ok_law {f : Addr} {fd : FuncData} (F : Fun K "law" "law" s_law f fd) (T : Tx mg) (C__law_boards : Cal P w K mg base "_law_boards" ["source", "words", "most"] 5 (sp__law_boards K)) (C__law_draw : Cal P w K mg base "_law_draw" ["source", "many"] 2 sp__law_draw) (C__law_due : Cal P w K mg base "_law_due" ["feed", "row"] 4 (sp__law_due K)) (C__law_feed : Cal P w K mg base "_law_feed" ["source", "names", "words"] 7 (sp__law_feed K)) (C__law_names : Cal P w K mg base "_law_names" ["source", "many"] 4 (sp__law_names K)) (C__law_questions : Cal P w K mg base "_law_questions" ["source", "feed", "boards"] 3 (sp__law_questions K)) (C__law_same : Cal P w K mg base "_law_same" ["actual", "due"] 3 (sp__law_same K 2)) (C__law_shuffled : Cal P w K mg base "_law_shuffled" ["source", "row"] 3 (sp__law_shuffled K)) (C__law_source : Cal P w K mg base "_law_source" ["script"] 2 (sp__law_source K)) (C__law_words : Cal P w K mg base "_law_words" ["source"] 5 (sp__law_words K)) (C_passes : Cal P w K mg base "passes" ["feed", "boards", "size", "hops"] 7 (sp_passes K)) : FnOk P w K mg base CX0 8 f fd ["script"] (sp_law K) := by
  obtain ⟨f__law_boards, fd__law_boards, G__law_boards, g__law_boards, k__law_boards, b__law_boards⟩ := C__law_boards
  obtain ⟨f__law_draw, fd__law_draw, G__law_draw, g__law_draw, k__law_draw, b__law_draw⟩ := C__law_draw
  obtain ⟨f__law_due, fd__law_due, G__law_due, g__law_due, k__law_due, b__law_due⟩ := C__law_due
  obtain ⟨f__law_feed, fd__law_feed, G__law_feed, g__law_feed, k__law_feed, b__law_feed⟩ := C__law_feed
  obtain ⟨f__law_names, fd__law_names, G__law_names, g__law_names, k__law_names, b__law_names⟩ := C__law_names
  obtain ⟨f__law_questions, fd__law_questions, G__law_questions, g__law_questions, k__law_questions, b__law_questions⟩ := C__law_questions
  obtain ⟨f__law_same, fd__law_same, G__law_same, g__law_same, k__law_same, b__law_same⟩ := C__law_same
  obtain ⟨f__law_shuffled, fd__law_shuffled, G__law_shuffled, g__law_shuffled, k__law_shuffled, b__law_shuffled⟩ := C__law_shuffled
  obtain ⟨f__law_source, fd__law_source, G__law_source, g__law_source, k__law_source, b__law_source⟩ := C__law_source
  obtain ⟨f__law_words, fd__law_words, G__law_words, g__law_words, k__law_words, b__law_words⟩ := C__law_words
  obtain ⟨f_passes, fd_passes, G_passes, g_passes, k_passes, b_passes⟩ := C_passes
  refine F.ok sc_law (fun vs H Q E h => ?_) (fun cdv A outer s₀ H vs Q E hr h => ?_)
  · obtain ⟨a, ns, rfl, _⟩ := h; rfl
  · obtain ⟨a, ns, rfl, hA, hlen, q⟩ := h
    refine ⟨_, (pss_cons (ps_set (i := 1) sc_law.nd rfl (Or.inl rfl) (pe_call G__law_source (hr.mono (by decide)) (by rfl) g__law_source k__law_source b__law_source .nil pass0 (pa_cons (pv 0) pa_nil)))
      (pss_cons (ps_set (i := 2) sc_law.nd rfl (Or.inl rfl) (pe_call G__law_words (hr.mono (by decide)) (by rfl) g__law_words k__law_words b__law_words .nil pass0 (pa_cons (pv 1) pa_nil)))
      (pss_cons (ps_set (i := 3) sc_law.nd rfl (Or.inl rfl) (pe_call G__law_names (hr.mono (by decide)) (by rfl) g__law_names k__law_names b__law_names .nil pass0 (pa_cons (pv 1) (pa_cons pe_int pa_nil))))
      (pss_cons (ps_set (i := 4) sc_law.nd rfl (Or.inl rfl) (pe_lst pa_nil))
      (pss_cons (ps_for PassesOwn.never rfl (pi_range1 (by rfl) T.n_range (pa_cons (pe_op op_add pe_int (pe_call G__law_draw (hr.mono (by decide)) (by rfl) g__law_draw k__law_draw b__law_draw .nil pass0 (pa_cons (pv 1) (pa_cons pe_int pa_nil)))) pa_nil)) (pg_name (i := 5) sc_law.nd rfl (Or.inl rfl))
      (pss_cons (ps_set (i := 6) sc_law.nd rfl (Or.inl rfl) (pe_call G__law_feed (hr.mono (by decide)) (by rfl) g__law_feed k__law_feed b__law_feed .nil pass0 (pa_cons (pv 1) (pa_cons (pv 3) (pa_cons (pv 2) pa_nil)))))
        (pss_cons (ps_set (i := 7) sc_law.nd rfl (Or.inl rfl) (pe_call G__law_boards (hr.mono (by decide)) (by rfl) g__law_boards k__law_boards b__law_boards .nil pass0 (pa_cons (pv 1) (pa_cons (pv 2) (pa_cons pe_int pa_nil)))))
        (pss_one (ps_for PassesOwn.never rfl (pi_list (pe_call G__law_questions (hr.mono (by decide)) (by rfl) g__law_questions k__law_questions b__law_questions .nil pass0 (pa_cons (pv 1) (pa_cons (pv 6) (pa_cons (pv 7) pa_nil))))) (pg_name (i := 8) sc_law.nd rfl (Or.inl rfl))
        (pss_one (ps_expr (pe_bm PySem.F.plainAttrs_list PySem.F.slot_list_append PySem.F.type_list_append mt_append (pv 4) (pa_cons (pe_tup (pa_cons (pv 6) (pa_cons (pv 8) (pa_cons (pe_call G__law_due (hr.mono (by decide)) (by rfl) g__law_due k__law_due b__law_due .nil pass0 (pa_cons (pv 6) (pa_cons (pv 8) pa_nil))) pa_nil)))) pa_nil)))))))))
      (pss_cons (ps_for PassesOwn.never rfl (pi_list (pe_op L2.op_cat (pv 4) (pe_call G__law_shuffled (hr.mono (by decide)) (by rfl) g__law_shuffled k__law_shuffled b__law_shuffled .nil pass0 (pa_cons (pv 1) (pa_cons (pv 4) pa_nil))))) (pg_name (i := 9) sc_law.nd rfl (Or.inl rfl))
      (pss_cons (ps_set (i := 8) sc_law.nd rfl (Or.inl rfl) (pe_ix ix_tup (pv 9) pe_int (fun _ _ => rfl)))
        (pss_one (ps_if (pt_not (pt_val (pe_call G__law_same (hr.mono (by decide)) (by rfl) g__law_same k__law_same b__law_same .nil pass0 (pa_cons (pe_call G_passes (hr.mono (by decide)) (by rfl) g_passes k_passes b_passes .nil pass0 (pa_cons (pe_ix ix_tup (pv 9) pe_int (fun _ _ => rfl)) (pa_cons (pe_ix ix_tup (pv 8) pe_int (fun _ _ => rfl)) (pa_cons (pe_ix ix_tup (pv 8) pe_int (fun _ _ => rfl)) (pa_cons (pe_ix ix_tup (pv 8) pe_int (fun _ _ => rfl)) pa_nil))))) (pa_cons (pe_ix ix_tup (pv 9) pe_int (fun _ _ => rfl)) pa_nil)))))
        (pss_one (ps_ret pe_bl))
        pss_nil))))
      (pss_one (ps_ret pe_bl)))))))), ?_⟩
    refine ⟨_, rfl, a, ns, rfl, hA, hlen, fun s b H1 hs x1 S1 => ?_⟩
    refine ⟨_, rfl, s, b, 20000, rfl, S1.mono (by decide), fun u us H2 hu hU ul1 ul2 uA x2 S2 => ?_⟩
    refine ⟨_, rfl, s, b, 2, 10000, rfl, by decide, S2.mono (by decide), fun n nn H3 hn hN nl nA x3 S3 => ?_⟩
    have us' : u ≠ s := S1.ne hu
    have ns' : n ≠ s := S2.ne hn
    have une : us ≠ [] := fun e => by rw [e] at ul1; exact absurd ul1 (by decide)
    have hU3 := x3 _ _ us' hU
    refine ⟨Nat.zero_le _, fun A hA0 => ?_⟩
    have As : A ≠ s := S3.ne hA0
    have Aa : A ≠ b := S3.nea hA0
    have Au : A ≠ u := fun e => ne_of_none hU3 hA0 e.symm
    have An : A ≠ n := fun e => ne_of_none hN hA0 e.symm
    have out : ∀ (G : Hp) (o : HO), Ext s H3 G → Ext s H3 (upd G A o) := fun G o x v w hb hh => by
      rw [upd_ne (ne_of_none hh hA0)]; exact x _ _ hb hh
    refine ⟨_, rfl, s, b, _, 9999, rfl, by decide, by decide, S3.new hA0, fun v H4 v0 v1 x4 S4 => ?_⟩
    refine ⟨_, _, rfl, rfl, _, rfl, by omega, by omega, ?_⟩
    refine for_range (lo := 0) (n := (1 + v).toNat) (fun i σ H' => ∃ (as : List V) (v5 v6 v7 v8 v9 : Option V), σ = [some (.ref a), some (.ref s), some (.ref u), some (.ref n), some (.ref A), v5, v6, v7, v8, v9] ∧ H' A = some (.lst as) ∧ as.length ≤ 20 * i ∧ (∀ v ∈ as, AskAt K H' v) ∧ Ext s H3 H' ∧ Src H' s b (9999 - 1000 * i)) ?_ ?_ ?_
    · exact ⟨[], _, _, _, _, _, rfl, x4 _ _ As upd_same, Nat.zero_le _, (fun _ h => by cases h), (Ext.new hA0).trans x4, S4⟩
    · rintro i σ H' hi ⟨as, v5, v6, v7, v8, v9, rfl, hl, l1, hK, hE, hS⟩
      have hi' : i < 3 := by omega
      have hU' := hE _ _ us' hU3
      have hN' := hE _ _ ns' hN
      refine ⟨_, rfl, _, rfl, _, rfl, s, b, n, u, nn, us, 9999 - 1000 * i - 300, rfl, SqL.of hN', ns', nl, SqL.of hU', us', une, by omega, uA, hS.mono (by omega), fun fd p Y Z H5 hF x5 S5 => ?_⟩
      refine ⟨_, rfl, _, rfl, s, b, u, us, _, 9999 - 1000 * i - 500, rfl, SqL.of (x5 _ _ us' hU'), us', une, by omega, uA, by decide, by decide, S5.mono (by omega), fun bd bs H6 hB bl bA x6 S6 => ?_⟩
      have k56 : TK K H5 H6 := TK.ext x6 S5
      refine ⟨_, rfl, _, rfl, _, rfl, s, b, fd, bd, p, Y, Z, bs, 9999 - 1000 * i - 600, rfl, hF.tk k56, SqT.of hB, ⟨bl, fun x hx => (bA x hx).1.clean⟩, S6.mono (by omega), fun R rs H7 hR rl rA hR0 x7 S7 => ?_⟩
      have k67 : TK K H6 H7 := TK.ext x7 S6
      have xx : Ext s H' H7 := x5.trans (x6.trans x7)
      have kk : TK K H' H7 := ((TK.ext x5 hS).trans k56).trans k67
      have hl7 := xx _ _ As hl
      have RA : R ≠ A := fun e => ne_of_none ((x5.trans x6) _ _ As hl) hR0 e.symm
      refine ⟨R, rfl, ⟨_, SqL.of hR⟩, ?_⟩
      refine for_list (K := K) (a := R) (xs := rs) (fun j σ H' => ∃ (as : List V) (v5 v8 v9 : Option V), σ = [some (.ref a), some (.ref s), some (.ref u), some (.ref n), some (.ref A), v5, some (.ref fd), some (.ref bd), v8, v9] ∧ H' A = some (.lst as) ∧ as.length ≤ 20 * i + j ∧ (∀ v ∈ as, AskAt K H' v) ∧ Ext s H3 H' ∧ Src H' s b (9999 - 1000 * i - 600) ∧ H' R = some (.lst rs) ∧ FeedAt K H' fd p Y Z ∧ (∀ v ∈ rs, IsRow K H' v)) ?_ ?_ ?_ ?_
      · exact ⟨as, _, _, _, rfl, hl7, l1, fun v hv => (hK v hv).tk kk, hE.trans xx, S7, hR, (hF.tk k56).tk k67, rA⟩
      · rintro j σ G _ ⟨as, v5, v8, v9, rfl, hl, l1, hK, hE, hS, hR, hF, hrs⟩
        exact SqL.of hR
      · rintro j x σ G hj ⟨as, v5, v8, v9, rfl, hl, l1, hK, hE, hS, hR, hF, hrs⟩
        have jb := (List.getElem?_eq_some_iff.mp hj).1
        obtain ⟨rw', bd', bs', z, h, rfl, hrow⟩ := hrs x (List.mem_of_getElem? hj)
        refine ⟨_, rfl, .inl ⟨rfl, _, SqL.of hl⟩, _, rfl, _, rfl, _, rfl, _, rfl, fd, rw', bd', p, Y, Z, z, h, bs', rfl, hF, hrow, fun G2 m2 => ?_⟩
        refine ⟨by show 3 ≤ sizeLine; decide, fun t ht => ?_⟩
        have hl2 := m2 _ _ hl
        have pa := push_asked (K := K) hl2 ht (hF.tk (TK.same m2)) (hrow.tk (TK.same m2)) (fun v hv => (hK v hv).tk (TK.same m2))
        refine ⟨A, _, _, rfl, rfl, same_new ht _ _ hl2, small1000 (by omega), ?_⟩
        refine ⟨_, _, _, _, rfl, upd_same, by rw [List.length_append]; show _ + 1 ≤ _; omega, pa.2, out _ _ ((hE.trans (Ext.of m2)).trans (Ext.new ht)), (((hS.ext m2).new ht).put As Aa), ?_, (hF.tk (TK.same m2)).tk pa.1, fun v hv => ((hrs v hv).tk (TK.same m2)).tk pa.1⟩
        rw [upd_ne RA]; exact same_new ht _ _ (m2 _ _ hR)
      · rintro σ G ⟨as, v5, v8, v9, rfl, hl, l1, hK, hE, hS, hR, hF, hrs⟩
        exact ⟨as, _, _, _, _, _, rfl, hl, by omega, hK, hE, hS.mono (by omega)⟩
    · rintro σ H' ⟨as, v5, v6, v7, v8, v9, rfl, hl, l1, hK, hE, hS⟩
      refine ⟨_, rfl, _, rfl, _, rfl, s, b, A, as, 100, rfl, SqL.of hl, As, by omega, hS.mono (by omega), fun d ys H5 hd hd' yl ym x5 S5 => ?_⟩
      have hl5 := x5 _ _ As hl
      have hK5 : ∀ v ∈ as, AskAt K H5 v := fun v hv => (hK v hv).tk (TK.ext x5 hS)
      refine ⟨A, d, _, _, rfl, rfl, hl5, hd', Nat.le_trans (show as.length + ys.length ≤ 1000 by omega) (by decide), fun C hC => ?_⟩
      have hKC : ∀ v ∈ as ++ ys, AskAt K (upd H5 C (.lst (as ++ ys))) v := fun v hv => by
        refine AskAt.tk (TK.same (same_new hC)) ?_
        rcases List.mem_append.mp hv with q | q
        · exact hK5 v q
        · exact hK5 v (ym v q)
      have hC' : (upd H5 C (HO.lst (as ++ ys))) C = some (.lst (as ++ ys)) := upd_same
      refine ⟨C, rfl, ⟨_, SqL.of hC'⟩, ?_⟩
      refine for_list (K := K) (a := C) (xs := as ++ ys) (fun j σ G => (∃ (v5 v6 v7 v8 v9 : Option V), σ = [some (.ref a), some (.ref s), some (.ref u), some (.ref n), some (.ref A), v5, v6, v7, v8, v9]) ∧ Same (upd H5 C (.lst (as ++ ys))) G) ⟨⟨_, _, _, _, _, rfl⟩, Same.refl _⟩ (fun i σ G _ h => SqL.of (h.2 _ _ hC')) ?_ ?_
      · rintro j x σ G hj ⟨⟨v5, v6, v7, v8, v9, rfl⟩, mG⟩
        obtain ⟨t, fd, rw', bd, p, Y, Z, bs, z, h, rfl, hT, hF, hW, hB, bo⟩ := (hKC x (List.mem_of_getElem? hj)).tk (TK.same mG)
        refine ⟨_, rfl, t, _, _, .ref rw', rfl, rfl, hT, atI_nat (j := 1) rfl, ?_⟩
        refine ⟨_, rfl, t, _, _, .ref fd, rfl, rfl, hT, atI_nat (j := 0) rfl, _, rfl, rw', _, _, .ref bd, rfl, rfl, hW, atI_nat (j := 0) rfl, _, rfl, rw', _, _, .int z, rfl, rfl, hW, atI_nat (j := 1) rfl, _, rfl, rw', _, _, .int h, rfl, rfl, hW, atI_nat (j := 2) rfl, ?_⟩
        refine ⟨fd, bd, p, Y, Z, z, h, bs, rfl, hF, hB, bo, fun G2 m2 => ?_⟩
        refine ⟨_, rfl, t, _, _, .bl (valF p bs z h Z Y), rfl, rfl, m2.tup hT, atI_nat (j := 2) rfl, ?_⟩
        exact ⟨.bl (valF p bs z h Z Y), _, _, rfl, by unfold DV; rfl, by unfold DV; rfl, True.intro, _, rfl, iteF ⟨⟨_, _, _, _, _, rfl⟩, mG.trans m2⟩⟩
      · rintro σ G ⟨⟨v5, v6, v7, v8, v9, rfl⟩, mG⟩
        exact q _
end

end Z
namespace Z
open PySem L2 SX
theorem all_mk {l : PySem.W.OpenLaw} {w : World} {K : PySem.W.Frag} {h : Heap} {mg : Str → Option Value} {fa : Addr} (X : K.In h) (G : h.Ns mainGlobals mg) (hfa : mg "law" = some (.ref fa))
    {f0 : Addr} {od0 an0 : Option Addr} {sl0 : Array (Option Value)} {oc0 kV0 dc0 pm0 cd0 ct0 : Value}
    {f1 : Addr} {od1 an1 : Option Addr} {sl1 : Array (Option Value)} {oc1 kV1 dc1 pm1 cd1 ct1 : Value}
    {f2 : Addr} {od2 an2 : Option Addr} {sl2 : Array (Option Value)} {oc2 kV2 dc2 pm2 cd2 ct2 : Value}
    {f3 : Addr} {od3 an3 : Option Addr} {sl3 : Array (Option Value)} {oc3 kV3 dc3 pm3 cd3 ct3 : Value}
    {f4 : Addr} {od4 an4 : Option Addr} {sl4 : Array (Option Value)} {oc4 kV4 dc4 pm4 cd4 ct4 : Value}
    {f5 : Addr} {od5 an5 : Option Addr} {sl5 : Array (Option Value)} {oc5 kV5 dc5 pm5 cd5 ct5 : Value}
    {f6 : Addr} {od6 an6 : Option Addr} {sl6 : Array (Option Value)} {oc6 kV6 dc6 pm6 cd6 ct6 : Value}
    {f7 : Addr} {od7 an7 : Option Addr} {sl7 : Array (Option Value)} {oc7 kV7 dc7 pm7 cd7 ct7 : Value}
    {f8 : Addr} {od8 an8 : Option Addr} {sl8 : Array (Option Value)} {oc8 kV8 dc8 pm8 cd8 ct8 : Value}
    {f9 : Addr} {od9 an9 : Option Addr} {sl9 : Array (Option Value)} {oc9 kV9 dc9 pm9 cd9 ct9 : Value}
    {f10 : Addr} {od10 an10 : Option Addr} {sl10 : Array (Option Value)} {oc10 kV10 dc10 pm10 cd10 ct10 : Value}
    {f11 : Addr} {od11 an11 : Option Addr} {sl11 : Array (Option Value)} {oc11 kV11 dc11 pm11 cd11 ct11 : Value}
    {f12 : Addr} {od12 an12 : Option Addr} {sl12 : Array (Option Value)} {oc12 kV12 dc12 pm12 cd12 ct12 : Value}
    {f13 : Addr} {od13 an13 : Option Addr} {sl13 : Array (Option Value)} {oc13 kV13 dc13 pm13 cd13 ct13 : Value}
    {f14 : Addr} {od14 an14 : Option Addr} {sl14 : Array (Option Value)} {oc14 kV14 dc14 pm14 cd14 ct14 : Value}
    {f15 : Addr} {od15 an15 : Option Addr} {sl15 : Array (Option Value)} {oc15 kV15 dc15 pm15 cd15 ct15 : Value}
    {f16 : Addr} {od16 an16 : Option Addr} {sl16 : Array (Option Value)} {oc16 kV16 dc16 pm16 cd16 ct16 : Value}
    {f17 : Addr} {od17 an17 : Option Addr} {sl17 : Array (Option Value)} {oc17 kV17 dc17 pm17 cd17 ct17 : Value}
    {f18 : Addr} {od18 an18 : Option Addr} {sl18 : Array (Option Value)} {oc18 kV18 dc18 pm18 cd18 ct18 : Value}
    {f19 : Addr} {od19 an19 : Option Addr} {sl19 : Array (Option Value)} {oc19 kV19 dc19 pm19 cd19 ct19 : Value}
    {f20 : Addr} {od20 an20 : Option Addr} {sl20 : Array (Option Value)} {oc20 kV20 dc20 pm20 cd20 ct20 : Value}
    {f21 : Addr} {od21 an21 : Option Addr} {sl21 : Array (Option Value)} {oc21 kV21 dc21 pm21 cd21 ct21 : Value}
    {f22 : Addr} {od22 an22 : Option Addr} {sl22 : Array (Option Value)} {oc22 kV22 dc22 pm22 cd22 ct22 : Value}
    {f23 : Addr} {od23 an23 : Option Addr} {sl23 : Array (Option Value)} {oc23 kV23 dc23 pm23 cd23 ct23 : Value}
    {f24 : Addr} {od24 an24 : Option Addr} {sl24 : Array (Option Value)} {oc24 kV24 dc24 pm24 cd24 ct24 : Value}
    {f25 : Addr} {od25 an25 : Option Addr} {sl25 : Array (Option Value)} {oc25 kV25 dc25 pm25 cd25 ct25 : Value}
    {f26 : Addr} {od26 an26 : Option Addr} {sl26 : Array (Option Value)} {oc26 kV26 dc26 pm26 cd26 ct26 : Value}
    {f27 : Addr} {od27 an27 : Option Addr} {sl27 : Array (Option Value)} {oc27 kV27 dc27 pm27 cd27 ct27 : Value}
    {f28 : Addr} {od28 an28 : Option Addr} {sl28 : Array (Option Value)} {oc28 kV28 dc28 pm28 cd28 ct28 : Value}
    (a0 : PySem.W.nsIn K mainGlobals "add_place" = some (some (.ref f0))) (l0 : K.lookup f0 = some ⟨oc0, od0, .func (PySem.W.fnOf "add_place" "add_place" (defArgs s_add_place) (defBody s_add_place) (defScope s_add_place) .none kV0 dc0 pm0 an0 cd0 ct0), sl0⟩) (c0 : PySem.W.codeIn K cd0 "add_place" = true) (k0 : PySem.W.keepIn K (.ref f0) = true)
    (a1 : PySem.W.nsIn K mainGlobals "follows" = some (some (.ref f1))) (l1 : K.lookup f1 = some ⟨oc1, od1, .func (PySem.W.fnOf "follows" "follows" (defArgs s_follows) (defBody s_follows) (defScope s_follows) .none kV1 dc1 pm1 an1 cd1 ct1), sl1⟩) (c1 : PySem.W.codeIn K cd1 "follows" = true) (k1 : PySem.W.keepIn K (.ref f1) = true)
    (a2 : PySem.W.nsIn K mainGlobals "standing" = some (some (.ref f2))) (l2 : K.lookup f2 = some ⟨oc2, od2, .func (PySem.W.fnOf "standing" "standing" (defArgs s_standing) (defBody s_standing) (defScope s_standing) .none kV2 dc2 pm2 an2 cd2 ct2), sl2⟩) (c2 : PySem.W.codeIn K cd2 "standing" = true) (k2 : PySem.W.keepIn K (.ref f2) = true)
    (a3 : PySem.W.nsIn K mainGlobals "fits" = some (some (.ref f3))) (l3 : K.lookup f3 = some ⟨oc3, od3, .func (PySem.W.fnOf "fits" "fits" (defArgs s_fits) (defBody s_fits) (defScope s_fits) .none kV3 dc3 pm3 an3 cd3 ct3), sl3⟩) (c3 : PySem.W.codeIn K cd3 "fits" = true) (k3 : PySem.W.keepIn K (.ref f3) = true)
    (a4 : PySem.W.nsIn K mainGlobals "items_of" = some (some (.ref f4))) (l4 : K.lookup f4 = some ⟨oc4, od4, .func (PySem.W.fnOf "items_of" "items_of" (defArgs s_items_of) (defBody s_items_of) (defScope s_items_of) .none kV4 dc4 pm4 an4 cd4 ct4), sl4⟩) (c4 : PySem.W.codeIn K cd4 "items_of" = true) (k4 : PySem.W.keepIn K (.ref f4) = true)
    (a5 : PySem.W.nsIn K mainGlobals "lets" = some (some (.ref f5))) (l5 : K.lookup f5 = some ⟨oc5, od5, .func (PySem.W.fnOf "lets" "lets" (defArgs s_lets) (defBody s_lets) (defScope s_lets) .none kV5 dc5 pm5 an5 cd5 ct5), sl5⟩) (c5 : PySem.W.codeIn K cd5 "lets" = true) (k5 : PySem.W.keepIn K (.ref f5) = true)
    (a6 : PySem.W.nsIn K mainGlobals "lets_one" = some (some (.ref f6))) (l6 : K.lookup f6 = some ⟨oc6, od6, .func (PySem.W.fnOf "lets_one" "lets_one" (defArgs s_lets_one) (defBody s_lets_one) (defScope s_lets_one) .none kV6 dc6 pm6 an6 cd6 ct6), sl6⟩) (c6 : PySem.W.codeIn K cd6 "lets_one" = true) (k6 : PySem.W.keepIn K (.ref f6) = true)
    (a7 : PySem.W.nsIn K mainGlobals "passes" = some (some (.ref f7))) (l7 : K.lookup f7 = some ⟨oc7, od7, .func (PySem.W.fnOf "passes" "passes" (defArgs s_passes) (defBody s_passes) (defScope s_passes) .none kV7 dc7 pm7 an7 cd7 ct7), sl7⟩) (c7 : PySem.W.codeIn K cd7 "passes" = true) (k7 : PySem.W.keepIn K (.ref f7) = true)
    (a8 : PySem.W.nsIn K mainGlobals "_law_mix" = some (some (.ref f8))) (l8 : K.lookup f8 = some ⟨oc8, od8, .func (PySem.W.fnOf "_law_mix" "_law_mix" (defArgs s__law_mix) (defBody s__law_mix) (defScope s__law_mix) .none kV8 dc8 pm8 an8 cd8 ct8), sl8⟩) (c8 : PySem.W.codeIn K cd8 "_law_mix" = true) (k8 : PySem.W.keepIn K (.ref f8) = true)
    (a9 : PySem.W.nsIn K mainGlobals "_law_source" = some (some (.ref f9))) (l9 : K.lookup f9 = some ⟨oc9, od9, .func (PySem.W.fnOf "_law_source" "_law_source" (defArgs s__law_source) (defBody s__law_source) (defScope s__law_source) .none kV9 dc9 pm9 an9 cd9 ct9), sl9⟩) (c9 : PySem.W.codeIn K cd9 "_law_source" = true) (k9 : PySem.W.keepIn K (.ref f9) = true)
    (a10 : PySem.W.nsIn K mainGlobals "_law_draw" = some (some (.ref f10))) (l10 : K.lookup f10 = some ⟨oc10, od10, .func (PySem.W.fnOf "_law_draw" "_law_draw" (defArgs s__law_draw) (defBody s__law_draw) (defScope s__law_draw) .none kV10 dc10 pm10 an10 cd10 ct10), sl10⟩) (c10 : PySem.W.codeIn K cd10 "_law_draw" = true) (k10 : PySem.W.keepIn K (.ref f10) = true)
    (a11 : PySem.W.nsIn K mainGlobals "_law_pick" = some (some (.ref f11))) (l11 : K.lookup f11 = some ⟨oc11, od11, .func (PySem.W.fnOf "_law_pick" "_law_pick" (defArgs s__law_pick) (defBody s__law_pick) (defScope s__law_pick) .none kV11 dc11 pm11 an11 cd11 ct11), sl11⟩) (c11 : PySem.W.codeIn K cd11 "_law_pick" = true) (k11 : PySem.W.keepIn K (.ref f11) = true)
    (a12 : PySem.W.nsIn K mainGlobals "_law_shuffled" = some (some (.ref f12))) (l12 : K.lookup f12 = some ⟨oc12, od12, .func (PySem.W.fnOf "_law_shuffled" "_law_shuffled" (defArgs s__law_shuffled) (defBody s__law_shuffled) (defScope s__law_shuffled) .none kV12 dc12 pm12 an12 cd12 ct12), sl12⟩) (c12 : PySem.W.codeIn K cd12 "_law_shuffled" = true) (k12 : PySem.W.keepIn K (.ref f12) = true)
    (a13 : PySem.W.nsIn K mainGlobals "_law_new_name" = some (some (.ref f13))) (l13 : K.lookup f13 = some ⟨oc13, od13, .func (PySem.W.fnOf "_law_new_name" "_law_new_name" (defArgs s__law_new_name) (defBody s__law_new_name) (defScope s__law_new_name) .none kV13 dc13 pm13 an13 cd13 ct13), sl13⟩) (c13 : PySem.W.codeIn K cd13 "_law_new_name" = true) (k13 : PySem.W.keepIn K (.ref f13) = true)
    (a14 : PySem.W.nsIn K mainGlobals "_law_names" = some (some (.ref f14))) (l14 : K.lookup f14 = some ⟨oc14, od14, .func (PySem.W.fnOf "_law_names" "_law_names" (defArgs s__law_names) (defBody s__law_names) (defScope s__law_names) .none kV14 dc14 pm14 an14 cd14 ct14), sl14⟩) (c14 : PySem.W.codeIn K cd14 "_law_names" = true) (k14 : PySem.W.keepIn K (.ref f14) = true)
    (a15 : PySem.W.nsIn K mainGlobals "_law_words" = some (some (.ref f15))) (l15 : K.lookup f15 = some ⟨oc15, od15, .func (PySem.W.fnOf "_law_words" "_law_words" (defArgs s__law_words) (defBody s__law_words) (defScope s__law_words) .none kV15 dc15 pm15 an15 cd15 ct15), sl15⟩) (c15 : PySem.W.codeIn K cd15 "_law_words" = true) (k15 : PySem.W.keepIn K (.ref f15) = true)
    (a16 : PySem.W.nsIn K mainGlobals "_law_board" = some (some (.ref f16))) (l16 : K.lookup f16 = some ⟨oc16, od16, .func (PySem.W.fnOf "_law_board" "_law_board" (defArgs s__law_board) (defBody s__law_board) (defScope s__law_board) .none kV16 dc16 pm16 an16 cd16 ct16), sl16⟩) (c16 : PySem.W.codeIn K cd16 "_law_board" = true) (k16 : PySem.W.keepIn K (.ref f16) = true)
    (a17 : PySem.W.nsIn K mainGlobals "_law_boards" = some (some (.ref f17))) (l17 : K.lookup f17 = some ⟨oc17, od17, .func (PySem.W.fnOf "_law_boards" "_law_boards" (defArgs s__law_boards) (defBody s__law_boards) (defScope s__law_boards) .none kV17 dc17 pm17 an17 cd17 ct17), sl17⟩) (c17 : PySem.W.codeIn K cd17 "_law_boards" = true) (k17 : PySem.W.keepIn K (.ref f17) = true)
    (a18 : PySem.W.nsIn K mainGlobals "_law_glob" = some (some (.ref f18))) (l18 : K.lookup f18 = some ⟨oc18, od18, .func (PySem.W.fnOf "_law_glob" "_law_glob" (defArgs s__law_glob) (defBody s__law_glob) (defScope s__law_glob) .none kV18 dc18 pm18 an18 cd18 ct18), sl18⟩) (c18 : PySem.W.codeIn K cd18 "_law_glob" = true) (k18 : PySem.W.keepIn K (.ref f18) = true)
    (a19 : PySem.W.nsIn K mainGlobals "_law_pattern" = some (some (.ref f19))) (l19 : K.lookup f19 = some ⟨oc19, od19, .func (PySem.W.fnOf "_law_pattern" "_law_pattern" (defArgs s__law_pattern) (defBody s__law_pattern) (defScope s__law_pattern) .none kV19 dc19 pm19 an19 cd19 ct19), sl19⟩) (c19 : PySem.W.codeIn K cd19 "_law_pattern" = true) (k19 : PySem.W.keepIn K (.ref f19) = true)
    (a20 : PySem.W.nsIn K mainGlobals "_law_fits" = some (some (.ref f20))) (l20 : K.lookup f20 = some ⟨oc20, od20, .func (PySem.W.fnOf "_law_fits" "_law_fits" (defArgs s__law_fits) (defBody s__law_fits) (defScope s__law_fits) .none kV20 dc20 pm20 an20 cd20 ct20), sl20⟩) (c20 : PySem.W.codeIn K cd20 "_law_fits" = true) (k20 : PySem.W.keepIn K (.ref f20) = true)
    (a21 : PySem.W.nsIn K mainGlobals "_law_lets" = some (some (.ref f21))) (l21 : K.lookup f21 = some ⟨oc21, od21, .func (PySem.W.fnOf "_law_lets" "_law_lets" (defArgs s__law_lets) (defBody s__law_lets) (defScope s__law_lets) .none kV21 dc21 pm21 an21 cd21 ct21), sl21⟩) (c21 : PySem.W.codeIn K cd21 "_law_lets" = true) (k21 : PySem.W.keepIn K (.ref f21) = true)
    (a22 : PySem.W.nsIn K mainGlobals "_law_lets_some" = some (some (.ref f22))) (l22 : K.lookup f22 = some ⟨oc22, od22, .func (PySem.W.fnOf "_law_lets_some" "_law_lets_some" (defArgs s__law_lets_some) (defBody s__law_lets_some) (defScope s__law_lets_some) .none kV22 dc22 pm22 an22 cd22 ct22), sl22⟩) (c22 : PySem.W.codeIn K cd22 "_law_lets_some" = true) (k22 : PySem.W.keepIn K (.ref f22) = true)
    (a23 : PySem.W.nsIn K mainGlobals "_law_is_int" = some (some (.ref f23))) (l23 : K.lookup f23 = some ⟨oc23, od23, .func (PySem.W.fnOf "_law_is_int" "_law_is_int" (defArgs s__law_is_int) (defBody s__law_is_int) (defScope s__law_is_int) .none kV23 dc23 pm23 an23 cd23 ct23), sl23⟩) (c23 : PySem.W.codeIn K cd23 "_law_is_int" = true) (k23 : PySem.W.keepIn K (.ref f23) = true)
    (a24 : PySem.W.nsIn K mainGlobals "_law_same" = some (some (.ref f24))) (l24 : K.lookup f24 = some ⟨oc24, od24, .func (PySem.W.fnOf "_law_same" "_law_same" (defArgs s__law_same) (defBody s__law_same) (defScope s__law_same) .none kV24 dc24 pm24 an24 cd24 ct24), sl24⟩) (c24 : PySem.W.codeIn K cd24 "_law_same" = true) (k24 : PySem.W.keepIn K (.ref f24) = true)
    (a25 : PySem.W.nsIn K mainGlobals "_law_feed" = some (some (.ref f25))) (l25 : K.lookup f25 = some ⟨oc25, od25, .func (PySem.W.fnOf "_law_feed" "_law_feed" (defArgs s__law_feed) (defBody s__law_feed) (defScope s__law_feed) .none kV25 dc25 pm25 an25 cd25 ct25), sl25⟩) (c25 : PySem.W.codeIn K cd25 "_law_feed" = true) (k25 : PySem.W.keepIn K (.ref f25) = true)
    (a26 : PySem.W.nsIn K mainGlobals "_law_questions" = some (some (.ref f26))) (l26 : K.lookup f26 = some ⟨oc26, od26, .func (PySem.W.fnOf "_law_questions" "_law_questions" (defArgs s__law_questions) (defBody s__law_questions) (defScope s__law_questions) .none kV26 dc26 pm26 an26 cd26 ct26), sl26⟩) (c26 : PySem.W.codeIn K cd26 "_law_questions" = true) (k26 : PySem.W.keepIn K (.ref f26) = true)
    (a27 : PySem.W.nsIn K mainGlobals "_law_due" = some (some (.ref f27))) (l27 : K.lookup f27 = some ⟨oc27, od27, .func (PySem.W.fnOf "_law_due" "_law_due" (defArgs s__law_due) (defBody s__law_due) (defScope s__law_due) .none kV27 dc27 pm27 an27 cd27 ct27), sl27⟩) (c27 : PySem.W.codeIn K cd27 "_law_due" = true) (k27 : PySem.W.keepIn K (.ref f27) = true)
    (a28 : PySem.W.nsIn K mainGlobals "law" = some (some (.ref f28))) (l28 : K.lookup f28 = some ⟨oc28, od28, .func (PySem.W.fnOf "law" "law" (defArgs s_law) (defBody s_law) (defScope s_law) .none kV28 dc28 pm28 an28 cd28 ct28), sl28⟩) (c28 : PySem.W.codeIn K cd28 "law" = true) (k28 : PySem.W.keepIn K (.ref f28) = true)
    (z_abs : PySem.W.nsIn K mainGlobals "abs" = some none)
    (z_any : PySem.W.nsIn K mainGlobals "any" = some none)
    (z_bool : PySem.W.nsIn K mainGlobals "bool" = some none)
    (z_int : PySem.W.nsIn K mainGlobals "int" = some none)
    (z_isinstance : PySem.W.nsIn K mainGlobals "isinstance" = some none)
    (z_len : PySem.W.nsIn K mainGlobals "len" = some none)
    (z_list : PySem.W.nsIn K mainGlobals "list" = some none)
    (z_max : PySem.W.nsIn K mainGlobals "max" = some none)
    (z_range : PySem.W.nsIn K mainGlobals "range" = some none)
    (z_reversed : PySem.W.nsIn K mainGlobals "reversed" = some none)
    (z_str : PySem.W.nsIn K mainGlobals "str" = some none)
    (z_tuple : PySem.W.nsIn K mainGlobals "tuple" = some none) :
    ∃ fd : FuncData, (∀ (s : Shared) (v : Value), BindsTo s fd ⟨[v], []⟩ [("script", v)]) ∧ ∀ base : Heap, K.In base → base.Ns mainGlobals mg → FnOk l.prog w K mg base CX0 8 fa fd ["script"] (sp_law K) := by
  have e := hfa.symm.trans (PySem.W.mg_of X G a28)
  cases e
  have T : Tx mg := ⟨PySem.W.mg_none_of X G z_abs, PySem.W.mg_none_of X G z_any, PySem.W.mg_none_of X G z_bool, PySem.W.mg_none_of X G z_int, PySem.W.mg_none_of X G z_isinstance, PySem.W.mg_none_of X G z_len, PySem.W.mg_none_of X G z_list, PySem.W.mg_none_of X G z_max, PySem.W.mg_none_of X G z_range, PySem.W.mg_none_of X G z_reversed, PySem.W.mg_none_of X G z_str, PySem.W.mg_none_of X G z_tuple⟩
  refine ⟨PySem.W.fnOf "law" "law" (defArgs s_law) (defBody s_law) (defScope s_law) .none kV28 dc28 pm28 an28 cd28 ct28, fun s v => .of_eq rfl, fun base _ _ => ?_⟩
  have D_add_place : Df K mg "add_place" s_add_place ["glob", "places", "place"] := ⟨f0, _, fun_mk (st := s_add_place) l0 c0 k0, PySem.W.mg_of X G a0, (fun_mk (st := s_add_place) l0 c0 k0).binds (ps := ["glob", "places", "place"]) fun _ _ _ _ _ _ us hl => match us, hl with | [_, _, _], _ => rfl⟩
  have D_follows : Df K mg "follows" s_follows ["glob", "standing", "character"] := ⟨f1, _, fun_mk (st := s_follows) l1 c1 k1, PySem.W.mg_of X G a1, (fun_mk (st := s_follows) l1 c1 k1).binds (ps := ["glob", "standing", "character"]) fun _ _ _ _ _ _ us hl => match us, hl with | [_, _, _], _ => rfl⟩
  have D_standing : Df K mg "standing" s_standing ["glob", "beginning"] := ⟨f2, _, fun_mk (st := s_standing) l2 c2 k2, PySem.W.mg_of X G a2, (fun_mk (st := s_standing) l2 c2 k2).binds (ps := ["glob", "beginning"]) fun _ _ _ _ _ _ us hl => match us, hl with | [_, _], _ => rfl⟩
  have D_fits : Df K mg "fits" s_fits ["glob", "board"] := ⟨f3, _, fun_mk (st := s_fits) l3 c3 k3, PySem.W.mg_of X G a3, (fun_mk (st := s_fits) l3 c3 k3).binds (ps := ["glob", "board"]) fun _ _ _ _ _ _ us hl => match us, hl with | [_, _], _ => rfl⟩
  have D_items_of : Df K mg "items_of" s_items_of ["pattern"] := ⟨f4, _, fun_mk (st := s_items_of) l4 c4 k4, PySem.W.mg_of X G a4, (fun_mk (st := s_items_of) l4 c4 k4).binds (ps := ["pattern"]) fun _ _ _ _ _ _ us hl => match us, hl with | [_], _ => rfl⟩
  have D_lets : Df K mg "lets" s_lets ["pattern", "board"] := ⟨f5, _, fun_mk (st := s_lets) l5 c5 k5, PySem.W.mg_of X G a5, (fun_mk (st := s_lets) l5 c5 k5).binds (ps := ["pattern", "board"]) fun _ _ _ _ _ _ us hl => match us, hl with | [_, _], _ => rfl⟩
  have D_lets_one : Df K mg "lets_one" s_lets_one ["pattern", "boards"] := ⟨f6, _, fun_mk (st := s_lets_one) l6 c6 k6, PySem.W.mg_of X G a6, (fun_mk (st := s_lets_one) l6 c6 k6).binds (ps := ["pattern", "boards"]) fun _ _ _ _ _ _ us hl => match us, hl with | [_, _], _ => rfl⟩
  have D_passes : Df K mg "passes" s_passes ["feed", "boards", "size", "hops"] := ⟨f7, _, fun_mk (st := s_passes) l7 c7 k7, PySem.W.mg_of X G a7, (fun_mk (st := s_passes) l7 c7 k7).binds (ps := ["feed", "boards", "size", "hops"]) fun _ _ _ _ _ _ us hl => match us, hl with | [_, _, _, _], _ => rfl⟩
  have D__law_mix : Df K mg "_law_mix" s__law_mix ["seed", "turn"] := ⟨f8, _, fun_mk (st := s__law_mix) l8 c8 k8, PySem.W.mg_of X G a8, (fun_mk (st := s__law_mix) l8 c8 k8).binds (ps := ["seed", "turn"]) fun _ _ _ _ _ _ us hl => match us, hl with | [_, _], _ => rfl⟩
  have D__law_source : Df K mg "_law_source" s__law_source ["script"] := ⟨f9, _, fun_mk (st := s__law_source) l9 c9 k9, PySem.W.mg_of X G a9, (fun_mk (st := s__law_source) l9 c9 k9).binds (ps := ["script"]) fun _ _ _ _ _ _ us hl => match us, hl with | [_], _ => rfl⟩
  have D__law_draw : Df K mg "_law_draw" s__law_draw ["source", "many"] := ⟨f10, _, fun_mk (st := s__law_draw) l10 c10 k10, PySem.W.mg_of X G a10, (fun_mk (st := s__law_draw) l10 c10 k10).binds (ps := ["source", "many"]) fun _ _ _ _ _ _ us hl => match us, hl with | [_, _], _ => rfl⟩
  have D__law_pick : Df K mg "_law_pick" s__law_pick ["source", "row"] := ⟨f11, _, fun_mk (st := s__law_pick) l11 c11 k11, PySem.W.mg_of X G a11, (fun_mk (st := s__law_pick) l11 c11 k11).binds (ps := ["source", "row"]) fun _ _ _ _ _ _ us hl => match us, hl with | [_, _], _ => rfl⟩
  have D__law_shuffled : Df K mg "_law_shuffled" s__law_shuffled ["source", "row"] := ⟨f12, _, fun_mk (st := s__law_shuffled) l12 c12 k12, PySem.W.mg_of X G a12, (fun_mk (st := s__law_shuffled) l12 c12 k12).binds (ps := ["source", "row"]) fun _ _ _ _ _ _ us hl => match us, hl with | [_, _], _ => rfl⟩
  have D__law_new_name : Df K mg "_law_new_name" s__law_new_name ["source", "used"] := ⟨f13, _, fun_mk (st := s__law_new_name) l13 c13 k13, PySem.W.mg_of X G a13, (fun_mk (st := s__law_new_name) l13 c13 k13).binds (ps := ["source", "used"]) fun _ _ _ _ _ _ us hl => match us, hl with | [_, _], _ => rfl⟩
  have D__law_names : Df K mg "_law_names" s__law_names ["source", "many"] := ⟨f14, _, fun_mk (st := s__law_names) l14 c14 k14, PySem.W.mg_of X G a14, (fun_mk (st := s__law_names) l14 c14 k14).binds (ps := ["source", "many"]) fun _ _ _ _ _ _ us hl => match us, hl with | [_, _], _ => rfl⟩
  have D__law_words : Df K mg "_law_words" s__law_words ["source"] := ⟨f15, _, fun_mk (st := s__law_words) l15 c15 k15, PySem.W.mg_of X G a15, (fun_mk (st := s__law_words) l15 c15 k15).binds (ps := ["source"]) fun _ _ _ _ _ _ us hl => match us, hl with | [_], _ => rfl⟩
  have D__law_board : Df K mg "_law_board" s__law_board ["source", "words"] := ⟨f16, _, fun_mk (st := s__law_board) l16 c16 k16, PySem.W.mg_of X G a16, (fun_mk (st := s__law_board) l16 c16 k16).binds (ps := ["source", "words"]) fun _ _ _ _ _ _ us hl => match us, hl with | [_, _], _ => rfl⟩
  have D__law_boards : Df K mg "_law_boards" s__law_boards ["source", "words", "most"] := ⟨f17, _, fun_mk (st := s__law_boards) l17 c17 k17, PySem.W.mg_of X G a17, (fun_mk (st := s__law_boards) l17 c17 k17).binds (ps := ["source", "words", "most"]) fun _ _ _ _ _ _ us hl => match us, hl with | [_, _, _], _ => rfl⟩
  have D__law_glob : Df K mg "_law_glob" s__law_glob ["source", "words"] := ⟨f18, _, fun_mk (st := s__law_glob) l18 c18 k18, PySem.W.mg_of X G a18, (fun_mk (st := s__law_glob) l18 c18 k18).binds (ps := ["source", "words"]) fun _ _ _ _ _ _ us hl => match us, hl with | [_, _], _ => rfl⟩
  have D__law_pattern : Df K mg "_law_pattern" s__law_pattern ["source", "words"] := ⟨f19, _, fun_mk (st := s__law_pattern) l19 c19 k19, PySem.W.mg_of X G a19, (fun_mk (st := s__law_pattern) l19 c19 k19).binds (ps := ["source", "words"]) fun _ _ _ _ _ _ us hl => match us, hl with | [_, _], _ => rfl⟩
  have D__law_fits : Df K mg "_law_fits" s__law_fits ["glob", "board"] := ⟨f20, _, fun_mk (st := s__law_fits) l20 c20 k20, PySem.W.mg_of X G a20, (fun_mk (st := s__law_fits) l20 c20 k20).binds (ps := ["glob", "board"]) fun _ _ _ _ _ _ us hl => match us, hl with | [_, _], _ => rfl⟩
  have D__law_lets : Df K mg "_law_lets" s__law_lets ["pattern", "board"] := ⟨f21, _, fun_mk (st := s__law_lets) l21 c21 k21, PySem.W.mg_of X G a21, (fun_mk (st := s__law_lets) l21 c21 k21).binds (ps := ["pattern", "board"]) fun _ _ _ _ _ _ us hl => match us, hl with | [_, _], _ => rfl⟩
  have D__law_lets_some : Df K mg "_law_lets_some" s__law_lets_some ["pattern", "boards"] := ⟨f22, _, fun_mk (st := s__law_lets_some) l22 c22 k22, PySem.W.mg_of X G a22, (fun_mk (st := s__law_lets_some) l22 c22 k22).binds (ps := ["pattern", "boards"]) fun _ _ _ _ _ _ us hl => match us, hl with | [_, _], _ => rfl⟩
  have D__law_is_int : Df K mg "_law_is_int" s__law_is_int ["value"] := ⟨f23, _, fun_mk (st := s__law_is_int) l23 c23 k23, PySem.W.mg_of X G a23, (fun_mk (st := s__law_is_int) l23 c23 k23).binds (ps := ["value"]) fun _ _ _ _ _ _ us hl => match us, hl with | [_], _ => rfl⟩
  have D__law_same : Df K mg "_law_same" s__law_same ["actual", "due"] := ⟨f24, _, fun_mk (st := s__law_same) l24 c24 k24, PySem.W.mg_of X G a24, (fun_mk (st := s__law_same) l24 c24 k24).binds (ps := ["actual", "due"]) fun _ _ _ _ _ _ us hl => match us, hl with | [_, _], _ => rfl⟩
  have D__law_feed : Df K mg "_law_feed" s__law_feed ["source", "names", "words"] := ⟨f25, _, fun_mk (st := s__law_feed) l25 c25 k25, PySem.W.mg_of X G a25, (fun_mk (st := s__law_feed) l25 c25 k25).binds (ps := ["source", "names", "words"]) fun _ _ _ _ _ _ us hl => match us, hl with | [_, _, _], _ => rfl⟩
  have D__law_questions : Df K mg "_law_questions" s__law_questions ["source", "feed", "boards"] := ⟨f26, _, fun_mk (st := s__law_questions) l26 c26 k26, PySem.W.mg_of X G a26, (fun_mk (st := s__law_questions) l26 c26 k26).binds (ps := ["source", "feed", "boards"]) fun _ _ _ _ _ _ us hl => match us, hl with | [_, _, _], _ => rfl⟩
  have D__law_due : Df K mg "_law_due" s__law_due ["feed", "row"] := ⟨f27, _, fun_mk (st := s__law_due) l27 c27 k27, PySem.W.mg_of X G a27, (fun_mk (st := s__law_due) l27 c27 k27).binds (ps := ["feed", "row"]) fun _ _ _ _ _ _ us hl => match us, hl with | [_, _], _ => rfl⟩
  have C__law_mix := ok__law_mix (P := l.prog) (w := w) (base := base) D__law_mix T 
  have C__law_draw := ok__law_draw (P := l.prog) (w := w) (base := base) D__law_draw T C__law_mix
  have C__law_pick := ok__law_pick (P := l.prog) (w := w) (base := base) D__law_pick T C__law_draw
  have C__law_board := ok__law_board (P := l.prog) (w := w) (base := base) D__law_board T C__law_draw C__law_pick
  have C__law_boards := ok__law_boards (P := l.prog) (w := w) (base := base) D__law_boards T C__law_board C__law_draw
  have C__law_fits := ok__law_fits (P := l.prog) (w := w) (base := base) D__law_fits T 
  have C__law_lets := ok__law_lets (P := l.prog) (w := w) (base := base) D__law_lets T C__law_fits
  have C__law_lets_some := ok__law_lets_some (P := l.prog) (w := w) (base := base) D__law_lets_some T C__law_lets
  have C__law_due := ok__law_due (P := l.prog) (w := w) (base := base) D__law_due T C__law_lets_some
  have C__law_glob := ok__law_glob (P := l.prog) (w := w) (base := base) D__law_glob T C__law_board C__law_pick
  have C__law_pattern := ok__law_pattern (P := l.prog) (w := w) (base := base) D__law_pattern T C__law_draw C__law_glob
  have C__law_feed := ok__law_feed (P := l.prog) (w := w) (base := base) D__law_feed T C__law_draw C__law_pattern
  have C__law_new_name := ok__law_new_name (P := l.prog) (w := w) (base := base) D__law_new_name T C__law_draw
  have C__law_names := ok__law_names (P := l.prog) (w := w) (base := base) D__law_names T C__law_new_name
  have C__law_questions := ok__law_questions (P := l.prog) (w := w) (base := base) D__law_questions T C__law_draw
  have C__law_is_int := ok__law_is_int (P := l.prog) (w := w) (base := base) D__law_is_int T 
  have C__law_same := ok__law_same (P := l.prog) (w := w) (base := base) D__law_same T C__law_is_int 2
  have C__law_shuffled := ok__law_shuffled (P := l.prog) (w := w) (base := base) D__law_shuffled T C__law_draw
  have C__law_source := ok__law_source (P := l.prog) (w := w) (base := base) D__law_source T C__law_mix
  have C__law_words := ok__law_words (P := l.prog) (w := w) (base := base) D__law_words T C__law_draw C__law_names
  have C_add_place := ok_add_place (P := l.prog) (w := w) (base := base) D_add_place T 
  have C_follows := ok_follows (P := l.prog) (w := w) (base := base) D_follows T C_add_place
  have C_standing := ok_standing (P := l.prog) (w := w) (base := base) D_standing T C_add_place C_follows
  have C_fits := ok_fits (P := l.prog) (w := w) (base := base) D_fits T C_standing
  have C_items_of := ok_items_of (P := l.prog) (w := w) (base := base) D_items_of T 
  have C_lets := ok_lets (P := l.prog) (w := w) (base := base) D_lets T C_fits C_items_of
  have C_lets_one := ok_lets_one (P := l.prog) (w := w) (base := base) D_lets_one T C_lets
  have C_passes := ok_passes (P := l.prog) (w := w) (base := base) D_passes T C_lets_one
  exact ok_law (fun_mk (st := s_law) l28 c28 k28) T C__law_boards C__law_draw C__law_due C__law_feed C__law_names C__law_questions C__law_same C__law_shuffled C__law_source C__law_words C_passes
theorem walk {l : PySem.W.OpenLaw} {q : Program} {loose : List Str} {XP : (Str → Option Value) → Heap → Prop} {YP : World → Heap → Prop} {d : DefRec} {K : Params → PySem.W.Frag} (hn : l.most = some 63) (hdf : d.params.defaults = [])
    (hY : ∀ (w : World) (h : Heap), YP w h → (K w.params).In h)
    (F : ∀ (w : World) (mg : Str → Option Value) (fa : Addr) (h : Heap), (K w.params).In h → h.Ns mainGlobals mg → mg d.name = some (.ref fa) →
      ∃ fd : FuncData, (∀ (s : Shared) (u : Value), BindsTo s fd ⟨[u], []⟩ [("script", u)]) ∧ ∀ base : Heap, (K w.params).In base → base.Ns mainGlobals mg → FnOk l.prog w (K w.params) mg base CX0 8 fa fd ["script"] (sp_law (K w.params))) :
    PySem.W.WalkO q loose XP YP l.row.toRowW d [] (fun f vs => PySem.call f vs) :=
  L2.walk_of (n := 63) (k := 8) (x := "script") (CX := fun _ => CX0) (sp := fun w => sp_law (K w.params)) hn (by decide) hdf ⟨rfl, by decide, by decide⟩ hY F (fun _ _ a ns hl _ hS => ⟨a, ns, rfl, hS, hl, fun _ => rfl⟩) fun _ _ _ _ _ z => z
end Z
open PySem PySem.W PyProof.Rows in
set_option maxRecDepth 100000 in
set_option maxHeartbeats 0 in
theorem PySem.Challenge.cw_criermoot_k19_feeds_pass_holds : PySem.Challenge.rw_criermoot_k19_feeds_pass.Holds := by
  w_on; o_law; k_head; (case hw => w_witness2)
  k_fill
  refine Z.walk (l := PySem.Challenge.rw_criermoot_k19_feeds_pass) rfl rfl (fun w h Y => PySem.W.kIn_of Y) ?F
  case F =>
    intro w mg fa h KX G hmg
    refine' Z.all_mk KX G hmg ?a0 ?l0 ?c0 ?k0 ?a1 ?l1 ?c1 ?k1 ?a2 ?l2 ?c2 ?k2 ?a3 ?l3 ?c3 ?k3 ?a4 ?l4 ?c4 ?k4 ?a5 ?l5 ?c5 ?k5 ?a6 ?l6 ?c6 ?k6 ?a7 ?l7 ?c7 ?k7 ?a8 ?l8 ?c8 ?k8 ?a9 ?l9 ?c9 ?k9 ?a10 ?l10 ?c10 ?k10 ?a11 ?l11 ?c11 ?k11 ?a12 ?l12 ?c12 ?k12 ?a13 ?l13 ?c13 ?k13 ?a14 ?l14 ?c14 ?k14 ?a15 ?l15 ?c15 ?k15 ?a16 ?l16 ?c16 ?k16 ?a17 ?l17 ?c17 ?k17 ?a18 ?l18 ?c18 ?k18 ?a19 ?l19 ?c19 ?k19 ?a20 ?l20 ?c20 ?k20 ?a21 ?l21 ?c21 ?k21 ?a22 ?l22 ?c22 ?k22 ?a23 ?l23 ?c23 ?k23 ?a24 ?l24 ?c24 ?k24 ?a25 ?l25 ?c25 ?k25 ?a26 ?l26 ?c26 ?k26 ?a27 ?l27 ?c27 ?k27 ?a28 ?l28 ?c28 ?k28 ?z_abs ?z_any ?z_bool ?z_int ?z_isinstance ?z_len ?z_list ?z_max ?z_range ?z_reversed ?z_str ?z_tuple
    (case a0 => k_is)
    (case l0 => k_is)
    (case c0 => k_is)
    (case k0 => k_is)
    (case a1 => k_is)
    (case l1 => k_is)
    (case c1 => k_is)
    (case k1 => k_is)
    (case a2 => k_is)
    (case l2 => k_is)
    (case c2 => k_is)
    (case k2 => k_is)
    (case a3 => k_is)
    (case l3 => k_is)
    (case c3 => k_is)
    (case k3 => k_is)
    (case a4 => k_is)
    (case l4 => k_is)
    (case c4 => k_is)
    (case k4 => k_is)
    (case a5 => k_is)
    (case l5 => k_is)
    (case c5 => k_is)
    (case k5 => k_is)
    (case a6 => k_is)
    (case l6 => k_is)
    (case c6 => k_is)
    (case k6 => k_is)
    (case a7 => k_is)
    (case l7 => k_is)
    (case c7 => k_is)
    (case k7 => k_is)
    (case a8 => k_is)
    (case l8 => k_is)
    (case c8 => k_is)
    (case k8 => k_is)
    (case a9 => k_is)
    (case l9 => k_is)
    (case c9 => k_is)
    (case k9 => k_is)
    (case a10 => k_is)
    (case l10 => k_is)
    (case c10 => k_is)
    (case k10 => k_is)
    (case a11 => k_is)
    (case l11 => k_is)
    (case c11 => k_is)
    (case k11 => k_is)
    (case a12 => k_is)
    (case l12 => k_is)
    (case c12 => k_is)
    (case k12 => k_is)
    (case a13 => k_is)
    (case l13 => k_is)
    (case c13 => k_is)
    (case k13 => k_is)
    (case a14 => k_is)
    (case l14 => k_is)
    (case c14 => k_is)
    (case k14 => k_is)
    (case a15 => k_is)
    (case l15 => k_is)
    (case c15 => k_is)
    (case k15 => k_is)
    (case a16 => k_is)
    (case l16 => k_is)
    (case c16 => k_is)
    (case k16 => k_is)
    (case a17 => k_is)
    (case l17 => k_is)
    (case c17 => k_is)
    (case k17 => k_is)
    (case a18 => k_is)
    (case l18 => k_is)
    (case c18 => k_is)
    (case k18 => k_is)
    (case a19 => k_is)
    (case l19 => k_is)
    (case c19 => k_is)
    (case k19 => k_is)
    (case a20 => k_is)
    (case l20 => k_is)
    (case c20 => k_is)
    (case k20 => k_is)
    (case a21 => k_is)
    (case l21 => k_is)
    (case c21 => k_is)
    (case k21 => k_is)
    (case a22 => k_is)
    (case l22 => k_is)
    (case c22 => k_is)
    (case k22 => k_is)
    (case a23 => k_is)
    (case l23 => k_is)
    (case c23 => k_is)
    (case k23 => k_is)
    (case a24 => k_is)
    (case l24 => k_is)
    (case c24 => k_is)
    (case k24 => k_is)
    (case a25 => k_is)
    (case l25 => k_is)
    (case c25 => k_is)
    (case k25 => k_is)
    (case a26 => k_is)
    (case l26 => k_is)
    (case c26 => k_is)
    (case k26 => k_is)
    (case a27 => k_is)
    (case l27 => k_is)
    (case c27 => k_is)
    (case k27 => k_is)
    (case a28 => k_is)
    (case l28 => k_is)
    (case c28 => k_is)
    (case k28 => k_is)
    (case z_abs => k_is)
    (case z_any => k_is)
    (case z_bool => k_is)
    (case z_int => k_is)
    (case z_isinstance => k_is)
    (case z_len => k_is)
    (case z_list => k_is)
    (case z_max => k_is)
    (case z_range => k_is)
    (case z_reversed => k_is)
    (case z_str => k_is)
    (case z_tuple => k_is)
